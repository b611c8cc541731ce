/-
  Laws of the walk on whole arrays: box, alloc, load, store of an array that lies in a block of its own.
-/
import Derived.Test.YtgdfpboccgfadaaKecBits
import Derived.Deep.WholeRow
namespace Go.Proofs.Ytgdfpboccgfadaa
open Go.RowKit

section
variable {P : Program} {ops : Array Oper} {rest : List Oper} {o : Oper} {a : Act} {w : World} {Q : Exit → Act → World → Prop}

theorem wpList_box_agg (hgd : o.guard = none) (ty : TypeId) (x : Operand) (ho : o.op = .box ty x) (c : Array Value) (hx : a.eval x = .agg c)
    (h : wpList P ops Q rest (a.put o.dst (.pointer (some ⟨w.heap.size, 0, none⟩))) (w.alloc (.cells c ty))) : wpList P ops Q (o :: rest) a w :=
  wpList_plain hgd fun _ hK => by
    unfold Oper.wp execOp
    simp only [ho, hx, Instr.box, newVar, Value.cells]
    simp [go_sem]
    exact hK _ _ h

theorem wpList_alloc_agg (hgd : o.guard = none) (ty : TypeId) (ho : o.op = .alloc ty) (c : Array Value) (hz : ∀ w, (zeroValue ty).run P w = .ok (.agg c) w)
    (h : wpList P ops Q rest (a.put o.dst (.pointer (some ⟨w.heap.size, 0, none⟩))) (w.alloc (.cells c ty))) : wpList P ops Q (o :: rest) a w :=
  wpList_plain hgd fun _ hK => by
    unfold Oper.wp execOp
    simp only [ho, Instr.alloc, Sem.run_bind, hz, Result.andThen_ok, newVar, Value.cells]
    simp [go_sem]
    exact hK _ _ h
end

theorem setRow_alloc_past (w : World) (o : Obj) (g : Nat) (c : Array Value) (h : g < w.heap.size) : (w.alloc o).setRow g c = (w.setRow g c).alloc o := by
  simp only [World.setRow, World.alloc]
  congr 1
  apply Array.ext_getElem?
  intro i
  rw [Array.getElem?_modify]
  by_cases e : g = i
  · subst e
    have h' : ¬ g = w.heap.size := by omega
    simp [Array.getElem?_push, h', Array.getElem?_modify]
  · simp only [e, ↓reduceIte, Array.getElem?_push, Array.size_modify, Array.getElem?_modify]
theorem setRow_alloc_at (w : World) (c c' : Array Value) (t : TypeId) (g : Nat) (h : g = w.heap.size) : (w.alloc (.cells c t)).setRow g c' = w.alloc (.cells c' t) := by
  subst h
  exact World.setRow_alloc_new w c c' t
theorem heap_alloc_at (w : World) (o : Obj) (g : Nat) (h : g = w.heap.size) : (w.alloc o).heap[g]? = some o := by
  subst h
  exact heap_alloc_last w o
theorem heap_alloc_past (w : World) (o : Obj) (g : Nat) (h : g < w.heap.size) : (w.alloc o).heap[g]? = w.heap[g]? := Below.heap_alloc w o g h

/-- A type that is an array of n lanes, each one cell. -/
structure IsLanes (P : Program) (t : TypeId) (n : Nat) : Prop where
  under : P.underlying t = some (.array n 48)
  size : (P.info? t).map (·.size) = some n
  zero : ∀ w, (zeroValue t).run P w = .ok (.agg (A n fun _ => 0)) w
  elem : P.underlying 48 = some (.int .u64)
  one : (P.info? 48).map (·.size) = some 1

section
variable {P : Program} {o : Oper} {a : Act} {w : World} {K : Act → World → Prop} {Q : Exit → Act → World → Prop} {t : TypeId} {n : Nat}
theorem lanes_alloc (hT : IsLanes P t n) (ho : o.op = .alloc t)
    (h : K (a.put o.dst (.pointer (some ⟨w.heap.size, 0, none⟩))) (w.alloc (.cells (A n fun _ => 0) t))) : o.wp P a w K Q := by
  unfold Oper.wp execOp
  simp only [ho, Instr.alloc, Sem.run_bind, hT.zero, Result.andThen_ok, newVar, Value.cells]
  simp [go_sem]
  exact h
theorem lanes_load (hT : IsLanes P t n) (x : Operand) (ho : o.op = .load t x) (g : Nat) (hx : a.eval x = .pointer (some ⟨g, 0, none⟩)) {tb : TypeId} {f : Nat → BitVec 64}
    (hg : w.heap[g]? = some (.cells (A n f) tb)) (h : K (a.put o.dst (.agg (A n f))) w) : o.wp P a w K Q :=
  wp_load_row t x ho g hx tb _ (0, 0) _ hg hT.under rfl (by rw [A_size]; exact hT.size) h
theorem lanes_store (hT : IsLanes P t n) (x y : Operand) (ho : o.op = .store t x y) (g : Nat) (hx : a.eval x = .pointer (some ⟨g, 0, none⟩)) (f : Nat → BitVec 64) (hy : a.eval y = .agg (A n f))
    {tb : TypeId} {f0 : Nat → BitVec 64} (hg : w.heap[g]? = some (.cells (A n f0) tb)) (h : K (a.put o.dst undef) (w.setRow g (A n f))) : o.wp P a w K Q :=
  wp_store_row t x y ho g _ hx hy tb _ hg (by rw [A_size]; exact hT.size) (by rw [A_size, A_size]) (A_one n f) h
theorem lanes_index (hT : IsLanes P t n) (x y : Operand) (ho : o.op = .index t x y) (f : Nat → BitVec 64) (hx : a.eval x = .agg (A n f)) (k : IntKind) (i : Nat) (hy : a.eval y = .int k (i : Int)) (hi : i < n)
    (h : K (a.put o.dst (V (f i))) w) : o.wp P a w K Q := by
  unfold Oper.wp execOp
  have e1 : (Instr.index t (.agg (A n f)) (.int k (i : Int))).run P w = .ok (V (f i)) w := by
    have hc : (0 : Int) ≤ (i : Int) ∧ (i : Int) < (n : Int) := ⟨by omega, by omega⟩
    cases hq : P.info? 48 with
    | none => have := hT.one; simp [hq] at this
    | some q =>
      have hs : q.size = 1 := by have := hT.one; simpa [hq] using this
      have hagg : (isAgg 48).run P w = .ok false w := by
        unfold isAgg
        rw [Sem.run_bind, run_underlying hT.elem w]
        rfl
      unfold Instr.index
      simp only [asIntOf, Sem.run_bind, Sem.run_pure, Result.andThen_ok, run_underlying hT.under w]
      rw [if_pos hc]
      simp [part, Sem.run_bind, hagg, sizeOf, typeInfo, hq, hs, A_get n f i hi]
  simp only [ho, hx, hy, Sem.run_bind, e1, Result.andThen_ok]
  exact h
theorem lanes_result (hT : IsLanes P t n) {fn : Func} {p : Tmp} (h : fn.results = #[.cell p t]) (tmps : Array Value) (w : World) (g : Nat) {tb : TypeId} {f : Nat → BitVec 64}
    (hp : tmps.getD p undef = .pointer (some ⟨g, 0, none⟩)) (hg : w.heap[g]? = some (.cells (A n f) tb)) : (results fn tmps).run P w = .ok (.agg (A n f)) w :=
  results_cell_row h tmps w g tb _ (0, 0) _ hp hg hT.under rfl (by rw [A_size]; exact hT.size)
end
section
variable {P : Program} {ops : Array Oper} {rest : List Oper} {o : Oper} {a : Act} {w : World} {Q : Exit → Act → World → Prop} {t : TypeId} {n : Nat}
theorem lay_alloc (hT : IsLanes P t n) (hgd : o.guard = none) (ho : o.op = .alloc t)
    (h : ∀ K : Act → World → Prop, (∀ a w, wpList P ops Q rest a w → K a w) → K (a.put o.dst (.pointer (some ⟨w.heap.size, 0, none⟩))) (w.alloc (.cells (A n fun _ => 0) t))) : wpList P ops Q (o :: rest) a w :=
  wpList_plain hgd fun K hK => lanes_alloc hT ho (h K hK)
theorem lay_load (hT : IsLanes P t n) (hgd : o.guard = none) {x : Operand} (ho : o.op = .load t x) {g : Nat} (hx : a.eval x = .pointer (some ⟨g, 0, none⟩)) {tb : TypeId} {f : Nat → BitVec 64}
    (hg : w.heap[g]? = some (.cells (A n f) tb)) (h : ∀ K : Act → World → Prop, (∀ a w, wpList P ops Q rest a w → K a w) → K (a.put o.dst (.agg (A n f))) w) : wpList P ops Q (o :: rest) a w :=
  wpList_plain hgd fun K hK => lanes_load hT x ho g hx hg (h K hK)
theorem lay_store (hT : IsLanes P t n) (hgd : o.guard = none) {x y : Operand} (ho : o.op = .store t x y) {g : Nat} (hx : a.eval x = .pointer (some ⟨g, 0, none⟩)) {f : Nat → BitVec 64} (hy : a.eval y = .agg (A n f))
    {tb : TypeId} {f0 : Nat → BitVec 64} (hg : w.heap[g]? = some (.cells (A n f0) tb)) (h : ∀ K : Act → World → Prop, (∀ a w, wpList P ops Q rest a w → K a w) → K (a.put o.dst undef) (w.setRow g (A n f))) : wpList P ops Q (o :: rest) a w :=
  wpList_plain hgd fun K hK => lanes_store hT x y ho g hx f hy hg (h K hK)
theorem lay_index (hT : IsLanes P t n) (hgd : o.guard = none) {x y : Operand} (ho : o.op = .index t x y) {f : Nat → BitVec 64} (hx : a.eval x = .agg (A n f)) {k : IntKind} {i : Nat} (hy : a.eval y = .int k (i : Int)) (hi : i < n)
    (h : ∀ K : Act → World → Prop, (∀ a w, wpList P ops Q rest a w → K a w) → K (a.put o.dst (V (f i))) w) : wpList P ops Q (o :: rest) a w :=
  wpList_plain hgd fun K hK => lanes_index hT x y ho f hx k i hy hi (h K hK)
end
section
variable (w : World) (o1 o2 o3 o4 : Obj)
theorem row1 : (w.alloc o1).heap[w.heap.size]? = some o1 := heap_alloc_last w o1
theorem row2a : ((w.alloc o1).alloc o2).heap[w.heap.size]? = some o1 := by rw [heap_alloc_past _ _ _ (by simp)]; exact row1 w o1
theorem row2b : ((w.alloc o1).alloc o2).heap[w.heap.size + 1]? = some o2 := heap_alloc_at _ _ _ (by simp)
theorem row3a : (((w.alloc o1).alloc o2).alloc o3).heap[w.heap.size]? = some o1 := by rw [heap_alloc_past _ _ _ (by simp; omega)]; exact row2a w o1 o2
theorem row3b : (((w.alloc o1).alloc o2).alloc o3).heap[w.heap.size + 1]? = some o2 := by rw [heap_alloc_past _ _ _ (by simp)]; exact row2b w o1 o2
theorem row3c : (((w.alloc o1).alloc o2).alloc o3).heap[w.heap.size + 1 + 1]? = some o3 := heap_alloc_at _ _ _ (by simp)
variable (c c' : Array Value) (t : TypeId)
theorem setRow1 : (w.alloc (.cells c t)).setRow w.heap.size c' = w.alloc (.cells c' t) := setRow_alloc_at _ _ _ _ _ rfl
theorem setRow2a : ((w.alloc (.cells c t)).alloc o2).setRow w.heap.size c' = (w.alloc (.cells c' t)).alloc o2 := by rw [setRow_alloc_past _ _ _ _ (by simp), setRow1]
theorem setRow2b : ((w.alloc o1).alloc (.cells c t)).setRow (w.heap.size + 1) c' = (w.alloc o1).alloc (.cells c' t) := setRow_alloc_at _ _ _ _ _ (by simp)
theorem setRow3a : (((w.alloc (.cells c t)).alloc o2).alloc o3).setRow w.heap.size c' = ((w.alloc (.cells c' t)).alloc o2).alloc o3 := by rw [setRow_alloc_past _ _ _ _ (by simp; omega), setRow2a]
theorem setRow3b : (((w.alloc o1).alloc (.cells c t)).alloc o3).setRow (w.heap.size + 1) c' = ((w.alloc o1).alloc (.cells c' t)).alloc o3 := by rw [setRow_alloc_past _ _ _ _ (by simp), setRow2b]
theorem setRow3c : (((w.alloc o1).alloc o2).alloc (.cells c t)).setRow (w.heap.size + 1 + 1) c' = ((w.alloc o1).alloc o2).alloc (.cells c' t) := setRow_alloc_at _ _ _ _ _ (by simp)
end
attribute [go_sem] A_get A_set setRow1 setRow2a setRow2b setRow3a setRow3b setRow3c
end Go.Proofs.Ytgdfpboccgfadaa
