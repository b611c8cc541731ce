/-
  Blocks of one cell, of whatever type, among those of a call's own: box, alloc, load, store, with the worlds named. No statement is proved here: lemmas for the walks.
-/
import Derived.Test.YtgdfpboccgfadaaAts
namespace Go.Proofs.Ytgdfpboccgfadaa
open Go.RowKit

/-- One cell, as a block. -/
def Oc (t : TypeId) (v : Value) : Obj := .cells #[v] t
/-- A type of one cell. -/
structure IsCell (P : Program) (t : TypeId) : Prop where
  agg : ∀ w, (isAgg t).run P w = .ok false w
  size : (P.info? t).map (·.size) = some 1
/-- A value of one cell. -/
structure OneV (v : Value) : Prop where
  cells : v.cells = #[v]
  one : v.oneCell' = true
section
variable {P : Program} {w w0 : World} {l : List (Nat × Obj)} {t ty : TypeId} {u v : Value}
theorem cell_oc {b : Nat} (hr : w.heap[b]? = some (Oc t v)) : w.cell? ⟨b, 0, none⟩ = some v := by
  have hrow : w.heap[b]? = some (.cells #[v] t) := hr
  rw [cell_of_row _ _ _ _ _ _ hrow]
  rfl
theorem Ow.oc (h : Ow w0 w l) (i : Nat) {b : Nat} (hi : l[i]? = some (b, Oc t v)) : w.cell? ⟨b, 0, none⟩ = some v := cell_oc (h.row i hi)
theorem run_load1 (hT : IsCell P ty) {b : Nat} (hr : w.heap[b]? = some (Oc t v)) : (Instr.loadAt ty (.pointer (some ⟨b, 0, none⟩))).run P w = .ok v w := by
  simp [Instr.loadAt, Instr.sureAddr, loadVar, Sem.run_bind, hT.agg w, cell_oc hr]
theorem run_store1 (hT : IsCell P ty) {b : Nat} (hr : w.heap[b]? = some (Oc t u)) (hv : OneV v) :
    (Instr.storeAt ty (.pointer (some ⟨b, 0, none⟩)) v).run P w = .ok () (w.setRow b #[v]) := by
  have hrow : w.heap[b]? = some (.cells #[u] t) := hr
  have hst := run_storeCells_at P b 0 t [v] 0 #[u] w hrow (by simp) (fun q hq => by obtain rfl := List.mem_singleton.1 hq; exact hv.one)
  have hsz := hT.size
  cases hq : P.info? ty with
  | none => simp [hq] at hsz
  | some i =>
    have hi : i.size = 1 := by simpa [hq] using hsz
    simp at hst
    simp [Instr.storeAt, Instr.sureAddr, storeVar, sizeOf, typeInfo, Sem.run_bind, hq, hi, hv.cells, hst]
theorem Ow.setOc (h : Ow w0 w l) (i : Nat) {b : Nat} (hi : l[i]? = some (b, Oc t u)) (v : Value) : Ow w0 (w.setRow b #[v]) (l.set i (b, Oc t v)) := by
  have hr : w.heap[b]? = some (.cells #[u] t) := h.row i hi
  exact h.put i hi ⟨rfl, rfl, rfl, by simp [World.setRow], fun c hc => setRow_other w b c _ (by omega)⟩ (fun c hc => setRow_other w b c _ hc) (setRow_heap w b _ _ t _ hr)
end
section
variable {P : Program} {ops : Array Oper} {rest : List Oper} {o : Oper} {a : Act} {w w0 : World} {l : List (Nat × Obj)} {Q : Exit → Act → World → Prop} {t ty : TypeId} {u v : Value}
theorem own_box1 (hv : OneV v) (H : Hid (Ow w0 w l)) (hgd : o.guard = none) {x : Operand} (ho : o.op = .box t x) (hx : a.eval x = v)
    (h : ∀ w' g, Hid (Ow w0 w' ((g, Oc t v) :: l)) → ∀ K : Act → World → Prop, (∀ a w, wpList P ops Q rest a w → K a w) → K (a.put o.dst (.pointer (some ⟨g, 0, none⟩))) w') : wpList P ops Q (o :: rest) a w :=
  wpList_plain hgd fun K hK => by
    unfold Oper.wp execOp
    simp only [ho, hx, Instr.box, newVar, hv.cells]
    simp [go_sem]
    exact h _ _ (Lib.hid (H.out.alloc _)) K hK
theorem own_alloc1 (hz : ∀ w, (zeroValue t).run P w = .ok v w) (hv : OneV v) (H : Hid (Ow w0 w l)) (hgd : o.guard = none) (ho : o.op = .alloc t)
    (h : ∀ w' g, Hid (Ow w0 w' ((g, Oc t v) :: l)) → ∀ K : Act → World → Prop, (∀ a w, wpList P ops Q rest a w → K a w) → K (a.put o.dst (.pointer (some ⟨g, 0, none⟩))) w') : wpList P ops Q (o :: rest) a w :=
  wpList_plain hgd fun K hK => by
    unfold Oper.wp execOp
    simp only [ho, Instr.alloc, Sem.run_bind, hz, Result.andThen_ok, newVar, hv.cells]
    simp [go_sem]
    exact h _ _ (Lib.hid (H.out.alloc _)) K hK
theorem own_load1 {i : Nat} (hT : IsCell P ty) (H : Hid (Ow w0 w l)) (hgd : o.guard = none) {x : Operand} (ho : o.op = .load ty x) {g : Nat} (hx : a.eval x = .pointer (some ⟨g, 0, none⟩))
    (hi : l[i]? = some (g, Oc t v)) (h : ∀ K : Act → World → Prop, (∀ a w, wpList P ops Q rest a w → K a w) → K (a.put o.dst v) w) : wpList P ops Q (o :: rest) a w :=
  wpList_plain hgd fun K hK => by
    unfold Oper.wp execOp
    simp only [ho, hx, Sem.run_bind, run_load1 hT (H.out.row i hi), Result.andThen_ok]
    exact h K hK
/-- A guarded load that is wanted. -/
theorem own_load1g {i : Nat} (hT : IsCell P ty) (H : Hid (Ow w0 w l)) (hw : Region.wanted o (yielded ops a.tmps) = true) {x : Operand} (ho : o.op = .load ty x) {g : Nat} (hx : a.eval x = .pointer (some ⟨g, 0, none⟩))
    (hi : l[i]? = some (g, Oc t v)) (h : ∀ K : Act → World → Prop, (∀ a w, wpList P ops Q rest a w → K a w) → K (a.put o.dst v) w) : wpList P ops Q (o :: rest) a w :=
  list_wanted hw fun K hK => by
    unfold Oper.wp execOp
    simp only [ho, hx, Sem.run_bind, run_load1 hT (H.out.row i hi), Result.andThen_ok]
    exact h K hK
theorem own_store1 {i : Nat} (hT : IsCell P ty) (hv : OneV v) (H : Hid (Ow w0 w l)) (hgd : o.guard = none) {x y : Operand} (ho : o.op = .store ty x y) {g : Nat} (hx : a.eval x = .pointer (some ⟨g, 0, none⟩)) (hy : a.eval y = v)
    (hi : l[i]? = some (g, Oc t u)) (h : ∀ w', Hid (Ow w0 w' (l.set i (g, Oc t v))) → ∀ K : Act → World → Prop, (∀ a w, wpList P ops Q rest a w → K a w) → K (a.put o.dst undef) w') : wpList P ops Q (o :: rest) a w :=
  wpList_plain hgd fun K hK => by
    unfold Oper.wp execOp
    simp only [ho, hx, hy, Sem.run_bind, run_store1 hT (H.out.row i hi) hv, Result.andThen_ok]
    exact h _ (Lib.hid (H.out.setOc i hi v)) K hK
end
section
variable {P : Program} {md : Region.Mode} {ops : Array Oper} {Q : Exit → Act → World → Prop} {S : World → Prop} {fuel : Nat} {listed : Array Bool} {a : Act} {w : World} {t ty : TypeId} {v : Value}
/-- In a region that draws its order: a load of one cell is taken first. -/
theorem held_one (i : Nat) (d : Tmp) {oi : Oper} (hT : IsCell P ty) (hi : ops[i]? = some oi) (hd : oi.dst = some d) (hs : Region.noSelect ops = true) (hf : Region.free md ops listed i = true)
    (hr : (Region.ready md ops listed).contains i = true) (hw : Region.wanted oi (yielded ops a.tmps) = true) (hS : S w) {x : Operand} (ho : oi.op = .load ty x) {g : Nat} (hx : a.eval x = .pointer (some ⟨g, 0, none⟩))
    (hrow : ∀ w, S w → w.heap[g]? = some (Oc t v))
    (h : wpAnyH P md ops (NoPanic Q) S fuel (listed.setIfInBounds i true) (a.put (some d) v) w) : wpAnyH P md ops (NoPanic Q) S (fuel + 1) listed a w :=
  held_value i d v hi hd hs hf hr hw hS (fun w hw' => by
    unfold execOp
    simp only [ho, hx, Sem.run_bind, run_load1 hT (hrow w hw'), Result.andThen_ok]
    rfl) h
end
theorem one_int (k : IntKind) (z : Int) : OneV (.int k z) := ⟨rfl, rfl⟩
theorem one_slice (a : Option Addr) (n c : Nat) : OneV (.slice a n c) := ⟨rfl, rfl⟩
theorem one_func (f : Fn) (x y : Array Value) : OneV (.func f x y) := ⟨rfl, rfl⟩
theorem one_nil : OneV .nilFunc := ⟨rfl, rfl⟩
end Go.Proofs.Ytgdfpboccgfadaa
