/-
  Lemmas for the walks, several texts in one. No statement is proved here.
-/
import Derived.WalkKit
import Derived.Deep.WholeRow
import Derived.Lib.Hide
import Derived.Handy
import Derived.Test.YtjcfoilfdmameaaDoorBuA
import Derived.Deep.MidRow
import Derived.Laws.CopyRow
import Derived.Deep.LoopGhost
import Derived.BigQuiet
import Derived.WalkMore
import Derived.StillTailTactics
import Derived.Test.YtjcfoilfdmameaaDoorChecked
import Derived.Laws.StructEq
import Derived.Laws.Cover3
import Derived.RangeFuncSeq
import Derived.OrdersHeld
import Derived.Deep.RegionHeld3
/-
  Arrays of integers of one kind, by value and in blocks of their own: box, alloc, load, store, with the worlds named. No statement is proved here: lemmas for the walks.
-/
namespace Go.Proofs.YtjcfoilfdmameaaDoor
open Go.RowKit

/-- An array of n integers of kind k. -/
def AZ (k : IntKind) (n : Nat) (f : Nat → Int) : Array Value := Array.ofFn (n := n) fun i => Value.int k (f i)
def updZ (f : Nat → Int) (i : Nat) (v : Int) : Nat → Int := fun j => if j = i then v else f j
theorem AZ_size (k : IntKind) (n : Nat) (f : Nat → Int) : (AZ k n f).size = n := by simp [AZ]
theorem AZ_get (k : IntKind) (n : Nat) (f : Nat → Int) (i : Nat) (h : i < n) : (AZ k n f)[i]? = some (.int k (f i)) := by simp [AZ, h]
theorem AZ_set (k : IntKind) (n : Nat) (f : Nat → Int) (i : Nat) (v : Int) : (AZ k n f).setIfInBounds i (.int k v) = AZ k n (updZ f i v) := by
  apply Array.ext_getElem?
  intro j
  by_cases hj : j < n
  · rw [AZ_get k n _ j hj]
    by_cases e : i = j
    · subst e
      simp [updZ, AZ_size, hj]
    · rw [Array.getElem?_setIfInBounds_ne e, AZ_get k n f j hj]
      have e' : ¬ j = i := fun h => e h.symm
      simp [updZ, e']
  · rw [Array.getElem?_eq_none (by simpa [AZ_size] using hj), Array.getElem?_eq_none (by simpa [AZ_size] using hj)]
theorem AZ_one (k : IntKind) (n : Nat) (f : Nat → Int) : (AZ k n f).all (·.oneCell') = true := by
  rw [Array.all_eq_true]
  intro i hi
  simp [AZ, Value.oneCell']
theorem AZ_congr {k : IntKind} {n : Nat} {f g : Nat → Int} (h : ∀ i, i < n → f i = g i) : AZ k n f = AZ k n g := by
  apply Array.ext_getElem?
  intro j
  by_cases hj : j < n
  · rw [AZ_get k n _ j hj, AZ_get k n _ j hj, h j hj]
  · rw [Array.getElem?_eq_none (by simpa [AZ_size] using hj), Array.getElem?_eq_none (by simpa [AZ_size] using hj)]
attribute [irreducible] AZ





/-- n integers lie in block b. -/
def RowZ (w : World) (b : Nat) (t : TypeId) (k : IntKind) (n : Nat) (f : Nat → Int) : Prop := w.heap[b]? = some (.cells (AZ k n f) t)
section
variable {w W : World} {b n : Nat} {t : TypeId} {k : IntKind} {f : Nat → Int}
theorem RowZ.lt (h : RowZ w b t k n f) : b < w.heap.size := by
  rcases Nat.lt_or_ge b w.heap.size with h' | h'
  · exact h'
  · unfold RowZ at h
    rw [Array.getElem?_eq_none h'] at h
    cases h
theorem RowZ.cell (h : RowZ w b t k n f) (i : Nat) (hi : i < n) : w.cell? ⟨b, i, none⟩ = some (.int k (f i)) := by rw [cell_of_row _ _ _ _ _ _ h, AZ_get _ _ _ _ hi]
theorem RowZ.thaw (h : RowZ w b t k n f) (i : Nat) : w.frozen? ⟨b, i, none⟩ = false := frozen_of_row _ _ _ _ _ h
theorem RowZ.below {B : Nat} (h : RowZ w b t k n f) (hb : Below B w W) (hB : b < B) : RowZ W b t k n f := (hb.block _ hB).trans h
theorem RowZ.drew (h : RowZ w b t k n f) : RowZ w.drew b t k n f := h
theorem RowZ.alloc (h : RowZ w b t k n f) (o : Obj) : RowZ (w.alloc o) b t k n f := (Below.heap_alloc w o b h.lt).trans h
theorem RowZ.setCell (h : RowZ w b t k n f) (i : Nat) (v : Int) : RowZ (w.setCell ⟨b, i, none⟩ (.int k v)) b t k n (updZ f i v) := by
  have := heap_setCell_same w b i _ _ (.int k v) h
  rwa [AZ_set] at this
theorem RowZ.other (h : RowZ w b t k n f) (g i : Nat) (v : Value) (hne : b ≠ g) : RowZ (w.setCell ⟨g, i, none⟩ v) b t k n f := by
  unfold RowZ
  rw [heap_setCell_other _ _ _ _ (by show b ≠ g; exact hne)]
  exact h
theorem RowZ.congr {f' : Nat → Int} (h : RowZ w b t k n f) (hf : ∀ i, i < n → f i = f' i) : RowZ w b t k n f' := by
  unfold RowZ at h ⊢
  rw [h, AZ_congr hf]
end
section
variable {P : Program} {ops : Array Oper} {rest : List Oper} {o : Oper} {a : Act} {w : World} {Q : Exit → Act → World → Prop} {t : TypeId} {k : IntKind} {n : Nat}


















/-- Every other block stays as it is. -/
def Apart (g : Nat) (w w' : World) : Prop := ∀ b, b ≠ g → w'.heap[b]? = w.heap[b]?
theorem RowZ.apart {w w' : World} {b g n : Nat} {t : TypeId} {k : IntKind} {f : Nat → Int} (h : RowZ w b t k n f) (ha : Apart g w w') (hne : b ≠ g) : RowZ w' b t k n f := (ha b hne).trans h









end
end Go.Proofs.YtjcfoilfdmameaaDoor

/-
  What a call makes of its own: blocks in a list, one fact for all of them; the walk's operations on rows of integers. No statement is proved here: lemmas for the walks.
-/
namespace Go.Proofs.YtjcfoilfdmameaaDoor
open Go.RowKit

theorem lt_row {w : World} {g : Nat} {o : Obj} (h : w.heap[g]? = some o) : g < w.heap.size := by
  rcases Nat.lt_or_ge g w.heap.size with h' | h'
  · exact h'
  · rw [Array.getElem?_eq_none h'] at h; cases h
/-- A row of n integers of kind k, as a block. -/
def Blk (t : TypeId) (k : IntKind) (n : Nat) (f : Nat → Int) : Obj := .cells (AZ k n f) t
/-- Behind w nothing that was there has turned; the blocks of the list are the call's own, and hold what it says. -/
structure Ow (w W : World) (l : List (Nat × Obj)) : Prop where
  bel : Below w.heap.size w W
  has : ∀ x ∈ l, W.heap[x.1]? = some x.2
  new : ∀ x ∈ l, w.heap.size ≤ x.1
  apart : l.Pairwise fun x y => x.1 ≠ y.1
section
variable {w W W' : World} {l : List (Nat × Obj)}
theorem Ow.start (w : World) : Ow w w [] := ⟨Below.refl _ _, (fun _ h => nomatch h), (fun _ h => nomatch h), List.Pairwise.nil⟩
theorem Ow.call (h : Ow w W l) (hb : Below W.heap.size W W') : Ow w W' l :=
  ⟨h.bel.trans (hb.mono h.bel.size), fun x hx => (hb.block _ (lt_row (h.has x hx))).trans (h.has x hx), h.new, h.apart⟩
theorem Ow.alloc (h : Ow w W l) (o : Obj) : Ow w (W.alloc o) ((W.heap.size, o) :: l) := by
  refine ⟨h.bel.alloc h.bel.size o, fun x hx => ?_, fun x hx => ?_, List.Pairwise.cons (fun x hx => ?_) h.apart⟩
  · rcases List.mem_cons.1 hx with rfl | hx
    · exact heap_alloc_last W o
    · exact (Below.heap_alloc _ _ _ (lt_row (h.has x hx))).trans (h.has x hx)
  · rcases List.mem_cons.1 hx with rfl | hx
    · exact h.bel.size
    · exact h.new x hx
  · have := lt_row (h.has x hx)
    show W.heap.size ≠ x.1
    omega
theorem Ow.drew (h : Ow w W l) : Ow w W.drew l := ⟨h.bel.drew, h.has, h.new, h.apart⟩
theorem Ow.pop {x : Nat × Obj} (h : Ow w W (x :: l)) : Ow w W l :=
  ⟨h.bel, fun y hy => h.has y (.tail _ hy), fun y hy => h.new y (.tail _ hy), (List.pairwise_cons.1 h.apart).2⟩
theorem Ow.row (h : Ow w W l) (i : Nat) {b : Nat} {o : Obj} (hi : l[i]? = some (b, o)) : W.heap[b]? = some o := h.has _ (List.mem_of_getElem? hi)
theorem Ow.ge (h : Ow w W l) (i : Nat) {b : Nat} {o : Obj} (hi : l[i]? = some (b, o)) : w.heap.size ≤ b := h.new _ (List.mem_of_getElem? hi)
/-- One block of the list is written. -/
theorem Ow.put (h : Ow w W l) (i : Nat) {b : Nat} {o o' : Obj} (hi : l[i]? = some (b, o)) (hb : Below b W W') (ha : Apart b W W') (hn : W'.heap[b]? = some o') : Ow w W' (l.set i (b, o')) := by
  have hge := h.ge i hi
  have hlt : i < l.length := by
    rcases Nat.lt_or_ge i l.length with h' | h'
    · exact h'
    · rw [List.getElem?_eq_none h'] at hi; cases hi
  have hne : ∀ j x, l[j]? = some x → j ≠ i → x.1 ≠ b := by
    intro j x hj hji e
    have hp := h.apart
    rw [List.pairwise_iff_getElem] at hp
    have hjl : j < l.length := by
      rcases Nat.lt_or_ge j l.length with h' | h'
      · exact h'
      · rw [List.getElem?_eq_none h'] at hj; cases hj
    rw [List.getElem?_eq_getElem hlt] at hi
    rw [List.getElem?_eq_getElem hjl] at hj
    have e1 := Option.some.inj hi
    have e2 := Option.some.inj hj
    rcases (by omega : j < i ∨ i < j) with hlt' | hlt'
    · exact hp j i hjl hlt hlt' (by rw [e1, e2]; exact e)
    · exact hp i j hlt hjl hlt' (by rw [e1, e2]; exact e.symm)
  refine ⟨h.bel.trans (hb.mono hge), fun x hx => ?_, fun x hx => ?_, ?_⟩
  · obtain ⟨j, hj⟩ := List.getElem?_of_mem hx
    rw [List.getElem?_set] at hj
    by_cases e : i = j
    · rw [if_pos e, if_pos (by omega)] at hj
      obtain rfl := Option.some.inj hj
      exact hn
    · rw [if_neg e] at hj
      exact (ha _ (hne j x hj fun h => e h.symm)).trans (h.has x (List.mem_of_getElem? hj))
  · obtain ⟨j, hj⟩ := List.getElem?_of_mem hx
    rw [List.getElem?_set] at hj
    by_cases e : i = j
    · rw [if_pos e, if_pos (by omega)] at hj
      obtain rfl := Option.some.inj hj
      exact hge
    · rw [if_neg e] at hj
      exact h.new x (List.mem_of_getElem? hj)
  · have hm : (l.set i (b, o')).map Prod.fst = l.map Prod.fst := by
      apply List.ext_getElem?
      intro j
      rw [List.getElem?_map, List.getElem?_map, List.getElem?_set]
      by_cases e : i = j
      · subst e
        rw [if_pos rfl, if_pos hlt, hi]
        rfl
      · rw [if_neg e]
    have hp : (l.map Prod.fst).Pairwise (· ≠ ·) := by rw [List.pairwise_map]; exact h.apart
    rw [← hm, List.pairwise_map] at hp
    exact hp
theorem Ow.cell (h : Ow w W l) (i : Nat) {b : Nat} {t : TypeId} {k : IntKind} {n : Nat} {f : Nat → Int} (hi : l[i]? = some (b, Blk t k n f)) (j : Nat) (hj : j < n) : W.cell? ⟨b, j, none⟩ = some (.int k (f j)) := by
  have hr : W.heap[b]? = some (.cells (AZ k n f) t) := h.row i hi
  rw [cell_of_row _ _ _ _ _ _ hr, AZ_get _ _ _ _ hj]
theorem Ow.thaw (h : Ow w W l) (i : Nat) {b : Nat} {t : TypeId} {k : IntKind} {n : Nat} {f : Nat → Int} (hi : l[i]? = some (b, Blk t k n f)) (j : Nat) : W.frozen? ⟨b, j, none⟩ = false := by
  have hr : W.heap[b]? = some (.cells (AZ k n f) t) := h.row i hi
  exact frozen_of_row _ _ _ _ _ hr
theorem Ow.setCell (h : Ow w W l) (i : Nat) {b : Nat} {t : TypeId} {k : IntKind} {n : Nat} {f : Nat → Int} (hi : l[i]? = some (b, Blk t k n f)) (j : Nat) (v : Int) : Ow w (W.setCell ⟨b, j, none⟩ (.int k v)) (l.set i (b, Blk t k n (updZ f j v))) := by
  have hr : RowZ W b t k n f := h.row i hi
  exact h.put i hi ((Below.refl b W).setCell (p := ⟨b, j, none⟩) (Nat.le_refl b) _) (fun c hc => heap_setCell_other _ _ _ _ hc) (hr.setCell j v)
theorem Ow.like (h : Ow w W l) (i : Nat) {b : Nat} {t : TypeId} {k : IntKind} {n : Nat} {f g : Nat → Int} (hi : l[i]? = some (b, Blk t k n f)) (hfg : ∀ j, j < n → f j = g j) : Ow w W (l.set i (b, Blk t k n g)) := by
  refine h.put i hi (Below.refl _ _) (fun _ _ => rfl) ?_
  rw [h.row i hi]
  unfold Blk
  rw [AZ_congr hfg]
end
/-- A type of n cells. -/
structure IsRow (P : Program) (t : TypeId) (n : Nat) : Prop where
  under : ∃ d, P.underlying t = some d ∧ d.isRow = true
  size : (P.info? t).map (·.size) = some n
/-- Cells o to o + m - 1 of a row are others. -/
def layZ (f : Nat → Int) (o m : Nat) (g : Nat → Int) : Nat → Int := fun j => if o ≤ j ∧ j < o + m then g (j - o) else f j
theorem AZ_mid (k : IntKind) (n : Nat) (f g : Nat → Int) (o m : Nat) (h : o + m ≤ n) : ((AZ k n f).toList.take o ++ (AZ k m g).toList ++ (AZ k n f).toList.drop (o + m)).toArray = AZ k n (layZ f o m g) := by
  apply Array.ext_getElem?
  intro j
  have hl : ∀ k n f, (AZ k n f).toList.length = n := fun k n f => by rw [Array.length_toList, AZ_size]
  rw [List.getElem?_toArray]
  by_cases hj : j < n
  · rw [AZ_get _ _ _ _ hj]
    unfold layZ
    by_cases h1 : j < o
    · rw [List.getElem?_append_left (by simp [hl]; omega), List.getElem?_append_left (by simp [hl]; omega), List.getElem?_take_of_lt h1, Array.getElem?_toList, AZ_get _ _ _ _ hj, if_neg (by omega)]
    · by_cases h2 : j < o + m
      · rw [List.getElem?_append_left (by simp [hl]; omega), List.getElem?_append_right (by simp [hl]; omega), if_pos (by omega)]
        rw [List.length_take, hl, Nat.min_eq_left (by omega), Array.getElem?_toList, AZ_get _ _ _ _ (by omega)]
      · rw [List.getElem?_append_right (by simp [hl]; omega), List.getElem?_drop, if_neg (by omega), List.length_append, List.length_take, hl, hl, Nat.min_eq_left (by omega), Array.getElem?_toList]
        rw [show o + m + (j - (o + m)) = j by omega, AZ_get _ _ _ _ hj]
  · rw [Array.getElem?_eq_none (by rw [AZ_size]; omega), List.getElem?_eq_none (by simp [hl]; omega)]
theorem cells_one {k : IntKind} {n : Nat} {f : Nat → Int} : ∀ u ∈ (AZ k n f).toList, u.oneCell' = true := fun u hu => by
  have := AZ_one k n f
  rw [Array.all_eq_true'] at this
  exact this u (by simpa using hu)
section
variable {P : Program} {w0 w : World} {l : List (Nat × Obj)} {t ty : TypeId} {k : IntKind} {n m o : Nat} {f g : Nat → Int}
/-- A part of a row is read. -/
theorem run_load_part (hT : IsRow P ty m) {b : Nat} (hr : w.heap[b]? = some (Blk t k n f)) (h : o + m ≤ n) :
    (Instr.loadAt ty (.pointer (some ⟨b, o, none⟩))).run P w = .ok (.agg (AZ k m fun i => f (o + i))) w := by
  obtain ⟨d, hd, hd'⟩ := hT.under
  have hrow : w.heap[b]? = some (.cells (AZ k n f) t) := hr
  have := run_loadAt_mid (P := P) w b o ty (AZ k m fun i => f (o + i)).toList d (fun j v hv => by
    have hj : j < m := by
      rcases Nat.lt_or_ge j m with h' | h'
      · exact h'
      · rw [List.getElem?_eq_none (by rw [Array.length_toList, AZ_size]; exact h')] at hv; cases hv
    rw [Array.getElem?_toList, AZ_get _ _ _ _ hj] at hv
    rw [cell_of_row _ _ _ _ _ _ hrow, AZ_get _ _ _ _ (by omega), hv]) hd (by cases d <;> simp_all) (by rw [Array.length_toList, AZ_size]; exact hT.size)
  rwa [Array.toArray_toList] at this
theorem run_load_row (hT : IsRow P ty n) {b : Nat} (hr : w.heap[b]? = some (Blk t k n f)) :
    (Instr.loadAt ty (.pointer (some ⟨b, 0, none⟩))).run P w = .ok (.agg (AZ k n f)) w := by
  obtain ⟨d, hd, hd'⟩ := hT.under
  have hrow : w.heap[b]? = some (.cells (AZ k n f) t) := hr
  simp only [Instr.loadAt, Instr.sureAddr, Sem.run_bind, Sem.run_pure, Result.andThen_ok, run_loadVar_row w b t ty _ (0, 0) d hrow hd (by cases d <;> simp_all) (by rw [AZ_size]; exact hT.size)]
theorem run_store_part (hT : IsRow P ty m) {b : Nat} (hr : w.heap[b]? = some (Blk t k n f)) (h : o + m ≤ n) :
    (Instr.storeAt ty (.pointer (some ⟨b, o, none⟩)) (.agg (AZ k m g))).run P w = .ok () (w.setRow b (AZ k n (layZ f o m g))) := by
  have hrow : w.heap[b]? = some (.cells (AZ k n f) t) := hr
  have hst := run_storeCells_at P b o t (AZ k m g).toList 0 (AZ k n f) w hrow (by rw [Array.length_toList, AZ_size, AZ_size]; omega) cells_one
  rw [Nat.add_zero, Array.length_toList, AZ_size, AZ_mid _ _ _ _ _ _ h] at hst
  have hsz := hT.size
  cases hq : P.info? ty with
  | none => simp [hq] at hsz
  | some i =>
    have hi : i.size = m := by simpa [hq] using hsz
    simp [Instr.storeAt, Instr.sureAddr, storeVar, sizeOf, typeInfo, Sem.run_bind, hq, hi, Value.cells, AZ_size, hst]
theorem Ow.setRow (h : Ow w0 w l) (i : Nat) {b : Nat} (hi : l[i]? = some (b, Blk t k n f)) (g : Nat → Int) : Ow w0 (w.setRow b (AZ k n g)) (l.set i (b, Blk t k n g)) := by
  have hr : w.heap[b]? = some (.cells (AZ k n f) t) := h.row i hi
  exact h.put i hi ⟨rfl, rfl, rfl, by simp [World.setRow], fun c hc => setRow_other w b c _ (by omega)⟩ (fun c hc => setRow_other w b c _ hc) (setRow_heap w b _ _ t _ hr)
end
section
variable {P : Program} {ops : Array Oper} {rest : List Oper} {o : Oper} {a : Act} {w w0 : World} {l : List (Nat × Obj)} {Q : Exit → Act → World → Prop} {t ty : TypeId} {k : IntKind} {n m : Nat}
theorem own_box (H : Hid (Ow w0 w l)) (hgd : o.guard = none) {x : Operand} (ho : o.op = .box t x) {f : Nat → Int} (hx : a.eval x = .agg (AZ k n f))
    (h : ∀ w' g, Hid (Ow w0 w' ((g, Blk t k n f) :: l)) → ∀ K : Act → World → Prop, (∀ a w, wpList P ops Q rest a w → K a w) → K (a.put o.dst (.pointer (some ⟨g, 0, none⟩))) w') : wpList P ops Q (o :: rest) a w :=
  wpList_plain hgd fun K hK => by
    unfold Oper.wp execOp
    simp only [ho, hx, Instr.box, newVar, Value.cells]
    simp [go_sem]
    exact h _ _ (Lib.hid (H.out.alloc _)) K hK
theorem own_alloc (hz : ∀ w, (zeroValue t).run P w = .ok (.agg (AZ k n fun _ => 0)) w) (H : Hid (Ow w0 w l)) (hgd : o.guard = none) (ho : o.op = .alloc t)
    (h : ∀ w' g, Hid (Ow w0 w' ((g, Blk t k n fun _ => 0) :: l)) → ∀ K : Act → World → Prop, (∀ a w, wpList P ops Q rest a w → K a w) → K (a.put o.dst (.pointer (some ⟨g, 0, none⟩))) w') : wpList P ops Q (o :: rest) a w :=
  wpList_plain hgd fun K hK => by
    unfold Oper.wp execOp
    simp only [ho, Instr.alloc, Sem.run_bind, hz, Result.andThen_ok, newVar, Value.cells]
    simp [go_sem]
    exact h _ _ (Lib.hid (H.out.alloc _)) K hK
theorem own_load {i : Nat} (hT : IsRow P ty n) (H : Hid (Ow w0 w l)) (hgd : o.guard = none) {x : Operand} (ho : o.op = .load ty x) {g : Nat} (hx : a.eval x = .pointer (some ⟨g, 0, none⟩)) {f : Nat → Int}
    (hi : l[i]? = some (g, Blk t k n f)) (h : ∀ K : Act → World → Prop, (∀ a w, wpList P ops Q rest a w → K a w) → K (a.put o.dst (.agg (AZ k n f))) w) : wpList P ops Q (o :: rest) a w :=
  wpList_plain hgd fun K hK => by
    unfold Oper.wp execOp
    simp only [ho, hx, Sem.run_bind, run_load_row hT (H.out.row i hi), Result.andThen_ok]
    exact h K hK
theorem own_load_part {i : Nat} (hT : IsRow P ty m) (H : Hid (Ow w0 w l)) (hgd : o.guard = none) {x : Operand} (ho : o.op = .load ty x) {g j : Nat} (hx : a.eval x = .pointer (some ⟨g, j, none⟩)) {f : Nat → Int}
    (hi : l[i]? = some (g, Blk t k n f)) (hj : j + m ≤ n) (h : ∀ K : Act → World → Prop, (∀ a w, wpList P ops Q rest a w → K a w) → K (a.put o.dst (.agg (AZ k m fun i => f (j + i)))) w) : wpList P ops Q (o :: rest) a w :=
  wpList_plain hgd fun K hK => by
    unfold Oper.wp execOp
    simp only [ho, hx, Sem.run_bind, run_load_part hT (H.out.row i hi) hj, Result.andThen_ok]
    exact h K hK
theorem layZ_all (f g : Nat → Int) (n : Nat) : AZ k n (layZ f 0 n g) = AZ k n g := AZ_congr fun i hi => by unfold layZ; rw [if_pos (by omega), Nat.sub_zero]
theorem own_store {i : Nat} (hT : IsRow P ty n) (H : Hid (Ow w0 w l)) (hgd : o.guard = none) {x y : Operand} (ho : o.op = .store ty x y) {g : Nat} (hx : a.eval x = .pointer (some ⟨g, 0, none⟩)) {f f0 : Nat → Int} (hy : a.eval y = .agg (AZ k n f))
    (hi : l[i]? = some (g, Blk t k n f0)) (h : ∀ w', Hid (Ow w0 w' (l.set i (g, Blk t k n f))) → ∀ K : Act → World → Prop, (∀ a w, wpList P ops Q rest a w → K a w) → K (a.put o.dst undef) w') : wpList P ops Q (o :: rest) a w :=
  wpList_plain hgd fun K hK => by
    unfold Oper.wp execOp
    have hs := run_store_part (o := 0) (g := f) hT (H.out.row i hi) (by omega)
    rw [layZ_all] at hs
    simp only [ho, hx, hy, Sem.run_bind, hs, Result.andThen_ok]
    exact h _ (Lib.hid (H.out.setRow i hi f)) K hK
theorem own_store_part {i : Nat} (hT : IsRow P ty m) (H : Hid (Ow w0 w l)) (hgd : o.guard = none) {x y : Operand} (ho : o.op = .store ty x y) {g j : Nat} (hx : a.eval x = .pointer (some ⟨g, j, none⟩)) {f f0 : Nat → Int} (hy : a.eval y = .agg (AZ k m f))
    (hi : l[i]? = some (g, Blk t k n f0)) (hj : j + m ≤ n) (h : ∀ w', Hid (Ow w0 w' (l.set i (g, Blk t k n (layZ f0 j m f)))) → ∀ K : Act → World → Prop, (∀ a w, wpList P ops Q rest a w → K a w) → K (a.put o.dst undef) w') : wpList P ops Q (o :: rest) a w :=
  wpList_plain hgd fun K hK => by
    unfold Oper.wp execOp
    simp only [ho, hx, hy, Sem.run_bind, run_store_part (g := f) hT (H.out.row i hi) hj, Result.andThen_ok]
    exact h _ (Lib.hid (H.out.setRow i hi _)) K hK
theorem own_result (i : Nat) (hT : IsRow P t n) {fn : Func} {p : Tmp} (h : fn.results = #[.cell p t]) (tmps : Array Value) {g : Nat} {tb : TypeId} {f : Nat → Int}
    (H : Hid (Ow w0 w l)) (hi : l[i]? = some (g, Blk tb k n f)) (hp : tmps.getD p undef = .pointer (some ⟨g, 0, none⟩)) : (results fn tmps).run P w = .ok (.agg (AZ k n f)) w := by
  obtain ⟨d, hd, hd'⟩ := hT.under
  have hr : w.heap[g]? = some (.cells (AZ k n f) tb) := H.out.row i hi
  exact results_cell_row h tmps w g tb _ (0, 0) _ hp hr hd (by cases d <;> simp_all) (by rw [AZ_size]; exact hT.size)
end
/-- A type of one cell, an integer of kind k. -/
structure IsOne (P : Program) (t : TypeId) (k : IntKind) : Prop where
  under : P.underlying t = some (.int k)
  size : (P.info? t).map (·.size) = some 1
theorem layZ_one (f : Nat → Int) (j : Nat) (v : Int) : layZ f j 1 (fun _ => v) = updZ f j v := by
  funext i
  unfold layZ updZ
  by_cases h : i = j
  · rw [if_pos (by omega), if_pos h]
  · rw [if_neg (by omega), if_neg h]
theorem AZ_single (k : IntKind) (v : Int) : (AZ k 1 fun _ => v).toList = [.int k v] := by
  apply List.ext_getElem?
  intro j
  rw [Array.getElem?_toList]
  by_cases h : j < 1
  · obtain rfl : j = 0 := by omega
    rw [AZ_get _ _ _ _ h]
    rfl
  · rw [Array.getElem?_eq_none (by rw [AZ_size]; omega), List.getElem?_eq_none (by simp; omega)]
section
variable {P : Program} {w : World} {t ty : TypeId} {k : IntKind} {n : Nat} {f : Nat → Int}
theorem run_get (hT : IsOne P ty k) {b j : Nat} (hr : w.heap[b]? = some (Blk t k n f)) (hj : j < n) :
    (Instr.loadAt ty (.pointer (some ⟨b, j, none⟩))).run P w = .ok (.int k (f j)) w := by
  have hrow : w.heap[b]? = some (.cells (AZ k n f) t) := hr
  have hagg : (isAgg ty).run P w = .ok false w := by
    unfold isAgg
    rw [Sem.run_bind, run_underlying hT.under w]
    rfl
  have hc : w.cell? ⟨b, j, none⟩ = some (.int k (f j)) := by rw [cell_of_row _ _ _ _ _ _ hrow, AZ_get _ _ _ _ hj]
  simp [Instr.loadAt, Instr.sureAddr, loadVar, Sem.run_bind, hagg, hc]
theorem run_put (hT : IsOne P ty k) {b j : Nat} (hr : w.heap[b]? = some (Blk t k n f)) (hj : j < n) (v : Int) :
    (Instr.storeAt ty (.pointer (some ⟨b, j, none⟩)) (.int k v)).run P w = .ok () (w.setRow b (AZ k n (updZ f j v))) := by
  have hrow : w.heap[b]? = some (.cells (AZ k n f) t) := hr
  have hst := run_storeCells_at P b j t (AZ k 1 fun _ => v).toList 0 (AZ k n f) w hrow (by rw [Array.length_toList, AZ_size, AZ_size]; omega) cells_one
  rw [Nat.add_zero, Array.length_toList, AZ_size, AZ_mid _ _ _ _ _ _ (show j + 1 ≤ n by omega), layZ_one, AZ_single] at hst
  have hsz := hT.size
  cases hq : P.info? ty with
  | none => simp [hq] at hsz
  | some i =>
    have hi : i.size = 1 := by simpa [hq] using hsz
    simp [Instr.storeAt, Instr.sureAddr, storeVar, sizeOf, typeInfo, Sem.run_bind, hq, hi, Value.cells, hst]
end
section
variable {P : Program} {ops : Array Oper} {rest : List Oper} {o : Oper} {a : Act} {w w0 : World} {l : List (Nat × Obj)} {Q : Exit → Act → World → Prop} {t ty : TypeId} {k : IntKind} {n m : Nat}
theorem own_get {i : Nat} (hT : IsOne P ty k) (H : Hid (Ow w0 w l)) (hgd : o.guard = none) {x : Operand} (ho : o.op = .load ty x) {g j : Nat} (hx : a.eval x = .pointer (some ⟨g, j, none⟩)) {f : Nat → Int}
    (hi : l[i]? = some (g, Blk t k n f)) (hj : j < n) (h : ∀ K : Act → World → Prop, (∀ a w, wpList P ops Q rest a w → K a w) → K (a.put o.dst (.int k (f j))) w) : wpList P ops Q (o :: rest) a w :=
  wpList_plain hgd fun K hK => by
    unfold Oper.wp execOp
    simp only [ho, hx, Sem.run_bind, run_get hT (H.out.row i hi) hj, Result.andThen_ok]
    exact h K hK
theorem own_put {i : Nat} (hT : IsOne P ty k) (H : Hid (Ow w0 w l)) (hgd : o.guard = none) {x y : Operand} (ho : o.op = .store ty x y) {g j : Nat} (hx : a.eval x = .pointer (some ⟨g, j, none⟩)) {v : Int} {f : Nat → Int} (hy : a.eval y = .int k v)
    (hi : l[i]? = some (g, Blk t k n f)) (hj : j < n) (h : ∀ w', Hid (Ow w0 w' (l.set i (g, Blk t k n (updZ f j v)))) → ∀ K : Act → World → Prop, (∀ a w, wpList P ops Q rest a w → K a w) → K (a.put o.dst undef) w') : wpList P ops Q (o :: rest) a w :=
  wpList_plain hgd fun K hK => by
    unfold Oper.wp execOp
    simp only [ho, hx, hy, Sem.run_bind, run_put hT (H.out.row i hi) hj v, Result.andThen_ok]
    exact h _ (Lib.hid (H.out.setRow i hi _)) K hK
end
section
variable {P : Program} {ops : Array Oper} {rest : List Oper} {o : Oper} {a : Act} {w : World} {Q : Exit → Act → World → Prop} {t e : TypeId} {k kk : IntKind} {n m : Nat}
theorem own_index (hu : P.underlying t = some (.array n e)) (hE : IsOne P e k) (hgd : o.guard = none) {x y : Operand} (ho : o.op = .index t x y) {f : Nat → Int} (hx : a.eval x = .agg (AZ k n f)) {i : Nat} (hy : a.eval y = .int kk (i : Int)) (hi : i < n)
    (h : ∀ K : Act → World → Prop, (∀ a w, wpList P ops Q rest a w → K a w) → K (a.put o.dst (.int k (f i))) w) : wpList P ops Q (o :: rest) a w :=
  wpList_plain hgd fun K hK => by
    unfold Oper.wp execOp
    have e1 : (Instr.index t (.agg (AZ k n f)) (.int kk (i : Int))).run P w = .ok (.int k (f i)) w := by
      have hc : (0 : Int) ≤ (i : Int) ∧ (i : Int) < (n : Int) := ⟨by omega, by omega⟩
      cases hq : P.info? e with
      | none => have := hE.size; simp [hq] at this
      | some q =>
        have hs : q.size = 1 := by have := hE.size; simpa [hq] using this
        have hagg : (isAgg e).run P w = .ok false w := by
          unfold isAgg
          rw [Sem.run_bind, run_underlying hE.under w]
          rfl
        unfold Instr.index
        simp only [asIntOf, Sem.run_bind, Sem.run_pure, Result.andThen_ok, run_underlying hu w]
        rw [if_pos hc]
        simp [part, Sem.run_bind, hagg, sizeOf, typeInfo, hq, hs, AZ_get k n f i hi]
    simp only [ho, hx, hy, Sem.run_bind, e1, Result.andThen_ok]
    exact h K hK
theorem AZ_extract (k : IntKind) (n : Nat) (f : Nat → Int) (o m : Nat) (h : o + m ≤ n) : (AZ k n f).extract o (o + m) = AZ k m fun i => f (o + i) := by
  apply Array.ext_getElem?
  intro j
  rw [Array.getElem?_extract]
  by_cases hj : j < m
  · rw [AZ_get _ _ _ _ hj, AZ_size, if_pos (by omega), AZ_get _ _ _ _ (by omega)]
  · rw [if_neg (by rw [AZ_size]; omega), Array.getElem?_eq_none (by rw [AZ_size]; omega)]
/-- An element of m cells. -/
theorem own_index_row (hu : P.underlying t = some (.array n e)) (hE : IsRow P e m) (hgd : o.guard = none) {x y : Operand} (ho : o.op = .index t x y) {f : Nat → Int} {z : Nat} (hx : a.eval x = .agg (AZ k z f)) {i : Nat} (hy : a.eval y = .int kk (i : Int)) (hi : i < n) (hz : i * m + m ≤ z)
    (h : ∀ K : Act → World → Prop, (∀ a w, wpList P ops Q rest a w → K a w) → K (a.put o.dst (.agg (AZ k m fun j => f (i * m + j)))) w) : wpList P ops Q (o :: rest) a w :=
  wpList_plain hgd fun K hK => by
    unfold Oper.wp execOp
    have e1 : (Instr.index t (.agg (AZ k z f)) (.int kk (i : Int))).run P w = .ok (.agg (AZ k m fun j => f (i * m + j))) w := by
      have hc : (0 : Int) ≤ (i : Int) ∧ (i : Int) < (n : Int) := ⟨by omega, by omega⟩
      obtain ⟨d, hd, hd'⟩ := hE.under
      cases hq : P.info? e with
      | none => have := hE.size; simp [hq] at this
      | some q =>
        have hs : q.size = m := by have := hE.size; simpa [hq] using this
        have hagg : (isAgg e).run P w = .ok true w := by
          unfold isAgg
          rw [Sem.run_bind, run_underlying hd w]
          cases d <;> simp_all
        unfold Instr.index
        simp only [asIntOf, Sem.run_bind, Sem.run_pure, Result.andThen_ok, run_underlying hu w]
        rw [if_pos hc]
        simp [part, Sem.run_bind, hagg, sizeOf, typeInfo, hq, hs]
        exact AZ_extract _ _ _ _ _ hz
    simp only [ho, hx, hy, Sem.run_bind, e1, Result.andThen_ok]
    exact h K hK
end
/-- A function with a Go body is entered. -/
theorem run_enter {P : Program} {f : FuncId} {fn : Func} {c : Code} (hf : P.funcs[f]? = some fn) (hname : (fn.name == "runtime.NumGoroutine") = false) (hb : fn.body = some c) (args : Array Value) (w : World) :
    (callFunc f args).run P w = .ok (.enter f args) w := by
  have h1 : fn.name ≠ "runtime.NumGoroutine" := by simpa using hname
  simp [callFunc, hf, h1, hb]
section
variable {P : Program} {w w0 : World} {l : List (Nat × Obj)} {t t' : TypeId} {k k' : IntKind} {n n' : Nat}
/-- Results: a row and what lies in a slot. -/
theorem own_result_slot (i : Nat) (hT : IsRow P t n) {fn : Func} {p q : Tmp} (h : fn.results = #[.cell p t, .tmp q]) (tmps : Array Value) {g : Nat} {tb : TypeId} {f : Nat → Int} {v : Value}
    (H : Hid (Ow w0 w l)) (hi : l[i]? = some (g, Blk tb k n f)) (hp : tmps.getD p undef = .pointer (some ⟨g, 0, none⟩)) (hq : tmps.getD q undef = v) : (results fn tmps).run P w = .ok (.tuple #[.agg (AZ k n f), v]) w := by
  obtain ⟨d, hd, hd'⟩ := hT.under
  have hr : w.heap[g]? = some (.cells (AZ k n f) tb) := H.out.row i hi
  have hp' : tmps[p]?.getD undef = .pointer (some ⟨g, 0, none⟩) := by simpa using hp
  have hq' : tmps[q]?.getD undef = v := by simpa using hq
  simp [results, h, hp', hq', asAddr, run_loadVar_row w g tb t _ (0, 0) d hr hd (by cases d <;> simp_all) (by rw [AZ_size]; exact hT.size)]











end
section
variable {P : Program} {md : Region.Mode} {ops : Array Oper} {Q : Exit → Act → World → Prop} {S : World → Prop} {fuel : Nat} {listed : Array Bool} {a : Act} {w : World} {t ty : TypeId} {k : IntKind} {n : Nat}
/-- In a region that draws its order: a load of a whole row is taken first. -/
theorem held_row (i : Nat) (d : Tmp) {oi : Oper} (hT : IsRow P ty n) (hi : ops[i]? = some oi) (hd : oi.dst = some d) (hs : Region.noSelect ops = true) (hf : Region.free md ops listed i = true)
    (hr : (Region.ready md ops listed).contains i = true) (hw : Region.wanted oi (yielded ops a.tmps) = true) (hS : S w) {x : Operand} (ho : oi.op = .load ty x) {g : Nat} (hx : a.eval x = .pointer (some ⟨g, 0, none⟩))
    {f : Nat → Int} (hrow : ∀ w, S w → w.heap[g]? = some (Blk t k n f))
    (h : wpAnyH P md ops (NoPanic Q) S fuel (listed.setIfInBounds i true) (a.put (some d) (.agg (AZ k n f))) w) : wpAnyH P md ops (NoPanic Q) S (fuel + 1) listed a w :=
  held_value i d (.agg (AZ k n f)) hi hd hs hf hr hw hS (fun w hw' => by
    unfold execOp
    simp only [ho, hx, Sem.run_bind, run_load_row hT (hrow w hw'), Result.andThen_ok]
    rfl) h
end
section
variable {P : Program} {o : Oper} {a : Act} {w w0 : World} {l : List (Nat × Obj)} {K : Act → World → Prop} {Q : Exit → Act → World → Prop} {t ty : TypeId} {k : IntKind} {n : Nat}
/-- A whole row is stored, in a region that draws its order. -/
theorem own_wp_store (i : Nat) (hT : IsRow P ty n) (H : Ow w0 w l) {x y : Operand} (ho : o.op = .store ty x y) {g : Nat} (hx : a.eval x = .pointer (some ⟨g, 0, none⟩)) {f f0 : Nat → Int} (hy : a.eval y = .agg (AZ k n f))
    (hi : l[i]? = some (g, Blk t k n f0)) (h : ∀ w', Ow w0 w' (l.set i (g, Blk t k n f)) → K (a.put o.dst undef) w') : o.wp P a w K Q := by
  unfold Oper.wp execOp
  have hs := run_store_part (o := 0) (g := f) hT (H.row i hi) (by omega)
  rw [layZ_all] at hs
  simp only [ho, hx, hy, Sem.run_bind, hs, Result.andThen_ok]
  exact h _ (H.setRow i hi f)
end
end Go.Proofs.YtjcfoilfdmameaaDoor

/-
  The contracts of chicoryref04's prime and less.
-/
namespace Go.Proofs.YtjcfoilfdmameaaDoor
open Go.RowKit








/-- The first i of one row, the others of another one. -/
def mixZ (i : Nat) (f g : Nat → Int) : Nat → Int := fun k => if k < i then f k else g k
theorem mixZ_zero (f g : Nat → Int) : mixZ 0 f g = g := by funext k; simp [mixZ]

theorem mixZ_upd (i : Nat) (f g : Nat → Int) : updZ (mixZ i f g) i (f i) = mixZ (i + 1) f g := by
  funext k
  unfold updZ mixZ
  by_cases e : k = i
  · subst e; simp
  · by_cases h : k < i
    · rw [if_neg e, if_pos h, if_pos (by omega)]
    · rw [if_neg e, if_neg h, if_neg (by omega)]
theorem mixZ_all (n : Nat) (f g : Nat → Int) (k : Nat) (h : k < n) : mixZ n f g k = f k := by simp [mixZ, h]
















































































































































end Go.Proofs.YtjcfoilfdmameaaDoor

/-
  Numbers modulo p as 16 digits of 28 bits: plain mathematics, no program. No statement is proved here: lemmas for the walks.
-/
namespace Go.Proofs.YtjcfoilfdmameaaDoor

/-- The number that n digits are. -/
def val (f : Nat → Int) : Nat → Int
  | 0 => 0
  | n + 1 => val f n + f n * 268435456 ^ n
/-- p. -/
def pZ : Int := 726838724295606890549323807888004534353641360687318060281490199180612328166730772686396383698676545930088884461843637361053498018365439





theorem val_add (f g : Nat → Int) : ∀ n, val (fun i => f i + g i) n = val f n + val g n
  | 0 => rfl
  | n + 1 => by
    unfold val
    rw [val_add f g n, Int.add_mul]
    omega


















def ovZ (f : Nat → Int) : Nat → Int
  | 0 => 0
  | i + 1 => (f i + ovZ f i) / 268435456
def dgZ (f : Nat → Int) (i : Nat) : Int := (f i + ovZ f i) % 268435456



























/-- What a pass makes of digits: those of 2^448 and more come in again. -/
def passed (f : Nat → Int) : Nat → Int := updZ (updZ (dgZ f) 0 (dgZ f 0 + ovZ f 16)) 8 (dgZ f 8 + ovZ f 16)








































end Go.Proofs.YtjcfoilfdmameaaDoor

/-
  The contract of chicoryref04's Norm.
-/
namespace Go.Proofs.YtjcfoilfdmameaaDoor
open Go.RowKit




































































/-- A number's digits, and the number as the reference holds it. -/
def dF (x i : Nat) : Int := ((x / 268435456 ^ i % 268435456 : Nat) : Int)






























































































































































































































































































































































end Go.Proofs.YtjcfoilfdmameaaDoor

/-
  Places of lists; operations of regions that draw their order, over what is the call's own. No statement is proved here: lemmas for the walks.
-/
namespace Go.Proofs.YtjcfoilfdmameaaDoor
open Go.RowKit

theorem at0 {α : Type} {x : α} {l : List α} : (x :: l)[0]? = some x := rfl
theorem at1 {α : Type} {a x : α} {l : List α} : (a :: x :: l)[1]? = some x := rfl
theorem at2 {α : Type} {a b x : α} {l : List α} : (a :: b :: x :: l)[2]? = some x := rfl
theorem at3 {α : Type} {a b c x : α} {l : List α} : (a :: b :: c :: x :: l)[3]? = some x := rfl
theorem at4 {α : Type} {a b c d x : α} {l : List α} : (a :: b :: c :: d :: x :: l)[4]? = some x := rfl
theorem at5 {α : Type} {a b c d e x : α} {l : List α} : (a :: b :: c :: d :: e :: x :: l)[5]? = some x := rfl
theorem at6 {α : Type} {a b c d e f x : α} {l : List α} : (a :: b :: c :: d :: e :: f :: x :: l)[6]? = some x := rfl
theorem at7 {α : Type} {a b c d e f g x : α} {l : List α} : (a :: b :: c :: d :: e :: f :: g :: x :: l)[7]? = some x := rfl
theorem at8 {α : Type} {a b c d e f g h x : α} {l : List α} : (a :: b :: c :: d :: e :: f :: g :: h :: x :: l)[8]? = some x := rfl
theorem at9 {α : Type} {a b c d e f g h i x : α} {l : List α} : (a :: b :: c :: d :: e :: f :: g :: h :: i :: x :: l)[9]? = some x := rfl






section
variable {P : Program} {o : Oper} {a : Act} {w w0 : World} {l : List (Nat × Obj)} {K : Act → World → Prop} {Q : Exit → Act → World → Prop} {t ty : TypeId} {k : IntKind} {n : Nat}
/-- A whole row is loaded, in a region that draws its order. -/
theorem own_wp_load (dd : Tmp) (hd : o.dst = some dd) (i : Nat) (hT : IsRow P ty n) (H : Ow w0 w l) {x : Operand} (ho : o.op = .load ty x) {g : Nat} (hx : a.eval x = .pointer (some ⟨g, 0, none⟩)) {f : Nat → Int}
    (hi : l[i]? = some (g, Blk t k n f)) (h : K (a.put (some dd) (.agg (AZ k n f))) w) : o.wp P a w K Q := by
  unfold Oper.wp execOp
  simp only [ho, hx, Sem.run_bind, run_load_row hT (H.row i hi), Result.andThen_ok]
  show K (a.put o.dst _) _
  rw [hd]
  exact h
end
section
variable {P : Program} {o : Oper} {a : Act} {w w0 : World} {l : List (Nat × Obj)} {K : Act → World → Prop} {Q : Exit → Act → World → Prop} {t : TypeId} {k : IntKind} {n : Nat}
theorem below_alloc (w : World) (o : Obj) : Below w.heap.size w (w.alloc o) := (Below.refl _ _).alloc (Nat.le_refl _) o
/-- A row is made, in a region that draws its order; what was there stays. -/
theorem own_wp_allocB (dd : Tmp) (hd : o.dst = some dd) (hz : ∀ w, (zeroValue t).run P w = .ok (.agg (AZ k n fun _ => 0)) w) (H : Ow w0 w l) (ho : o.op = .alloc t)
    (h : ∀ w' g, Ow w0 w' ((g, Blk t k n fun _ => 0) :: l) → Below w.heap.size w w' → K (a.put (some dd) (.pointer (some ⟨g, 0, none⟩))) w') : o.wp P a w K Q := by
  unfold Oper.wp execOp
  simp only [ho, Instr.alloc, Sem.run_bind, hz, Result.andThen_ok, newVar, Value.cells]
  simp [go_sem]
  show K (a.put o.dst _) _
  rw [hd]
  exact h _ _ (H.alloc _) (below_alloc _ _)
end
theorem perm_front {α : Type} : ∀ (l : List α) (i : Nat) (x : α), l[i]? = some x → (x :: l.eraseIdx i).Perm l
  | [], i, x, h => by cases i <;> cases h
  | y :: l, 0, x, h => by
    obtain rfl := Option.some.inj (show some y = some x from h)
    exact List.Perm.refl _
  | y :: l, i + 1, x, h => (List.Perm.swap y x (l.eraseIdx i)).trans ((perm_front l i x h).cons y)



theorem Ow.front {w W : World} {l : List (Nat × Obj)} (h : Ow w W l) (i : Nat) {x : Nat × Obj} (hi : l[i]? = some x) : Ow w W (x :: l.eraseIdx i) :=
  ⟨h.bel, fun y hy => h.has y ((perm_front l i x hi).subset hy), fun y hy => h.new y ((perm_front l i x hi).subset hy), ((perm_front l i x hi).pairwise_iff fun h => h.symm).2 h.apart⟩
section
variable {P : Program} {md : Region.Mode} {ops : Array Oper} {Q : Exit → Act → World → Prop} {S : World → Prop} {fuel : Nat} {listed : Array Bool} {a : Act} {w : World}





end
section
variable {P : Program} {ops : Array Oper} {rest : List Oper} {o : Oper} {a : Act} {w w0 : World} {l : List (Nat × Obj)} {Q : Exit → Act → World → Prop} {t ty : TypeId} {k : IntKind} {n : Nat}









end
/-- Two blocks of the list are two. -/
theorem Ow.ne {w W : World} {l : List (Nat × Obj)} (h : Ow w W l) (i j : Nat) {x y : Nat × Obj} (hi : l[i]? = some x) (hj : l[j]? = some y) (hij : i ≠ j) : x.1 ≠ y.1 := by
  have hp := h.apart
  rw [List.pairwise_iff_getElem] at hp
  have hil : i < l.length := by
    rcases Nat.lt_or_ge i l.length with h' | h'
    · exact h'
    · rw [List.getElem?_eq_none h'] at hi; cases hi
  have hjl : j < l.length := by
    rcases Nat.lt_or_ge j l.length with h' | h'
    · exact h'
    · rw [List.getElem?_eq_none h'] at hj; cases hj
  rw [List.getElem?_eq_getElem hil] at hi
  rw [List.getElem?_eq_getElem hjl] at hj
  obtain rfl := Option.some.inj hi
  obtain rfl := Option.some.inj hj
  rcases (by omega : i < j ∨ j < i) with hlt | hlt
  · exact hp i j hil hjl hlt
  · exact fun e => hp j i hjl hil hlt e.symm
theorem Ow.add {w W W' : World} {l : List (Nat × Obj)} {g : Nat} {o : Obj} (h : Ow w W l) (hb : Below W.heap.size W W') (hg : W.heap.size ≤ g) (hr : W'.heap[g]? = some o) : Ow w W' ((g, o) :: l) := by
  have h' := h.call hb
  refine ⟨h'.bel, fun x hx => ?_, fun x hx => ?_, List.Pairwise.cons (fun x hx => ?_) h'.apart⟩
  · rcases List.mem_cons.1 hx with rfl | hx
    · exact hr
    · exact h'.has x hx
  · rcases List.mem_cons.1 hx with rfl | hx
    · exact Nat.le_trans h.bel.size hg
    · exact h'.new x hx
  · have := lt_row (h.has x hx)
    show g ≠ x.1
    omega
end Go.Proofs.YtjcfoilfdmameaaDoor

/-
  The contracts of chicoryref04's Add, Neg, Sub, Same.
-/
namespace Go.Proofs.YtjcfoilfdmameaaDoor
open Go.RowKit

theorem oneI : IsOne Tryd.prog 3 .i64 := ⟨Tryd.underlying3, by kernel_rfl⟩

/-- p. -/
def pN : Nat := 726838724295606890549323807888004534353641360687318060281490199180612328166730772686396383698676545930088884461843637361053498018365439
theorem pZ_eq : pZ = (pN : Int) := rfl
theorem pN_pos : 0 < pN := by decide



theorem left_p (n : Nat) : ((n : Int) % pZ).toNat = n % pN := by
  rw [pZ_eq, ← Int.natCast_emod, Int.toNat_natCast]






































































































































































































end Go.Proofs.YtjcfoilfdmameaaDoor

/-
  The contracts of chicoryref04's Of, Bytes, Fits, Prime.
-/
namespace Go.Proofs.YtjcfoilfdmameaaDoor
open Go.RowKit

theorem byte_nat (b : BitVec 8) : ∃ c : Nat, U8 b = (c : Int) ∧ c = b.toNat ∧ c < 256 := ⟨b.toNat, rfl, rfl, b.isLt⟩











/-- The last m of seven bytes. -/
def hB (f : Nat → BitVec 8) (i m : Nat) : Nat := nB (fun j => f (7 * i + (7 - m) + j)) m



































































































































end Go.Proofs.YtjcfoilfdmameaaDoor

/-
  The contracts of chicoryref04's Bytes, Prime, Fits.
-/
namespace Go.Proofs.YtjcfoilfdmameaaDoor
open Go.RowKit

/-- A new row of bytes. -/
def New (w W : World) (v : Value) (n : Nat) (f : Nat → BitVec 8) : Prop := ∃ g c, v = .slice (some ⟨g, 0, none⟩) n c ∧ w.heap.size ≤ g ∧ Sl W W.heap.size (some ⟨g, 0, none⟩) n c f


















































































































































end Go.Proofs.YtjcfoilfdmameaaDoor

/-
  The contracts of chicoryref04's Fits and Same, and of chicorylaw01's Bytes.
-/
namespace Go.Proofs.YtjcfoilfdmameaaDoor
open Go.RowKit


theorem pN_256 : pN < 256 ^ 56 := by decide +kernel





























































































































































end Go.Proofs.YtjcfoilfdmameaaDoor

/-
  The contracts of chicoryref04's Int and Same.
-/
namespace Go.Proofs.YtjcfoilfdmameaaDoor
open Go.RowKit

















theorem neg_p (m : Nat) : (pN - m % pN) % pN = (-(m : Int) % pZ).toNat := by
  rw [pZ_eq]
  have hp : (0 : Int) < (pN : Int) := by have := pN_pos; omega
  have hm := Nat.mod_lt m pN_pos
  have e : (m : Int) = ((m % pN : Nat) : Int) + (pN : Int) * ((m / pN : Nat) : Int) := by
    have := Nat.mod_add_div m pN
    exact_mod_cast this.symm
  have e2 : (-(m : Int)) % (pN : Int) = ((pN - m % pN : Nat) : Int) % (pN : Int) := by
    rw [Int.natCast_sub (Nat.le_of_lt hm)]
    rw [show -(m : Int) = ((pN : Int) - ((m % pN : Nat) : Int)) + (pN : Int) * (-((m / pN : Nat) : Int) - 1) by rw [Int.mul_sub, Int.mul_neg, Int.mul_one]; omega]
    rw [Int.add_mul_emod_self_left]
  rw [e2, ← Int.natCast_emod, Int.toNat_natCast]


































































end Go.Proofs.YtjcfoilfdmameaaDoor

/-
  The contract of chicoryref04's Mul.
-/
namespace Go.Proofs.YtjcfoilfdmameaaDoor
open Go.RowKit







































































































































































































































































































































end Go.Proofs.YtjcfoilfdmameaaDoor

/-
  Ranges over functions: an iterator, told by the number of its rounds; a round's regions, walked as elsewhere. No statement is proved here: lemmas for the walks.
-/
namespace Go.Proofs.YtjcfoilfdmameaaDoor
open Go.RowKit

/-- Of the blocks that were there these alone may have turned. -/
structure Turn (X : Nat → Prop) (w w' : World) : Prop where
  os : w'.os = w.os
  tape : w'.tape = w.tape
  output : w'.output = w.output
  size : w.heap.size ≤ w'.heap.size
  block : ∀ k, k < w.heap.size → ¬ X k → w'.heap[k]? = w.heap[k]?
section
variable {X Y : Nat → Prop} {a b c : World}
theorem Turn.refl (X : Nat → Prop) (a : World) : Turn X a a := ⟨rfl, rfl, rfl, Nat.le_refl _, fun _ _ _ => rfl⟩
theorem Turn.trans (h : Turn X a b) (k : Turn X b c) : Turn X a c :=
  ⟨k.os.trans h.os, k.tape.trans h.tape, k.output.trans h.output, Nat.le_trans h.size k.size, fun i hi hx => (k.block i (Nat.lt_of_lt_of_le hi h.size) hx).trans (h.block i hi hx)⟩
theorem Turn.mono (h : Turn X a b) (hx : ∀ k, k < a.heap.size → X k → Y k) : Turn Y a b := ⟨h.os, h.tape, h.output, h.size, fun i hi hy => h.block i hi fun hi' => hy (hx i hi hi')⟩
theorem Turn.drew (h : Turn X a b) : Turn X a b.drew := ⟨h.os, h.tape, h.output, h.size, h.block⟩
theorem turn_below {B : Nat} (h : Below B a b) (hx : ∀ k, B ≤ k → k < a.heap.size → X k) : Turn X a b := ⟨h.os, h.tape, h.output, h.size, fun i hi hn => h.block i (by
  rcases Nat.lt_or_ge i B with h' | h'
  · exact h'
  · exact absurd (hx i h' hi) hn)⟩
theorem Turn.below {B : Nat} (h : Turn X a b) (hx : ∀ k, k < B → ¬ X k) (hB : B ≤ a.heap.size) : Below B a b := ⟨h.os, h.tape, h.output, h.size, fun i hi => h.block i (by omega) (hx i hi)⟩
theorem Turn.row (h : Turn X a b) {k : Nat} {o : Obj} (hr : a.heap[k]? = some o) (hx : ¬ X k) : b.heap[k]? = some o := (h.block k (lt_row hr) hx).trans hr




theorem Ow.more {w0 : World} {l : List (Nat × Obj)} (h : Ow w0 a l) {k : Nat} {o : Obj} (hr : a.heap[k]? = some o) (hk : w0.heap.size ≤ k) (hn : ∀ x ∈ l, k ≠ x.1) : Ow w0 a ((k, o) :: l) :=
  ⟨h.bel, fun x hx => by
    rcases List.mem_cons.1 hx with rfl | hx
    · exact hr
    · exact h.has x hx, fun x hx => by
    rcases List.mem_cons.1 hx with rfl | hx
    · exact hk
    · exact h.new x hx, List.Pairwise.cons hn h.apart⟩
end








/-- A fence that lets all in. -/
def Lets (F : Fence) : Prop := F = Fence.wide ∨ ∃ l, F = Fence.wide.inRound l
theorem Lets.fn {F : Fence} (h : Lets F) (f : FuncId) : F.fn f := by
  rcases h with rfl | ⟨l, rfl⟩
  · trivial
  · trivial






theorem Lets.calls {F : Fence} (h : Lets F) {n : Nat} {P : Program} {f : FuncId} {args : Array Value} {w : World} {R : Ending → World → Prop} (hc : Calls P f args w R) : CallsIn F n P f args w R := by
  rcases h with rfl | ⟨l, rfl⟩
  · exact callsIn_wide.2 hc
  · exact (callsIn_wide.2 hc : CallsIn Fence.wide n P f args w R)
theorem Lets.rows {F : Fence} (h : Lets F) {n : Nat} {P : Program} {f : String} {args : Array Value} {w : World} {R : Value → World → Prop} (hc : Rows P f args w R) : RowsIn F n P f args w R := by
  rcases h with rfl | ⟨l, rfl⟩
  · intro c cs _
    obtain ⟨v, w', hr, hs⟩ := hc c cs
    exact ⟨v, w', hr, stepsIn_wide.2 hs⟩
  · intro c cs _
    obtain ⟨v, w', hr, hs⟩ := hc c cs
    exact ⟨v, w', hr, (stepsIn_wide.2 hs : StepsIn (Machine.fenced P Fence.wide) P _ _)⟩
theorem Lets.round {F : Fence} (h : Lets F) {P : Program} {l : Nat} {f : FuncId} {tmps : Array Value} {assign body : Code} {w : World} {R : Ending → World → Prop} (hc : RoundIn Fence.wide 0 P l f tmps assign body w R) : RoundIn F 0 P l f tmps assign body w R := by
  rcases h with rfl | ⟨l, rfl⟩
  · exact hc
  · exact hc
section
variable {F : Fence} {P : Program} {ops : Array Oper} {Q : Exit → Act → World → Prop} {a : Act} {w : World}


























































































end
/-- Left at its end alone. -/
def Only (Q : Exit → Act → World → Prop) : Exit → Act → World → Prop
  | .normal, a, w => Q .normal a w
  | _, _, _ => False
theorem Only.no {Q : Exit → Act → World → Prop} (a : Act) (w : World) : ¬ Only Q .outgrown a w := fun h => h



























































































end Go.Proofs.YtjcfoilfdmameaaDoor

/-
  Blocks of one cell, of whatever type, among those of a call's own: box, alloc, load, store, with the worlds named. No statement is proved here: lemmas for the walks.
-/
namespace Go.Proofs.YtjcfoilfdmameaaDoor
open Go.RowKit



/-- A type of one cell. -/
structure IsCell (P : Program) (t : TypeId) : Prop where
  agg : ∀ w, (isAgg t).run P w = .ok false w
  size : (P.info? t).map (·.size) = some 1




section
variable {P : Program} {w w0 : World} {l : List (Nat × Obj)} {t ty : TypeId} {u v : Value}





















end
section
variable {P : Program} {ops : Array Oper} {rest : List Oper} {o : Oper} {a : Act} {w w0 : World} {l : List (Nat × Obj)} {Q : Exit → Act → World → Prop} {t ty : TypeId} {u v : Value}

































end
section
variable {P : Program} {md : Region.Mode} {ops : Array Oper} {Q : Exit → Act → World → Prop} {S : World → Prop} {fuel : Nat} {listed : Array Bool} {a : Act} {w : World} {t ty : TypeId} {v : Value}









end




end Go.Proofs.YtjcfoilfdmameaaDoor

/-
  Blocks of cells of whatever types, among those of a call's own: box, load of one cell, with the worlds named. No statement is proved here: lemmas for the walks.
-/
namespace Go.Proofs.YtjcfoilfdmameaaDoor
open Go.RowKit

/-- A block of cells of whatever types. -/
def Cs (t : TypeId) (C : Array Value) : Obj := .cells C t
section
variable {P : Program} {w w0 : World} {l : List (Nat × Obj)} {t ty : TypeId} {v : Value} {C : Array Value}
theorem cell_cs {b j : Nat} (hr : w.heap[b]? = some (Cs t C)) (hj : C[j]? = some v) : w.cell? ⟨b, j, none⟩ = some v := by
  have hrow : w.heap[b]? = some (.cells C t) := hr
  rw [cell_of_row _ _ _ _ _ _ hrow]
  exact hj
theorem run_load_cs (hT : IsCell P ty) {b j : Nat} (hr : w.heap[b]? = some (Cs t C)) (hj : C[j]? = some v) : (Instr.loadAt ty (.pointer (some ⟨b, j, none⟩))).run P w = .ok v w := by
  simp [Instr.loadAt, Instr.sureAddr, loadVar, Sem.run_bind, hT.agg w, cell_cs hr hj]
end
section
variable {P : Program} {ops : Array Oper} {rest : List Oper} {o : Oper} {a : Act} {w w0 : World} {l : List (Nat × Obj)} {Q : Exit → Act → World → Prop} {t ty : TypeId} {v : Value} {C : Array Value}
theorem own_boxC (H : Hid (Ow w0 w l)) (hgd : o.guard = none) {x : Operand} (ho : o.op = .box t x) (hx : a.eval x = .agg C)
    (h : ∀ w' g, Hid (Ow w0 w' ((g, Cs t C) :: l)) → ∀ K : Act → World → Prop, (∀ a w, wpList P ops Q rest a w → K a w) → K (a.put o.dst (.pointer (some ⟨g, 0, none⟩))) w') : wpList P ops Q (o :: rest) a w :=
  wpList_plain hgd fun K hK => by
    unfold Oper.wp execOp
    simp only [ho, hx, Instr.box, newVar, Value.cells]
    simp [go_sem]
    exact h _ _ (Lib.hid (H.out.alloc _)) K hK













end
section
variable {P : Program} {md : Region.Mode} {ops : Array Oper} {Q : Exit → Act → World → Prop} {S : World → Prop} {fuel : Nat} {listed : Array Bool} {a : Act} {w : World} {t ty : TypeId} {v : Value} {C : Array Value}









end





section
variable {P : Program} {ops : Array Oper} {rest : List Oper} {o : Oper} {a : Act} {w w0 : World} {l : List (Nat × Obj)} {Q : Exit → Act → World → Prop} {t ty : TypeId} {n : Nat} {C : Array Value}







end
section
variable {P : Program} {ops : Array Oper} {rest : List Oper} {o : Oper} {a : Act} {w w0 w1 : World} {l : List (Nat × Obj)} {Q : Exit → Act → World → Prop} {t ty : TypeId} {k : IntKind} {n : Nat} {C : Array Value} {v : Value}







theorem own_loadCO {j : Nat} (hT : IsCell P ty) (H : Hid (Ow w1 w l)) (hgd : o.guard = none) {x : Operand} (ho : o.op = .load ty x) {g : Nat} (hx : a.eval x = .pointer (some ⟨g, j, none⟩))
    (hr : w1.heap[g]? = some (Cs t C)) (hj : C[j]? = some v) (h : ∀ K : Act → World → Prop, (∀ a w, wpList P ops Q rest a w → K a w) → K (a.put o.dst v) w) : wpList P ops Q (o :: rest) a w :=
  wpList_plain hgd fun K hK => by
    unfold Oper.wp execOp
    simp only [ho, hx, Sem.run_bind, run_load_cs hT ((H.out.bel.block _ (lt_row hr)).trans hr) hj, Result.andThen_ok]
    exact h K hK
end
/-- What a callee made: new blocks, and what they hold. -/
structure NewL (w w' : World) (L : List (Nat × Obj)) : Prop where
  ge : ∀ x ∈ L, w.heap.size ≤ x.1
  apart : L.Pairwise fun x y => x.1 ≠ y.1
  has : ∀ x ∈ L, w'.heap[x.1]? = some x.2
theorem Ow.append {w0 w w' : World} {l L : List (Nat × Obj)} (h : Ow w0 w l) (hb : Below w.heap.size w w') (hN : NewL w w' L) : Ow w0 w' (l ++ L) := by
  have h1 := h.call hb
  refine ⟨h1.bel, fun x hx => ?_, fun x hx => ?_, List.pairwise_append.2 ⟨h1.apart, hN.apart, fun x hx y hy e => ?_⟩⟩
  · rcases List.mem_append.1 hx with hx | hx
    · exact h1.has x hx
    · exact hN.has x hx
  · rcases List.mem_append.1 hx with hx | hx
    · exact h1.new x hx
    · exact Nat.le_trans h.bel.size (hN.ge x hx)
  · have a1 := lt_row (h.has x hx)
    have a2 := hN.ge y hy
    omega
section
variable {P : Program} {w w0 : World} {l : List (Nat × Obj)} {t t' : TypeId} {k k' : IntKind} {n n' : Nat}












end



end Go.Proofs.YtjcfoilfdmameaaDoor

/-
  Operations that their guards keep back, passed over. No statement is proved here: lemmas for the walks.
-/
namespace Go.Proofs.YtjcfoilfdmameaaDoor
open Go.RowKit

section
variable {P : Program} {ops : Array Oper} {rest : List Oper} {o : Oper} {a : Act} {w : World} {Q : Exit → Act → World → Prop}






























end
end Go.Proofs.YtjcfoilfdmameaaDoor

/-
  Stores in a region that draws its order, of a row and of a part of one, which leave the frame as it is. No statement is proved here: lemmas for the walks.
-/
namespace Go.Proofs.YtjcfoilfdmameaaDoor
open Go.RowKit

section
variable {P : Program} {o : Oper} {a : Act} {w w0 : World} {l : List (Nat × Obj)} {K : Act → World → Prop} {Q : Exit → Act → World → Prop} {t ty : TypeId} {k : IntKind} {n m : Nat}
/-- A part of a row, or a whole one, is stored, in a region that draws its order. -/
theorem own_st_p (i : Nat) (hd : o.dst = none) (hT : IsRow P ty m) (H : Ow w0 w l) {x y : Operand} (ho : o.op = .store ty x y) {g j : Nat} (hx : a.eval x = .pointer (some ⟨g, j, none⟩)) {f f0 F : Nat → Int} (hy : a.eval y = .agg (AZ k m f))
    (hi : l[i]? = some (g, Blk t k n f0)) (hj : j + m ≤ n) (hF : AZ k n (layZ f0 j m f) = AZ k n F) (h : ∀ w', Ow w0 w' (l.set i (g, Blk t k n F)) → K a w') : o.wp P a w K Q := by
  unfold Oper.wp execOp
  simp only [ho, hx, hy, Sem.run_bind, run_store_part (g := f) hT (H.row i hi) hj, Result.andThen_ok]
  have e : Blk t k n (layZ f0 j m f) = Blk t k n F := by
    unfold Blk
    rw [hF]
  have hO := H.setRow i hi (layZ f0 j m f)
  rw [e] at hO
  have hp : a.put o.dst undef = a := by
    rw [hd]
    rfl
  have h2 := h _ hO
  rw [← hp] at h2
  exact h2
theorem own_st (i : Nat) (hd : o.dst = none) (hT : IsRow P ty n) (H : Ow w0 w l) {x y : Operand} (ho : o.op = .store ty x y) {g : Nat} (hx : a.eval x = .pointer (some ⟨g, 0, none⟩)) {f f0 : Nat → Int} (hy : a.eval y = .agg (AZ k n f))
    (hi : l[i]? = some (g, Blk t k n f0)) (h : ∀ w', Ow w0 w' (l.set i (g, Blk t k n f)) → K a w') : o.wp P a w K Q :=
  own_st_p i hd hT H ho hx hy hi (by omega) (layZ_all f0 f n) h
end
end Go.Proofs.YtjcfoilfdmameaaDoor
