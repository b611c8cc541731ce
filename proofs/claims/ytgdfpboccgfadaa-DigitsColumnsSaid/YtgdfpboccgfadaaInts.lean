/-
  Arrays of integers of one kind, by value and in blocks of their own: box, alloc, load, store, with the worlds named. No statement is proved here: lemmas for the walks.
-/
import Derived.WalkKit
import Derived.Deep.WholeRow
import Derived.Lib.Hide
import Derived.Handy
namespace Go.Proofs.Ytgdfpboccgfadaa
open Go.RowKit

/-- An array of n integers of kind k. -/
def AZ (k : IntKind) (n : Nat) (f : Nat → Int) : Array Value := Array.ofFn (n := n) fun i => Value.int k (f i)
def updZ (f : Nat → Int) (i : Nat) (v : Int) : Nat → Int := fun j => if j = i then v else f j
theorem AZ_size (k : IntKind) (n : Nat) (f : Nat → Int) : (AZ k n f).size = n := by simp [AZ]
theorem AZ_get (k : IntKind) (n : Nat) (f : Nat → Int) (i : Nat) (h : i < n) : (AZ k n f)[i]? = some (.int k (f i)) := by simp [AZ, h]
theorem AZ_set (k : IntKind) (n : Nat) (f : Nat → Int) (i : Nat) (v : Int) : (AZ k n f).setIfInBounds i (.int k v) = AZ k n (updZ f i v) := by
  apply Array.ext_getElem?
  intro j
  by_cases hj : j < n
  · rw [AZ_get k n _ j hj]
    by_cases e : i = j
    · subst e
      simp [updZ, AZ_size, hj]
    · rw [Array.getElem?_setIfInBounds_ne e, AZ_get k n f j hj]
      have e' : ¬ j = i := fun h => e h.symm
      simp [updZ, e']
  · rw [Array.getElem?_eq_none (by simpa [AZ_size] using hj), Array.getElem?_eq_none (by simpa [AZ_size] using hj)]
theorem AZ_one (k : IntKind) (n : Nat) (f : Nat → Int) : (AZ k n f).all (·.oneCell') = true := by
  rw [Array.all_eq_true]
  intro i hi
  simp [AZ, Value.oneCell']
theorem AZ_congr {k : IntKind} {n : Nat} {f g : Nat → Int} (h : ∀ i, i < n → f i = g i) : AZ k n f = AZ k n g := by
  apply Array.ext_getElem?
  intro j
  by_cases hj : j < n
  · rw [AZ_get k n _ j hj, AZ_get k n _ j hj, h j hj]
  · rw [Array.getElem?_eq_none (by simpa [AZ_size] using hj), Array.getElem?_eq_none (by simpa [AZ_size] using hj)]
attribute [irreducible] AZ
/-- A type that is an array of n integers of kind k, each one cell. -/
structure IsInts (P : Program) (t : TypeId) (k : IntKind) (n : Nat) : Prop where
  under : ∃ e, P.underlying t = some (.array n e)
  size : (P.info? t).map (·.size) = some n
  zero : ∀ w, (zeroValue t).run P w = .ok (.agg (AZ k n fun _ => 0)) w
/-- n integers lie in block b. -/
def RowZ (w : World) (b : Nat) (t : TypeId) (k : IntKind) (n : Nat) (f : Nat → Int) : Prop := w.heap[b]? = some (.cells (AZ k n f) t)
section
variable {w W : World} {b n : Nat} {t : TypeId} {k : IntKind} {f : Nat → Int}
theorem RowZ.lt (h : RowZ w b t k n f) : b < w.heap.size := by
  rcases Nat.lt_or_ge b w.heap.size with h' | h'
  · exact h'
  · unfold RowZ at h
    rw [Array.getElem?_eq_none h'] at h
    cases h
theorem RowZ.cell (h : RowZ w b t k n f) (i : Nat) (hi : i < n) : w.cell? ⟨b, i, none⟩ = some (.int k (f i)) := by rw [cell_of_row _ _ _ _ _ _ h, AZ_get _ _ _ _ hi]
theorem RowZ.thaw (h : RowZ w b t k n f) (i : Nat) : w.frozen? ⟨b, i, none⟩ = false := frozen_of_row _ _ _ _ _ h
theorem RowZ.below {B : Nat} (h : RowZ w b t k n f) (hb : Below B w W) (hB : b < B) : RowZ W b t k n f := (hb.block _ hB).trans h
theorem RowZ.drew (h : RowZ w b t k n f) : RowZ w.drew b t k n f := h
theorem RowZ.alloc (h : RowZ w b t k n f) (o : Obj) : RowZ (w.alloc o) b t k n f := (Below.heap_alloc w o b h.lt).trans h
theorem RowZ.setCell (h : RowZ w b t k n f) (i : Nat) (v : Int) : RowZ (w.setCell ⟨b, i, none⟩ (.int k v)) b t k n (updZ f i v) := by
  have := heap_setCell_same w b i _ _ (.int k v) h
  rwa [AZ_set] at this
theorem RowZ.other (h : RowZ w b t k n f) (g i : Nat) (v : Value) (hne : b ≠ g) : RowZ (w.setCell ⟨g, i, none⟩ v) b t k n f := by
  unfold RowZ
  rw [heap_setCell_other _ _ _ _ (by show b ≠ g; exact hne)]
  exact h
theorem RowZ.congr {f' : Nat → Int} (h : RowZ w b t k n f) (hf : ∀ i, i < n → f i = f' i) : RowZ w b t k n f' := by
  unfold RowZ at h ⊢
  rw [h, AZ_congr hf]
end
section
variable {P : Program} {ops : Array Oper} {rest : List Oper} {o : Oper} {a : Act} {w : World} {Q : Exit → Act → World → Prop} {t : TypeId} {k : IntKind} {n : Nat}
theorem lay_allocZ (hT : IsInts P t k n) (hgd : o.guard = none) (ho : o.op = .alloc t)
    (h : ∀ w' g, Hid (g = w.heap.size) → Hid (RowZ w' g t k n fun _ => 0) → Hid (Below g w w') → ∀ K : Act → World → Prop, (∀ a w, wpList P ops Q rest a w → K a w) → K (a.put o.dst (.pointer (some ⟨g, 0, none⟩))) w') : wpList P ops Q (o :: rest) a w :=
  wpList_plain hgd fun K hK => by
    unfold Oper.wp execOp
    simp only [ho, Instr.alloc, Sem.run_bind, hT.zero, Result.andThen_ok, newVar, Value.cells]
    simp [go_sem]
    exact h _ _ (Lib.hid rfl) (Lib.hid (heap_alloc_last _ _)) (Lib.hid ((Below.refl _ _).alloc (Nat.le_refl _) _)) K hK
theorem lay_boxZ (hgd : o.guard = none) {x : Operand} (ho : o.op = .box t x) {f : Nat → Int} (hx : a.eval x = .agg (AZ k n f))
    (h : ∀ w' g, Hid (g = w.heap.size) → Hid (RowZ w' g t k n f) → Hid (Below g w w') → ∀ K : Act → World → Prop, (∀ a w, wpList P ops Q rest a w → K a w) → K (a.put o.dst (.pointer (some ⟨g, 0, none⟩))) w') : wpList P ops Q (o :: rest) a w :=
  wpList_plain hgd fun K hK => by
    unfold Oper.wp execOp
    simp only [ho, hx, Instr.box, newVar, Value.cells]
    simp [go_sem]
    exact h _ _ (Lib.hid rfl) (Lib.hid (heap_alloc_last _ _)) (Lib.hid ((Below.refl _ _).alloc (Nat.le_refl _) _)) K hK
theorem lay_loadZ (hT : IsInts P t k n) (hgd : o.guard = none) {x : Operand} (ho : o.op = .load t x) {g : Nat} (hx : a.eval x = .pointer (some ⟨g, 0, none⟩)) {tb : TypeId} {f : Nat → Int}
    (hg : RowZ w g tb k n f) (h : ∀ K : Act → World → Prop, (∀ a w, wpList P ops Q rest a w → K a w) → K (a.put o.dst (.agg (AZ k n f))) w) : wpList P ops Q (o :: rest) a w := by
  obtain ⟨e, he⟩ := hT.under
  exact wpList_plain hgd fun K hK => wp_load_row t x ho g hx tb _ (0, 0) _ hg he rfl (by rw [AZ_size]; exact hT.size) (h K hK)
/-- Every other block stays as it is. -/
def Apart (g : Nat) (w w' : World) : Prop := ∀ b, b ≠ g → w'.heap[b]? = w.heap[b]?
theorem RowZ.apart {w w' : World} {b g n : Nat} {t : TypeId} {k : IntKind} {f : Nat → Int} (h : RowZ w b t k n f) (ha : Apart g w w') (hne : b ≠ g) : RowZ w' b t k n f := (ha b hne).trans h
theorem lay_storeZ (hT : IsInts P t k n) (hgd : o.guard = none) {x y : Operand} (ho : o.op = .store t x y) {g : Nat} (hx : a.eval x = .pointer (some ⟨g, 0, none⟩)) {f : Nat → Int} (hy : a.eval y = .agg (AZ k n f))
    {tb : TypeId} {f0 : Nat → Int} (hg : RowZ w g tb k n f0)
    (h : ∀ w', Hid (RowZ w' g tb k n f) → Hid (Below g w w') → Hid (Apart g w w') → ∀ K : Act → World → Prop, (∀ a w, wpList P ops Q rest a w → K a w) → K (a.put o.dst undef) w') : wpList P ops Q (o :: rest) a w :=
  wpList_plain hgd fun K hK => wp_store_row t x y ho g _ hx hy tb _ hg (by rw [AZ_size]; exact hT.size) (by rw [AZ_size, AZ_size]) (AZ_one k n f)
    (h _ (Lib.hid (setRow_heap w g _ _ tb _ hg)) (Lib.hid ((Below.refl _ _).trans ⟨rfl, rfl, rfl, by simp [World.setRow], fun b hb => setRow_other w g b _ (by omega)⟩)) (Lib.hid fun b hb => setRow_other w g b _ hb) K hK)
theorem ints_result (hT : IsInts P t k n) {fn : Func} {p : Tmp} (h : fn.results = #[.cell p t]) (tmps : Array Value) (w : World) (g : Nat) {tb : TypeId} {f : Nat → Int}
    (hp : tmps.getD p undef = .pointer (some ⟨g, 0, none⟩)) (hg : RowZ w g tb k n f) : (results fn tmps).run P w = .ok (.agg (AZ k n f)) w := by
  obtain ⟨e, he⟩ := hT.under
  exact results_cell_row h tmps w g tb _ (0, 0) _ hp hg he rfl (by rw [AZ_size]; exact hT.size)
end
end Go.Proofs.Ytgdfpboccgfadaa
