/- Lemmas; no statement is proved here. -/
import Derived.Test.YtgjbonikbmgfmaaGreatDoorBuA
import Derived.Laws.CopyRow
import Derived.Laws.StructEq
import Derived.Laws.Cover3
import Derived.RangeFuncSeq
import Derived.OrdersHeld
set_option maxRecDepth 10000
set_option maxHeartbeats 3200000
namespace Go.Proofs.YtgjbonikbmgfmaaGreatDoor
open Go.RowKit
def AZ (k : IntKind) (n : Nat) (f : Nat → Int) : Array Value := Array.ofFn (n := n) fun i => Value.int k (f i)
def updZ (f : Nat → Int) (i : Nat) (v : Int) : Nat → Int := fun j => if j = i then v else f j
theorem z0j (k : IntKind) (n : Nat) (f : Nat → Int) : (AZ k n f).size = n := by simp [AZ]
theorem z1c (k : IntKind) (n : Nat) (f : Nat → Int) (i : Nat) (h : i < n) : (AZ k n f)[i]? = some (.int k (f i)) := by simp [AZ, h]
theorem AZ_set (k : IntKind) (n : Nat) (f : Nat → Int) (i : Nat) (v : Int) : (AZ k n f).setIfInBounds i (.int k v) = AZ k n (updZ f i v) := by
 apply Array.ext_getElem?
 intro j
 by_cases hj : j < n
 ·rw [z1c k n _ j hj]
  by_cases e : i = j
  ·subst e
   simp [updZ, z0j, hj]
  ·rw [Array.getElem?_setIfInBounds_ne e, z1c k n f j hj]
   have e' : ¬ j = i := fun h => e h.symm
   simp [updZ, e']
 ·rw [Array.getElem?_eq_none (by simpa [z0j] using hj), Array.getElem?_eq_none (by simpa [z0j] using hj)]
theorem AZ_one (k : IntKind) (n : Nat) (f : Nat → Int) : (AZ k n f).all (·.oneCell') = true := by
 rw [Array.all_eq_true]
 intro i hi
 simp [AZ, Value.oneCell']
theorem z1w {k : IntKind} {n : Nat} {f g : Nat → Int} (h : ∀ i, i < n → f i = g i) : AZ k n f = AZ k n g := by
 apply Array.ext_getElem?
 intro j
 by_cases hj : j < n
 ·rw [z1c k n _ j hj, z1c k n _ j hj, h j hj]
 ·rw [Array.getElem?_eq_none (by simpa [z0j] using hj), Array.getElem?_eq_none (by simpa [z0j] using hj)]
attribute [irreducible] AZ
structure IsInts (P : Program) (t : TypeId) (k : IntKind) (n : Nat) : Prop where
 under : ∃ e, P.underlying t = some (.array n e)
 size : (P.info? t).map (·.size) = some n
 zero : ∀ w, (zeroValue t).run P w = .ok (.agg (AZ k n fun _ => 0)) w
def RowZ (w : World) (b : Nat) (t : TypeId) (k : IntKind) (n : Nat) (f : Nat → Int) : Prop := w.heap[b]? = some (.cells (AZ k n f) t)
section
variable {w W : World} {b n : Nat} {t : TypeId} {k : IntKind} {f : Nat → Int}
theorem RowZ.lt (h : RowZ w b t k n f) : b < w.heap.size := by
 rcases Nat.lt_or_ge b w.heap.size with h' | h'
 ·exact h'
 ·unfold RowZ at h
  rw [Array.getElem?_eq_none h'] at h
  cases h
theorem RowZ.cell (h : RowZ w b t k n f) (i : Nat) (hi : i < n) : w.cell? ⟨b, i, none⟩ = some (.int k (f i)) := by rw [cell_of_row _ _ _ _ _ _ h, z1c _ _ _ _ hi]
theorem RowZ.thaw (h : RowZ w b t k n f) (i : Nat) : w.frozen? ⟨b, i, none⟩ = false := frozen_of_row _ _ _ _ _ h
theorem RowZ.below {B : Nat} (h : RowZ w b t k n f) (hb : Below B w W) (hB : b < B) : RowZ W b t k n f := (hb.block _ hB).trans h
theorem RowZ.drew (h : RowZ w b t k n f) : RowZ w.drew b t k n f := h
theorem RowZ.alloc (h : RowZ w b t k n f) (o : Obj) : RowZ (w.alloc o) b t k n f := (Below.heap_alloc w o b h.lt).trans h
theorem RowZ.setCell (h : RowZ w b t k n f) (i : Nat) (v : Int) : RowZ (w.setCell ⟨b, i, none⟩ (.int k v)) b t k n (updZ f i v) := by
 have := heap_setCell_same w b i _ _ (.int k v) h
 rwa [AZ_set] at this
theorem RowZ.other (h : RowZ w b t k n f) (g i : Nat) (v : Value) (hne : b ≠ g) : RowZ (w.setCell ⟨g, i, none⟩ v) b t k n f := by
 unfold RowZ
 rw [heap_setCell_other _ _ _ _ (by show b ≠ g; exact hne)]
 exact h
theorem RowZ.congr {f' : Nat → Int} (h : RowZ w b t k n f) (hf : ∀ i, i < n → f i = f' i) : RowZ w b t k n f' := by
 unfold RowZ at h ⊢
 rw [h, z1w hf]
end
section
variable {P : Program} {ops : Array Oper} {rest : List Oper} {o : Oper} {a : Act} {w : World} {Q : Exit → Act → World → Prop} {t : TypeId} {k : IntKind} {n : Nat}
theorem z4x (hT : IsInts P t k n) (hgd : o.guard = none) (ho : o.op = .alloc t)
  (h : ∀ w' g, Hid (g = w.heap.size) → Hid (RowZ w' g t k n fun _ => 0) → Hid (Below g w w') → ∀ K : Act → World → Prop, (∀ a w, wpList P ops Q rest a w → K a w) → K (a.put o.dst (.pointer (some ⟨g, 0, none⟩))) w') : wpList P ops Q (o :: rest) a w :=
 wpList_plain hgd fun K hK => by
  unfold Oper.wp execOp
  simp only [ho, Instr.alloc, Sem.run_bind, hT.zero, Result.andThen_ok, newVar, Value.cells]
  simp [go_sem]
  exact h _ _ (za rfl) (za (heap_alloc_last _ _)) (za ((Below.refl _ _).alloc (Nat.le_refl _) _)) K hK
theorem y5z (hgd : o.guard = none) {x : Operand} (ho : o.op = .box t x) {f : Nat → Int} (hx : a.eval x = .agg (AZ k n f))
  (h : ∀ w' g, Hid (g = w.heap.size) → Hid (RowZ w' g t k n f) → Hid (Below g w w') → ∀ K : Act → World → Prop, (∀ a w, wpList P ops Q rest a w → K a w) → K (a.put o.dst (.pointer (some ⟨g, 0, none⟩))) w') : wpList P ops Q (o :: rest) a w :=
 wpList_plain hgd fun K hK => by
  unfold Oper.wp execOp
  simp only [ho, hx, Instr.box, newVar, Value.cells]
  simp [go_sem]
  exact h _ _ (za rfl) (za (heap_alloc_last _ _)) (za ((Below.refl _ _).alloc (Nat.le_refl _) _)) K hK
theorem z7p (hT : IsInts P t k n) (hgd : o.guard = none) {x : Operand} (ho : o.op = .load t x) {g : Nat} (hx : a.eval x = .pointer (some ⟨g, 0, none⟩)) {tb : TypeId} {f : Nat → Int}
  (hg : RowZ w g tb k n f) (h : ∀ K : Act → World → Prop, (∀ a w, wpList P ops Q rest a w → K a w) → K (a.put o.dst (.agg (AZ k n f))) w) : wpList P ops Q (o :: rest) a w := by
 obtain ⟨e, he⟩ := hT.under
 exact wpList_plain hgd fun K hK => wp_load_row t x ho g hx tb _ (0, 0) _ hg he rfl (by rw [z0j]; exact hT.size) (h K hK)
def z81 (g : Nat) (w w' : World) : Prop := ∀ b, b ≠ g → w'.heap[b]? = w.heap[b]?
theorem RowZ.apart {w w' : World} {b g n : Nat} {t : TypeId} {k : IntKind} {f : Nat → Int} (h : RowZ w b t k n f) (ha : z81 g w w') (hne : b ≠ g) : RowZ w' b t k n f := (ha b hne).trans h
theorem z4w (hT : IsInts P t k n) (hgd : o.guard = none) {x y : Operand} (ho : o.op = .store t x y) {g : Nat} (hx : a.eval x = .pointer (some ⟨g, 0, none⟩)) {f : Nat → Int} (hy : a.eval y = .agg (AZ k n f))
  {tb : TypeId} {f0 : Nat → Int} (hg : RowZ w g tb k n f0)
  (h : ∀ w', Hid (RowZ w' g tb k n f) → Hid (Below g w w') → Hid (z81 g w w') → ∀ K : Act → World → Prop, (∀ a w, wpList P ops Q rest a w → K a w) → K (a.put o.dst undef) w') : wpList P ops Q (o :: rest) a w :=
 wpList_plain hgd fun K hK => wp_store_row t x y ho g _ hx hy tb _ hg (by rw [z0j]; exact hT.size) (by rw [z0j, z0j]) (AZ_one k n f)
  (h _ (za (setRow_heap w g _ _ tb _ hg)) (za ((Below.refl _ _).trans ⟨rfl, rfl, rfl, by simp [World.setRow], fun b hb => setRow_other w g b _ (by omega)⟩)) (za fun b hb => setRow_other w g b _ hb) K hK)
theorem z65 (hT : IsInts P t k n) {fn : Func} {p : Tmp} (h : fn.results = #[.cell p t]) (tmps : Array Value) (w : World) (g : Nat) {tb : TypeId} {f : Nat → Int}
  (hp : tmps.getD p undef = .pointer (some ⟨g, 0, none⟩)) (hg : RowZ w g tb k n f) : (results fn tmps).run P w = .ok (.agg (AZ k n f)) w := by
 obtain ⟨e, he⟩ := hT.under
 exact results_cell_row h tmps w g tb _ (0, 0) _ hp hg he rfl (by rw [z0j]; exact hT.size)
end
theorem z01 {w : World} {g : Nat} {o : Obj} (h : w.heap[g]? = some o) : g < w.heap.size := by
 rcases Nat.lt_or_ge g w.heap.size with h' | h'
 ·exact h'
 ·rw [Array.getElem?_eq_none h'] at h; cases h
def zv (t : TypeId) (k : IntKind) (n : Nat) (f : Nat → Int) : Obj := .cells (AZ k n f) t
structure Ow (w W : World) (l : List (Nat × Obj)) : Prop where
 bel : Below w.heap.size w W
 has : ∀ x ∈ l, W.heap[x.1]? = some x.2
 new : ∀ x ∈ l, w.heap.size ≤ x.1
 apart : l.Pairwise fun x y => x.1 ≠ y.1
section
variable {w W W' : World} {l : List (Nat × Obj)}
theorem Ow.start (w : World) : Ow w w [] := ⟨Below.refl _ _, (fun _ h => nomatch h), (fun _ h => nomatch h), List.Pairwise.nil⟩
theorem Ow.call (h : Ow w W l) (hb : Below W.heap.size W W') : Ow w W' l :=
 ⟨h.bel.trans (hb.mono h.bel.size), fun x hx => (hb.block _ (z01 (h.has x hx))).trans (h.has x hx), h.new, h.apart⟩
theorem zd {w w' W : World} {l : List (Nat × Obj)} (H : RowKit.Hid (Ow w W l)) (hb : Below W.heap.size W w') : RowKit.Hid (Ow w w' l) := za (H.out.call hb)
theorem Ow.alloc (h : Ow w W l) (o : Obj) : Ow w (W.alloc o) ((W.heap.size, o) :: l) := by
 refine ⟨h.bel.alloc h.bel.size o, fun x hx => ?_, fun x hx => ?_, List.Pairwise.cons (fun x hx => ?_) h.apart⟩
 ·rcases List.mem_cons.1 hx with rfl | hx
  ·exact heap_alloc_last W o
  ·exact (Below.heap_alloc _ _ _ (z01 (h.has x hx))).trans (h.has x hx)
 ·rcases List.mem_cons.1 hx with rfl | hx
  ·exact h.bel.size
  ·exact h.new x hx
 ·have := z01 (h.has x hx)
  show W.heap.size ≠ x.1
  omega
theorem Ow.drew (h : Ow w W l) : Ow w W.drew l := ⟨h.bel.drew, h.has, h.new, h.apart⟩
theorem Ow.pop {x : Nat × Obj} (h : Ow w W (x :: l)) : Ow w W l :=
 ⟨h.bel, fun y hy => h.has y (.tail _ hy), fun y hy => h.new y (.tail _ hy), (List.pairwise_cons.1 h.apart).2⟩
theorem Ow.row (h : Ow w W l) (i : Nat) {b : Nat} {o : Obj} (hi : l[i]? = some (b, o)) : W.heap[b]? = some o := h.has _ (List.mem_of_getElem? hi)
theorem zb {w W : World} {l : List (Nat × Obj)} (H : RowKit.Hid (Ow w W l)) (i : Nat) {b : Nat} {o : Obj} (h : l[i]? = some (b, o) := by exact rfl) : W.heap[b]? = some o := H.out.row i h
theorem Ow.ge (h : Ow w W l) (i : Nat) {b : Nat} {o : Obj} (hi : l[i]? = some (b, o)) : w.heap.size ≤ b := h.new _ (List.mem_of_getElem? hi)
theorem Ow.put (h : Ow w W l) (i : Nat) {b : Nat} {o o' : Obj} (hi : l[i]? = some (b, o)) (hb : Below b W W') (ha : z81 b W W') (hn : W'.heap[b]? = some o') : Ow w W' (l.set i (b, o')) := by
 have hge := h.ge i hi
 have hlt : i < l.length := by
  rcases Nat.lt_or_ge i l.length with h' | h'
  ·exact h'
  ·rw [List.getElem?_eq_none h'] at hi; cases hi
 have hne : ∀ j x, l[j]? = some x → j ≠ i → x.1 ≠ b := by
  intro j x hj hji e
  have hp := h.apart
  rw [List.pairwise_iff_getElem] at hp
  have hjl : j < l.length := by
   rcases Nat.lt_or_ge j l.length with h' | h'
   ·exact h'
   ·rw [List.getElem?_eq_none h'] at hj; cases hj
  rw [List.getElem?_eq_getElem hlt] at hi
  rw [List.getElem?_eq_getElem hjl] at hj
  have e1 := Option.some.inj hi
  have e2 := Option.some.inj hj
  rcases (by omega : j < i ∨ i < j) with hlt' | hlt'
  ·exact hp j i hjl hlt hlt' (by rw [e1, e2]; exact e)
  ·exact hp i j hlt hjl hlt' (by rw [e1, e2]; exact e.symm)
 refine ⟨h.bel.trans (hb.mono hge), fun x hx => ?_, fun x hx => ?_, ?_⟩
 ·obtain ⟨j, hj⟩ := List.getElem?_of_mem hx
  rw [List.getElem?_set] at hj
  by_cases e : i = j
  ·rw [if_pos e, if_pos (by omega)] at hj
   obtain rfl := Option.some.inj hj
   exact hn
  ·rw [if_neg e] at hj
   exact (ha _ (hne j x hj fun h => e h.symm)).trans (h.has x (List.mem_of_getElem? hj))
 ·obtain ⟨j, hj⟩ := List.getElem?_of_mem hx
  rw [List.getElem?_set] at hj
  by_cases e : i = j
  ·rw [if_pos e, if_pos (by omega)] at hj
   obtain rfl := Option.some.inj hj
   exact hge
  ·rw [if_neg e] at hj
   exact h.new x (List.mem_of_getElem? hj)
 ·have hm : (l.set i (b, o')).map Prod.fst = l.map Prod.fst := by
   apply List.ext_getElem?
   intro j
   rw [List.getElem?_map, List.getElem?_map, List.getElem?_set]
   by_cases e : i = j
   ·subst e
    rw [if_pos rfl, if_pos hlt, hi]
    rfl
   ·rw [if_neg e]
  have hp : (l.map Prod.fst).Pairwise (· ≠ ·) := by rw [List.pairwise_map]; exact h.apart
  rw [← hm, List.pairwise_map] at hp
  exact hp
theorem Ow.cell (h : Ow w W l) (i : Nat) {b : Nat} {t : TypeId} {k : IntKind} {n : Nat} {f : Nat → Int} (hi : l[i]? = some (b, zv t k n f)) (j : Nat) (hj : j < n) : W.cell? ⟨b, j, none⟩ = some (.int k (f j)) := by
 have hr : W.heap[b]? = some (.cells (AZ k n f) t) := h.row i hi
 rw [cell_of_row _ _ _ _ _ _ hr, z1c _ _ _ _ hj]
theorem Ow.thaw (h : Ow w W l) (i : Nat) {b : Nat} {t : TypeId} {k : IntKind} {n : Nat} {f : Nat → Int} (hi : l[i]? = some (b, zv t k n f)) (j : Nat) : W.frozen? ⟨b, j, none⟩ = false := by
 have hr : W.heap[b]? = some (.cells (AZ k n f) t) := h.row i hi
 exact frozen_of_row _ _ _ _ _ hr
theorem Ow.setCell (h : Ow w W l) (i : Nat) {b : Nat} {t : TypeId} {k : IntKind} {n : Nat} {f : Nat → Int} (hi : l[i]? = some (b, zv t k n f)) (j : Nat) (v : Int) : Ow w (W.setCell ⟨b, j, none⟩ (.int k v)) (l.set i (b, zv t k n (updZ f j v))) := by
 have hr : RowZ W b t k n f := h.row i hi
 exact h.put i hi ((Below.refl b W).setCell (p := ⟨b, j, none⟩) (Nat.le_refl b) _) (fun c hc => heap_setCell_other _ _ _ _ hc) (hr.setCell j v)
theorem Ow.like (h : Ow w W l) (i : Nat) {b : Nat} {t : TypeId} {k : IntKind} {n : Nat} {f g : Nat → Int} (hi : l[i]? = some (b, zv t k n f)) (hfg : ∀ j, j < n → f j = g j) : Ow w W (l.set i (b, zv t k n g)) := by
 refine h.put i hi (Below.refl _ _) (fun _ _ => rfl) ?_
 rw [h.row i hi]
 unfold zv
 rw [z1w hfg]
end
structure IsRow (P : Program) (t : TypeId) (n : Nat) : Prop where
 under : ∃ d, P.underlying t = some d ∧ d.isRow = true
 size : (P.info? t).map (·.size) = some n
def layZ (f : Nat → Int) (o m : Nat) (g : Nat → Int) : Nat → Int := fun j => if o ≤ j ∧ j < o + m then g (j - o) else f j
theorem y91 (k : IntKind) (n : Nat) (f g : Nat → Int) (o m : Nat) (h : o + m ≤ n) : ((AZ k n f).toList.take o ++ (AZ k m g).toList ++ (AZ k n f).toList.drop (o + m)).toArray = AZ k n (layZ f o m g) := by
 apply Array.ext_getElem?
 intro j
 have hl : ∀ k n f, (AZ k n f).toList.length = n := fun k n f => by rw [Array.length_toList, z0j]
 rw [List.getElem?_toArray]
 by_cases hj : j < n
 ·rw [z1c _ _ _ _ hj]
  unfold layZ
  by_cases h1 : j < o
  ·rw [List.getElem?_append_left (by simp [hl]; omega), List.getElem?_append_left (by simp [hl]; omega), List.getElem?_take_of_lt h1, Array.getElem?_toList, z1c _ _ _ _ hj, if_neg (by omega)]
  ·by_cases h2 : j < o + m
   ·rw [List.getElem?_append_left (by simp [hl]; omega), List.getElem?_append_right (by simp [hl]; omega), if_pos (by omega)]
    rw [List.length_take, hl, Nat.min_eq_left (by omega), Array.getElem?_toList, z1c _ _ _ _ (by omega)]
   ·rw [List.getElem?_append_right (by simp [hl]; omega), List.getElem?_drop, if_neg (by omega), List.length_append, List.length_take, hl, hl, Nat.min_eq_left (by omega), Array.getElem?_toList]
    rw [show o + m + (j - (o + m)) = j by omega, z1c _ _ _ _ hj]
 ·rw [Array.getElem?_eq_none (by rw [z0j]; omega), List.getElem?_eq_none (by simp [hl]; omega)]
theorem y0c {k : IntKind} {n : Nat} {f : Nat → Int} : ∀ u ∈ (AZ k n f).toList, u.oneCell' = true := fun u hu => by
 have := AZ_one k n f
 rw [Array.all_eq_true'] at this
 exact this u (by simpa using hu)
section
variable {P : Program} {w0 w : World} {l : List (Nat × Obj)} {t ty : TypeId} {k : IntKind} {n m o : Nat} {f g : Nat → Int}
theorem z3p (hT : IsRow P ty m) {b : Nat} (hr : w.heap[b]? = some (zv t k n f)) (h : o + m ≤ n) :
  (Instr.loadAt ty (.pointer (some ⟨b, o, none⟩))).run P w = .ok (.agg (AZ k m fun i => f (o + i))) w := by
 obtain ⟨d, hd, hd'⟩ := hT.under
 have hrow : w.heap[b]? = some (.cells (AZ k n f) t) := hr
 have := run_loadAt_mid (P := P) w b o ty (AZ k m fun i => f (o + i)).toList d (fun j v hv => by
  have hj : j < m := by
   rcases Nat.lt_or_ge j m with h' | h'
   ·exact h'
   ·rw [List.getElem?_eq_none (by rw [Array.length_toList, z0j]; exact h')] at hv; cases hv
  rw [Array.getElem?_toList, z1c _ _ _ _ hj] at hv
  rw [cell_of_row _ _ _ _ _ _ hrow, z1c _ _ _ _ (by omega), hv]) hd (by cases d <;> simp_all) (by rw [Array.length_toList, z0j]; exact hT.size)
 rwa [Array.toArray_toList] at this
theorem z4i (hT : IsRow P ty n) {b : Nat} (hr : w.heap[b]? = some (zv t k n f)) :
  (Instr.loadAt ty (.pointer (some ⟨b, 0, none⟩))).run P w = .ok (.agg (AZ k n f)) w := by
 obtain ⟨d, hd, hd'⟩ := hT.under
 have hrow : w.heap[b]? = some (.cells (AZ k n f) t) := hr
 simp only [Instr.loadAt, Instr.sureAddr, Sem.run_bind, Sem.run_pure, Result.andThen_ok, run_loadVar_row w b t ty _ (0, 0) d hrow hd (by cases d <;> simp_all) (by rw [z0j]; exact hT.size)]
theorem z1m (hT : IsRow P ty m) {b : Nat} (hr : w.heap[b]? = some (zv t k n f)) (h : o + m ≤ n) :
  (Instr.storeAt ty (.pointer (some ⟨b, o, none⟩)) (.agg (AZ k m g))).run P w = .ok () (w.setRow b (AZ k n (layZ f o m g))) := by
 have hrow : w.heap[b]? = some (.cells (AZ k n f) t) := hr
 have hst := run_storeCells_at P b o t (AZ k m g).toList 0 (AZ k n f) w hrow (by rw [Array.length_toList, z0j, z0j]; omega) y0c
 rw [Nat.add_zero, Array.length_toList, z0j, y91 _ _ _ _ _ _ h] at hst
 have hsz := hT.size
 cases hq : P.info? ty with
 | none => simp [hq] at hsz
 | some i =>
  have hi : i.size = m := by simpa [hq] using hsz
  simp [Instr.storeAt, Instr.sureAddr, storeVar, sizeOf, typeInfo, Sem.run_bind, hq, hi, Value.cells, z0j, hst]
theorem Ow.setRow (h : Ow w0 w l) (i : Nat) {b : Nat} (hi : l[i]? = some (b, zv t k n f)) (g : Nat → Int) : Ow w0 (w.setRow b (AZ k n g)) (l.set i (b, zv t k n g)) := by
 have hr : w.heap[b]? = some (.cells (AZ k n f) t) := h.row i hi
 exact h.put i hi ⟨rfl, rfl, rfl, by simp [World.setRow], fun c hc => setRow_other w b c _ (by omega)⟩ (fun c hc => setRow_other w b c _ hc) (setRow_heap w b _ _ t _ hr)
end
section
variable {P : Program} {ops : Array Oper} {rest : List Oper} {o : Oper} {a : Act} {w w0 : World} {l : List (Nat × Obj)} {Q : Exit → Act → World → Prop} {t ty : TypeId} {k : IntKind} {n m : Nat}
theorem zw (H : Hid (Ow w0 w l)) (hgd : o.guard = none) {x : Operand} (ho : o.op = .box t x) {f : Nat → Int} (hx : a.eval x = .agg (AZ k n f))
  (h : ∀ w' g, Hid (Ow w0 w' ((g, zv t k n f) :: l)) → ∀ K : Act → World → Prop, (∀ a w, wpList P ops Q rest a w → K a w) → K (a.put o.dst (.pointer (some ⟨g, 0, none⟩))) w') : wpList P ops Q (o :: rest) a w :=
 wpList_plain hgd fun K hK => by
  unfold Oper.wp execOp
  simp only [ho, hx, Instr.box, newVar, Value.cells]
  simp [go_sem]
  exact h _ _ (za (H.out.alloc _)) K hK
theorem ze (hz : ∀ w, (zeroValue t).run P w = .ok (.agg (AZ k n fun _ => 0)) w) (H : Hid (Ow w0 w l)) (hgd : o.guard = none) (ho : o.op = .alloc t)
  (h : ∀ w' g, Hid (Ow w0 w' ((g, zv t k n fun _ => 0) :: l)) → ∀ K : Act → World → Prop, (∀ a w, wpList P ops Q rest a w → K a w) → K (a.put o.dst (.pointer (some ⟨g, 0, none⟩))) w') : wpList P ops Q (o :: rest) a w :=
 wpList_plain hgd fun K hK => by
  unfold Oper.wp execOp
  simp only [ho, Instr.alloc, Sem.run_bind, hz, Result.andThen_ok, newVar, Value.cells]
  simp [go_sem]
  exact h _ _ (za (H.out.alloc _)) K hK
theorem zr {i : Nat} (hT : IsRow P ty n) (H : Hid (Ow w0 w l)) (hgd : o.guard = none) {x : Operand} (ho : o.op = .load ty x) {g : Nat} (hx : a.eval x = .pointer (some ⟨g, 0, none⟩)) {f : Nat → Int}
  (hi : l[i]? = some (g, zv t k n f)) (h : ∀ K : Act → World → Prop, (∀ a w, wpList P ops Q rest a w → K a w) → K (a.put o.dst (.agg (AZ k n f))) w) : wpList P ops Q (o :: rest) a w :=
 wpList_plain hgd fun K hK => by
  unfold Oper.wp execOp
  simp only [ho, hx, Sem.run_bind, z4i hT (H.out.row i hi), Result.andThen_ok]
  exact h K hK
theorem z47 {i : Nat} (hT : IsRow P ty m) (H : Hid (Ow w0 w l)) (hgd : o.guard = none) {x : Operand} (ho : o.op = .load ty x) {g j : Nat} (hx : a.eval x = .pointer (some ⟨g, j, none⟩)) {f : Nat → Int}
  (hi : l[i]? = some (g, zv t k n f)) (hj : j + m ≤ n) (h : ∀ K : Act → World → Prop, (∀ a w, wpList P ops Q rest a w → K a w) → K (a.put o.dst (.agg (AZ k m fun i => f (j + i)))) w) : wpList P ops Q (o :: rest) a w :=
 wpList_plain hgd fun K hK => by
  unfold Oper.wp execOp
  simp only [ho, hx, Sem.run_bind, z3p hT (H.out.row i hi) hj, Result.andThen_ok]
  exact h K hK
theorem z6j (f g : Nat → Int) (n : Nat) : AZ k n (layZ f 0 n g) = AZ k n g := z1w fun i hi => by unfold layZ; rw [if_pos (by omega), Nat.sub_zero]
theorem zj {i : Nat} (hT : IsRow P ty n) (H : Hid (Ow w0 w l)) (hgd : o.guard = none) {x y : Operand} (ho : o.op = .store ty x y) {g : Nat} (hx : a.eval x = .pointer (some ⟨g, 0, none⟩)) {f f0 : Nat → Int} (hy : a.eval y = .agg (AZ k n f))
  (hi : l[i]? = some (g, zv t k n f0)) (h : ∀ w', Hid (Ow w0 w' (l.set i (g, zv t k n f))) → ∀ K : Act → World → Prop, (∀ a w, wpList P ops Q rest a w → K a w) → K (a.put o.dst undef) w') : wpList P ops Q (o :: rest) a w :=
 wpList_plain hgd fun K hK => by
  unfold Oper.wp execOp
  have hs := z1m (o := 0) (g := f) hT (H.out.row i hi) (by omega)
  rw [z6j] at hs
  simp only [ho, hx, hy, Sem.run_bind, hs, Result.andThen_ok]
  exact h _ (za (H.out.setRow i hi f)) K hK
theorem own_store_part {i : Nat} (hT : IsRow P ty m) (H : Hid (Ow w0 w l)) (hgd : o.guard = none) {x y : Operand} (ho : o.op = .store ty x y) {g j : Nat} (hx : a.eval x = .pointer (some ⟨g, j, none⟩)) {f f0 : Nat → Int} (hy : a.eval y = .agg (AZ k m f))
  (hi : l[i]? = some (g, zv t k n f0)) (hj : j + m ≤ n) (h : ∀ w', Hid (Ow w0 w' (l.set i (g, zv t k n (layZ f0 j m f)))) → ∀ K : Act → World → Prop, (∀ a w, wpList P ops Q rest a w → K a w) → K (a.put o.dst undef) w') : wpList P ops Q (o :: rest) a w :=
 wpList_plain hgd fun K hK => by
  unfold Oper.wp execOp
  simp only [ho, hx, hy, Sem.run_bind, z1m (g := f) hT (H.out.row i hi) hj, Result.andThen_ok]
  exact h _ (za (H.out.setRow i hi _)) K hK
theorem zy (i : Nat) (hT : IsRow P t n) {fn : Func} {p : Tmp} (h : fn.results = #[.cell p t]) (tmps : Array Value) {g : Nat} {tb : TypeId} {f : Nat → Int}
  (H : Hid (Ow w0 w l)) (hi : l[i]? = some (g, zv tb k n f)) (hp : tmps.getD p undef = .pointer (some ⟨g, 0, none⟩)) : (results fn tmps).run P w = .ok (.agg (AZ k n f)) w := by
 obtain ⟨d, hd, hd'⟩ := hT.under
 have hr : w.heap[g]? = some (.cells (AZ k n f) tb) := H.out.row i hi
 exact results_cell_row h tmps w g tb _ (0, 0) _ hp hr hd (by cases d <;> simp_all) (by rw [z0j]; exact hT.size)
end
structure IsOne (P : Program) (t : TypeId) (k : IntKind) : Prop where
 under : P.underlying t = some (.int k)
 size : (P.info? t).map (·.size) = some 1
theorem layZ_one (f : Nat → Int) (j : Nat) (v : Int) : layZ f j 1 (fun _ => v) = updZ f j v := by
 funext i
 unfold layZ updZ
 by_cases h : i = j
 ·rw [if_pos (by omega), if_pos h]
 ·rw [if_neg (by omega), if_neg h]
theorem y3p (k : IntKind) (v : Int) : (AZ k 1 fun _ => v).toList = [.int k v] := by
 apply List.ext_getElem?
 intro j
 rw [Array.getElem?_toList]
 by_cases h : j < 1
 ·obtain rfl : j = 0 := by omega
  rw [z1c _ _ _ _ h]
  rfl
 ·rw [Array.getElem?_eq_none (by rw [z0j]; omega), List.getElem?_eq_none (by simp; omega)]
section
variable {P : Program} {w : World} {t ty : TypeId} {k : IntKind} {n : Nat} {f : Nat → Int}
theorem y3w (hT : IsOne P ty k) {b j : Nat} (hr : w.heap[b]? = some (zv t k n f)) (hj : j < n) :
  (Instr.loadAt ty (.pointer (some ⟨b, j, none⟩))).run P w = .ok (.int k (f j)) w := by
 have hrow : w.heap[b]? = some (.cells (AZ k n f) t) := hr
 have hagg : (isAgg ty).run P w = .ok false w := by
  unfold isAgg
  rw [Sem.run_bind, run_underlying hT.under w]
  rfl
 have hc : w.cell? ⟨b, j, none⟩ = some (.int k (f j)) := by rw [cell_of_row _ _ _ _ _ _ hrow, z1c _ _ _ _ hj]
 simp [Instr.loadAt, Instr.sureAddr, loadVar, Sem.run_bind, hagg, hc]
theorem y7z (hT : IsOne P ty k) {b j : Nat} (hr : w.heap[b]? = some (zv t k n f)) (hj : j < n) (v : Int) :
  (Instr.storeAt ty (.pointer (some ⟨b, j, none⟩)) (.int k v)).run P w = .ok () (w.setRow b (AZ k n (updZ f j v))) := by
 have hrow : w.heap[b]? = some (.cells (AZ k n f) t) := hr
 have hst := run_storeCells_at P b j t (AZ k 1 fun _ => v).toList 0 (AZ k n f) w hrow (by rw [Array.length_toList, z0j, z0j]; omega) y0c
 rw [Nat.add_zero, Array.length_toList, z0j, y91 _ _ _ _ _ _ (show j + 1 ≤ n by omega), layZ_one, y3p] at hst
 have hsz := hT.size
 cases hq : P.info? ty with
 | none => simp [hq] at hsz
 | some i =>
  have hi : i.size = 1 := by simpa [hq] using hsz
  simp [Instr.storeAt, Instr.sureAddr, storeVar, sizeOf, typeInfo, Sem.run_bind, hq, hi, Value.cells, hst]
end
section
variable {P : Program} {ops : Array Oper} {rest : List Oper} {o : Oper} {a : Act} {w w0 : World} {l : List (Nat × Obj)} {Q : Exit → Act → World → Prop} {t ty : TypeId} {k : IntKind} {n m : Nat}
theorem y1s {i : Nat} (hT : IsOne P ty k) (H : Hid (Ow w0 w l)) (hgd : o.guard = none) {x : Operand} (ho : o.op = .load ty x) {g j : Nat} (hx : a.eval x = .pointer (some ⟨g, j, none⟩)) {f : Nat → Int}
  (hi : l[i]? = some (g, zv t k n f)) (hj : j < n) (h : ∀ K : Act → World → Prop, (∀ a w, wpList P ops Q rest a w → K a w) → K (a.put o.dst (.int k (f j))) w) : wpList P ops Q (o :: rest) a w :=
 wpList_plain hgd fun K hK => by
  unfold Oper.wp execOp
  simp only [ho, hx, Sem.run_bind, y3w hT (H.out.row i hi) hj, Result.andThen_ok]
  exact h K hK
theorem z2z {i : Nat} (hT : IsOne P ty k) (H : Hid (Ow w0 w l)) (hgd : o.guard = none) {x y : Operand} (ho : o.op = .store ty x y) {g j : Nat} (hx : a.eval x = .pointer (some ⟨g, j, none⟩)) {v : Int} {f : Nat → Int} (hy : a.eval y = .int k v)
  (hi : l[i]? = some (g, zv t k n f)) (hj : j < n) (h : ∀ w', Hid (Ow w0 w' (l.set i (g, zv t k n (updZ f j v)))) → ∀ K : Act → World → Prop, (∀ a w, wpList P ops Q rest a w → K a w) → K (a.put o.dst undef) w') : wpList P ops Q (o :: rest) a w :=
 wpList_plain hgd fun K hK => by
  unfold Oper.wp execOp
  simp only [ho, hx, hy, Sem.run_bind, y7z hT (H.out.row i hi) hj v, Result.andThen_ok]
  exact h _ (za (H.out.setRow i hi _)) K hK
end
section
variable {P : Program} {ops : Array Oper} {rest : List Oper} {o : Oper} {a : Act} {w : World} {Q : Exit → Act → World → Prop} {t e : TypeId} {k kk : IntKind} {n m : Nat}
theorem z20 (hu : P.underlying t = some (.array n e)) (hE : IsOne P e k) (hgd : o.guard = none) {x y : Operand} (ho : o.op = .index t x y) {f : Nat → Int} (hx : a.eval x = .agg (AZ k n f)) {i : Nat} (hy : a.eval y = .int kk (i : Int)) (hi : i < n)
  (h : ∀ K : Act → World → Prop, (∀ a w, wpList P ops Q rest a w → K a w) → K (a.put o.dst (.int k (f i))) w) : wpList P ops Q (o :: rest) a w :=
 wpList_plain hgd fun K hK => by
  unfold Oper.wp execOp
  have e1 : (Instr.index t (.agg (AZ k n f)) (.int kk (i : Int))).run P w = .ok (.int k (f i)) w := by
   have hc : (0 : Int) ≤ (i : Int) ∧ (i : Int) < (n : Int) := ⟨by omega, by omega⟩
   cases hq : P.info? e with
   | none => have := hE.size; simp [hq] at this
   | some q =>
    have hs : q.size = 1 := by have := hE.size; simpa [hq] using this
    have hagg : (isAgg e).run P w = .ok false w := by
     unfold isAgg
     rw [Sem.run_bind, run_underlying hE.under w]
     rfl
    unfold Instr.index
    simp only [asIntOf, Sem.run_bind, Sem.run_pure, Result.andThen_ok, run_underlying hu w]
    rw [if_pos hc]
    simp [part, Sem.run_bind, hagg, sizeOf, typeInfo, hq, hs, z1c k n f i hi]
  simp only [ho, hx, hy, Sem.run_bind, e1, Result.andThen_ok]
  exact h K hK
theorem y1e (k : IntKind) (n : Nat) (f : Nat → Int) (o m : Nat) (h : o + m ≤ n) : (AZ k n f).extract o (o + m) = AZ k m fun i => f (o + i) := by
 apply Array.ext_getElem?
 intro j
 rw [Array.getElem?_extract]
 by_cases hj : j < m
 ·rw [z1c _ _ _ _ hj, z0j, if_pos (by omega), z1c _ _ _ _ (by omega)]
 ·rw [if_neg (by rw [z0j]; omega), Array.getElem?_eq_none (by rw [z0j]; omega)]
theorem own_index_row (hu : P.underlying t = some (.array n e)) (hE : IsRow P e m) (hgd : o.guard = none) {x y : Operand} (ho : o.op = .index t x y) {f : Nat → Int} {z : Nat} (hx : a.eval x = .agg (AZ k z f)) {i : Nat} (hy : a.eval y = .int kk (i : Int)) (hi : i < n) (hz : i * m + m ≤ z)
  (h : ∀ K : Act → World → Prop, (∀ a w, wpList P ops Q rest a w → K a w) → K (a.put o.dst (.agg (AZ k m fun j => f (i * m + j)))) w) : wpList P ops Q (o :: rest) a w :=
 wpList_plain hgd fun K hK => by
  unfold Oper.wp execOp
  have e1 : (Instr.index t (.agg (AZ k z f)) (.int kk (i : Int))).run P w = .ok (.agg (AZ k m fun j => f (i * m + j))) w := by
   have hc : (0 : Int) ≤ (i : Int) ∧ (i : Int) < (n : Int) := ⟨by omega, by omega⟩
   obtain ⟨d, hd, hd'⟩ := hE.under
   cases hq : P.info? e with
   | none => have := hE.size; simp [hq] at this
   | some q =>
    have hs : q.size = m := by have := hE.size; simpa [hq] using this
    have hagg : (isAgg e).run P w = .ok true w := by
     unfold isAgg
     rw [Sem.run_bind, run_underlying hd w]
     cases d <;> simp_all
    unfold Instr.index
    simp only [asIntOf, Sem.run_bind, Sem.run_pure, Result.andThen_ok, run_underlying hu w]
    rw [if_pos hc]
    simp [part, Sem.run_bind, hagg, sizeOf, typeInfo, hq, hs]
    exact y1e _ _ _ _ _ hz
  simp only [ho, hx, hy, Sem.run_bind, e1, Result.andThen_ok]
  exact h K hK
end
theorem z3g {P : Program} {f : FuncId} {fn : Func} {c : Code} (hf : P.funcs[f]? = some fn) (hname : (fn.name == "runtime.NumGoroutine") = false) (hb : fn.body = some c) (args : Array Value) (w : World) :
  (callFunc f args).run P w = .ok (.enter f args) w := by
 have h1 : fn.name ≠ "runtime.NumGoroutine" := by simpa using hname
 simp [callFunc, hf, h1, hb]
section
variable {P : Program} {w w0 : World} {l : List (Nat × Obj)} {t t' : TypeId} {k k' : IntKind} {n n' : Nat}
theorem z0c (i : Nat) (hT : IsRow P t n) {fn : Func} {p q : Tmp} (h : fn.results = #[.cell p t, .tmp q]) (tmps : Array Value) {g : Nat} {tb : TypeId} {f : Nat → Int} {v : Value}
  (H : Hid (Ow w0 w l)) (hi : l[i]? = some (g, zv tb k n f)) (hp : tmps.getD p undef = .pointer (some ⟨g, 0, none⟩)) (hq : tmps.getD q undef = v) : (results fn tmps).run P w = .ok (.tuple #[.agg (AZ k n f), v]) w := by
 obtain ⟨d, hd, hd'⟩ := hT.under
 have hr : w.heap[g]? = some (.cells (AZ k n f) tb) := H.out.row i hi
 have hp' : tmps[p]?.getD undef = .pointer (some ⟨g, 0, none⟩) := by simpa using hp
 have hq' : tmps[q]?.getD undef = v := by simpa using hq
 simp [results, h, hp', hq', asAddr, run_loadVar_row w g tb t _ (0, 0) d hr hd (by cases d <;> simp_all) (by rw [z0j]; exact hT.size)]
end
section
variable {P : Program} {md : Region.Mode} {ops : Array Oper} {Q : Exit → Act → World → Prop} {S : World → Prop} {fuel : Nat} {listed : Array Bool} {a : Act} {w : World} {t ty : TypeId} {k : IntKind} {n : Nat}
theorem zk (i : Nat) (d : Tmp) {oi : Oper} (hT : IsRow P ty n) (hi : ops[i]? = some oi) (hd : oi.dst = some d) (hw : Region.wanted oi (yielded ops a.tmps) = true) (hS : S w) {x : Operand} (ho : oi.op = .load ty x) {g : Nat} (hx : a.eval x = .pointer (some ⟨g, 0, none⟩))
  {f : Nat → Int} (hrow : ∀ w, S w → w.heap[g]? = some (zv t k n f))
  (h : wpAnyH P md ops (NoPanic Q) S fuel (listed.setIfInBounds i true) (a.put (some d) (.agg (AZ k n f))) w) (hs : Region.noSelect ops = true := by kernel_rfl) (hf : Region.free md ops listed i = true := by kernel_rfl) (hr : (Region.ready md ops listed).contains i = true := by kernel_rfl) : wpAnyH P md ops (NoPanic Q) S (fuel + 1) listed a w :=
 z0h i d (.agg (AZ k n f)) hi hd (hs := hs) (hf := hf) (hr := hr) hw hS (fun w hw' => by
  unfold execOp
  simp only [ho, hx, Sem.run_bind, z4i hT (hrow w hw'), Result.andThen_ok]
  rfl) h
end
section
variable {P : Program} {o : Oper} {a : Act} {w w0 : World} {l : List (Nat × Obj)} {K : Act → World → Prop} {Q : Exit → Act → World → Prop} {t ty : TypeId} {k : IntKind} {n : Nat}
theorem zl (i : Nat) (hT : IsRow P ty n) (H : Ow w0 w l) {x y : Operand} (ho : o.op = .store ty x y) {g : Nat} (hx : a.eval x = .pointer (some ⟨g, 0, none⟩)) {f f0 : Nat → Int} (hy : a.eval y = .agg (AZ k n f))
  (hi : l[i]? = some (g, zv t k n f0)) (h : ∀ w', Ow w0 w' (l.set i (g, zv t k n f)) → K (a.put o.dst undef) w') : o.wp P a w K Q := by
 unfold Oper.wp execOp
 have hs := z1m (o := 0) (g := f) hT (H.row i hi) (by omega)
 rw [z6j] at hs
 simp only [ho, hx, hy, Sem.run_bind, hs, Result.andThen_ok]
 exact h _ (H.setRow i hi f)
end
theorem zeroF : AZ .i64 16 (fun _ => 0) = #[.int .i64 0, .int .i64 0, .int .i64 0, .int .i64 0, .int .i64 0, .int .i64 0, .int .i64 0, .int .i64 0, .int .i64 0, .int .i64 0, .int .i64 0, .int .i64 0, .int .i64 0, .int .i64 0, .int .i64 0, .int .i64 0] := by
 unfold AZ
 rfl
theorem zA : IsInts Tryz.prog 36 .i64 16 :=
 ⟨⟨_, Tryz.underlying36⟩, by kernel_rfl, fun w => by rw [zeroF]; exact Tryz.zeroValue36 w⟩
def pF (i : Nat) : Int := if i = 8 then 268435454 else 268435455
def mixZ (i : Nat) (f g : Nat → Int) : Nat → Int := fun k => if k < i then f k else g k
theorem z22 (f g : Nat → Int) : mixZ 0 f g = g := by funext k; simp [mixZ]
theorem y1v (i : Nat) (f g : Nat → Int) : mixZ i f g i = g i := by simp [mixZ]
theorem z2i (i : Nat) (f g : Nat → Int) : updZ (mixZ i f g) i (f i) = mixZ (i + 1) f g := by
 funext k
 unfold updZ mixZ
 by_cases e : k = i
 ·subst e; simp
 ·by_cases h : k < i
  ·rw [if_neg e, if_pos h, if_pos (by omega)]
  ·rw [if_neg e, if_neg h, if_neg (by omega)]
theorem z3v (n : Nat) (f g : Nat → Int) (k : Nat) (h : k < n) : mixZ n f g k = f k := by simp [mixZ, h]
theorem z7g (w : World) : Calls Tryz.prog 125 #[] w fun e w' => e = .returned (.agg (AZ .i64 16 pF)) ∧ Below w.heap.size w w' := by
 go_enter Tryz.func125, Tryz.ntmps125
 go_wp2_with (first
  | ((fail_if_success have := R1); (with_reducible apply z4x zA); (case hgd | ho => exact rfl); intro w1 g1 E1 R1 B1 _ _; go_simp)
  | ((with_reducible apply z4x zA); (case hgd | ho => exact rfl); intro w2 g2 E2 R2 B2 _ _; go_simp))
 have hg : g1 < g2 := by rw [E2.out]; exact R1.out.lt
 have hb : Below w.heap.size w w2 := by
  have h1 := B1.out
  have h2 := B2.out
  rw [E1.out] at h1
  exact h1.trans (h2.mono (by rw [E2.out]; exact h1.size))
 have hs : w.heap.size ≤ g1 := by rw [E1.out]; exact Nat.le_refl _
 have M1 := za (R1.out.below B2.out hg)
 have MB := za hb
 clear hb B1 B2 R1
 go_loopw [2] (fun v wr => ∃ i : Nat, i ≤ 16 ∧ v = .int .i64 i ∧ RowZ wr g2 36 .i64 16 (mixZ i (fun _ => 268435455) fun _ => 0) ∧ RowZ wr g1 36 .i64 16 (fun _ => 0) ∧ Below w.heap.size w wr) (fun v _ => 16 - (intOf v).toNat)
 case atStart => exact ⟨0, by omega, rfl, by rw [z22]; exact R2.out, M1.out, MB.out⟩
 case round =>
  clear M1 MB R2
  obtain ⟨i, hi, rfl, HR, H0, HB⟩ := hrel
  by_cases hlt : i < 16
  ·have hid : decide ((i : Int) < 16) = true := by simp; omega
   have iN : (i : Int) < 16 := by omega
   have hc := HR.cell i hlt
   have hz := HR.thaw i
   have H1 := za HR
   have H2 := za H0
   have H3 := za HB
   clear HR H0 HB
   go_wp2_with fail
   go_roundw
   case rel =>
    refine ⟨i + 1, by omega, by go_num, ?_, H2.out.other _ _ _ (Nat.ne_of_lt hg), H3.out.setCell (show w.heap.size ≤ g2 by omega) _⟩
    have h := H1.out.setCell i 268435455
    rw [z2i i (fun _ => 268435455)] at h
    exact h
   case measure => simp [intOf]; omega
  ·obtain rfl : i = 16 := by omega
   clear hlt hi
   rw [show ((16 : Nat) : Int) = 16 from rfl]
   have hc := HR.cell 8 (by omega)
   have hz := HR.thaw 8
   have H1 : Hid (RowZ (wr.setCell ⟨g2, 8, none⟩ (.int .i64 268435454)) g2 36 .i64 16 pF) := za ((HR.setCell 8 268435454).congr fun k hk => by
    unfold updZ pF
    rw [z3v _ _ _ _ hk])
   have H2 := za (H0.other g2 8 (.int .i64 268435454) (Nat.ne_of_lt hg))
   have H3 := za (HB.setCell (p := ⟨g2, 8, none⟩) (show w.heap.size ≤ g2 by omega) (.int .i64 268435454))
   clear HR H0 HB
   go_wp2_with (first
    | ((with_reducible apply z7p zA); (case hgd | ho | hx => exact rfl); (case hg => exact H1.out); intro _ _; go_simp)
    | ((with_reducible apply z4w zA); (case hgd | ho | hx | hy => exact rfl); (case hg => exact H2.out); intro w5 R5 B5 A5 _ _; go_simp))
   refine bodyPost_ret (z65 zA rfl _ _ _ rfl R5.out) rfl ⟨rfl, H3.out.trans (B5.out.mono hs)⟩
def z5l (f : Nat → Int) : Nat → Bool
 | 0 => false
 | K + 1 => if f K = pF K then z5l f K else decide (f K < pF K)
theorem y5w (f : Nat → Int) (w : World) : Calls Tryz.prog 167 #[.agg (AZ .i64 16 f)] w fun e w' => e = .returned (.bool (z5l f 16)) ∧ Below w.heap.size w w' := by
 go_enter Tryz.func167, Tryz.ntmps167
 go_wp2_with (first
  | ((with_reducible apply y5z); (case hgd | ho | hx => exact rfl); intro w1 g1 E1 R1 B1 _ _; go_simp)
  | ((with_reducible refine (z7g _).mono ?_); rintro e w2 ⟨rfl, B2⟩; have B2 := za B2)
  | ((with_reducible apply z4x zA); (case hgd | ho => exact rfl); intro w3 g3 E3 R3 B3 _ _; go_simp)
  | ((with_reducible apply z4w zA); (case hgd | ho | hx | hy => exact rfl); (case hg => exact R3.out); intro w4 R4 B4 A4 _ _; go_simp))
 have hs1 := B1.out.size
 have hs2 := B2.out.size
 have hl1 := R1.out.lt
 have M1 := za (((R1.out.below B2.out R1.out.lt).below B3.out (by rw [E3.out]; omega)).below B4.out (by rw [E3.out]; omega))
 have MB : Hid (Below w.heap.size w w4) := za (by
  have h1 := B1.out
  rw [E1.out] at h1
  exact h1.trans ((B2.out.mono (by omega)).trans ((B3.out.mono (by rw [E3.out]; omega)).trans (B4.out.mono (by rw [E3.out]; omega)))))
 clear hs1 hs2 hl1 R1 R3 B1 B2 B3 B4 A4 E1 E3
 go_loopw [4] (fun v wr => ∃ K : Nat, K ≤ 16 ∧ v = .int .i64 ((K : Int) - 1) ∧ z5l f 16 = z5l f K ∧ RowZ wr g1 36 .i64 16 f ∧ RowZ wr g3 36 .i64 16 pF ∧ Below w.heap.size w wr) (fun v _ => (intOf v + 1).toNat)
 case atStart => exact ⟨16, Nat.le_refl _, rfl, rfl, M1.out, R4.out, MB.out⟩
 case round =>
  clear M1 R4 MB
  obtain ⟨K, hK, rfl, hL, H1, H3, HB⟩ := hrel
  rcases Nat.eq_zero_or_pos K with h0 | h0
  ·subst h0
   have He := za hL
   have H2 := za HB
   clear hL H1 H3 HB
   go_wp2_with fail
   go_ret
   exact ⟨by rw [He.out]; rfl, H2.out⟩
  ·obtain ⟨i, rfl⟩ : ∃ i, K = i + 1 := ⟨K - 1, by omega⟩
   have e : (((i + 1 : Nat) : Int) - 1) = (i : Int) := by omega
   rw [e]
   have hi0 : (0 : Int) ≤ (i : Int) := by omega
   have i16 : (i : Int) < 16 := by omega
   have i16' : i < 16 := by omega
   have G1 := za H1
   have G3 := za H3
   have GB := za HB
   rw [show z5l f (i + 1) = (if f i = pF i then z5l f i else decide (f i < pF i)) from rfl] at hL
   clear e h0 H1 H3 HB
   go_wp2_with fail
   refine wp_region_still_lit (by kernel_rfl) (by kernel_rfl) ?_
   change wpStill _ _ wr.drew (fun a' => Exit.then _ _ Exit.normal a' wr.drew) _ _
   have D1 := za G1.out.drew
   have D3 := za G3.out.drew
   have DB := za (Below.drew GB.out)
   clear G1 G3 GB
   generalize wr.drew = w5 at *
   have hc1 := D1.out.cell i i16'
   have hc3 := D3.out.cell i i16'
   have HX := za (fun (x y : Int) (hx : f i = x) (hy : pF i = y) => hL.trans (by rw [hx, hy]))
   obtain ⟨x, hx⟩ : ∃ x, f i = x := ⟨_, rfl⟩
   obtain ⟨y, hy⟩ : ∃ y, pF i = y := ⟨_, rfl⟩
   have HL := za (HX.out x y hx hy)
   rw [hx] at hc1
   rw [hy] at hc3
   clear HX hL hx hy
   by_cases hxy : x = y
   ·have t1 : (x != y) = false := by simpa using hxy
    have Hx := za hxy
    clear hxy
    iterate 7 still_step
    refine wpStill_nil ?_
    go_wp2_with fail
    go_round
    case rel => exact ⟨i, by omega, by go_num, by have := HL.out; rw [if_pos Hx.out] at this; exact this, D1.out, D3.out, DB.out⟩
    case measure => (simp [intOf] <;> omega)
   ·have t1 : (x != y) = true := by simpa using hxy
    have Hx := za hxy
    clear hxy
    iterate 7 still_step
    refine wpStill_nil ?_
    go_wp2_with fail
    refine wp_region_still_lit (by kernel_rfl) (by kernel_rfl) ?_
    change wpStill _ _ w5.drew (fun a' => Exit.then _ _ Exit.normal a' w5.drew) _ _
    have hc1 : w5.drew.cell? ⟨g1, i, none⟩ = some (.int .i64 x) := hc1
    have hc3 : w5.drew.cell? ⟨g3, i, none⟩ = some (.int .i64 y) := hc3
    have DC := za (Below.drew DB.out)
    clear D1 D3 DB
    generalize w5.drew = w6 at *
    iterate 8 still_step
    refine wpStill_nil ?_
    go_wp2_with fail
    go_ret
    exact ⟨by have := HL.out; rw [if_neg Hx.out] at this; rw [this]; rfl, DC.out⟩
def val (f : Nat → Int) : Nat → Int
 | 0 => 0
 | n + 1 => val f n + f n * 268435456 ^ n
def pZ : Int := 726838724295606890549323807888004534353641360687318060281490199180612328166730772686396383698676545930088884461843637361053498018365439
theorem z9j {f g : Nat → Int} : ∀ n, (∀ i, i < n → f i = g i) → val f n = val g n
 | 0, _ => rfl
 | n + 1, h => by
  unfold val
  rw [z9j n fun i hi => h i (by omega), h n (by omega)]
theorem val_add (f g : Nat → Int) : ∀ n, val (fun i => f i + g i) n = val f n + val g n
 | 0 => rfl
 | n + 1 => by
  unfold val
  rw [val_add f g n, Int.add_mul]
  omega
theorem y3s (f g : Nat → Int) : ∀ n, val (fun i => f i - g i) n = val f n - val g n
 | 0 => rfl
 | n + 1 => by
  unfold val
  rw [y3s f g n, Int.sub_mul]
  omega
theorem z5o (f : Nat → Int) (i : Nat) (v : Int) : ∀ n, i < n → val (updZ f i v) n = val f n + (v - f i) * 268435456 ^ i
 | 0, h => by omega
 | n + 1, h => by
  unfold val
  by_cases e : i = n
  ·subst e
   rw [z9j (g := f) i fun k hk => by unfold updZ; rw [if_neg (by omega)], show updZ f i v i = v by simp [updZ], Int.sub_mul]
   omega
  ·rw [z5o f i v n (by omega), show updZ f i v n = f n by unfold updZ; rw [if_neg (by omega)]]
   omega
theorem val_p : val pF 16 = pZ := by decide +kernel
def ovZ (f : Nat → Int) : Nat → Int
 | 0 => 0
 | i + 1 => (f i + ovZ f i) / 268435456
def dgZ (f : Nat → Int) (i : Nat) : Int := (f i + ovZ f i) % 268435456
theorem z8t (f : Nat → Int) (i : Nat) : 0 ≤ dgZ f i ∧ dgZ f i < 268435456 := by
 unfold dgZ
 omega
theorem z82 (f : Nat → Int) : ∀ n, val f n = val (dgZ f) n + ovZ f n * 268435456 ^ n
 | 0 => by simp [val, ovZ]
 | n + 1 => by
  have ih := z82 f n
  have e : f n = dgZ f n + 268435456 * ovZ f (n + 1) - ovZ f n := by
   show f n = (f n + ovZ f n) % 268435456 + 268435456 * ((f n + ovZ f n) / 268435456) - ovZ f n
   omega
  unfold val
  rw [ih, Int.pow_succ]
  generalize (268435456 : Int) ^ n = B at *
  rw [e, Int.sub_mul, Int.add_mul, Int.mul_comm 268435456 (ovZ f (n + 1)), Int.mul_assoc, Int.mul_comm 268435456 B]
  omega
theorem z9k {f : Nat → Int} (h : ∀ i, 0 ≤ f i ∧ f i < 268435456) : ∀ n, 0 ≤ val f n ∧ val f n < 268435456 ^ n
 | 0 => by simp [val]
 | n + 1 => by
  have ih := z9k h n
  have hn := h n
  unfold val
  rw [Int.pow_succ]
  have hB : (0 : Int) < 268435456 ^ n := Int.pow_pos (by omega)
  generalize (268435456 : Int) ^ n = B at *
  have h1 : 0 ≤ f n * B := Int.mul_nonneg hn.1 (by omega)
  have h2 : f n * B ≤ 268435455 * B := Int.mul_le_mul_of_nonneg_right (by omega) (by omega)
  omega
def z7i (f : Nat → Int) : Nat → Int := updZ (updZ (dgZ f) 0 (dgZ f 0 + ovZ f 16)) 8 (dgZ f 8 + ovZ f 16)
theorem y0m (f : Nat → Int) : val (z7i f) 16 = val f 16 - ovZ f 16 * pZ := by
 unfold z7i
 rw [z5o _ _ _ _ (by omega), z5o _ _ _ _ (by omega), show updZ (dgZ f) 0 (dgZ f 0 + ovZ f 16) 8 = dgZ f 8 from rfl, z82 f 16]
 rw [show pZ = 268435456 ^ 16 - 268435456 ^ 8 - 1 from rfl]
 generalize ovZ f 16 = o
 generalize val (dgZ f) 16 = v
 rw [show (268435456 : Int) ^ 0 = 1 from rfl, Int.mul_one, Int.mul_sub, Int.mul_sub, Int.mul_one, show dgZ f 0 + o - dgZ f 0 = o by omega, show dgZ f 8 + o - dgZ f 8 = o by omega]
 generalize (268435456 : Int) ^ 16 = x
 generalize (268435456 : Int) ^ 8 = y
 generalize o * x = a
 generalize o * y = b
 omega
theorem y5v {f : Nat → Int} (h : ∀ i, 0 ≤ f i ∧ f i < 268435456) : ∀ n, z5l f n = true ↔ val f n < val pF n
 | 0 => by simp [z5l, val]
 | n + 1 => by
  have ih := y5v h n
  have b1 := z9k h n
  have hp : ∀ i, 0 ≤ pF i ∧ pF i < 268435456 := fun i => by unfold pF; split <;> omega
  have b2 := z9k hp n
  rw [show z5l f (n + 1) = (if f n = pF n then z5l f n else decide (f n < pF n)) from rfl]
  unfold val
  have hB : (0 : Int) < 268435456 ^ n := Int.pow_pos (by omega)
  generalize (268435456 : Int) ^ n = B at *
  generalize pF n = q at *
  by_cases e : f n = q
  ·rw [if_pos e, ih, e]
   omega
  ·rw [if_neg e, decide_eq_true_eq]
   constructor
   ·intro hlt
    have := Int.mul_le_mul_of_nonneg_right (show f n + 1 ≤ q by omega) (show 0 ≤ B by omega)
    rw [Int.add_mul, Int.one_mul] at this
    omega
   ·intro hlt
    rcases (by omega : f n < q ∨ q < f n) with h1 | h1
    ·exact h1
    ·have := Int.mul_le_mul_of_nonneg_right (show q + 1 ≤ f n by omega) (show 0 ≤ B by omega)
     rw [Int.add_mul, Int.one_mul] at this
     omega
def Fine (f : Nat → Int) : Prop := ∀ i, i < 16 → -4611686018427387904 ≤ f i ∧ f i ≤ 4611686018427387904
theorem y5k {f : Nat → Int} (h : Fine f) : ∀ i, i ≤ 16 → -17179869400 ≤ ovZ f i ∧ ovZ f i ≤ 17179869400
 | 0, _ => by simp [ovZ]
 | i + 1, hi => by
  have ih := y5k h i (by omega)
  have hf := h i (by omega)
  show -17179869400 ≤ (f i + ovZ f i) / 268435456 ∧ (f i + ovZ f i) / 268435456 ≤ 17179869400
  omega
theorem passed_fine {f : Nat → Int} (h : Fine f) : Fine (z7i f) := by
 intro i hi
 have ho := y5k h 16 (by omega)
 have h0 := z8t f 0
 have h8 := z8t f 8
 have hi := z8t f i
 unfold z7i updZ
 split
 ·omega
 ·split <;> omega
theorem passed_done {f : Nat → Int} (h : ovZ f 16 = 0) : z7i f = dgZ f := by
 funext k
 unfold z7i updZ
 rw [h]
 split
 ·rename_i e; rw [e]; omega
 ·split
  ·rename_i e; rw [e]; omega
  ·rfl
theorem y0z {f : Nat → Int} (h : 0 ≤ val f 16) : 0 ≤ ovZ f 16 := by
 have h1 := z82 f 16
 have h2 := (z9k (z8t f) 16).2
 rcases (by omega : 0 ≤ ovZ f 16 ∨ ovZ f 16 ≤ -1) with h3 | h3
 ·exact h3
 ·exfalso
  have hB : (0 : Int) < 268435456 ^ 16 := Int.pow_pos (by omega)
  generalize (268435456 : Int) ^ 16 = B at *
  have := Int.mul_le_mul_of_nonneg_right h3 (show 0 ≤ B by omega)
  omega
theorem pZ_pos : 1 ≤ pZ := by decide
theorem passed_nonneg {f : Nat → Int} (h : 0 ≤ val f 16) : 0 ≤ val (z7i f) 16 := by
 have h1 := z82 f 16
 have h2 := (z9k (z8t f) 16).1
 have h3 := y0z h
 rw [y0m]
 have hp : pZ ≤ 268435456 ^ 16 := by decide +kernel
 generalize (268435456 : Int) ^ 16 = B at *
 have h4 := Int.mul_le_mul_of_nonneg_left hp h3
 omega
theorem step_tmod (n : Int) : (n.tmod 268435456 < 0 ∧ n.tmod 268435456 + 268435456 = n % 268435456) ∨ (0 ≤ n.tmod 268435456 ∧ n.tmod 268435456 = n % 268435456) := by
 rcases (by omega : 0 ≤ n ∨ n < 0) with h | h
 ·right
  rw [Int.tmod_eq_emod_of_nonneg h]
  omega
 ·obtain ⟨m, rfl⟩ : ∃ m : Int, n = -m := ⟨-n, by omega⟩
  rw [Int.neg_tmod, Int.tmod_eq_emod_of_nonneg (by omega)]
  omega
theorem step_tdiv (n : Int) : (n - n % 268435456).tdiv 268435456 = n / 268435456 ∧ (n - n % 268435456) / 268435456 = n / 268435456 := by
 have e : n - n % 268435456 = n / 268435456 * 268435456 := by omega
 constructor
 ·rw [e, Int.mul_tdiv_cancel _ (by omega)]
 ·omega
theorem updZ_updZ (f : Nat → Int) (i : Nat) (u v : Int) : updZ (updZ f i u) i v = updZ f i v := by
 funext k
 unfold updZ
 split <;> rfl
theorem y7g (f : Nat → Int) (i : Nat) (v : Int) : updZ f i v i = v := by simp [updZ]
def dF (x i : Nat) : Int := ((x / 268435456 ^ i % 268435456 : Nat) : Int)
abbrev FV (x : Nat) : Value := .agg (AZ .i64 16 (dF x))
theorem z8i (x i : Nat) : 0 ≤ dF x i ∧ dF x i < 268435456 := by unfold dF; omega
theorem canon {f : Nat → Int} (h : ∀ i, 0 ≤ f i ∧ f i < 268435456) : ∀ (n x : Nat), val f n = (x : Int) → ∀ i, i < n → f i = dF x i
 | 0, _, _, _, hi => by omega
 | n + 1, x, hx, i, hi => by
  have hb := z9k h n
  have hn := h n
  obtain ⟨v, hv⟩ : ∃ v : Nat, val f n = (v : Int) := ⟨(val f n).toNat, by omega⟩
  obtain ⟨d, hd⟩ : ∃ d : Nat, f n = (d : Int) := ⟨(f n).toNat, by omega⟩
  have hvB : v < 268435456 ^ n := by
   have := hb.2
   rw [hv] at this
   exact Int.ofNat_lt.1 (by rw [Int.natCast_pow]; exact this)
  have hxe : x = v + 268435456 ^ n * d := by
   have := hx
   unfold val at this
   rw [hv, hd] at this
   have h2 : (((v + 268435456 ^ n * d : Nat)) : Int) = (x : Int) := by
    rw [← this, Int.natCast_add, Int.natCast_mul, Int.natCast_pow, Int.mul_comm (d : Int)]
    rfl
   exact (Int.ofNat_inj.1 h2).symm
  by_cases e : i = n
  ·subst e
   have hpos : 0 < 268435456 ^ i := Nat.pow_pos (by omega)
   unfold dF
   rw [hxe, Nat.add_mul_div_left _ _ hpos, Nat.div_eq_of_lt hvB, Nat.zero_add, hd]
   omega
  ·have ih := canon h n v hv i (by omega)
   rw [ih]
   obtain ⟨k, rfl⟩ : ∃ k, n = i + (k + 1) := ⟨n - i - 1, by omega⟩
   have hpos : 0 < 268435456 ^ i := Nat.pow_pos (by omega)
   unfold dF
   congr 1
   rw [hxe, Nat.pow_add, Nat.mul_assoc, Nat.add_mul_div_left _ _ hpos, Nat.pow_succ, Nat.mul_comm (268435456 ^ k), Nat.mul_assoc, Nat.add_mul_mod_self_left]
theorem FV_of {f : Nat → Int} (h : ∀ i, 0 ≤ f i ∧ f i < 268435456) {x : Nat} (hx : val f 16 = (x : Int)) : Value.agg (AZ .i64 16 f) = FV x :=
 congrArg Value.agg (z1w fun i hi => canon h 16 x hx i hi)
theorem y7f (x : Nat) : ∀ n, val (dF x) n = ((x % 268435456 ^ n : Nat) : Int)
 | 0 => by simp [val, Nat.mod_one]
 | n + 1 => by
  unfold val
  rw [y7f x n, Nat.pow_succ, Nat.mod_mul, Int.natCast_add, Int.natCast_mul, Int.natCast_pow]
  unfold dF
  rw [Int.mul_comm]
  rfl
theorem mod_p {a b q : Int} (h : a = b + q * pZ) (h0 : 0 ≤ b) (h1 : b < pZ) : a % pZ = b := by
 rw [h, Int.add_mul_emod_self_right, Int.emod_eq_of_lt h0 h1]
theorem y2x (f : Nat → Int) (w : World) (hf : Fine f) (h0 : 0 ≤ val f 16)
  (HI : pZ ≤ val f 16 → ∀ g w, Fine g → 0 ≤ val g 16 → val g 16 < pZ → Calls Tryz.prog 118 #[.agg (AZ .i64 16 g)] w fun e w' => e = .returned (FV (val g 16 % pZ).toNat) ∧ Below w.heap.size w w') :
  Calls Tryz.prog 118 #[.agg (AZ .i64 16 f)] w fun e w' => e = .returned (FV (val f 16 % pZ).toNat) ∧ Below w.heap.size w w' := by
 have HII := za HI
 clear HI
 go_enter Tryz.func118, Tryz.ntmps118
 go_wp2_with (first
  | ((with_reducible apply y5z); (case hgd | ho | hx => exact rfl); intro w1 g1 E1 R1 B1 _ _; go_simp)
  | ((with_reducible apply z4x zA); (case hgd | ho => exact rfl); intro w2 g2 E2 R2 B2 _ _; go_simp))
 have hg : g1 < g2 := by rw [E2.out]; exact R1.out.lt
 have hb : Below w.heap.size w w2 := by
  have h1 := B1.out
  have h2 := B2.out
  rw [E1.out] at h1
  exact h1.trans (h2.mono (by rw [E2.out]; exact h1.size))
 have hs : w.heap.size ≤ g1 := by rw [E1.out]; exact Nat.le_refl _
 have M1 := za (R1.out.below B2.out hg)
 have MB := za hb
 have HF := za hf
 have H0 := za h0
 clear hb B1 B2 R1 hf h0
 go_loopg [3] ((2 * val f 16 + 1).toNat) (fun gk v3 wr => ∃ g o, v3 = .int .i64 o ∧ (2 * val g 16 + (if o = 0 then 0 else 1)).toNat ≤ gk ∧ 0 ≤ val g 16 ∧ val g 16 ≤ val f 16 ∧ (∃ q, val f 16 = val g 16 + q * pZ) ∧ Fine g ∧ (0 ≤ o ∧ o ≤ 17179869400) ∧ (o = 0 → ∀ i, 0 ≤ g i ∧ g i < 268435456) ∧ RowZ wr g1 36 .i64 16 g ∧ RowZ wr g2 36 .i64 16 (fun _ => 0) ∧ Below w.heap.size w wr)
 case atStart => exact ⟨f, 1, rfl, by simp, H0.out, Int.le_refl _, ⟨0, by omega⟩, HF.out, by omega, fun h => by omega, M1.out, R2.out, MB.out⟩
 case round =>
  clear M1 MB R2
  obtain ⟨g, o, rfl, hgk, hv0, hvf, hq, hgf, ⟨ho0, ho1⟩, hcan, HR, HZ, HB⟩ := hrel
  by_cases hz : o = 0
  ·subst hz
   have hb := z9k (f := g) (fun i => hcan rfl i) 16
   have hBp : (268435456 : Int) ^ 16 ≤ 2 * pZ := by decide +kernel
   have hlv := y5v (f := g) (fun i => hcan rfl i) 16
   rw [val_p] at hlv
   have HC := za (hcan rfl)
   have G1 := za HR
   have G2 := za HZ
   have GB := za HB
   have HG := za hgf
   have HQ := za hq
   have HVF := za hvf
   have HV := za hv0
   have HB16 := za (Int.lt_of_lt_of_le hb.2 hBp)
   have d1 : ((0 : Int) != 0) = false := rfl
   clear hcan hgk hv0 hvf hq hgf HR HZ HB ho0 ho1 hb hBp HF H0
   by_cases hl : z5l g 16 = true
   ·have hvp := za (hlv.1 hl)
    have HL := za hl
    clear hlv hl
    go_wp2_with (first
     | ((with_reducible apply z7p zA); (case hgd | ho | hx => exact rfl); (case hg => exact G1.out); intro _ _; go_simp)
     | ((with_reducible refine (y5w g _).mono ?_); rw [HL.out]; rintro e w4 ⟨rfl, B4⟩; have G1 := za (G1.out.below B4 G1.out.lt); have G2 := za (G2.out.below B4 G2.out.lt); have GB := za (GB.out.trans (B4.mono GB.out.size)); clear B4)
     | ((with_reducible apply z4w zA); (case hgd | ho | hx | hy => exact rfl); (case hg => exact G2.out); intro w5 R5 B5 A5 _ _; go_simp))
    refine bodyPost_ret (z65 zA rfl _ _ _ rfl R5.out) rfl ⟨?_, GB.out.trans (B5.out.mono (Nat.le_trans hs (Nat.le_of_lt hg)))⟩
    obtain ⟨q, hq⟩ := HQ.out
    have e := mod_p hq HV.out hvp.out
    rw [e]
    have hv := HV.out
    exact congrArg Ending.returned (FV_of HC.out (by omega))
   ·have hl' : z5l g 16 = false := by simpa using hl
    have hvp := za (show pZ ≤ val g 16 by
     rcases (by omega : pZ ≤ val g 16 ∨ val g 16 < pZ) with h | h
     ·exact h
     ·exact absurd (hlv.2 h) hl)
    have HL := za hl'
    clear hlv hl hl'
    go_wp2_with (first
     | ((with_reducible apply z7p zA); (case hgd | ho | hx => exact rfl); (case hg => exact G1.out); intro _ _; go_simp)
     | ((with_reducible refine (y5w g _).mono ?_); rw [HL.out]; rintro e w4 ⟨rfl, B4⟩; have G1 := za (G1.out.below B4 G1.out.lt); have G2 := za (G2.out.below B4 G2.out.lt); have GB := za (GB.out.trans (B4.mono GB.out.size)); clear B4)
     | ((with_reducible refine (z7g _).mono ?_); rintro e w5 ⟨rfl, B5⟩; have G1 := za (G1.out.below B5 G1.out.lt); have G2 := za (G2.out.below B5 G2.out.lt); have GB := za (GB.out.trans (B5.mono GB.out.size)); clear B5)
     | ((with_reducible apply z4x zA); (case hgd | ho => exact rfl); intro w6 g6 E6 R6 B6 _ _; go_simp)
     | ((with_reducible apply z4w zA); (case hgd | ho | hx | hy => exact rfl); (case hg => exact R6.out); intro w7 R7 B7 A7 _ _; go_simp))
    have n16 : g1 < g6 := by rw [E6.out]; exact G1.out.lt
    have n26 : g2 < g6 := by rw [E6.out]; exact G2.out.lt
    have G1' := za ((G1.out.below B6.out n16).below B7.out n16)
    have G2' := za ((G2.out.below B6.out n26).below B7.out n26)
    have GB' : Hid (Below w.heap.size w w7) := za (by
     have h6 := B6.out
     have h7 := B7.out
     rw [E6.out] at h6 h7
     exact (GB.out.trans (h6.mono GB.out.size)).trans (h7.mono GB.out.size))
    clear G1 G2 GB B6 B7 A7 R6 E6
    go_loopw [7] (fun v wr => ∃ i : Nat, i ≤ 16 ∧ v = .int .i64 i ∧ RowZ wr g1 36 .i64 16 (mixZ i (fun k => g k - pF k) g) ∧ RowZ wr g2 36 .i64 16 (fun _ => 0) ∧ RowZ wr g6 36 .i64 16 pF ∧ Below w.heap.size w wr) (fun v _ => 16 - (intOf v).toNat)
    case atStart => exact ⟨0, by omega, rfl, by rw [z22]; exact G1'.out, G2'.out, R7.out, GB'.out⟩
    case round =>
     clear G1' G2' GB' R7
     obtain ⟨i, hi, rfl, HR, HZ, HP, HB⟩ := hrel
     by_cases hlt : i < 16
     ·have hid : decide ((i : Int) < 16) = true := by simp; omega
      have i16 : (i : Int) < 16 := by omega
      have H1 := za HR
      have H2 := za HZ
      have H3 := za HP
      have H4 := za HB
      clear HR HZ HP HB
      go_wp2_with fail
      refine wp_region_still_tail 9 (by kernel_rfl) (by kernel_rfl) ?_
      change wpStill _ _ wr.drew (fun a' => wpList _ _ _ _ a' wr.drew) _ _
      have D1 := za H1.out.drew
      have D2 := za H2.out.drew
      have D3 := za H3.out.drew
      have D4 := za (Below.drew H4.out)
      clear H1 H2 H3 H4
      generalize wr.drew = w8 at *
      have hc1 := D1.out.cell i hlt
      rw [y1v] at hc1
      have hc2 := D3.out.cell i hlt
      have hz := D1.out.thaw i
      have bg := HC.out i
      have bp : 0 ≤ pF i ∧ pF i < 268435456 := by unfold pF; split <;> omega
      have U1 := za (D1.out.setCell i (g i - pF i))
      have e := z2i i (fun k => g k - pF k) g
      obtain ⟨x, hx⟩ : ∃ x, g i = x := ⟨_, rfl⟩
      obtain ⟨y, hy⟩ : ∃ y, pF i = y := ⟨_, rfl⟩
      rw [e] at U1
      rw [hx] at hc1 bg
      rw [hy] at hc2 bp
      rw [hx, hy] at U1
      clear e
      obtain ⟨b1, b2⟩ := bg
      obtain ⟨b3, b4⟩ := bp
      clear hx hy
      simp only [List.take_succ_cons, List.take_zero, List.drop_succ_cons, List.drop_zero]
      iterate 9 still_step
      refine wpStill_nil ?_
      go_wp2_with fail
      go_roundw
      case rel => exact ⟨i + 1, by omega, by go_num, U1.out, D2.out.other g1 i _ (Nat.ne_of_gt hg), D3.out.other g1 i _ (Nat.ne_of_gt n16), D4.out.setCell (p := ⟨g1, i, none⟩) hs _⟩
      case measure => simp [intOf]; omega
     ·obtain rfl : i = 16 := by omega
      clear hlt hi
      rw [show ((16 : Nat) : Int) = 16 from rfl]
      have H1 := za (HR.congr (f' := fun k => g k - pF k) fun k hk => z3v _ _ _ _ hk)
      have H2 := za HZ
      have H4 := za HB
      clear HR HZ HP HB
      have hv : val (fun k => g k - pF k) 16 = val g 16 - pZ := by rw [y3s, val_p]
      have hvp' := hvp.out
      have hv16 := HB16.out
      have hpp := pZ_pos
      have hfine : Fine (fun k => g k - pF k) := fun k _ => by
       have h1 := HC.out k
       have h2 : 0 ≤ pF k ∧ pF k < 268435456 := by unfold pF; split <;> omega
       show _ ≤ g k - pF k ∧ g k - pF k ≤ _
       omega
      have HN := za (fun w => HII.out (Int.le_trans hvp.out HVF.out) (fun k => g k - pF k) w hfine (by omega) (by omega))
      have HE : Hid ((val (fun k => g k - pF k) 16 % pZ).toNat = (val f 16 % pZ).toNat) := za (by
       obtain ⟨q, hq⟩ := HQ.out
       rw [hv, mod_p (a := val g 16 - pZ) (b := val g 16 - pZ) (q := 0) (by omega) (by omega) (by omega)]
       rw [mod_p (a := val f 16) (b := val g 16 - pZ) (q := q + 1) (by rw [Int.add_mul]; omega) (by omega) (by omega)])
      clear hv hvp' hv16 hpp hfine
      go_wp2_with (first
       | ((with_reducible apply z7p zA); (case hgd | ho | hx => exact rfl); (case hg => exact H1.out); intro _ _; go_simp)
       | ((with_reducible refine (HN.out _).mono ?_); rw [HE.out]; rintro e w9 ⟨rfl, B9⟩; have H2 := za (H2.out.below B9 H2.out.lt); have H4 := za (H4.out.trans (B9.mono H4.out.size)); clear B9; unfold FV)
       | ((with_reducible apply z4w zA); (case hgd | ho | hx | hy => exact rfl); (case hg => exact H2.out); intro w10 R10 B10 A10 _ _; go_simp))
      exact bodyPost_ret (z65 zA rfl _ _ _ rfl R10.out) rfl ⟨rfl, H4.out.trans (B10.out.mono (Nat.le_trans hs (Nat.le_of_lt hg)))⟩
  ·have d1 : (o != 0) = true := by simpa using hz
   have hgo : ∃ go, gk = go + 1 := ⟨gk - 1, by rw [if_neg hz] at hgk; omega⟩
   obtain ⟨go, rfl⟩ := hgo
   rw [if_neg hz] at hgk
   have HK := za hgk
   have HV := za hv0
   have HVF := za hvf
   have HQ := za hq
   have HG := za hgf
   have G1 := za HR
   have G2 := za HZ
   have GB := za HB
   clear hcan hgk hv0 hvf hq hgf HR HZ HB hz
   go_wp2_with fail
   go_loopw [3, 4] (fun v3 v4 wr' => ∃ i : Nat, i ≤ 16 ∧ v4 = .int .i64 i ∧ v3 = .int .i64 (ovZ g i) ∧ RowZ wr' g1 36 .i64 16 (mixZ i (dgZ g) g) ∧ RowZ wr' g2 36 .i64 16 (fun _ => 0) ∧ Below w.heap.size w wr') (fun _ v4 _ => 16 - (intOf v4).toNat)
   case atStart => exact ⟨0, by omega, rfl, rfl, by rw [z22]; exact G1.out, G2.out, GB.out⟩
   case round =>
    clear G1 G2 GB
    obtain ⟨i, hi, rfl, rfl, HR, HZ, HB⟩ := hrel
    by_cases hlt : i < 16
    ·have hid : decide ((i : Int) < 16) = true := by simp; omega
     have i16 : (i : Int) < 16 := by omega
     have hob := y5k HG.out i (by omega)
     have hgb := HG.out i hlt
     have hc := HR.cell i hlt
     rw [y1v] at hc
     obtain ⟨n, hn⟩ : ∃ n, g i + ovZ g i = n := ⟨_, rfl⟩
     have Hr : Hid (dgZ g i = n % 268435456) := za (by rw [← hn]; rfl)
     have Hq : Hid (ovZ g (i + 1) = n / 268435456) := za (by rw [← hn]; rfl)
     obtain ⟨sd1, sd2⟩ := step_tdiv n
     have st := step_tmod n
     obtain ⟨t, ht⟩ : ∃ t, n.tmod 268435456 = t := ⟨_, rfl⟩
     obtain ⟨r, hr⟩ : ∃ r, n % 268435456 = r := ⟨_, rfl⟩
     obtain ⟨q, hq'⟩ : ∃ q, n / 268435456 = q := ⟨_, rfl⟩
     obtain ⟨z, hz⟩ : ∃ z, n - r = z := ⟨_, rfl⟩
     have hr1 : 0 ≤ r ∧ r < 268435456 := by omega
     rw [ht, hr] at st
     rw [hr, hz, hq'] at sd1 sd2
     rw [hr] at Hr
     rw [hq'] at Hq
     obtain ⟨x, hx⟩ : ∃ x, g i = x := ⟨_, rfl⟩
     obtain ⟨y, hy⟩ : ∃ y, ovZ g i = y := ⟨_, rfl⟩
     rw [hx] at hc hgb hn
     rw [hy] at hob hn ⊢
     have nb : -4611686035607257304 ≤ n ∧ n ≤ 4611686035607257304 := by omega
     have R2 := HR.setCell i t
     have hc2 := R2.cell i hlt
     rw [y7g] at hc2
     have hz1 := HR.thaw i
     have hz2 := R2.thaw i
     have Z2 := HZ.other g1 i (.int .i64 t) (Nat.ne_of_gt hg)
     have B2 := HB.setCell (p := ⟨g1, i, none⟩) (show w.heap.size ≤ g1 from hs) (.int .i64 t)
     obtain ⟨nb1, nb2⟩ := nb
     obtain ⟨hr2, hr3⟩ := hr1
     clear hx hy hob hgb HR HZ HB hq' hr
     rcases st with ⟨s1, s2⟩ | ⟨s1, s2⟩
     ·have d3 : decide (t < 0) = true := by simpa using s1
      have R3 := R2.setCell i r
      rw [updZ_updZ] at R3
      have hc3 := R3.cell i hlt
      rw [y7g] at hc3
      have F3 : Hid (RowZ ((wr.setCell ⟨g1, i, none⟩ (.int .i64 t)).setCell ⟨g1, i, none⟩ (.int .i64 r)) g1 36 .i64 16 (mixZ (i + 1) (dgZ g) g)) := za (by rw [← z2i, Hr.out]; exact R3)
      have F4 := za (Z2.other g1 i (.int .i64 r) (Nat.ne_of_gt hg))
      have F5 := za (B2.setCell (p := ⟨g1, i, none⟩) (show w.heap.size ≤ g1 from hs) (.int .i64 r))
      clear R2 R3 Z2 B2
      go_wp2_with fail
      go_roundw
      case rel => exact ⟨i + 1, by omega, by go_num, by rw [Hq.out], F3.out, F4.out, F5.out⟩
      case measure => simp [intOf]; omega
     ·have d3 : decide (t < 0) = false := by simp; omega
      obtain rfl : t = r := s2
      have F3 : Hid (RowZ (wr.setCell ⟨g1, i, none⟩ (.int .i64 t)) g1 36 .i64 16 (mixZ (i + 1) (dgZ g) g)) := za (by rw [← z2i, Hr.out]; exact R2)
      have F4 := za Z2
      have F5 := za B2
      clear R2 Z2 B2
      go_wp2_with fail
      go_roundw
      case rel => exact ⟨i + 1, by omega, by go_num, by rw [Hq.out], F3.out, F4.out, F5.out⟩
      case measure => simp [intOf]; omega
    ·obtain rfl : i = 16 := by omega
     clear hlt hi
     rw [show ((16 : Nat) : Int) = 16 from rfl]
     have hO := y5k HG.out 16 (by omega)
     have hO2 := y0z HV.out
     have hd0 := z8t g 0
     have hd8 := z8t g 8
     have R1 := HR.congr (f' := dgZ g) fun k hk => z3v _ _ _ _ hk
     have VP := za (y0m g)
     have PF := za (passed_fine HG.out)
     have PD := za (fun h : ovZ g 16 = 0 => And.intro (passed_done h) (z8t g))
     have PN := za (passed_nonneg HV.out)
     have PE : Hid (z7i g = updZ (updZ (dgZ g) 0 (dgZ g 0 + ovZ g 16)) 8 (dgZ g 8 + ovZ g 16)) := za rfl
     obtain ⟨O, hOe⟩ : ∃ O, ovZ g 16 = O := ⟨_, rfl⟩
     obtain ⟨x, hx⟩ : ∃ x, dgZ g 0 = x := ⟨_, rfl⟩
     obtain ⟨y, hy⟩ : ∃ y, dgZ g 8 = y := ⟨_, rfl⟩
     have hc0 := R1.cell 0 (by omega)
     have hz0 := R1.thaw 0
     rw [hOe] at hO hO2 VP PD PE ⊢
     rw [hx] at hc0 hd0 PE
     rw [hy] at hd8 PE
     have R2 := R1.setCell 0 (x + O)
     have hc8 := R2.cell 8 (by omega)
     rw [show updZ (dgZ g) 0 (x + O) 8 = y from hy] at hc8
     have hz8 := R2.thaw 8
     have R3 := R2.setCell 8 (y + O)
     rw [← PE.out] at R3
     have F3 := za R3
     have F4 := za ((HZ.other g1 0 (.int .i64 (x + O)) (Nat.ne_of_gt hg)).other g1 8 (.int .i64 (y + O)) (Nat.ne_of_gt hg))
     have F5 := za ((HB.setCell (p := ⟨g1, 0, none⟩) (show w.heap.size ≤ g1 from hs) (.int .i64 (x + O))).setCell (p := ⟨g1, 8, none⟩) (show w.heap.size ≤ g1 from hs) (.int .i64 (y + O)))
     obtain ⟨hO3, hO4⟩ := hO
     obtain ⟨hd1, hd2⟩ := hd0
     obtain ⟨hd9, hd10⟩ := hd8
     clear R1 R2 R3 HR HZ HB hOe hx hy
     go_wp2_with fail
     go_roundg go
     case measure => omega
     case rel =>
      have hp := pZ_pos
      have hk := HK.out
      have hv := HV.out
      have hvf := HVF.out
      have hm : 0 ≤ O * pZ := Int.mul_nonneg hO2 (by omega)
      refine ⟨z7i g, O, rfl, ?_, PN.out, ?_, ?_, PF.out, ⟨hO2, hO4⟩, fun h => ?_, F3.out, F4.out, F5.out⟩
      ·rw [VP.out]
       by_cases hO0 : O = 0
       ·have hO1 : O * pZ = 0 := by rw [hO0, Int.zero_mul]
        rw [if_pos hO0]
        omega
       ·rw [if_neg hO0]
        have h1 : 1 * pZ ≤ O * pZ := Int.mul_le_mul_of_nonneg_right (by omega) (by omega)
        omega
      ·rw [VP.out]
       omega
      ·obtain ⟨q, hq⟩ := HQ.out
       refine ⟨q + O, ?_⟩
       rw [VP.out, Int.add_mul]
       omega
      ·obtain ⟨e1, e2⟩ := PD.out h
       rw [e1]
       exact e2
theorem norm_small (f : Nat → Int) (w : World) (hf : Fine f) (h0 : 0 ≤ val f 16) (h1 : val f 16 < pZ) :
  Calls Tryz.prog 118 #[.agg (AZ .i64 16 f)] w fun e w' => e = .returned (FV (val f 16 % pZ).toNat) ∧ Below w.heap.size w w' :=
 y2x f w hf h0 fun h => by omega
theorem z6g (f : Nat → Int) (w : World) (hf : Fine f) (h0 : 0 ≤ val f 16) :
  Calls Tryz.prog 118 #[.agg (AZ .i64 16 f)] w fun e w' => e = .returned (FV (val f 16 % pZ).toNat) ∧ Below w.heap.size w w' :=
 y2x f w hf h0 fun _ g w => norm_small g w
theorem z5 {α : Type} {x : α} {l : List α} : (x :: l)[0]? = some x := rfl
theorem at1 {α : Type} {a x : α} {l : List α} : (a :: x :: l)[1]? = some x := rfl
theorem at2 {α : Type} {a b x : α} {l : List α} : (a :: b :: x :: l)[2]? = some x := rfl
theorem at3 {α : Type} {a b c x : α} {l : List α} : (a :: b :: c :: x :: l)[3]? = some x := rfl
theorem at4 {α : Type} {a b c d x : α} {l : List α} : (a :: b :: c :: d :: x :: l)[4]? = some x := rfl
theorem at5 {α : Type} {a b c d e x : α} {l : List α} : (a :: b :: c :: d :: e :: x :: l)[5]? = some x := rfl
theorem at6 {α : Type} {a b c d e f x : α} {l : List α} : (a :: b :: c :: d :: e :: f :: x :: l)[6]? = some x := rfl
theorem at7 {α : Type} {a b c d e f g x : α} {l : List α} : (a :: b :: c :: d :: e :: f :: g :: x :: l)[7]? = some x := rfl
theorem at8 {α : Type} {a b c d e f g h x : α} {l : List α} : (a :: b :: c :: d :: e :: f :: g :: h :: x :: l)[8]? = some x := rfl
theorem at9 {α : Type} {a b c d e f g h i x : α} {l : List α} : (a :: b :: c :: d :: e :: f :: g :: h :: i :: x :: l)[9]? = some x := rfl
theorem z8 {α : Type} {l : List α} {i : Nat} {x y : α} (h : l[i]? = some x) : (y :: l)[i + 1]? = some x := h
theorem set_at {α : Type} {l : List α} {i : Nat} {x y : α} (h : l[i]? = some y) : (l.set i x)[i]? = some x := by
 have hi : i < l.length := by
  rcases Nat.lt_or_ge i l.length with h' | h'
  ·exact h'
  ·rw [List.getElem?_eq_none h'] at h; cases h
 rw [List.getElem?_set, if_pos rfl, if_pos hi]
section
variable {P : Program} {o : Oper} {a : Act} {w w0 : World} {l : List (Nat × Obj)} {K : Act → World → Prop} {Q : Exit → Act → World → Prop} {t ty : TypeId} {k : IntKind} {n : Nat}
theorem z4a (dd : Tmp) (hd : o.dst = some dd) (i : Nat) (hT : IsRow P ty n) (H : Ow w0 w l) {x : Operand} (ho : o.op = .load ty x) {g : Nat} (hx : a.eval x = .pointer (some ⟨g, 0, none⟩)) {f : Nat → Int}
  (hi : l[i]? = some (g, zv t k n f)) (h : K (a.put (some dd) (.agg (AZ k n f))) w) : o.wp P a w K Q := by
 unfold Oper.wp execOp
 simp only [ho, hx, Sem.run_bind, z4i hT (H.row i hi), Result.andThen_ok]
 show K (a.put o.dst _) _
 rw [hd]
 exact h
end
section
variable {P : Program} {o : Oper} {a : Act} {w w0 : World} {l : List (Nat × Obj)} {K : Act → World → Prop} {Q : Exit → Act → World → Prop} {t : TypeId} {k : IntKind} {n : Nat}
theorem z1z (w : World) (o : Obj) : Below w.heap.size w (w.alloc o) := (Below.refl _ _).alloc (Nat.le_refl _) o
theorem zg (dd : Tmp) (hd : o.dst = some dd) (hz : ∀ w, (zeroValue t).run P w = .ok (.agg (AZ k n fun _ => 0)) w) (H : Ow w0 w l) (ho : o.op = .alloc t)
  (h : ∀ w' g, Ow w0 w' ((g, zv t k n fun _ => 0) :: l) → Below w.heap.size w w' → K (a.put (some dd) (.pointer (some ⟨g, 0, none⟩))) w') : o.wp P a w K Q := by
 unfold Oper.wp execOp
 simp only [ho, Instr.alloc, Sem.run_bind, hz, Result.andThen_ok, newVar, Value.cells]
 simp [go_sem]
 show K (a.put o.dst _) _
 rw [hd]
 exact h _ _ (H.alloc _) (z1z _ _)
end
theorem z6b {α : Type} : ∀ (l : List α) (i : Nat) (x : α), l[i]? = some x → (x :: l.eraseIdx i).Perm l
 | [], i, x, h => by cases i <;> cases h
 | y :: l, 0, x, h => by
  obtain rfl := Option.some.inj (show some y = some x from h)
  exact List.Perm.refl _
 | y :: l, i + 1, x, h => (List.Perm.swap y x (l.eraseIdx i)).trans ((z6b l i x h).cons y)
theorem Ow.erase {w W : World} {l : List (Nat × Obj)} (h : Ow w W l) (i : Nat) : Ow w W (l.eraseIdx i) :=
 ⟨h.bel, fun x hx => h.has x ((List.eraseIdx_sublist l i).subset hx), fun x hx => h.new x ((List.eraseIdx_sublist l i).subset hx), h.apart.sublist (List.eraseIdx_sublist l i)⟩
theorem Ow.front {w W : World} {l : List (Nat × Obj)} (h : Ow w W l) (i : Nat) {x : Nat × Obj} (hi : l[i]? = some x) : Ow w W (x :: l.eraseIdx i) :=
 ⟨h.bel, fun y hy => h.has y ((z6b l i x hi).subset hy), fun y hy => h.new y ((z6b l i x hi).subset hy), ((z6b l i x hi).pairwise_iff fun h => h.symm).2 h.apart⟩
section
variable {P : Program} {md : Region.Mode} {ops : Array Oper} {Q : Exit → Act → World → Prop} {S : World → Prop} {fuel : Nat} {listed : Array Bool} {a : Act} {w : World}
theorem z2c (i : Nat) (d : Tmp) {oi : Oper} (hi : ops[i]? = some oi) (hd : oi.dst = some d) (hw : Region.wanted oi (yielded ops a.tmps) = false) (hS : S w)
  (h : wpAnyH P md ops (NoPanic Q) S fuel (listed.setIfInBounds i true) (a.put (some d) undef) w) (hs : Region.noSelect ops = true := by kernel_rfl) (hf : Region.free md ops listed i = true := by kernel_rfl) (hr : (Region.ready md ops listed).contains i = true := by kernel_rfl) : wpAnyH P md ops (NoPanic Q) S (fuel + 1) listed a w :=
 wpAnyH_take hi hs hf hr (fun _ _ _ h => h) (.inr ⟨hw, rfl⟩) hS (by rw [hd]; exact h)
end
section
variable {P : Program} {ops : Array Oper} {rest : List Oper} {o : Oper} {a : Act} {w w0 : World} {l : List (Nat × Obj)} {Q : Exit → Act → World → Prop} {t ty : TypeId} {k : IntKind} {n : Nat}
theorem z60 (hw : Region.wanted o (yielded ops a.tmps) = true) (h : ∀ K : Act → World → Prop, (∀ a w, wpList P ops Q rest a w → K a w) → o.wp P a w K Q) : wpList P ops Q (o :: rest) a w :=
 wpList_step fun K hK => by rw [if_pos hw]; exact h K hK
end
theorem Ow.ne {w W : World} {l : List (Nat × Obj)} (h : Ow w W l) (i j : Nat) {x y : Nat × Obj} (hi : l[i]? = some x) (hj : l[j]? = some y) (hij : i ≠ j) : x.1 ≠ y.1 := by
 have hp := h.apart
 rw [List.pairwise_iff_getElem] at hp
 have hil : i < l.length := by
  rcases Nat.lt_or_ge i l.length with h' | h'
  ·exact h'
  ·rw [List.getElem?_eq_none h'] at hi; cases hi
 have hjl : j < l.length := by
  rcases Nat.lt_or_ge j l.length with h' | h'
  ·exact h'
  ·rw [List.getElem?_eq_none h'] at hj; cases hj
 rw [List.getElem?_eq_getElem hil] at hi
 rw [List.getElem?_eq_getElem hjl] at hj
 obtain rfl := Option.some.inj hi
 obtain rfl := Option.some.inj hj
 rcases (by omega : i < j ∨ j < i) with hlt | hlt
 ·exact hp i j hil hjl hlt
 ·exact fun e => hp j i hjl hil hlt e.symm
theorem Ow.add {w W W' : World} {l : List (Nat × Obj)} {g : Nat} {o : Obj} (h : Ow w W l) (hb : Below W.heap.size W W') (hg : W.heap.size ≤ g) (hr : W'.heap[g]? = some o) : Ow w W' ((g, o) :: l) := by
 have h' := h.call hb
 refine ⟨h'.bel, fun x hx => ?_, fun x hx => ?_, List.Pairwise.cons (fun x hx => ?_) h'.apart⟩
 ·rcases List.mem_cons.1 hx with rfl | hx
  ·exact hr
  ·exact h'.has x hx
 ·rcases List.mem_cons.1 hx with rfl | hx
  ·exact Nat.le_trans h.bel.size hg
  ·exact h'.new x hx
 ·have := z01 (h.has x hx)
  show g ≠ x.1
  omega
theorem oneI : IsOne Tryz.prog 3 .i64 := ⟨Tryz.underlying3, by kernel_rfl⟩
theorem z4 : IsRow Tryz.prog 36 16 := ⟨⟨_, Tryz.underlying36, rfl⟩, by kernel_rfl⟩
def pN : Nat := 726838724295606890549323807888004534353641360687318060281490199180612328166730772686396383698676545930088884461843637361053498018365439
theorem y64 : pZ = (pN : Int) := rfl
theorem z9y : 0 < pN := by decide
theorem pN_lt : pN < 268435456 ^ 16 := by decide +kernel
theorem z9l {x : Nat} (h : x < pN) : val (dF x) 16 = (x : Int) := by
 rw [y7f, Nat.mod_eq_of_lt (Nat.lt_trans h pN_lt)]
theorem z8o (n : Nat) : ((n : Int) % pZ).toNat = n % pN := by
 rw [y64, ← Int.natCast_emod, Int.toNat_natCast]
theorem pF_bd (k : Nat) : 0 ≤ pF k ∧ pF k < 268435456 := by unfold pF; split <;> omega
theorem y0x (x y : Nat) (w : World) (hx : x < pN) (hy : y < pN) :
  Calls Tryz.prog 50 #[FV x, FV y] w fun e w' => e = .returned (FV ((x + y) % pN)) ∧ Below w.heap.size w w' := by
 have hv : val (fun k => dF x k + dF y k) 16 = ((x + y : Nat) : Int) := by rw [val_add, z9l hx, z9l hy, Int.natCast_add]
 have hf : Fine (fun k => dF x k + dF y k) := fun k _ => by
  have h1 := z8i x k
  have h2 := z8i y k
  show _ ≤ dF x k + dF y k ∧ dF x k + dF y k ≤ _
  omega
 have HN := za (fun w => z6g _ w hf (by rw [hv]; omega))
 rw [hv, z8o] at HN
 clear hv hf hx hy
 have H := za (Ow.start w)
 go_enter Tryz.func50, Tryz.ntmps50
 go_wp2_with (first
  | ((fail_if_success have := g1); (with_reducible apply zw H); (case hgd | ho | hx => exact rfl); clear H; intro w1 g1 H _ _; go_simp)
  | ((fail_if_success have := g2); (with_reducible apply zw H); (case hgd | ho | hx => exact rfl); clear H; intro w2 g2 H _ _; go_simp)
  | ((fail_if_success have := g3); (with_reducible apply ze zA.zero H); (case hgd | ho => exact rfl); clear H; intro w3 g3 H _ _; go_simp))
 go_loopw [5] (fun v wr => ∃ i : Nat, i ≤ 16 ∧ v = .int .i64 i ∧ Ow w wr [(g3, zv 36 .i64 16 fun _ => 0), (g2, zv 36 .i64 16 (dF y)), (g1, zv 36 .i64 16 (mixZ i (fun k => dF x k + dF y k) (dF x)))]) (fun v _ => 16 - (intOf v).toNat)
 case atStart => exact ⟨0, by omega, rfl, by rw [z22]; exact H.out⟩
 case round =>
  clear H
  obtain ⟨i, hi, rfl, HR⟩ := hrel
  by_cases hlt : i < 16
  ·have hid : decide ((i : Int) < 16) = true := by simp; omega
   have iN : (i : Int) < 16 := by omega
   have H1 := za HR
   clear HR
   go_wp2_with fail
   refine wp_region_still_tail 9 (by kernel_rfl) (by kernel_rfl) ?_
   change wpStill _ _ wr.drew (fun a' => wpList _ _ _ _ a' wr.drew) _ _
   have D := za H1.out.drew
   clear H1
   generalize wr.drew = w8 at *
   have hc1 := D.out.cell 2 rfl i hlt
   have hc2 := D.out.cell 1 rfl i hlt
   rw [y1v] at hc1
   have hz := D.out.thaw 2 rfl i
   have bx := z8i x i
   have by' := z8i y i
   have U1 := za (D.out.setCell 2 rfl i (dF x i + dF y i))
   rw [z2i i (fun k => dF x k + dF y k) (dF x)] at U1
   clear D
   obtain ⟨x', hx'⟩ : ∃ x', dF x i = x' := ⟨_, rfl⟩
   obtain ⟨y', hy'⟩ : ∃ y', dF y i = y' := ⟨_, rfl⟩
   rw [hx'] at hc1 bx
   rw [hy'] at hc2 by'
   rw [hx', hy'] at U1
   obtain ⟨b1, b2⟩ := bx
   obtain ⟨b3, b4⟩ := by'
   clear hx' hy'
   simp only [List.take_succ_cons, List.take_zero, List.drop_succ_cons, List.drop_zero]
   iterate 9 still_step
   refine wpStill_nil ?_
   go_wp2_with fail
   go_roundw
   case rel => exact ⟨i + 1, by omega, by go_num, U1.out⟩
   case measure => simp [intOf]; omega
  ·obtain rfl : i = 16 := by omega
   clear hlt hi
   rw [show ((16 : Nat) : Int) = 16 from rfl]
   have H := za (HR.like 2 (g := fun k => dF x k + dF y k) rfl fun k hk => z3v _ _ _ _ hk)
   simp only [qb, qc] at H
   clear HR
   go_wp2_with (first
    | ((with_reducible apply zr z4 H); (case hgd | ho | hx => exact rfl); (case hi => repeat first|exact z5|apply z8); intro _ _; go_simp)
    | ((with_reducible refine (HN.out _).mono ?_); rintro e wc ⟨rfl, hb⟩; replace H := zd H hb; clear hb)
    | ((with_reducible apply zj z4 H); (case hgd | ho | hx | hy => exact rfl); (case hi => repeat first|exact z5|apply z8); clear H; intro ws H _ _; simp only [qb] at H; go_simp))
   exact bodyPost_ret (zy 0 z4 rfl _ H rfl rfl) rfl ⟨rfl, H.out.bel⟩
theorem z71 (x : Nat) (w : World) (hx : x < pN) :
  Calls Tryz.prog 95 #[FV x] w fun e w' => e = .returned (FV ((pN - x) % pN)) ∧ Below w.heap.size w w' := by
 have hv : val (fun k => pF k - dF x k) 16 = ((pN - x : Nat) : Int) := by rw [y3s, z9l hx, val_p, y64, Int.natCast_sub (Nat.le_of_lt hx)]
 have hf : Fine (fun k => pF k - dF x k) := fun k _ => by
  have h1 := z8i x k
  have h2 := pF_bd k
  show _ ≤ pF k - dF x k ∧ pF k - dF x k ≤ _
  omega
 have HN := za (fun w => z6g _ w hf (by rw [hv]; omega))
 rw [hv, z8o] at HN
 clear hv hf hx
 have H := za (Ow.start w)
 go_enter Tryz.func95, Tryz.ntmps95
 go_wp2_with (first
  | ((fail_if_success have := g1); (with_reducible apply zw H); (case hgd | ho | hx => exact rfl); clear H; intro w1 g1 H _ _; go_simp)
  | ((fail_if_success have := g2); (with_reducible apply ze zA.zero H); (case hgd | ho => exact rfl); clear H; intro w2 g2 H _ _; go_simp)
  | ((with_reducible refine (z7g _).mono ?_); rintro e wc ⟨rfl, hb⟩; replace H := zd H hb; clear hb)
  | ((fail_if_success have := g3); (with_reducible apply ze zA.zero H); (case hgd | ho => exact rfl); clear H; intro w3 g3 H _ _; go_simp)
  | ((with_reducible apply zj z4 H); (case hgd | ho | hx | hy => exact rfl); (case hi => repeat first|exact z5|apply z8); clear H; intro ws H _ _; simp only [qb] at H; go_simp))
 go_loopw [4] (fun v wr => ∃ i : Nat, i ≤ 16 ∧ v = .int .i64 i ∧ Ow w wr [(g3, zv 36 .i64 16 pF), (g2, zv 36 .i64 16 fun _ => 0), (g1, zv 36 .i64 16 (mixZ i (fun k => pF k - dF x k) (dF x)))]) (fun v _ => 16 - (intOf v).toNat)
 case atStart => exact ⟨0, by omega, rfl, by rw [z22]; exact H.out⟩
 case round =>
  clear H
  obtain ⟨i, hi, rfl, HR⟩ := hrel
  by_cases hlt : i < 16
  ·have hid : decide ((i : Int) < 16) = true := by simp; omega
   have iN : (i : Int) < 16 := by omega
   have H1 := za HR
   clear HR
   go_wp2_with fail
   refine wp_region_still_tail 9 (by kernel_rfl) (by kernel_rfl) ?_
   change wpStill _ _ wr.drew (fun a' => wpList _ _ _ _ a' wr.drew) _ _
   have D := za H1.out.drew
   clear H1
   generalize wr.drew = w8 at *
   have hc1 := D.out.cell 0 rfl i hlt
   have hc2 := D.out.cell 2 rfl i hlt
   rw [y1v] at hc2
   have hz := D.out.thaw 2 rfl i
   have bx := pF_bd i
   have by' := z8i x i
   have U1 := za (D.out.setCell 2 rfl i (pF i - dF x i))
   rw [z2i i (fun k => pF k - dF x k) (dF x)] at U1
   clear D
   obtain ⟨x', hx'⟩ : ∃ x', pF i = x' := ⟨_, rfl⟩
   obtain ⟨y', hy'⟩ : ∃ y', dF x i = y' := ⟨_, rfl⟩
   rw [hx'] at hc1 bx
   rw [hy'] at hc2 by'
   rw [hx', hy'] at U1
   obtain ⟨b1, b2⟩ := bx
   obtain ⟨b3, b4⟩ := by'
   clear hx' hy'
   simp only [List.take_succ_cons, List.take_zero, List.drop_succ_cons, List.drop_zero]
   iterate 9 still_step
   refine wpStill_nil ?_
   go_wp2_with fail
   go_roundw
   case rel => exact ⟨i + 1, by omega, by go_num, U1.out⟩
   case measure => simp [intOf]; omega
  ·obtain rfl : i = 16 := by omega
   clear hlt hi
   rw [show ((16 : Nat) : Int) = 16 from rfl]
   have H := za (HR.like 2 (g := fun k => pF k - dF x k) rfl fun k hk => z3v _ _ _ _ hk)
   simp only [qb, qc] at H
   clear HR
   go_wp2_with (first
    | ((with_reducible apply zr z4 H); (case hgd | ho | hx => exact rfl); (case hi => repeat first|exact z5|apply z8); intro _ _; go_simp)
    | ((with_reducible refine (HN.out _).mono ?_); rintro e wc ⟨rfl, hb⟩; replace H := zd H hb; clear hb)
    | ((with_reducible apply zj z4 H); (case hgd | ho | hx | hy => exact rfl); (case hi => repeat first|exact z5|apply z8); clear H; intro ws H _ _; simp only [qb, qc] at H; go_simp))
   exact bodyPost_ret (zy 1 z4 rfl _ H rfl rfl) rfl ⟨rfl, H.out.bel⟩
theorem refSub_any (x y : Nat) (w : World) (hx : x < pN) (hy : y < pN) :
  Calls Tryz.prog 51 #[FV x, FV y] w fun e w' => e = .returned (FV ((x + (pN - y)) % pN)) ∧ Below w.heap.size w w' := by
 have HN := za (fun w => z71 y w hy)
 have HA := za (fun w => y0x x ((pN - y) % pN) w hx (Nat.mod_lt _ z9y))
 rw [Nat.add_mod_mod] at HA
 clear hx hy
 have H := za (Ow.start w)
 go_enter Tryz.func51, Tryz.ntmps51
 go_wp2_with (first
  | ((fail_if_success have := g1); (with_reducible apply zw H); (case hgd | ho | hx => exact rfl); clear H; intro w1 g1 H _ _; go_simp)
  | ((fail_if_success have := g2); (with_reducible apply zw H); (case hgd | ho | hx => exact rfl); clear H; intro w2 g2 H _ _; go_simp)
  | ((fail_if_success have := g3); (with_reducible apply ze zA.zero H); (case hgd | ho => exact rfl); clear H; intro w3 g3 H _ _; go_simp))
 refine wp_region_noPanic ?_
 refine wp_region_held_drew (S := fun W => ∃ f3, Ow w W [(g3, zv 36 .i64 16 f3), (g2, zv 36 .i64 16 (dF y)), (g1, zv 36 .i64 16 (dF x))]) (by kernel_rfl) (⟨_, H.out.drew⟩) (fun hH => ?_)
 clear H
 refine zk 0 5 z4 rfl rfl rfl hH rfl rfl (fun _ h => by obtain ⟨f3, h⟩ := h; exact h.row 2 rfl) ?_
 simp only [Act.put, qa, qb, qc]
 refine zk 1 6 z4 rfl rfl rfl hH rfl rfl (fun _ h => by obtain ⟨f3, h⟩ := h; exact h.row 1 rfl) ?_
 simp only [Act.put, qa, qb, qc]
 refine zn 2 rfl fun K hK => ?_
 go_simp
 refine (HN.out _).mono ?_
 rintro e wc ⟨rfl, hb⟩
 refine hK.out _ _ (by obtain ⟨f3, h⟩ := hH; exact ⟨f3, h.call hb⟩) (fun hN => ?_)
 have hH := hN
 clear hN
 refine zn 3 rfl fun K hK => ?_
 go_simp
 refine (HA.out _).mono ?_
 rintro e wc ⟨rfl, hb⟩
 refine hK.out _ _ (by obtain ⟨f3, h⟩ := hH; exact ⟨f3, h.call hb⟩) (fun hN => ?_)
 have hH := hN
 clear hN
 try simp only [Act.put, qa, qb, qc]
 obtain ⟨f3, hH3⟩ := hH
 refine zn 4 rfl fun K hK => ?_
 refine zl 0 z4 hH3 rfl rfl rfl rfl ?_
 intro ws HS
 simp only [qb] at HS
 refine hK.out _ _ ⟨_, HS⟩ (fun hN => ?_)
 have H := za HS
 try simp only [Act.put, qa]
 refine zm ?_
 go_wp2_with fail
 exact bodyPost_ret (zy 0 z4 rfl _ H rfl rfl) rfl ⟨rfl, H.out.bel⟩
theorem y6t (b : BitVec 8) : ∃ c : Nat, U8 b = (c : Int) ∧ c = b.toNat ∧ c < 256 := ⟨b.toNat, rfl, rfl, b.isLt⟩
theorem dF_even (f : Nat → BitVec 8) (i : Nat) (hi : i < 8) : dF (nB f 56) (2 * i) = ((nB (fun j => f (7 * i + j)) 7 % 268435456 : Nat) : Int) := by
 unfold dF
 rw [y8a, nB_mid f i 56 (49 - 7 * i) (by omega)]
 congr 1
 omega
theorem dF_odd (f : Nat → BitVec 8) (i : Nat) (hi : i < 8) : dF (nB f 56) (2 * i + 1) = ((nB (fun j => f (7 * i + j)) 7 / 268435456 : Nat) : Int) := by
 have h := y4d (fun j => f (7 * i + j)) 7
 unfold dF
 rw [Nat.pow_succ, ← Nat.div_div_eq_div_mul, y8a, nB_mid f i 56 (49 - 7 * i) (by omega)]
 congr 1
 omega
def hB (f : Nat → BitVec 8) (i m : Nat) : Nat := nB (fun j => f (7 * i + (7 - m) + j)) m
theorem hB_step (f : Nat → BitVec 8) (i m : Nat) (hm : m < 7) : hB f i (m + 1) = hB f i m * 256 + (f (7 * i + (6 - m))).toNat := by
 have h := nB_front (fun j => f (7 * i + (7 - (m + 1)) + j)) m
 have e : (fun j => f (7 * i + (7 - (m + 1)) + (1 + j))) = fun j => f (7 * i + (7 - m) + j) := by
  funext j
  congr 1
  omega
 have e0 : 7 * i + (7 - (m + 1)) + 0 = 7 * i + (6 - m) := by omega
 rw [e, e0] at h
 unfold hB
 rw [h, Nat.mul_comm 256, Nat.add_comm]
theorem hB_lt (f : Nat → BitVec 8) (i m : Nat) (hm : m ≤ 7) : hB f i m < 72057594037927936 :=
 Nat.lt_of_lt_of_le (y4d _ m) (Nat.pow_le_pow_right (n := 256) (by omega) hm)
theorem mixZ_two (D : Nat → Int) (i : Nat) : updZ (updZ (mixZ (2 * i) D fun _ => 0) (2 * i) (D (2 * i))) (2 * i + 1) (D (2 * i + 1)) = mixZ (2 * (i + 1)) D fun _ => 0 := by
 rw [z2i, z2i]
 congr 1
theorem y2m (a : Option Addr) (c : Nat) (f : Nat → BitVec 8) (w : World) (hs : Sl w w.heap.size a 56 c f) :
  Calls Tryz.prog 65 #[.slice a 56 c] w fun e w' => e = .returned (FV (nB f 56 % pN)) ∧ Below w.heap.size w w' := by
 have hv : val (dF (nB f 56)) 16 = ((nB f 56 : Nat) : Int) := by
  have h : nB f 56 < 268435456 ^ 16 := Nat.lt_of_lt_of_le (y4d f 56) (by decide +kernel)
  rw [y7f, Nat.mod_eq_of_lt h]
 have HN := za (fun w => z6g (dF (nB f 56)) w (fun i _ => by have := z8i (nB f 56) i; omega) (by rw [hv]; omega))
 rw [hv, z8o] at HN
 obtain ⟨b, o, rfl, hb, _⟩ := hs.get 0 (by omega)
 have hcell : ∀ i, i < 56 → w.cell? ⟨b, o + i, none⟩ = some (U (f i)) := fun i hi => by
  obtain ⟨b', o', e, _, hc⟩ := hs.get i hi
  obtain ⟨rfl, rfl⟩ : b = b' ∧ o = o' := by
   have := Option.some.inj e
   injection this with e1 e2
   exact ⟨e1, e2⟩
  exact hc
 have HC := za hcell
 have HE := za (dF_even f)
 have HO := za (dF_odd f)
 have Hb := za hb
 clear hv hs hcell hb
 have H := za (Ow.start w)
 go_enter Tryz.func65, Tryz.ntmps65
 go_wp2_with (first
  | ((fail_if_success have := g1); (with_reducible apply ze zA.zero H); (case hgd | ho => exact rfl); clear H; intro w1 g1 H _ _; go_simp)
  | ((fail_if_success have := g2); (with_reducible apply ze zA.zero H); (case hgd | ho => exact rfl); clear H; intro w2 g2 H _ _; go_simp))
 go_loopw [4, 5, 6] (fun v4 v5 v6 wr => ∃ i : Nat, i ≤ 8 ∧ v4 = .int .i64 i ∧ Ow w wr [(g2, zv 36 .i64 16 (mixZ (2 * i) (dF (nB f 56)) fun _ => 0)), (g1, zv 36 .i64 16 fun _ => 0)]) (fun v4 _ _ _ => 8 - (intOf v4).toNat)
 case atStart => exact ⟨0, by omega, rfl, by rw [Nat.mul_zero, z22]; exact H.out⟩
 case round =>
  clear H
  obtain ⟨i, hi, rfl, HR⟩ := hrel
  by_cases hlt : i < 8
  ·have hid : decide ((i : Int) < 8) = true := by simp; omega
   have i8 : (i : Int) < 8 := by omega
   have H := za HR
   clear HR
   go_wp2_with fail
   go_loopw [5, 6] (fun v5 v6 wr' => ∃ m : Nat, m ≤ 7 ∧ v6 = .int .i64 (6 - (m : Int)) ∧ v5 = .int .i64 ((hB f i m : Nat) : Int) ∧ Ow w wr' [(g2, zv 36 .i64 16 (mixZ (2 * i) (dF (nB f 56)) fun _ => 0)), (g1, zv 36 .i64 16 fun _ => 0)]) (fun _ v6 _ => (intOf v6 + 1).toNat)
   case atStart => exact ⟨0, by omega, rfl, rfl, H.out⟩
   case round =>
    clear H
    obtain ⟨m, hm, rfl, rfl, HR⟩ := hrel
    by_cases hlm : m < 7
    ·obtain ⟨z, hz⟩ : ∃ z : Int, 6 - (m : Int) = z := ⟨_, rfl⟩
     obtain ⟨p, hp⟩ : ∃ p, 7 * i + (6 - m) = p := ⟨_, rfl⟩
     have e1 : 7 * (i : Int) + z = (p : Int) := by omega
     have z0 : 0 ≤ z := by omega
     have z7 : z ≤ 6 := by omega
     have hd : decide ((0 : Int) ≤ z) = true := by simpa using z0
     have p56 : p < 56 := by omega
     have p56' : (p : Int) < 56 := by omega
     have hc : wr.cell? ⟨b, o + p, none⟩ = some (U (f p)) := (HR.bel.cell (p := ⟨b, o + p, none⟩) Hb.out).trans (HC.out p p56)
     obtain ⟨y, hy, hy2, hy3⟩ := y6t (f p)
     rw [show U (f p) = .int .u8 (y : Int) from congrArg (Value.int .u8) hy] at hc
     have hS := za (hB_step f i m hlm)
     rw [hp, ← hy2] at hS
     have hl := hB_lt f i (m + 1) (by omega)
     rw [hS.out] at hl
     obtain ⟨n, hn⟩ : ∃ n, hB f i m = n := ⟨_, rfl⟩
     rw [hn] at hl hS ⊢
     rw [hz]
     have nb : (n : Int) * 256 + (y : Int) < 72057594037927936 := by omega
     have H := za HR
     have HZ := za hz
     clear HR hn hp hy hy2 hl hz
     go_wp2_with fail
     go_roundw
     case rel => exact ⟨m + 1, by omega, (by have := HZ.out; go_num), by rw [hS.out]; go_num, H.out⟩
     case measure => simp [intOf]; omega
    ·obtain rfl : m = 7 := by omega
     have e7 : (6 : Int) - ((7 : Nat) : Int) = -1 := rfl
     rw [e7]
     have hl := hB_lt f i 7 (by omega)
     have E1 := HE.out i hlt
     have E2 := HO.out i hlt
     have hh : nB (fun j => f (7 * i + j)) 7 = hB f i 7 := by unfold hB; rfl
     rw [hh] at E1 E2
     have HM := za (mixZ_two (dF (nB f 56)) i)
     obtain ⟨n, hn⟩ : ∃ n, hB f i 7 = n := ⟨_, rfl⟩
     rw [hn] at hl E1 E2 ⊢
     obtain ⟨x, hx⟩ : ∃ x, n % 268435456 = x := ⟨_, rfl⟩
     obtain ⟨y, hy⟩ : ∃ y, n / 268435456 = y := ⟨_, rfl⟩
     have e1 : (n : Int) % 268435456 = (x : Int) := by omega
     have e2 : (n : Int) / 268435456 = (y : Int) := by omega
     obtain ⟨q, hq⟩ : ∃ q, 2 * i = q := ⟨_, rfl⟩
     have e3 : 2 * (i : Int) = (q : Int) := by omega
     have q14 : q ≤ 14 := by omega
     have nb : (n : Int) < 72057594037927936 := by omega
     have xb : (x : Int) < 268435456 := by omega
     have yb : (y : Int) < 268435456 := by omega
     have q14' : (q : Int) ≤ 14 := by omega
     rw [hx] at E1
     rw [hy] at E2
     rw [hq] at HR HM E1 E2
     rw [E1, E2] at HM
     have H := za HR
     have Hq := za hq
     clear HR hn hx hy E1 E2 hh e7 hlm hm hl hq
     go_wp2_with (first
      | ((with_reducible apply z2z oneI H); (case hgd | ho | hx | hy => exact rfl); (case hi => repeat first|exact z5|apply z8); (case hj => omega); clear H; intro ws H _ _; simp only [qb] at H; go_simp))
     rw [e1, HM.out] at H
     go_roundw
     case rel => exact ⟨i + 1, by omega, by go_num, H.out⟩
     case measure => simp [intOf]; omega
  ·obtain rfl : i = 8 := by omega
   clear hlt hi
   rw [show ((8 : Nat) : Int) = 8 from rfl]
   have H := za (HR.like 0 (g := dF (nB f 56)) rfl fun k hk => z3v _ _ _ _ hk)
   simp only [qb] at H
   clear HR
   go_wp2_with (first
    | ((with_reducible apply zr z4 H); (case hgd | ho | hx => exact rfl); (case hi => repeat first|exact z5|apply z8); intro _ _; go_simp)
    | ((with_reducible refine (HN.out _).mono ?_); rintro e wc ⟨rfl, hb⟩; replace H := zd H hb; clear hb)
    | ((with_reducible apply zj z4 H); (case hgd | ho | hx | hy => exact rfl); (case hi => repeat first|exact z5|apply z8); clear H; intro ws H _ _; simp only [qb, qc] at H; go_simp))
   exact bodyPost_ret (zy 1 z4 rfl _ H rfl rfl) rfl ⟨rfl, H.out.bel⟩
def New (w W : World) (v : Value) (n : Nat) (f : Nat → BitVec 8) : Prop := ∃ g c, v = .slice (some ⟨g, 0, none⟩) n c ∧ w.heap.size ≤ g ∧ Sl W W.heap.size (some ⟨g, 0, none⟩) n c f
theorem limb_dF (x i : Nat) : dF x (2 * i) + dF x (2 * i + 1) * 268435456 = ((x / 256 ^ (7 * i) % 72057594037927936 : Nat) : Int) := by
 unfold dF
 rw [Nat.pow_succ, ← Nat.div_div_eq_div_mul, y8a]
 generalize x / 256 ^ (7 * i) = y
 omega
theorem byte_dF (x i k : Nat) (hk : k < 7) : x / 256 ^ (7 * i) % 72057594037927936 / 256 ^ k % 256 = x / 256 ^ (7 * i + k) % 256 := by
 rw [Nat.pow_add, ← Nat.div_div_eq_div_mul]
 generalize x / 256 ^ (7 * i) = y
 obtain rfl | rfl | rfl | rfl | rfl | rfl | rfl : k = 0 ∨ k = 1 ∨ k = 2 ∨ k = 3 ∨ k = 4 ∨ k = 5 ∨ k = 6 := by omega
 all_goals omega
theorem z4j (x : Nat) (w : World) :
  Calls Tryz.prog 57 #[FV x] w fun e w' => ∃ v B, e = .returned v ∧ w.heap.size ≤ B ∧ B ≤ w'.heap.size ∧ OwnB w' B v 56 (bX x) ∧ Below w.heap.size w w' := by
 have HL := za (limb_dF x)
 have HY := za (byte_dF x)
 have HD := za (z8i x)
 have H := za (Ow.start w)
 go_enter Tryz.func57, Tryz.ntmps57
 go_wp2_with (first
  | ((fail_if_success have := g1); (with_reducible apply zw H); (case hgd | ho | hx => exact rfl); clear H; intro w1 g1 H _ _; go_simp))
 have B1 : Hid (Below w.heap.size w w1) := za H.out.bel
 go_loopw [3, 4, 5, 6] (fun v3 v4 _ _ wr => ∃ i : Nat, i ≤ 8 ∧ v4 = .int .i64 i ∧ OwnB wr w1.heap.size v3 (7 * i) (bX x) ∧ Below w1.heap.size w1 wr) (fun _ v4 _ _ _ => 8 - (intOf v4).toNat)
 case atStart => exact ⟨0, by omega, rfl, OwnB.nil _ _ _, Below.refl _ _⟩
 case round =>
  obtain ⟨i, hi, rfl, HO, HB⟩ := hrel
  by_cases hlt : i < 8
  ·have hid : decide ((i : Int) < 8) = true := by simp; omega
   have i8 : (i : Int) < 8 := by omega
   obtain ⟨q, hq⟩ : ∃ q, 2 * i = q := ⟨_, rfl⟩
   have e3 : 2 * (i : Int) = (q : Int) := by omega
   have q14 : q ≤ 14 := by omega
   have q14' : (q : Int) ≤ 14 := by omega
   have hl := HL.out i
   rw [hq] at hl
   obtain ⟨r, hr⟩ : ∃ r, q + 1 = r := ⟨_, rfl⟩
   rw [hr] at hl
   have e4 : (q : Int) + 1 = (r : Int) := by omega
   have q16 : (q : Int) < 16 := by omega
   have r16 : r < 16 := by omega
   have r16' : (r : Int) < 16 := by omega
   have f1 : IntKind.i64.wrap (q : Int) = (q : Int) := IntWalk.i64_in _ (by omega)
   have f2 : IntKind.i64.wrap (r : Int) = (r : Int) := IntWalk.i64_in _ (by omega)
   clear hr
   have HO1 := za HO
   have HB1 := za HB
   clear HO HB
   go_wp2_with fail
   refine wp_region_still_lit (by kernel_rfl) (by kernel_rfl) ?_
   change wpStill _ _ wr.drew (fun a' => Exit.then _ _ Exit.normal a' wr.drew) _ _
   have b1 := HD.out q
   have b2 := HD.out r
   have hc1 : wr.drew.cell? ⟨g1, q, none⟩ = some (.int .i64 (dF x q)) := by
    have hc := H.out.cell 0 rfl q (by omega)
    exact ((Below.drew HB1.out).cell (p := ⟨g1, q, none⟩) (z01 (H.out.row 0 rfl))).trans hc
   have hc2 : wr.drew.cell? ⟨g1, r, none⟩ = some (.int .i64 (dF x r)) := by
    have hc := H.out.cell 0 rfl r r16
    exact ((Below.drew HB1.out).cell (p := ⟨g1, r, none⟩) (z01 (H.out.row 0 rfl))).trans hc
   have HO2 : Hid (OwnB wr.drew w1.heap.size _ (7 * i) (bX x)) := za HO1.out
   have HB2 := za (Below.drew HB1.out)
   clear HO1 HB1
   generalize wr.drew = w2 at *
   obtain ⟨a, ha⟩ : ∃ a, dF x q = a := ⟨_, rfl⟩
   obtain ⟨b, hb⟩ : ∃ b, dF x r = b := ⟨_, rfl⟩
   rw [ha] at b1 hc1 hl
   rw [hb] at b2 hc2 hl
   obtain ⟨b11, b12⟩ := b1
   obtain ⟨b21, b22⟩ := b2
   obtain ⟨n, hn⟩ : ∃ n, x / 256 ^ (7 * i) % 72057594037927936 = n := ⟨_, rfl⟩
   have nb : n < 72057594037927936 := by omega
   rw [hn] at hl
   have Hn := za hn
   have nb' : (n : Int) < 72057594037927936 := by omega
   have f3 : IntKind.i64.wrap (b * 268435456) = b * 268435456 := IntWalk.i64_in _ (by omega)
   have f4 : IntKind.i64.wrap (n : Int) = (n : Int) := IntWalk.i64_in _ (by omega)
   clear ha hb hn hq
   iterate 12 still_step
   refine wpStill_nil ?_
   clear hc1 hc2 f1 f2 f3 f4 hl b11 b12 b21 b22
   go_wp2_with fail
   go_loopw [3, 5, 6] (fun v3 v5 v6 wr => ∃ k : Nat, k ≤ 7 ∧ v6 = .int .i64 k ∧ v5 = .int .i64 ((n / 256 ^ k : Nat) : Int) ∧ OwnB wr w1.heap.size v3 (7 * i + k) (bX x) ∧ Below w1.heap.size w1 wr) (fun _ _ v6 _ => 7 - (intOf v6).toNat)
   case atStart => exact ⟨0, by omega, rfl, by rw [Nat.pow_zero, Nat.div_one], HO2.out, HB2.out⟩
   case round =>
    clear HO2 HB2
    obtain ⟨k, hk, rfl, rfl, HO, HB⟩ := hrel
    by_cases hlk : k < 7
    ·have hkd : decide ((k : Int) < 7) = true := by simp; omega
     have k7 : (k : Int) < 7 := by omega
     have hy := HY.out i k hlk
     rw [Hn.out] at hy
     have hU := za (U8_bX x (7 * i + k))
     rw [← hy] at hU
     have HS : Hid (n / 256 ^ (k + 1) = n / 256 ^ k / 256) := za (by rw [Nat.pow_succ, Nat.div_div_eq_div_mul])
     have yb : n / 256 ^ k < 72057594037927936 := Nat.lt_of_le_of_lt (Nat.div_le_self _ _) nb
     obtain ⟨y, hy'⟩ : ∃ y, n / 256 ^ k = y := ⟨_, rfl⟩
     rw [hy'] at hU HS yb ⊢
     obtain ⟨b, hb⟩ : ∃ b, y % 256 = b := ⟨_, rfl⟩
     obtain ⟨z, hz⟩ : ∃ z, y / 256 = z := ⟨_, rfl⟩
     rw [hb] at hU
     rw [hz] at HS
     have e1 : (y : Int) % 256 = (b : Int) := by omega
     have e2 : (y : Int) / 256 = (z : Int) := by omega
     have b256 : (b : Int) < 256 := by omega
     have yb' : (y : Int) < 72057594037927936 := by omega
     have HO1 := za HO
     have HB1 := za HB
     have hz' : w1.heap.size ≤ wr.heap.size := HB.size
     clear HO HB hy' hb hz hy yb
     go_wp2_with ((with_reducible apply z0y); (case hgd | ho | hs | hx => exact rfl); (case hown => exact HO1.out.alloc _); (case hc => rw [show U (bX x (7 * i + k)) = .int .u8 (b : Int) from congrArg (Value.int .u8) hU.out]; simp); (case hn => omega); (case hbase => simpa using Nat.le_succ_of_le hz'); intro v' w' ho' hb' _ _; go_simp)
     go_roundw
     case rel => exact ⟨k + 1, by omega, by go_num, by rw [HS.out], ho', (HB1.out.alloc hz' _).trans hb'⟩
     case measure => simp [intOf]; omega
    ·obtain rfl : k = 7 := by omega
     clear hlk hk
     rw [show ((7 : Nat) : Int) = 7 from rfl]
     have HO1 := za HO
     have HB1 := za HB
     clear HO HB
     go_wp2_with fail
     go_roundw
     case rel => exact ⟨i + 1, by omega, by go_num, by rw [show 7 * (i + 1) = 7 * i + 7 by omega]; exact HO1.out, HB1.out⟩
     case measure => simp [intOf]; omega
  ·obtain rfl : i = 8 := by omega
   clear hlt hi
   rw [show ((8 : Nat) : Int) = 8 from rfl]
   have HO1 := za HO
   have HB1 := za HB
   clear HO HB
   go_wp2_with fail
   go_ret
   exact ⟨_, _, rfl, B1.out.size, HB1.out.size, HO1.out, B1.out.trans (HB1.out.mono B1.out.size)⟩
theorem refBytes_any (x : Nat) (w : World) :
  Calls Tryz.prog 57 #[FV x] w fun e w' => ∃ v, e = .returned v ∧ New w w' v 56 (bX x) ∧ Below w.heap.size w w' :=
 (z4j x w).mono fun e w' ⟨v, B, he, h1, _, ho, hb⟩ => by
  obtain ⟨g, c, cur, rfl, hg, hrow, hsl⟩ := ho.sl (by omega)
  exact ⟨_, he, ⟨g, c, rfl, Nat.le_trans h1 hg, hsl⟩, hb⟩
theorem refPrime_any (w : World) :
  Calls Tryz.prog 64 #[] w fun e w' => ∃ v, e = .returned v ∧ New w w' v 56 (bX pN) ∧ Below w.heap.size w w' := by
 have HP : Hid (Value.agg (AZ .i64 16 pF) = FV pN) := za (FV_of pF_bd (by rw [val_p, y64]))
 go_enter Tryz.func64, Tryz.ntmps64
 go_wp2_with (first
  | ((with_reducible refine (z7g _).mono ?_); rw [HP.out]; rintro e w1 ⟨rfl, B1⟩; have B1 := za B1)
  | ((with_reducible refine (refBytes_any pN _).mono ?_); rintro e w2 ⟨v, rfl, N2, B2⟩; have N2 := za N2; have B2 := za B2))
 go_ret
 obtain ⟨g, c, rfl, hg, hs⟩ := N2.out
 exact ⟨_, rfl, ⟨g, c, rfl, Nat.le_trans B1.out.size hg, hs⟩, B1.out.trans (B2.out.mono B1.out.size)⟩
theorem pN_256 : pN < 256 ^ 56 := by decide +kernel
theorem y7e (r q : Int) : val (updZ (updZ (fun _ => 0) 0 r) 1 q) 16 = r + q * 268435456 := by
 rw [z5o _ _ _ _ (by omega), z5o _ _ _ _ (by omega)]
 have h0 : ∀ n, val (fun _ => 0) n = 0 := fun n => by
  induction n with
  | zero => rfl
  | succ n ih => unfold val; rw [ih, Int.zero_mul]; rfl
 rw [h0, show updZ (fun _ => 0) 0 r 1 = 0 from rfl, Int.pow_zero, Int.pow_one]
 omega
theorem y6d {r q : Int} (h1 : 0 ≤ r) (h2 : r ≤ 268435456) (h3 : 0 ≤ q) (h4 : q ≤ 68719476736) : Fine (updZ (updZ (fun _ => 0) 0 r) 1 q) := fun i _ => by
 unfold updZ
 by_cases e1 : i = 1
 ·rw [if_pos e1]; omega
 ·rw [if_neg e1]
  by_cases e0 : i = 0
  ·rw [if_pos e0]; omega
  ·rw [if_neg e0]; show (_ : Int) ≤ 0 ∧ (0 : Int) ≤ _; omega
theorem neg_p (m : Nat) : (pN - m % pN) % pN = (-(m : Int) % pZ).toNat := by
 rw [y64]
 have hp : (0 : Int) < (pN : Int) := by have := z9y; omega
 have hm := Nat.mod_lt m z9y
 have e : (m : Int) = ((m % pN : Nat) : Int) + (pN : Int) * ((m / pN : Nat) : Int) := by
  have := Nat.mod_add_div m pN
  exact_mod_cast this.symm
 have e2 : (-(m : Int)) % (pN : Int) = ((pN - m % pN : Nat) : Int) % (pN : Int) := by
  rw [Int.natCast_sub (Nat.le_of_lt hm)]
  rw [show -(m : Int) = ((pN : Int) - ((m % pN : Nat) : Int)) + (pN : Int) * (-((m / pN : Nat) : Int) - 1) by rw [Int.mul_sub, Int.mul_neg, Int.mul_one]; omega]
  rw [Int.add_mul_emod_self_left]
 rw [e2, ← Int.natCast_emod, Int.toNat_natCast]
theorem refInt_pos (m : Nat) (w : World) (hm : m ≤ 9223372036854775807) :
  Calls Tryz.prog 52 #[.int .i64 (m : Int)] w fun e w' => e = .returned (FV (m % pN)) ∧ Below w.heap.size w w' := by
 obtain ⟨r, hr⟩ : ∃ r, m % 268435456 = r := ⟨_, rfl⟩
 obtain ⟨q, hq⟩ : ∃ q, m / 268435456 = q := ⟨_, rfl⟩
 have e1 : (m : Int) % 268435456 = (r : Int) := by omega
 have e2 : (m : Int) / 268435456 = (q : Int) := by omega
 have hv : val (updZ (updZ (fun _ => 0) 0 (r : Int)) 1 (q : Int)) 16 = (m : Int) := by rw [y7e]; omega
 have HN := za (fun w => z6g _ w (y6d (r := (r : Int)) (q := (q : Int)) (by omega) (by omega) (by omega) (by omega)) (by rw [hv]; omega))
 rw [hv, z8o] at HN
 have dn : decide ((m : Int) < 0) = false := by simp
 have Hm := za hm
 have mb : (m : Int) ≤ 9223372036854775807 := by omega
 clear hv hr hq hm
 have H := za (Ow.start w)
 go_enter Tryz.func52, Tryz.ntmps52
 go_wp2_with (first
  | ((with_reducible apply ze zA.zero H); (case hgd | ho => exact rfl); clear H; intro _ _ H _ _; go_simp)
  | ((with_reducible apply z2z oneI H); (case hgd | ho | hx | hy => exact rfl); (case hi => repeat first|exact z5|apply z8); (case hj => omega); clear H; intro ws H _ _; simp only [qb] at H; go_simp)
  | ((with_reducible apply zr z4 H); (case hgd | ho | hx => exact rfl); (case hi => repeat first|exact z5|apply z8); intro _ _; go_simp)
  | ((with_reducible refine (HN.out _).mono ?_); rintro e wc ⟨rfl, hb⟩; replace H := zd H hb; clear hb)
  | ((with_reducible apply zj z4 H); (case hgd | ho | hx | hy => exact rfl); (case hi => repeat first|exact z5|apply z8); clear H; intro ws H _ _; simp only [qb, qc] at H; go_simp))
 exact bodyPost_ret (zy 1 z4 rfl _ H rfl rfl) rfl ⟨rfl, H.out.bel⟩
theorem refInt_neg (m : Nat) (w : World) (h1 : 1 ≤ m) (hm : m ≤ 9223372036854775808) :
  Calls Tryz.prog 52 #[.int .i64 (-(m : Int))] w fun e w' => e = .returned (FV ((pN - m % pN) % pN)) ∧ Below w.heap.size w w' := by
 obtain ⟨r, hr⟩ : ∃ r, m % 268435456 = r := ⟨_, rfl⟩
 obtain ⟨q, hq⟩ : ∃ q, m / 268435456 = q := ⟨_, rfl⟩
 have e1 : (-(m : Int)).tmod 268435456 = -(r : Int) := by rw [Int.neg_tmod, Int.tmod_eq_emod_of_nonneg (by omega)]; omega
 have e2 : (-(m : Int)).tdiv 268435456 = -(q : Int) := by rw [Int.neg_tdiv, Int.tdiv_eq_ediv_of_nonneg (by omega)]; omega
 have hv : val (updZ (updZ (fun _ => 0) 0 (r : Int)) 1 (q : Int)) 16 = (m : Int) := by rw [y7e]; omega
 have HN := za (fun w => z6g _ w (y6d (r := (r : Int)) (q := (q : Int)) (by omega) (by omega) (by omega) (by omega)) (by rw [hv]; omega))
 rw [hv, z8o] at HN
 have HM := za (fun w => z71 (m % pN) w (Nat.mod_lt _ z9y))
 obtain ⟨z, hz⟩ : ∃ z : Int, -(m : Int) = z := ⟨_, rfl⟩
 have z0 : z < 0 := by omega
 have z1 : -9223372036854775808 ≤ z := by omega
 have r0 : r < 268435456 := by omega
 have q0 : q ≤ 68719476736 := by omega
 rw [hz] at e1 e2 ⊢
 have dn : decide (z < 0) = true := by simpa using z0
 clear hv hr hq hm h1 hz
 have H := za (Ow.start w)
 go_enter Tryz.func52, Tryz.ntmps52
 go_wp2_with (first
  | ((with_reducible apply ze zA.zero H); (case hgd | ho => exact rfl); clear H; intro _ _ H _ _; go_simp)
  | ((with_reducible apply z2z oneI H); (case hgd | ho | hx | hy => exact rfl); (case hi => repeat first|exact z5|apply z8); (case hj => omega); clear H; intro ws H _ _; simp only [qb] at H; go_simp)
  | ((with_reducible apply zr z4 H); (case hgd | ho | hx => exact rfl); (case hi => repeat first|exact z5|apply z8); intro _ _; go_simp)
  | ((with_reducible refine (HN.out _).mono ?_); rintro e wc ⟨rfl, hb⟩; replace H := zd H hb; clear hb)
  | ((with_reducible refine (HM.out _).mono ?_); rintro e wc ⟨rfl, hb⟩; replace H := zd H hb; clear hb)
  | ((with_reducible apply zj z4 H); (case hgd | ho | hx | hy => exact rfl); (case hi => repeat first|exact z5|apply z8); clear H; intro ws H _ _; simp only [qb, qc] at H; go_simp))
 exact bodyPost_ret (zy 1 z4 rfl _ H rfl rfl) rfl ⟨rfl, H.out.bel⟩
theorem refInt_any (n : Int) (w : World) (h1 : -9223372036854775808 ≤ n) (h2 : n ≤ 9223372036854775807) :
  Calls Tryz.prog 52 #[.int .i64 n] w fun e w' => e = .returned (FV (n % pZ).toNat) ∧ Below w.heap.size w w' := by
 rcases (by omega : 0 ≤ n ∨ n < 0) with h | h
 ·obtain ⟨m, rfl⟩ : ∃ m : Nat, n = (m : Int) := ⟨n.toNat, by omega⟩
  rw [z8o]
  exact refInt_pos m w (by omega)
 ·obtain ⟨m, rfl⟩ : ∃ m : Nat, n = -(m : Int) := ⟨(-n).toNat, by omega⟩
  rw [← neg_p]
  exact refInt_neg m w (by omega) (by omega)
def rowM (f g s : Nat → Int) (i : Nat) : Nat → Nat → Int
 | 0 => s
 | k + 1 => updZ (rowM f g s i k) (i + k) (rowM f g s i k (i + k) + f i * g k)
def allM (f g : Nat → Int) : Nat → Nat → Int
 | 0 => fun _ => 0
 | i + 1 => rowM f g (allM f g i) i 16
theorem y4w : ∀ n, val (fun _ => 0) n = 0
 | 0 => rfl
 | n + 1 => by unfold val; rw [y4w n, Int.zero_mul]; rfl
theorem y4x (f g s : Nat → Int) (i : Nat) (hi : i < 16) : ∀ k, k ≤ 15 + 1 → val (rowM f g s i k) 31 = val s 31 + f i * val g k * 268435456 ^ i
 | 0, _ => by simp [rowM, val]
 | k + 1, hk => by
  unfold rowM
  rw [z5o _ _ _ _ (by omega), y4x f g s i hi k (by omega)]
  rw [show val g (k + 1) = val g k + g k * 268435456 ^ k from rfl, Int.pow_add, Int.mul_add, Int.add_mul, Int.add_comm (rowM f g s i k (i + k)), Int.add_sub_cancel, Int.add_assoc]
  congr 2
  rw [Int.mul_assoc, Int.mul_assoc, Int.mul_comm (268435456 ^ i) (268435456 ^ k), Int.mul_assoc]
theorem y4y (f g : Nat → Int) : ∀ i, i ≤ 16 → val (allM f g i) 31 = val f i * val g 16
 | 0, _ => by show val (fun _ => 0) 31 = 0 * val g 16; rw [y4w, Int.zero_mul]
 | i + 1, hi => by
  unfold allM
  rw [y4x _ _ _ _ (by omega) 16 (by omega), y4y f g i (by omega)]
  rw [show val f (i + 1) = val f i + f i * 268435456 ^ i from rfl, Int.add_mul, Int.mul_assoc, Int.mul_assoc, Int.mul_comm (268435456 ^ i)]
theorem y77 {x y : Int} (hx : 0 ≤ x ∧ x < 268435456) (hy : 0 ≤ y ∧ y < 268435456) : 0 ≤ x * y ∧ x * y ≤ 72057593501057025 := by
 refine ⟨Int.mul_nonneg hx.1 hy.1, ?_⟩
 have h1 := Int.mul_le_mul (show x ≤ 268435455 by omega) (show y ≤ 268435455 by omega) hy.1 (by omega)
 omega
theorem y3z {f g s : Nat → Int} (hf : ∀ i, 0 ≤ f i ∧ f i < 268435456) (hg : ∀ i, 0 ≤ g i ∧ g i < 268435456) (i : Nat) (hs : ∀ j, 0 ≤ s j ∧ s j ≤ (i : Int) * 72057593501057025) :
  ∀ k j, 0 ≤ rowM f g s i k j ∧ rowM f g s i k j ≤ (i : Int) * 72057593501057025 + 72057593501057025 ∧ (i + k ≤ j → rowM f g s i k j = s j)
 | 0, j => by have := hs j; unfold rowM; exact ⟨by omega, by omega, fun _ => rfl⟩
 | k + 1, j => by
  have ih := y3z hf hg i hs k
  have hp := y77 (hf i) (hg k)
  unfold rowM updZ
  by_cases e : j = i + k
  ·have h1 := ih (i + k)
   have h2 := h1.2.2 (Nat.le_refl _)
   have h3 := hs (i + k)
   rw [if_pos e, h2]
   exact ⟨by omega, by omega, fun h => by omega⟩
  ·rw [if_neg e]
   have h1 := ih j
   exact ⟨h1.1, h1.2.1, fun h => h1.2.2 (by omega)⟩
theorem y9u {f g : Nat → Int} (hf : ∀ i, 0 ≤ f i ∧ f i < 268435456) (hg : ∀ i, 0 ≤ g i ∧ g i < 268435456) : ∀ i j, 0 ≤ allM f g i j ∧ allM f g i j ≤ (i : Int) * 72057593501057025
 | 0, j => by simp [allM]
 | i + 1, j => by
  have h := y3z hf hg i (fun j => y9u hf hg i j) 16 j
  unfold allM
  rw [Int.natCast_add, Int.add_mul]
  exact ⟨h.1, by have := h.2.1; omega⟩
def bdM (K j : Nat) : Nat := if 24 ≤ j then 1 else if 16 ≤ j then (if K ≤ j + 8 then 2 else 1) else if 8 ≤ j then (if K ≤ j + 8 then 4 else if K ≤ j + 16 then 2 else 1) else (if K ≤ j + 16 then 3 else 1)
theorem bdM_step : ∀ i, i < 31 → 16 ≤ i → ∀ j, j < 31 → (if j = i - 8 then bdM (i + 1) (i - 8) + bdM (i + 1) i else if j = i - 16 then bdM (i + 1) (i - 16) + bdM (i + 1) i else bdM (i + 1) j) ≤ bdM i j := by decide +kernel
theorem bdM_start : ∀ j, j < 31 → 1 ≤ bdM 31 j := by decide +kernel
theorem y6z (K j : Nat) : bdM K j ≤ 4 := by unfold bdM; repeat (first | split | omega)
def y3b (c : Nat → Int) (i : Nat) : Nat → Int := updZ (updZ c (i - 16) (c (i - 16) + c i)) (i - 8) (c (i - 8) + c i)
theorem foldM_bd {c : Nat → Int} {i : Nat} (hi : 16 ≤ i) (h31 : i < 31) (h : ∀ j, j < 31 → 0 ≤ c j ∧ c j ≤ 1152921496016912400 * ((bdM (i + 1) j : Nat) : Int)) : ∀ j, j < 31 → 0 ≤ y3b c i j ∧ y3b c i j ≤ 1152921496016912400 * ((bdM i j : Nat) : Int) := by
 intro j hj
 have hs := bdM_step i h31 hi j hj
 have h1 := h (i - 8) (by omega)
 have h2 := h (i - 16) (by omega)
 have h3 := h i h31
 have h4 := h j hj
 unfold y3b updZ
 by_cases e1 : j = i - 8
 ·rw [if_pos e1] at hs ⊢
  omega
 ·rw [if_neg e1] at hs ⊢
  by_cases e2 : j = i - 16
  ·rw [if_pos e2] at hs ⊢
   omega
  ·rw [if_neg e2] at hs ⊢
   omega
theorem val_foldM (c : Nat → Int) (i : Nat) (hi : 16 ≤ i) : val c (i + 1) = val (y3b c i) i + c i * 268435456 ^ (i - 16) * pZ := by
 obtain ⟨k, rfl⟩ : ∃ k, i = k + 16 := ⟨i - 16, by omega⟩
 unfold y3b
 rw [z5o _ _ _ _ (by omega), z5o _ _ _ _ (by omega), show updZ c (k + 16 - 16) (c (k + 16 - 16) + c (k + 16)) (k + 16 - 8) = c (k + 16 - 8) by unfold updZ; rw [if_neg (by omega)]]
 rw [show val c (k + 16 + 1) = val c (k + 16) + c (k + 16) * 268435456 ^ (k + 16) from rfl, show k + 16 - 16 = k by omega, show k + 16 - 8 = k + 8 by omega]
 rw [show pZ = 268435456 ^ 16 - 268435456 ^ 8 - 1 by decide +kernel, Int.add_comm (c k), Int.add_sub_cancel, Int.add_comm (c (k + 8)), Int.add_sub_cancel, Int.pow_add, Int.pow_add]
 generalize val c (k + 16) = v
 generalize c (k + 16) = d
 generalize (268435456 : Int) ^ 16 = x
 generalize (268435456 : Int) ^ 8 = y
 generalize (268435456 : Int) ^ k = z
 rw [Int.mul_sub, Int.mul_sub, Int.mul_one, Int.mul_assoc d z x, Int.mul_assoc d z y]
 omega
theorem y0n {f : Nat → Int} : ∀ n, (∀ i, i < n → 0 ≤ f i) → 0 ≤ val f n
 | 0, _ => Int.le_refl _
 | n + 1, h => by
  have h1 := y0n n fun i hi => h i (by omega)
  have h2 := Int.mul_nonneg (h n (by omega)) (show (0 : Int) ≤ 268435456 ^ n from Int.le_of_lt (Int.pow_pos (by omega)))
  unfold val
  omega
theorem zeroAll : AZ .i64 31 (fun _ => 0) = #[.int .i64 0, .int .i64 0, .int .i64 0, .int .i64 0, .int .i64 0, .int .i64 0, .int .i64 0, .int .i64 0, .int .i64 0, .int .i64 0, .int .i64 0, .int .i64 0, .int .i64 0, .int .i64 0, .int .i64 0, .int .i64 0, .int .i64 0, .int .i64 0, .int .i64 0, .int .i64 0, .int .i64 0, .int .i64 0, .int .i64 0, .int .i64 0, .int .i64 0, .int .i64 0, .int .i64 0, .int .i64 0, .int .i64 0, .int .i64 0, .int .i64 0] := by
 unfold AZ
 rfl
theorem nilAll (w : World) : (zeroValue 154).run Tryz.prog w = .ok (.agg (AZ .i64 31 fun _ => 0)) w := by rw [zeroAll]; exact Tryz.zeroValue154 w
theorem refMul_any (x y : Nat) (w : World) (hx : x < pN) (hy : y < pN) :
  Calls Tryz.prog 49 #[FV x, FV y] w fun e w' => e = .returned (FV (x * y % pN)) ∧ Below w.heap.size w w' := by
 have hv : val (allM (dF x) (dF y) 16) 31 = ((x * y : Nat) : Int) := by rw [y4y _ _ _ (by omega), z9l hx, z9l hy, Int.natCast_mul]
 have HV := za hv
 have HX := za (z8i x)
 have HY := za (z8i y)
 have HD := za (y9u (z8i x) (z8i y))
 have HF : Hid (FV x = .agg (AZ .i64 16 (dF x)) ∧ FV y = .agg (AZ .i64 16 (dF y))) := za ⟨rfl, rfl⟩
 generalize dF x = f at *
 generalize dF y = g at *
 clear hv hx hy
 have H := za (Ow.start w)
 rw [HF.out.1, HF.out.2]
 clear HF
 go_enter Tryz.func49, Tryz.ntmps49
 go_wp2_with (first
  | ((fail_if_success have := g1); (with_reducible apply zw H); (case hgd | ho | hx => exact rfl); clear H; intro w1 g1 H _ _; go_simp)
  | ((fail_if_success have := g2); (with_reducible apply zw H); (case hgd | ho | hx => exact rfl); clear H; intro w2 g2 H _ _; go_simp)
  | ((fail_if_success have := g3); (with_reducible apply ze zA.zero H); (case hgd | ho => exact rfl); clear H; intro w3 g3 H _ _; go_simp)
  | ((fail_if_success have := g4); (with_reducible apply ze nilAll H); (case hgd | ho => exact rfl); clear H; intro w4 g4 H _ _; go_simp))
 go_loopw [6, 7] (fun v6 v7 wr => ∃ i : Nat, i ≤ 16 ∧ v6 = .int .i64 i ∧ Ow w wr [(g4, zv 154 .i64 31 (allM f g i)), (g3, zv 36 .i64 16 fun _ => 0), (g2, zv 36 .i64 16 g), (g1, zv 36 .i64 16 f)]) (fun v6 _ _ => 16 - (intOf v6).toNat)
 case atStart => exact ⟨0, by omega, rfl, H.out⟩
 case round =>
  clear H
  obtain ⟨i, hi, rfl, HR⟩ := hrel
  by_cases hlt : i < 16
  ·have hid : decide ((i : Int) < 16) = true := by simp; omega
   have i16 : (i : Int) < 16 := by omega
   have H := za HR
   clear HR
   go_wp2_with fail
   go_loopw [7] (fun v7 wr => ∃ k : Nat, k ≤ 16 ∧ v7 = .int .i64 k ∧ Ow w wr [(g4, zv 154 .i64 31 (rowM f g (allM f g i) i k)), (g3, zv 36 .i64 16 fun _ => 0), (g2, zv 36 .i64 16 g), (g1, zv 36 .i64 16 f)]) (fun v7 _ => 16 - (intOf v7).toNat)
   case atStart => exact ⟨0, by omega, rfl, H.out⟩
   case round =>
    clear H
    obtain ⟨k, hk, rfl, HR⟩ := hrel
    by_cases hlk : k < 16
    ·have hkd : decide ((k : Int) < 16) = true := by simp; omega
     have k16 : (k : Int) < 16 := by omega
     have H1 := za HR
     clear HR
     go_wp2_with fail
     refine wp_region_still_tail 17 (by kernel_rfl) (by kernel_rfl) ?_
     change wpStill _ _ wr.drew (fun a' => wpList _ _ _ _ a' wr.drew) _ _
     have D := za H1.out.drew
     clear H1
     generalize wr.drew = w8 at *
     obtain ⟨p, hp⟩ : ∃ p, i + k = p := ⟨_, rfl⟩
     have pI : (i : Int) + (k : Int) = (p : Int) := by omega
     have p31 : p < 31 := by omega
     have f1 : IntKind.i64.wrap (p : Int) = (p : Int) := IntWalk.i64_in _ (by omega)
     have p31' : (p : Int) < 31 := by omega
     have hc1 := D.out.cell 3 rfl i hlt
     have hc2 := D.out.cell 2 rfl k hlk
     have hc3 := D.out.cell 0 rfl p p31
     have hz := D.out.thaw 0 rfl p
     have bv := y3z HX.out HY.out i (HD.out i) k p
     have bv2 := bv.2.1
     have bv1 := bv.1
     have bp := y77 (HX.out i) (HY.out k)
     have U1 := za (D.out.setCell 0 rfl p (rowM f g (allM f g i) i k p + f i * g k))
     have UE : Hid (updZ (rowM f g (allM f g i) i k) p (rowM f g (allM f g i) i k p + f i * g k) = rowM f g (allM f g i) i (k + 1)) := za (by rw [← hp]; rfl)
     rw [UE.out] at U1
     clear D UE bv
     have hs : (i : Int) * 72057593501057025 ≤ 15 * 72057593501057025 := Int.mul_le_mul_of_nonneg_right (by omega) (by omega)
     obtain ⟨u, hu⟩ : ∃ u, (i : Int) * 72057593501057025 = u := ⟨_, rfl⟩
     rw [hu] at hs bv2
     obtain ⟨v, hv⟩ : ∃ v, rowM f g (allM f g i) i k p = v := ⟨_, rfl⟩
     obtain ⟨a, ha⟩ : ∃ a, f i = a := ⟨_, rfl⟩
     obtain ⟨b, hb⟩ : ∃ b, g k = b := ⟨_, rfl⟩
     rw [hv] at hc3 U1 bv1 bv2
     rw [ha] at hc1 U1 bp
     rw [hb] at hc2 U1 bp
     obtain ⟨z, hz'⟩ : ∃ z, a * b = z := ⟨_, rfl⟩
     rw [hz'] at U1 bp
     obtain ⟨bp1, bp2⟩ := bp
     have ba := HX.out i
     have bb := HY.out k
     rw [ha] at ba
     rw [hb] at bb
     have w1 : IntKind.i64.wrap z = z := IntWalk.i64_in _ (by omega)
     have w2 : IntKind.i64.wrap (v + z) = v + z := IntWalk.i64_in _ (by omega)
     have HP := za hp
     clear hu hv ha hb hp ba bb hs
     simp only [List.take_succ_cons, List.take_zero, List.drop_succ_cons, List.drop_zero]
     iterate 17 still_step
     refine wpStill_nil ?_
     clear w1 w2 hz' pI
     go_wp2_with fail
     go_roundw
     case rel => exact ⟨k + 1, by omega, by go_num, U1.out⟩
     case measure => simp [intOf]; omega
    ·obtain rfl : k = 16 := by omega
     clear hlk hk
     rw [show ((16 : Nat) : Int) = 16 from rfl]
     have H := za HR
     clear HR
     go_wp2_with fail
     go_roundw
     case rel => exact ⟨i + 1, by omega, by go_num, H.out⟩
     case measure => simp [intOf]; omega
  ·obtain rfl : i = 16 := by omega
   clear hlt hi
   rw [show ((16 : Nat) : Int) = 16 from rfl]
   have H := za HR
   clear HR
   go_wp2_with fail
   go_loopw [8] (fun v8 wr => ∃ (K : Nat) (c : Nat → Int) (q : Int), 16 ≤ K ∧ K ≤ 31 ∧ v8 = .int .i64 ((K : Int) - 1) ∧ ((x * y : Nat) : Int) = val c K + q * pZ ∧ (∀ j, j < 31 → 0 ≤ c j ∧ c j ≤ 1152921496016912400 * ((bdM K j : Nat) : Int)) ∧ Ow w wr [(g4, zv 154 .i64 31 c), (g3, zv 36 .i64 16 fun _ => 0), (g2, zv 36 .i64 16 g), (g1, zv 36 .i64 16 f)]) (fun v8 _ => (intOf v8 + 1).toNat)
   case atStart => exact ⟨31, allM f g 16, 0, by omega, by omega, rfl, by rw [HV.out]; omega, fun j hj => by have := HD.out 16 j; have := bdM_start j hj; omega, H.out⟩
   case round =>
    clear H
    obtain ⟨K, c, q, hK1, hK2, rfl, hq, hb, HR⟩ := hrel
    by_cases hlt : 16 < K
    ·obtain ⟨i, rfl⟩ : ∃ i, K = i + 1 := ⟨K - 1, by omega⟩
     have e : (((i + 1 : Nat) : Int) - 1) = (i : Int) := by omega
     rw [e]
     have i16 : 16 ≤ i := by omega
     have i31 : i < 31 := by omega
     have hid : decide ((16 : Int) ≤ (i : Int)) = true := by simp; omega
     obtain ⟨j, hj⟩ : ∃ j, i - 16 = j := ⟨_, rfl⟩
     obtain ⟨m, hm⟩ : ∃ m, i - 8 = m := ⟨_, rfl⟩
     have ej : (i : Int) - 16 = (j : Int) := by omega
     have em : (i : Int) - 8 = (m : Int) := by omega
     have iI : (i : Int) < 31 := by omega
     have f1 : IntKind.i64.wrap (j : Int) = (j : Int) := IntWalk.i64_in _ (by omega)
     have f2 : IntKind.i64.wrap (m : Int) = (m : Int) := IntWalk.i64_in _ (by omega)
     have jI : (j : Int) < 31 := by omega
     have mI : (m : Int) < 31 := by omega
     have HQ := za hq
     have HB := za hb
     have HFB := za (foldM_bd i16 i31 hb)
     have HFV := za (val_foldM c i i16)
     have HFE : Hid (updZ (updZ c j (c j + c i)) m (c m + c i) = y3b c i) := za (by unfold y3b; rw [hj, hm])
     have b1 := hb i i31
     have b2 := hb j (by omega)
     have b3 := hb m (by omega)
     have l1 := y6z (i + 1) i
     have l2 := y6z (i + 1) j
     have l3 := y6z (i + 1) m
     obtain ⟨z, hz⟩ : ∃ z, c i = z := ⟨_, rfl⟩
     obtain ⟨a, ha⟩ : ∃ a, c j = a := ⟨_, rfl⟩
     obtain ⟨b, hb'⟩ : ∃ b, c m = b := ⟨_, rfl⟩
     rw [hz] at b1
     rw [ha] at b2
     rw [hb'] at b3
     have z0 : 0 ≤ z := b1.1
     have z1 : z ≤ 4611685984067649600 := by omega
     have a0 : 0 ≤ a := b2.1
     have a1 : a ≤ 4611685984067649600 := by omega
     have c0 : 0 ≤ b := b3.1
     have c1 : b ≤ 4611685984067649600 := by omega
     rw [hz, ha, hb'] at HFE
     have H1 := za HR
     have HZ := za hz
     have HA := za ha
     have HBm := za hb'
     have NJ : Hid (i ≠ j ∧ m ≠ j) := za (by omega)
     have jl : j < 31 := by omega
     have ml : m < 31 := by omega
     clear HR hq hb b1 b2 b3 l1 l2 l3 hz ha hb' hlt hK1 hK2 hj hm e
     go_wp2_with fail
     refine wp_region_still_tail 11 (by kernel_rfl) (by kernel_rfl) ?_
     change wpStill _ _ wr.drew (fun a' => wpList _ _ _ _ a' wr.drew) _ _
     have D := za H1.out.drew
     clear H1
     generalize wr.drew = w8 at *
     have hc1 : w8.cell? ⟨g4, i, none⟩ = some (.int .i64 z) := by rw [D.out.cell 0 rfl i i31, HZ.out]
     have hc2 : w8.cell? ⟨g4, j, none⟩ = some (.int .i64 a) := by rw [D.out.cell 0 rfl j jl, HA.out]
     have hz := D.out.thaw 0 rfl j
     have D2 := za (D.out.setCell 0 rfl j (a + z))
     simp only [qb] at D2
     clear D
     simp only [List.take_succ_cons, List.take_zero, List.drop_succ_cons, List.drop_zero]
     iterate 11 still_step
     refine wpStill_nil ?_
     go_wp2_with fail
     obtain ⟨w9, hw9⟩ : ∃ w9, w8.setCell ⟨g4, j, none⟩ (.int .i64 (a + z)) = w9 := ⟨_, rfl⟩
     rw [hw9] at D2 ⊢
     clear hw9 hc1 hc2 hz
     refine wp_region_still_tail 11 (by kernel_rfl) (by kernel_rfl) ?_
     change wpStill _ _ w9.drew (fun a' => wpList _ _ _ _ a' w9.drew) _ _
     have D := za D2.out.drew
     clear D2
     generalize w9.drew = w10 at *
     have hc1 : w10.cell? ⟨g4, i, none⟩ = some (.int .i64 z) := by
      rw [D.out.cell 0 rfl i i31]
      unfold updZ
      rw [if_neg NJ.out.1, HZ.out]
     have hc2 : w10.cell? ⟨g4, m, none⟩ = some (.int .i64 b) := by
      rw [D.out.cell 0 rfl m ml]
      unfold updZ
      rw [if_neg NJ.out.2, HBm.out]
     have hz := D.out.thaw 0 rfl m
     have U1 := za (D.out.setCell 0 rfl m (b + z))
     rw [HFE.out] at U1
     clear D
     simp only [List.take_succ_cons, List.take_zero, List.drop_succ_cons, List.drop_zero]
     iterate 11 still_step
     refine wpStill_nil ?_
     go_wp2_with fail
     go_roundw
     case rel => exact ⟨i, y3b c i, q + c i * 268435456 ^ (i - 16), i16, by omega, by go_num, by rw [HQ.out, HFV.out, Int.add_mul]; omega, HFB.out, U1.out⟩
     case measure => (simp [intOf] <;> omega)
    ·obtain rfl : K = 16 := by omega
     have e : (((16 : Nat) : Int) - 1) = 15 := rfl
     rw [e]
     have hd : decide ((16 : Int) ≤ 15) = false := rfl
     have hat : ∀ w, (Instr.arrayAt 36 (.slice (some ⟨g4, 0, none⟩) 16 31)).run Tryz.prog w = .ok (.pointer (some ⟨g4, 0, none⟩)) w := fun w => run_arrayAt w _ _ 16 _ 16 31 Tryz.underlying36 (by omega)
     have hf : Fine c := fun k hk => by
      have h1 := hb k (by omega)
      have h2 := y6z 16 k
      omega
     have hn : 0 ≤ val c 16 := y0n 16 fun k hk => (hb k (by omega)).1
     have HN := za (fun w => z6g c w hf hn)
     have e2 : (val c 16 % pZ).toNat = x * y % pN := by rw [← z8o, hq, Int.add_mul_emod_self_right]
     rw [e2] at HN
     have H := za HR
     clear HR hq hb e hf hn e2 hlt hK1 hK2
     go_wp2_with (first
      | ((with_reducible apply z47 z4 H); (case hgd | ho | hx => exact rfl); (case hi => repeat first|exact z5|apply z8); (case hj => omega); intro _ _; go_simp)
      | ((with_reducible apply zr z4 H); (case hgd | ho | hx => exact rfl); (case hi => repeat first|exact z5|apply z8); intro _ _; go_simp)
      | ((with_reducible refine (HN.out _).mono ?_); rintro e wc ⟨rfl, hb⟩; replace H := zd H hb; clear hb)
      | ((with_reducible apply zj z4 H); (case hgd | ho | hx | hy => exact rfl); (case hi => repeat first|exact z5|apply z8); clear H; intro ws H _ _; simp only [qb, qc] at H; go_simp))
     exact bodyPost_ret (zy 1 z4 rfl _ H rfl rfl) rfl ⟨rfl, H.out.bel⟩
def Oc (t : TypeId) (v : Value) : Obj := .cells #[v] t
structure IsCell (P : Program) (t : TypeId) : Prop where
 agg : ∀ w, (isAgg t).run P w = .ok false w
 size : (P.info? t).map (·.size) = some 1
structure OneV (v : Value) : Prop where
 cells : v.cells = #[v]
 one : v.oneCell' = true
section
variable {P : Program} {w w0 : World} {l : List (Nat × Obj)} {t ty : TypeId} {u v : Value}
theorem y9i {b : Nat} (hr : w.heap[b]? = some (Oc t v)) : w.cell? ⟨b, 0, none⟩ = some v := by
 have hrow : w.heap[b]? = some (.cells #[v] t) := hr
 rw [cell_of_row _ _ _ _ _ _ hrow]
 rfl
theorem z9p (hT : IsCell P ty) {b : Nat} (hr : w.heap[b]? = some (Oc t v)) : (Instr.loadAt ty (.pointer (some ⟨b, 0, none⟩))).run P w = .ok v w := by
 simp [Instr.loadAt, Instr.sureAddr, loadVar, Sem.run_bind, hT.agg w, y9i hr]
theorem y0q (hT : IsCell P ty) {b : Nat} (hr : w.heap[b]? = some (Oc t u)) (hv : OneV v) :
  (Instr.storeAt ty (.pointer (some ⟨b, 0, none⟩)) v).run P w = .ok () (w.setRow b #[v]) := by
 have hrow : w.heap[b]? = some (.cells #[u] t) := hr
 have hst := run_storeCells_at P b 0 t [v] 0 #[u] w hrow (by simp) (fun q hq => by obtain rfl := List.mem_singleton.1 hq; exact hv.one)
 have hsz := hT.size
 cases hq : P.info? ty with
 | none => simp [hq] at hsz
 | some i =>
  have hi : i.size = 1 := by simpa [hq] using hsz
  simp at hst
  simp [Instr.storeAt, Instr.sureAddr, storeVar, sizeOf, typeInfo, Sem.run_bind, hq, hi, hv.cells, hst]
theorem Ow.setOc (h : Ow w0 w l) (i : Nat) {b : Nat} (hi : l[i]? = some (b, Oc t u)) (v : Value) : Ow w0 (w.setRow b #[v]) (l.set i (b, Oc t v)) := by
 have hr : w.heap[b]? = some (.cells #[u] t) := h.row i hi
 exact h.put i hi ⟨rfl, rfl, rfl, by simp [World.setRow], fun c hc => setRow_other w b c _ (by omega)⟩ (fun c hc => setRow_other w b c _ hc) (setRow_heap w b _ _ t _ hr)
end
section
variable {P : Program} {ops : Array Oper} {rest : List Oper} {o : Oper} {a : Act} {w w0 : World} {l : List (Nat × Obj)} {Q : Exit → Act → World → Prop} {t ty : TypeId} {u v : Value}
theorem z4v (hz : ∀ w, (zeroValue t).run P w = .ok v w) (hv : OneV v) (H : Hid (Ow w0 w l)) (hgd : o.guard = none) (ho : o.op = .alloc t)
  (h : ∀ w' g, Hid (Ow w0 w' ((g, Oc t v) :: l)) → ∀ K : Act → World → Prop, (∀ a w, wpList P ops Q rest a w → K a w) → K (a.put o.dst (.pointer (some ⟨g, 0, none⟩))) w') : wpList P ops Q (o :: rest) a w :=
 wpList_plain hgd fun K hK => by
  unfold Oper.wp execOp
  simp only [ho, Instr.alloc, Sem.run_bind, hz, Result.andThen_ok, newVar, hv.cells]
  simp [go_sem]
  exact h _ _ (za (H.out.alloc _)) K hK
theorem z4u {i : Nat} (hT : IsCell P ty) (H : Hid (Ow w0 w l)) (hgd : o.guard = none) {x : Operand} (ho : o.op = .load ty x) {g : Nat} (hx : a.eval x = .pointer (some ⟨g, 0, none⟩))
  (hi : l[i]? = some (g, Oc t v)) (h : ∀ K : Act → World → Prop, (∀ a w, wpList P ops Q rest a w → K a w) → K (a.put o.dst v) w) : wpList P ops Q (o :: rest) a w :=
 wpList_plain hgd fun K hK => by
  unfold Oper.wp execOp
  simp only [ho, hx, Sem.run_bind, z9p hT (H.out.row i hi), Result.andThen_ok]
  exact h K hK
theorem z4t {i : Nat} (hT : IsCell P ty) (hv : OneV v) (H : Hid (Ow w0 w l)) (hgd : o.guard = none) {x y : Operand} (ho : o.op = .store ty x y) {g : Nat} (hx : a.eval x = .pointer (some ⟨g, 0, none⟩)) (hy : a.eval y = v)
  (hi : l[i]? = some (g, Oc t u)) (h : ∀ w', Hid (Ow w0 w' (l.set i (g, Oc t v))) → ∀ K : Act → World → Prop, (∀ a w, wpList P ops Q rest a w → K a w) → K (a.put o.dst undef) w') : wpList P ops Q (o :: rest) a w :=
 wpList_plain hgd fun K hK => by
  unfold Oper.wp execOp
  simp only [ho, hx, hy, Sem.run_bind, y0q hT (H.out.row i hi) hv, Result.andThen_ok]
  exact h _ (za (H.out.setOc i hi v)) K hK
end
section
variable {P : Program} {md : Region.Mode} {ops : Array Oper} {Q : Exit → Act → World → Prop} {S : World → Prop} {fuel : Nat} {listed : Array Bool} {a : Act} {w : World} {t ty : TypeId} {v : Value}
theorem z3x (i : Nat) (d : Tmp) {oi : Oper} (hT : IsCell P ty) (hi : ops[i]? = some oi) (hd : oi.dst = some d) (hw : Region.wanted oi (yielded ops a.tmps) = true) (hS : S w) {x : Operand} (ho : oi.op = .load ty x) {g : Nat} (hx : a.eval x = .pointer (some ⟨g, 0, none⟩))
  (hrow : ∀ w, S w → w.heap[g]? = some (Oc t v))
  (h : wpAnyH P md ops (NoPanic Q) S fuel (listed.setIfInBounds i true) (a.put (some d) v) w) (hs : Region.noSelect ops = true := by kernel_rfl) (hf : Region.free md ops listed i = true := by kernel_rfl) (hr : (Region.ready md ops listed).contains i = true := by kernel_rfl) : wpAnyH P md ops (NoPanic Q) S (fuel + 1) listed a w :=
 z0h i d v hi hd (hs := hs) (hf := hf) (hr := hr) hw hS (fun w hw' => by
  unfold execOp
  simp only [ho, hx, Sem.run_bind, z9p hT (hrow w hw'), Result.andThen_ok]
  rfl) h
end
theorem z48 (k : IntKind) (z : Int) : OneV (.int k z) := ⟨rfl, rfl⟩
def Cs (t : TypeId) (C : Array Value) : Obj := .cells C t
section
variable {P : Program} {w w0 : World} {l : List (Nat × Obj)} {t ty : TypeId} {v : Value} {C : Array Value}
theorem y18 {b j : Nat} (hr : w.heap[b]? = some (Cs t C)) (hj : C[j]? = some v) : w.cell? ⟨b, j, none⟩ = some v := by
 have hrow : w.heap[b]? = some (.cells C t) := hr
 rw [cell_of_row _ _ _ _ _ _ hrow]
 exact hj
theorem z34 (hT : IsCell P ty) {b j : Nat} (hr : w.heap[b]? = some (Cs t C)) (hj : C[j]? = some v) : (Instr.loadAt ty (.pointer (some ⟨b, j, none⟩))).run P w = .ok v w := by
 simp [Instr.loadAt, Instr.sureAddr, loadVar, Sem.run_bind, hT.agg w, y18 hr hj]
end
section
variable {P : Program} {ops : Array Oper} {rest : List Oper} {o : Oper} {a : Act} {w w0 : World} {l : List (Nat × Obj)} {Q : Exit → Act → World → Prop} {t ty : TypeId} {v : Value} {C : Array Value}
theorem z0g (H : Hid (Ow w0 w l)) (hgd : o.guard = none) {x : Operand} (ho : o.op = .box t x) (hx : a.eval x = .agg C)
  (h : ∀ w' g, Hid (Ow w0 w' ((g, Cs t C) :: l)) → ∀ K : Act → World → Prop, (∀ a w, wpList P ops Q rest a w → K a w) → K (a.put o.dst (.pointer (some ⟨g, 0, none⟩))) w') : wpList P ops Q (o :: rest) a w :=
 wpList_plain hgd fun K hK => by
  unfold Oper.wp execOp
  simp only [ho, hx, Instr.box, newVar, Value.cells]
  simp [go_sem]
  exact h _ _ (za (H.out.alloc _)) K hK
theorem z0m {i j : Nat} (hT : IsCell P ty) (H : Hid (Ow w0 w l)) (hgd : o.guard = none) {x : Operand} (ho : o.op = .load ty x) {g : Nat} (hx : a.eval x = .pointer (some ⟨g, j, none⟩))
  (hi : l[i]? = some (g, Cs t C)) (hj : C[j]? = some v) (h : ∀ K : Act → World → Prop, (∀ a w, wpList P ops Q rest a w → K a w) → K (a.put o.dst v) w) : wpList P ops Q (o :: rest) a w :=
 wpList_plain hgd fun K hK => by
  unfold Oper.wp execOp
  simp only [ho, hx, Sem.run_bind, z34 hT (H.out.row i hi) hj, Result.andThen_ok]
  exact h K hK
theorem z6e {i j : Nat} (hT : IsCell P ty) (H : Hid (Ow w0 w l)) (hw : Region.wanted o (yielded ops a.tmps) = true) {x : Operand} (ho : o.op = .load ty x) {g : Nat} (hx : a.eval x = .pointer (some ⟨g, j, none⟩))
  (hi : l[i]? = some (g, Cs t C)) (hj : C[j]? = some v) (h : ∀ K : Act → World → Prop, (∀ a w, wpList P ops Q rest a w → K a w) → K (a.put o.dst v) w) : wpList P ops Q (o :: rest) a w :=
 z60 hw fun K hK => by
  unfold Oper.wp execOp
  simp only [ho, hx, Sem.run_bind, z34 hT (H.out.row i hi) hj, Result.andThen_ok]
  exact h K hK
end
section
variable {P : Program} {md : Region.Mode} {ops : Array Oper} {Q : Exit → Act → World → Prop} {S : World → Prop} {fuel : Nat} {listed : Array Bool} {a : Act} {w : World} {t ty : TypeId} {v : Value} {C : Array Value}
theorem y26 (i : Nat) (d : Tmp) {oi : Oper} (hT : IsCell P ty) (hi : ops[i]? = some oi) (hd : oi.dst = some d) (hw : Region.wanted oi (yielded ops a.tmps) = true) (hS : S w) {x : Operand} (ho : oi.op = .load ty x) {g j : Nat} (hx : a.eval x = .pointer (some ⟨g, j, none⟩))
  (hrow : ∀ w, S w → w.heap[g]? = some (Cs t C)) (hj : C[j]? = some v)
  (h : wpAnyH P md ops (NoPanic Q) S fuel (listed.setIfInBounds i true) (a.put (some d) v) w) (hs : Region.noSelect ops = true := by kernel_rfl) (hf : Region.free md ops listed i = true := by kernel_rfl) (hr : (Region.ready md ops listed).contains i = true := by kernel_rfl) : wpAnyH P md ops (NoPanic Q) S (fuel + 1) listed a w :=
 z0h i d v hi hd (hs := hs) (hf := hf) (hr := hr) hw hS (fun w hw' => by
  unfold execOp
  simp only [ho, hx, Sem.run_bind, z34 hT (hrow w hw') hj, Result.andThen_ok]
  rfl) h
end
theorem z5s {P : Program} {w : World} {t ty : TypeId} {C : Array Value} {n : Nat} (hT : IsRow P ty n) (hC : C.size = n) {b : Nat} (hr : w.heap[b]? = some (Cs t C)) :
  (Instr.loadAt ty (.pointer (some ⟨b, 0, none⟩))).run P w = .ok (.agg C) w := by
 obtain ⟨d, hd, hd'⟩ := hT.under
 have hrow : w.heap[b]? = some (.cells C t) := hr
 simp only [Instr.loadAt, Instr.sureAddr, Sem.run_bind, Sem.run_pure, Result.andThen_ok, run_loadVar_row w b t ty _ (0, 0) d hrow hd (by cases d <;> simp_all) (by rw [hC]; exact hT.size)]
section
variable {P : Program} {ops : Array Oper} {rest : List Oper} {o : Oper} {a : Act} {w w0 : World} {l : List (Nat × Obj)} {Q : Exit → Act → World → Prop} {t ty : TypeId} {n : Nat} {C : Array Value}
theorem z0t {i : Nat} (hT : IsRow P ty n) (hC : C.size = n) (H : Hid (Ow w0 w l)) (hgd : o.guard = none) {x : Operand} (ho : o.op = .load ty x) {g : Nat} (hx : a.eval x = .pointer (some ⟨g, 0, none⟩))
  (hi : l[i]? = some (g, Cs t C)) (h : ∀ K : Act → World → Prop, (∀ a w, wpList P ops Q rest a w → K a w) → K (a.put o.dst (.agg C)) w) : wpList P ops Q (o :: rest) a w :=
 wpList_plain hgd fun K hK => by
  unfold Oper.wp execOp
  simp only [ho, hx, Sem.run_bind, z5s hT hC (H.out.row i hi), Result.andThen_ok]
  exact h K hK
end
structure NewL (w w' : World) (L : List (Nat × Obj)) : Prop where
 ge : ∀ x ∈ L, w.heap.size ≤ x.1
 apart : L.Pairwise fun x y => x.1 ≠ y.1
 has : ∀ x ∈ L, w'.heap[x.1]? = some x.2
theorem Ow.append {w0 w w' : World} {l L : List (Nat × Obj)} (h : Ow w0 w l) (hb : Below w.heap.size w w') (hN : NewL w w' L) : Ow w0 w' (l ++ L) := by
 have h1 := h.call hb
 refine ⟨h1.bel, fun x hx => ?_, fun x hx => ?_, List.pairwise_append.2 ⟨h1.apart, hN.apart, fun x hx y hy e => ?_⟩⟩
 ·rcases List.mem_append.1 hx with hx | hx
  ·exact h1.has x hx
  ·exact hN.has x hx
 ·rcases List.mem_append.1 hx with hx | hx
  ·exact h1.new x hx
  ·exact Nat.le_trans h.bel.size (hN.ge x hx)
 ·have a1 := z01 (h.has x hx)
  have a2 := hN.ge y hy
  omega
section
variable {P : Program} {w w0 : World} {l : List (Nat × Obj)} {t t' : TypeId} {k k' : IntKind} {n n' : Nat}
theorem z1f (i j : Nat) (hT : IsRow P t n) (hT' : IsRow P t' n') {fn : Func} {p q s : Tmp} (h : fn.results = #[.cell p t, .cell q t', .tmp s]) (tmps : Array Value) {g g' : Nat} {tb tb' : TypeId} {f f' : Nat → Int} {v : Value}
  (H : Hid (Ow w0 w l)) (hi : l[i]? = some (g, zv tb k n f)) (hj : l[j]? = some (g', zv tb' k' n' f')) (hp : tmps.getD p undef = .pointer (some ⟨g, 0, none⟩)) (hq : tmps.getD q undef = .pointer (some ⟨g', 0, none⟩)) (hv : tmps.getD s undef = v) :
  (results fn tmps).run P w = .ok (.tuple #[.agg (AZ k n f), .agg (AZ k' n' f'), v]) w := by
 obtain ⟨d, hd, hd'⟩ := hT.under
 obtain ⟨e, he, he'⟩ := hT'.under
 have hr : w.heap[g]? = some (.cells (AZ k n f) tb) := H.out.row i hi
 have hr' : w.heap[g']? = some (.cells (AZ k' n' f') tb') := H.out.row j hj
 have hp' : tmps[p]?.getD undef = .pointer (some ⟨g, 0, none⟩) := by simpa using hp
 have hq' : tmps[q]?.getD undef = .pointer (some ⟨g', 0, none⟩) := by simpa using hq
 have hv' : tmps[s]?.getD undef = v := by simpa using hv
 simp [results, h, hp', hq', hv', asAddr, run_loadVar_row w g tb t _ (0, 0) d hr hd (by cases d <;> simp_all) (by rw [z0j]; exact hT.size), run_loadVar_row w g' tb' t' _ (0, 0) e hr' he (by cases e <;> simp_all) (by rw [z0j]; exact hT'.size)]
end
theorem z35 : IsRow Tryz.prog 24 2 := ⟨⟨_, Tryz.underlying24, rfl⟩, by kernel_rfl⟩
theorem z27 : IsCell Tryz.prog 22 := ⟨fun w => by unfold isAgg; rw [Sem.run_bind, run_underlying Tryz.underlying22 w]; rfl, by kernel_rfl⟩
theorem z25 : IsCell Tryz.prog 3 := ⟨fun w => by unfold isAgg; rw [Sem.run_bind, run_underlying Tryz.underlying3 w]; rfl, by kernel_rfl⟩
structure Turn (X : Nat → Prop) (w w' : World) : Prop where
 os : w'.os = w.os
 tape : w'.tape = w.tape
 output : w'.output = w.output
 size : w.heap.size ≤ w'.heap.size
 block : ∀ k, k < w.heap.size → ¬ X k → w'.heap[k]? = w.heap[k]?
section
variable {X Y : Nat → Prop} {a b c : World}
theorem Turn.refl (X : Nat → Prop) (a : World) : Turn X a a := ⟨rfl, rfl, rfl, Nat.le_refl _, fun _ _ _ => rfl⟩
theorem Turn.trans (h : Turn X a b) (k : Turn X b c) : Turn X a c :=
 ⟨k.os.trans h.os, k.tape.trans h.tape, k.output.trans h.output, Nat.le_trans h.size k.size, fun i hi hx => (k.block i (Nat.lt_of_lt_of_le hi h.size) hx).trans (h.block i hi hx)⟩
theorem Turn.mono (h : Turn X a b) (hx : ∀ k, k < a.heap.size → X k → Y k) : Turn Y a b := ⟨h.os, h.tape, h.output, h.size, fun i hi hy => h.block i hi fun hi' => hy (hx i hi hi')⟩
theorem Turn.drew (h : Turn X a b) : Turn X a b.drew := ⟨h.os, h.tape, h.output, h.size, h.block⟩
theorem Turn.below {B : Nat} (h : Turn X a b) (hx : ∀ k, k < B → ¬ X k) (hB : B ≤ a.heap.size) : Below B a b := ⟨h.os, h.tape, h.output, h.size, fun i hi => h.block i (by omega) (hx i hi)⟩
theorem Turn.row (h : Turn X a b) {k : Nat} {o : Obj} (hr : a.heap[k]? = some o) (hx : ¬ X k) : b.heap[k]? = some o := (h.block k (z01 hr) hx).trans hr
theorem Ow.turn {w0 : World} {l : List (Nat × Obj)} (h : Ow w0 a l) (ht : Turn X a b) (h1 : ∀ k, k < w0.heap.size → ¬ X k) (h2 : ∀ x ∈ l, ¬ X x.1) : Ow w0 b l :=
 ⟨h.bel.trans (ht.below h1 h.bel.size), fun x hx => ht.row (h.has x hx) (h2 x hx), h.new, h.apart⟩
theorem Ow.more {w0 : World} {l : List (Nat × Obj)} (h : Ow w0 a l) {k : Nat} {o : Obj} (hr : a.heap[k]? = some o) (hk : w0.heap.size ≤ k) (hn : ∀ x ∈ l, k ≠ x.1) : Ow w0 a ((k, o) :: l) :=
 ⟨h.bel, fun x hx => by
  rcases List.mem_cons.1 hx with rfl | hx
  ·exact hr
  ·exact h.has x hx, fun x hx => by
  rcases List.mem_cons.1 hx with rfl | hx
  ·exact hk
  ·exact h.new x hx, List.Pairwise.cons hn h.apart⟩
end
def Lets (F : Fence) : Prop := F = Fence.wide ∨ ∃ l, F = Fence.wide.inRound l
theorem Lets.fn {F : Fence} (h : Lets F) (f : FuncId) : F.fn f := by
 rcases h with rfl | ⟨l, rfl⟩
 ·trivial
 ·trivial
theorem Lets.calls {F : Fence} (h : Lets F) {n : Nat} {P : Program} {f : FuncId} {args : Array Value} {w : World} {R : Ending → World → Prop} (hc : Calls P f args w R) : CallsIn F n P f args w R := by
 rcases h with rfl | ⟨l, rfl⟩
 ·exact callsIn_wide.2 hc
 ·exact (callsIn_wide.2 hc : CallsIn Fence.wide n P f args w R)
theorem Lets.rows {F : Fence} (h : Lets F) {n : Nat} {P : Program} {f : String} {args : Array Value} {w : World} {R : Value → World → Prop} (hc : Rows P f args w R) : RowsIn F n P f args w R := by
 rcases h with rfl | ⟨l, rfl⟩
 ·intro c cs _
  obtain ⟨v, w', hr, hs⟩ := hc c cs
  exact ⟨v, w', hr, stepsIn_wide.2 hs⟩
 ·intro c cs _
  obtain ⟨v, w', hr, hs⟩ := hc c cs
  exact ⟨v, w', hr, (stepsIn_wide.2 hs : StepsIn (Machine.fenced P Fence.wide) P _ _)⟩
theorem Lets.round {F : Fence} (h : Lets F) {P : Program} {l : Nat} {f : FuncId} {tmps : Array Value} {assign body : Code} {w : World} {R : Ending → World → Prop} (hc : RoundIn Fence.wide 0 P l f tmps assign body w R) : RoundIn F 0 P l f tmps assign body w R := by
 rcases h with rfl | ⟨l, rfl⟩
 ·exact hc
 ·exact hc
def Only (Q : Exit → Act → World → Prop) : Exit → Act → World → Prop
 | .normal, a, w => Q .normal a w
 | _, _, _ => False
theorem Only.no {Q : Exit → Act → World → Prop} (a : Act) (w : World) : ¬ Only Q .outgrown a w := fun h => h
section
variable {P : Program} {o : Oper} {a : Act} {w w0 : World} {l : List (Nat × Obj)} {K : Act → World → Prop} {Q : Exit → Act → World → Prop} {t ty : TypeId} {k : IntKind} {n m : Nat}
theorem own_st_p (i : Nat) (hd : o.dst = none) (hT : IsRow P ty m) (H : Ow w0 w l) {x y : Operand} (ho : o.op = .store ty x y) {g j : Nat} (hx : a.eval x = .pointer (some ⟨g, j, none⟩)) {f f0 F : Nat → Int} (hy : a.eval y = .agg (AZ k m f))
  (hi : l[i]? = some (g, zv t k n f0)) (hj : j + m ≤ n) (hF : AZ k n (layZ f0 j m f) = AZ k n F) (h : ∀ w', Ow w0 w' (l.set i (g, zv t k n F)) → K a w') : o.wp P a w K Q := by
 unfold Oper.wp execOp
 simp only [ho, hx, hy, Sem.run_bind, z1m (g := f) hT (H.row i hi) hj, Result.andThen_ok]
 have e : zv t k n (layZ f0 j m f) = zv t k n F := by
  unfold zv
  rw [hF]
 have hO := H.setRow i hi (layZ f0 j m f)
 rw [e] at hO
 have hp : a.put o.dst undef = a := by
  rw [hd]
  rfl
 have h2 := h _ hO
 rw [← hp] at h2
 exact h2
theorem zu (i : Nat) (hd : o.dst = none) (hT : IsRow P ty n) (H : Ow w0 w l) {x y : Operand} (ho : o.op = .store ty x y) {g : Nat} (hx : a.eval x = .pointer (some ⟨g, 0, none⟩)) {f f0 : Nat → Int} (hy : a.eval y = .agg (AZ k n f))
  (hi : l[i]? = some (g, zv t k n f0)) (h : ∀ w', Ow w0 w' (l.set i (g, zv t k n f)) → K a w') : o.wp P a w K Q :=
 own_st_p i hd hT H ho hx hy hi (by omega) (z6j f0 f n) h
end
section
variable {P : Program} {ops : Array Oper} {rest : List Oper} {o : Oper} {a : Act} {w : World} {Q : Exit → Act → World → Prop}
theorem z1y (hw : Region.wanted o (yielded ops a.tmps) = false) (h : ∀ K : Act → World → Prop, (∀ a w, wpList P ops Q rest a w → K a w) → K (a.put o.dst undef) w) : wpList P ops Q (o :: rest) a w :=
 wpList_step fun K hK => by
  rw [hw, if_neg (by simp)]
  exact h K hK
end
end Go.Proofs.YtgjbonikbmgfmaaGreatDoor
