/- Lemmas; no statement is proved here. -/
import Derived.Test.YtgjbonikbmgfmaaGreatDoorBuB
namespace Go.Proofs.YtgjbonikbmgfmaaGreatDoor
open Go.RowKit
def AV (n : Nat) (f : Nat → Value) : Array Value := Array.ofFn (n := n) fun i => f i
theorem z1l (n : Nat) (f : Nat → Value) : (AV n f).size = n := by simp [AV]
theorem z3j (n : Nat) (f : Nat → Value) : (AV n f).toList.length = n := by rw [Array.length_toList, z1l]
theorem z29 (n : Nat) (f : Nat → Value) (i : Nat) (h : i < n) : (AV n f)[i]? = some (f i) := by simp [AV, h]
theorem z6n {n : Nat} {f g : Nat → Value} (h : ∀ i, i < n → f i = g i) : AV n f = AV n g := by
 apply Array.ext_getElem?
 intro j
 by_cases hj : j < n
 ·rw [z29 _ _ _ hj, z29 _ _ _ hj, h j hj]
 ·rw [Array.getElem?_eq_none (by rw [z1l]; omega), Array.getElem?_eq_none (by rw [z1l]; omega)]
theorem AV_int (k : IntKind) (n : Nat) (f : Nat → Int) : AZ k n f = AV n fun i => .int k (f i) := by
 unfold AZ AV
 rfl
theorem AV_one {n : Nat} {f : Nat → Value} (h : ∀ i, i < n → (f i).oneCell' = true) : ∀ u ∈ (AV n f).toList, u.oneCell' = true := fun u hu => by
 obtain ⟨j, hj⟩ := List.getElem?_of_mem hu
 rw [Array.getElem?_toList] at hj
 by_cases h' : j < n
 ·rw [z29 _ _ _ h'] at hj
  rw [← Option.some.inj hj]
  exact h j h'
 ·rw [Array.getElem?_eq_none (by rw [z1l]; omega)] at hj
  cases hj
def layV (f : Nat → Value) (o m : Nat) (g : Nat → Value) : Nat → Value := fun j => if o ≤ j ∧ j < o + m then g (j - o) else f j
theorem AV_mid (n : Nat) (f g : Nat → Value) (o m : Nat) (h : o + m ≤ n) : ((AV n f).toList.take o ++ (AV m g).toList ++ (AV n f).toList.drop (o + m)).toArray = AV n (layV f o m g) := by
 apply Array.ext_getElem?
 intro j
 rw [List.getElem?_toArray]
 by_cases hj : j < n
 ·rw [z29 _ _ _ hj]
  unfold layV
  by_cases h1 : j < o
  ·rw [List.getElem?_append_left (by simp [z1l]; omega), List.getElem?_append_left (by simp [z1l]; omega), List.getElem?_take_of_lt h1, Array.getElem?_toList, z29 _ _ _ hj, if_neg (by omega)]
  ·by_cases h2 : j < o + m
   ·rw [List.getElem?_append_left (by simp [z1l]; omega), List.getElem?_append_right (by simp [z1l]; omega), if_pos (by omega)]
    rw [List.length_take, z3j, Nat.min_eq_left (by omega), Array.getElem?_toList, z29 _ _ _ (by omega)]
   ·rw [List.getElem?_append_right (by simp [z1l]; omega), List.getElem?_drop, if_neg (by omega), List.length_append, List.length_take, z3j, z3j, Nat.min_eq_left (by omega), Array.getElem?_toList]
    rw [show o + m + (j - (o + m)) = j by omega, z29 _ _ _ hj]
 ·rw [Array.getElem?_eq_none (by rw [z1l]; omega), List.getElem?_eq_none (by simp [z1l]; omega)]
section
variable {P : Program} {w w0 : World} {l : List (Nat × Obj)} {t ty : TypeId} {n m : Nat} {f g : Nat → Value}
theorem z5q {b o : Nat} {v : Value} (hs : (P.info? ty).map (·.size) = some m) (hr : w.heap[b]? = some (Cs t (AV n f))) (h : o + m ≤ n) (hv : v.cells = AV m g) (h1 : ∀ i, i < m → (g i).oneCell' = true) :
  (Instr.storeAt ty (.pointer (some ⟨b, o, none⟩)) v).run P w = .ok () (w.setRow b (AV n (layV f o m g))) := by
 have hrow : w.heap[b]? = some (.cells (AV n f) t) := hr
 have hst := run_storeCells_at P b o t (AV m g).toList 0 (AV n f) w hrow (by rw [z3j, z1l]; omega) (AV_one h1)
 rw [Nat.add_zero, z3j, AV_mid _ _ _ _ _ h] at hst
 cases hq : P.info? ty with
 | none => simp [hq] at hs
 | some i =>
  have hi : i.size = m := by simpa [hq] using hs
  simp [Instr.storeAt, Instr.sureAddr, storeVar, sizeOf, typeInfo, Sem.run_bind, hq, hi, hv, z1l, hst]
theorem Ow.setCs (h : Ow w0 w l) (i : Nat) {b : Nat} {C : Array Value} (hi : l[i]? = some (b, Cs t C)) (D : Array Value) : Ow w0 (w.setRow b D) (l.set i (b, Cs t D)) := by
 have hr : w.heap[b]? = some (.cells C t) := h.row i hi
 exact h.put i hi ⟨rfl, rfl, rfl, by simp [World.setRow], fun c hc => setRow_other w b c _ (by omega)⟩ (fun c hc => setRow_other w b c _ hc) (setRow_heap w b _ _ t _ hr)
theorem z5r {b o : Nat} (hT : IsRow P ty m) (hc : ∀ j, j < m → w.cell? ⟨b, o + j, none⟩ = some (f j)) : (Instr.loadAt ty (.pointer (some ⟨b, o, none⟩))).run P w = .ok (.agg (AV m f)) w := by
 obtain ⟨d, hd, hd'⟩ := hT.under
 have := run_loadAt_mid (P := P) w b o ty (AV m f).toList d (fun j v hv => by
  have hj : j < m := by
   rcases Nat.lt_or_ge j m with h' | h'
   ·exact h'
   ·rw [List.getElem?_eq_none (by rw [z3j]; exact h')] at hv; cases hv
  rw [Array.getElem?_toList, z29 _ _ _ hj] at hv
  rw [hc j hj, hv]) hd (by cases d <;> simp_all) (by rw [z3j]; exact hT.size)
 rwa [Array.toArray_toList] at this
theorem z69 {b j : Nat} (hr : w.heap[b]? = some (Cs t (AV n f))) (hj : j < n) : w.cell? ⟨b, j, none⟩ = some (f j) := y18 hr (z29 n f j hj)
end
section
variable {P : Program} {ops : Array Oper} {rest : List Oper} {o : Oper} {a : Act} {w w0 : World} {l : List (Nat × Obj)} {Q : Exit → Act → World → Prop} {t ty : TypeId} {n m : Nat} {f g : Nat → Value}
theorem z4b {i : Nat} (hs : (P.info? ty).map (·.size) = some m) (H : Hid (Ow w0 w l)) (hgd : o.guard = none) {x y : Operand} (ho : o.op = .store ty x y) {b p : Nat} (hx : a.eval x = .pointer (some ⟨b, p, none⟩)) {v : Value} (hy : a.eval y = v)
  (hi : l[i]? = some (b, Cs t (AV n f))) (hp : p + m ≤ n) (hv : v.cells = AV m g) (h1 : ∀ j, j < m → (g j).oneCell' = true) {F : Nat → Value} (hF : AV n (layV f p m g) = AV n F)
  (h : ∀ w', Hid (Ow w0 w' (l.set i (b, Cs t (AV n F)))) → Hid (Turn (fun j => j = b) w w') → ∀ K : Act → World → Prop, (∀ a w, wpList P ops Q rest a w → K a w) → K (a.put o.dst undef) w') : wpList P ops Q (o :: rest) a w :=
 wpList_plain hgd fun K hK => by
  unfold Oper.wp execOp
  simp only [ho, hx, hy, Sem.run_bind, z5q hs (H.out.row i hi) hp hv h1, Result.andThen_ok]
  rw [hF]
  exact h _ (za (H.out.setCs i hi _)) (za ⟨rfl, rfl, rfl, by simp [World.setRow], fun c _ hc => setRow_other w b c _ hc⟩) K hK
theorem y39 {i : Nat} (hT : IsRow P ty m) (H : Hid (Ow w0 w l)) (hgd : o.guard = none) {x : Operand} (ho : o.op = .load ty x) {b p : Nat} (hx : a.eval x = .pointer (some ⟨b, p, none⟩))
  (hi : l[i]? = some (b, Cs t (AV n f))) (hp : p + m ≤ n) {C : Array Value} (hC : (AV m fun j => f (p + j)) = C)
  (h : ∀ K : Act → World → Prop, (∀ a w, wpList P ops Q rest a w → K a w) → K (a.put o.dst (.agg C)) w) : wpList P ops Q (o :: rest) a w :=
 wpList_plain hgd fun K hK => by
  subst hC
  have hrun := z5r (P := P) (w := w) (b := b) (o := p) (f := fun j => f (p + j)) hT fun j hj => z69 (H.out.row i hi) (by omega)
  unfold Oper.wp execOp
  simp only [ho, hx, Sem.run_bind, hrun, Result.andThen_ok]
  exact h K hK
theorem z0b {C : Array Value} (hz : ∀ w, (zeroValue t).run P w = .ok (.agg C) w) (H : Hid (Ow w0 w l)) (hgd : o.guard = none) (ho : o.op = .alloc t)
  (h : ∀ w' g, Hid (Ow w0 w' ((g, Cs t C) :: l)) → ∀ K : Act → World → Prop, (∀ a w, wpList P ops Q rest a w → K a w) → K (a.put o.dst (.pointer (some ⟨g, 0, none⟩))) w') : wpList P ops Q (o :: rest) a w :=
 wpList_plain hgd fun K hK => by
  unfold Oper.wp execOp
  simp only [ho, Instr.alloc, Sem.run_bind, hz, Result.andThen_ok, newVar, Value.cells]
  simp [go_sem]
  exact h _ _ (za (H.out.alloc _)) K hK
end
theorem z13 {n : Nat} (f g : Nat → Value) : AV n (layV f 0 n g) = AV n g := z6n fun j hj => by
 unfold layV
 rw [if_pos (by omega), Nat.sub_zero]
section
variable {P : Program} {w w0 : World} {l : List (Nat × Obj)} {t : TypeId} {n : Nat}
theorem z0z (i : Nat) (hT : IsRow P t n) {C : Array Value} (hC : C.size = n) {fn : Func} {p : Tmp} (h : fn.results = #[.cell p t]) (tmps : Array Value) {g : Nat} {tb : TypeId}
  (H : Hid (Ow w0 w l)) (hi : l[i]? = some (g, Cs tb C)) (hp : tmps.getD p undef = .pointer (some ⟨g, 0, none⟩)) : (results fn tmps).run P w = .ok (.agg C) w := by
 obtain ⟨d, hd, hd'⟩ := hT.under
 have hr : w.heap[g]? = some (.cells C tb) := H.out.row i hi
 have hp' : tmps[p]?.getD undef = .pointer (some ⟨g, 0, none⟩) := by simpa using hp
 simp [results, h, hp', asAddr, run_loadVar_row w g tb t _ (0, 0) d hr hd (by cases d <;> simp_all) (by rw [hC]; exact hT.size)]
end
structure Grid (w : World) (B : Nat) (a : Option Addr) (n c m : Nat) (G : Nat → Nat → Value) : Prop where
 le : n ≤ c
 nil : a = none → c = 0
 low : ∀ ad, a = some ad → 0 < n → ∃ b o, ad = ⟨b, o, none⟩ ∧ b < B ∧ ∀ i, i < n → ∀ j, j < m → w.cell? ⟨b, o + i * m + j, none⟩ = some (G i j)
section
variable {w w' : World} {B : Nat} {a : Option Addr} {n c m : Nat} {G : Nat → Nat → Value}
theorem Grid.get (h : Grid w B a n c m G) (h0 : 0 < n) : ∃ b o, a = some ⟨b, o, none⟩ ∧ b < B ∧ ∀ i, i < n → ∀ j, j < m → w.cell? ⟨b, o + i * m + j, none⟩ = some (G i j) := by
 cases ha : a with
 | none =>
  have := h.nil ha
  have := h.le
  omega
 | some ad =>
  obtain ⟨b, o, rfl, hb, hc⟩ := h.low ad ha h0
  exact ⟨b, o, rfl, hb, hc⟩
theorem Grid.below (h : Grid w B a n c m G) (hb : Below B w w') : Grid w' B a n c m G := ⟨h.le, h.nil, fun ad e h0 => by
 obtain ⟨b, o, e', hlt, hc⟩ := h.low ad e h0
 exact ⟨b, o, e', hlt, fun i hi j hj => (hb.cell (p := ⟨b, o + i * m + j, none⟩) hlt).trans (hc i hi j hj)⟩⟩
theorem Grid.more {B' : Nat} (h : Grid w B a n c m G) (hB : B ≤ B') : Grid w B' a n c m G := ⟨h.le, h.nil, fun ad e h0 => by
 obtain ⟨b, o, e', hlt, hc⟩ := h.low ad e h0
 exact ⟨b, o, e', Nat.lt_of_lt_of_le hlt hB, hc⟩⟩
theorem Grid.call (h : Grid w w.heap.size a n c m G) (hb : Below w.heap.size w w') : Grid w' w'.heap.size a n c m G := (h.below hb).more hb.size
end
section
variable {P : Program} {o : Oper} {a : Act} {w w0 : World} {l : List (Nat × Obj)} {K : Act → World → Prop} {Q : Exit → Act → World → Prop} {t ty : TypeId} {n m : Nat} {f g : Nat → Value} {u v : Value}
theorem z4s (i : Nat) (hd : o.dst = none) (hs : (P.info? ty).map (·.size) = some m) (H : Ow w0 w l) {x y : Operand} (ho : o.op = .store ty x y) {b p : Nat} (hx : a.eval x = .pointer (some ⟨b, p, none⟩)) (hy : a.eval y = v)
  (hi : l[i]? = some (b, Cs t (AV n f))) (hp : p + m ≤ n) (hv : v.cells = AV m g) (h1 : ∀ j, j < m → (g j).oneCell' = true) {F : Nat → Value} (hF : AV n (layV f p m g) = AV n F)
  (h : ∀ w', Ow w0 w' (l.set i (b, Cs t (AV n F))) → Turn (fun j => j = b) w w' → K a w') : o.wp P a w K Q := by
 unfold Oper.wp execOp
 simp only [ho, hx, hy, Sem.run_bind, z5q hs (H.row i hi) hp hv h1, Result.andThen_ok]
 rw [hF]
 have hq : a.put o.dst undef = a := by
  rw [hd]
  rfl
 have h2 := h _ (H.setCs i hi _) ⟨rfl, rfl, rfl, by simp [World.setRow], fun c _ hc => setRow_other w b c _ hc⟩
 rw [← hq] at h2
 exact h2
end
end Go.Proofs.YtgjbonikbmgfmaaGreatDoor
