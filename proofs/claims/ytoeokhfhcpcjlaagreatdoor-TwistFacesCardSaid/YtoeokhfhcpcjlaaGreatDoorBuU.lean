/-
 Lemmas for the walks, several texts in one. No statement is proved here.
-/
import Derived.Test.YtoeokhfhcpcjlaaGreatDoorBuB
import Derived.Test.YtoeokhfhcpcjlaaGreatDoorBuT
import Derived.Test.YtoeokhfhcpcjlaaGreatDoorBuI
import Derived.Laws.MakeOwn
import Derived.Great.BuildSlice
import Derived.Test.YtoeokhfhcpcjlaaGreatDoorBuG
import Derived.Test.YtoeokhfhcpcjlaaGreatDoorBuJ
set_option maxRecDepth 20000
namespace Go.Proofs.YtoeokhfhcpcjlaaGreatDoor
open Go.RowKit
def AV (n : Nat) (f : Nat → Value) : Array Value := Array.ofFn (n := n) fun i => f i
theorem z0z (n : Nat) (f : Nat → Value) : (AV n f).size = n := by simp [AV]
theorem z1p (n : Nat) (f : Nat → Value) : (AV n f).toList.length = n := by rw [Array.length_toList, z0z]
theorem z1s (n : Nat) (f : Nat → Value) (i : Nat) (h : i < n) : (AV n f)[i]? = some (f i) := by simp [AV, h]
theorem z4d {n : Nat} {f g : Nat → Value} (h : ∀ i, i < n → f i = g i) : AV n f = AV n g := by
 apply Array.ext_getElem?
 intro j
 by_cases hj : j < n
 ·rw [z1s _ _ _ hj, z1s _ _ _ hj, h j hj]
 ·rw [Array.getElem?_eq_none (by rw [z0z]; omega), Array.getElem?_eq_none (by rw [z0z]; omega)]
theorem AV_int (k : IntKind) (n : Nat) (f : Nat → Int) : AZ k n f = AV n fun i => .int k (f i) := by
 unfold AZ AV
 rfl
theorem AV_one {n : Nat} {f : Nat → Value} (h : ∀ i, i < n → (f i).oneCell' = true) : ∀ u ∈ (AV n f).toList, u.oneCell' = true := fun u hu => by
 obtain ⟨j, hj⟩ := List.getElem?_of_mem hu
 rw [Array.getElem?_toList] at hj
 by_cases h' : j < n
 ·rw [z1s _ _ _ h'] at hj
  rw [← Option.some.inj hj]
  exact h j h'
 ·rw [Array.getElem?_eq_none (by rw [z0z]; omega)] at hj
  cases hj
def layV (f : Nat → Value) (o m : Nat) (g : Nat → Value) : Nat → Value := fun j => if o ≤ j ∧ j < o + m then g (j - o) else f j
theorem AV_mid (n : Nat) (f g : Nat → Value) (o m : Nat) (h : o + m ≤ n) : ((AV n f).toList.take o ++ (AV m g).toList ++ (AV n f).toList.drop (o + m)).toArray = AV n (layV f o m g) := by
 apply Array.ext_getElem?
 intro j
 rw [List.getElem?_toArray]
 by_cases hj : j < n
 ·rw [z1s _ _ _ hj]
  unfold layV
  by_cases h1 : j < o
  ·rw [List.getElem?_append_left (by simp [z0z]; omega), List.getElem?_append_left (by simp [z0z]; omega), List.getElem?_take_of_lt h1, Array.getElem?_toList, z1s _ _ _ hj, if_neg (by omega)]
  ·by_cases h2 : j < o + m
   ·rw [List.getElem?_append_left (by simp [z0z]; omega), List.getElem?_append_right (by simp [z0z]; omega), if_pos (by omega)]
    rw [List.length_take, z1p, Nat.min_eq_left (by omega), Array.getElem?_toList, z1s _ _ _ (by omega)]
   ·rw [List.getElem?_append_right (by simp [z0z]; omega), List.getElem?_drop, if_neg (by omega), List.length_append, List.length_take, z1p, z1p, Nat.min_eq_left (by omega), Array.getElem?_toList]
    rw [show o + m + (j - (o + m)) = j by omega, z1s _ _ _ hj]
 ·rw [Array.getElem?_eq_none (by rw [z0z]; omega), List.getElem?_eq_none (by simp [z0z]; omega)]
def sci (s : Value) (F : Nat → Int) : Nat → Value := fun j => if j = 0 then s else .int .u64 (F (j - 1))
theorem z6m (s : Value) (F : Nat → Int) : sci s F 0 = s := if_pos rfl
theorem z6o (s : Value) (F : Nat → Int) (j : Nat) : sci s F (1 + j) = .int .u64 (F j) := by
 unfold sci
 rw [if_neg (by omega), Nat.add_sub_cancel_left]
theorem z6n {s : Value} (hs : s.oneCell' = true) (F : Nat → Int) (j : Nat) : (sci s F j).oneCell' = true := by
 unfold sci
 split
 ·exact hs
 ·rfl
theorem y0d {n : Nat} (s : Value) (F r : Nat → Int) (o m : Nat) : AV n (layV (sci s F) (1 + o) m fun i => .int .u64 (r i)) = AV n (sci s (layZ F o m r)) := by
 congr 1
 funext j
 unfold layV sci layZ
 by_cases h0 : j = 0
 ·rw [if_neg (by omega), if_pos h0, if_pos h0]
 ·rw [if_neg h0, if_neg h0]
  by_cases h1 : 1 + o ≤ j ∧ j < 1 + o + m
  ·rw [if_pos h1, if_pos (by omega), show j - (1 + o) = j - 1 - o by omega]
  ·rw [if_neg h1, if_neg (by omega)]
theorem sci_slot {n : Nat} (s u : Value) (F : Nat → Int) : AV n (layV (sci s F) 0 1 fun _ => u) = AV n (sci u F) := by
 congr 1
 funext j
 unfold layV sci
 by_cases h0 : j = 0
 ·rw [if_pos (by omega), if_pos h0]
 ·rw [if_neg (by omega), if_neg h0, if_neg h0]
def grd (m : Nat) (G : Nat → Nat → Value) : Nat → Value := fun q => G (q / m) (q % m)
theorem grd_at {m : Nat} (G : Nat → Nat → Value) (i j : Nat) (hj : j < m) : grd m G (i * m + j) = G i j := by
 unfold grd
 have e1 : (i * m + j) / m = i := by
  rw [Nat.mul_comm, Nat.mul_add_div (by omega), Nat.div_eq_of_lt hj, Nat.add_zero]
 have e2 : (i * m + j) % m = j := by rw [Nat.mul_comm, Nat.mul_add_mod, Nat.mod_eq_of_lt hj]
 rw [e1, e2]
theorem grd_lay {m : Nat} (hm : 0 < m) (G : Nat → Nat → Value) (i : Nat) (f : Nat → Value) {n : Nat} : AV n (layV (grd m G) (i * m) m f) = AV n (grd m fun k => if k = i then f else G k) := by
 congr 1
 funext q
 have hd := Nat.div_add_mod q m
 have hl := Nat.mod_lt q hm
 unfold layV grd
 by_cases h : i * m ≤ q ∧ q < i * m + m
 ·have e : q / m = i := by
   rw [Nat.div_eq_iff hm]
   omega
  rw [if_pos h, e]
  show _ = (if i = i then f else G i) (q % m)
  rw [if_pos rfl]
  congr 1
  rw [e, Nat.mul_comm] at hd
  omega
 ·have e : ¬ q / m = i := fun e => by
   rw [e, Nat.mul_comm] at hd
   omega
  rw [if_neg h]
  show _ = (if q / m = i then f else G (q / m)) (q % m)
  rw [if_neg e]
section
variable {P : Program} {w w0 : World} {l : List (Nat × Obj)} {t ty : TypeId} {n m : Nat} {f g : Nat → Value}
theorem z4p {b o : Nat} {v : Value} (hs : (P.info? ty).map (·.size) = some m) (hr : w.heap[b]? = some (Cs t (AV n f))) (h : o + m ≤ n) (hv : v.cells = AV m g) (h1 : ∀ i, i < m → (g i).oneCell' = true) :
  (Instr.storeAt ty (.pointer (some ⟨b, o, none⟩)) v).run P w = .ok () (w.setRow b (AV n (layV f o m g))) := by
 have hrow : w.heap[b]? = some (.cells (AV n f) t) := hr
 have hst := run_storeCells_at P b o t (AV m g).toList 0 (AV n f) w hrow (by rw [z1p, z0z]; omega) (AV_one h1)
 rw [Nat.add_zero, z1p, AV_mid _ _ _ _ _ h] at hst
 cases hq : P.info? ty with
 | none => simp [hq] at hs
 | some i =>
  have hi : i.size = m := by simpa [hq] using hs
  simp [Instr.storeAt, Instr.sureAddr, storeVar, sizeOf, typeInfo, Sem.run_bind, hq, hi, hv, z0z, hst]
theorem Ow.setCs (h : Ow w0 w l) (i : Nat) {b : Nat} {C : Array Value} (hi : l[i]? = some (b, Cs t C)) (D : Array Value) : Ow w0 (w.setRow b D) (l.set i (b, Cs t D)) := by
 have hr : w.heap[b]? = some (.cells C t) := h.row i hi
 exact h.put i hi ⟨rfl, rfl, rfl, by simp [World.setRow], fun c hc => setRow_other w b c _ (by omega)⟩ (fun c hc => setRow_other w b c _ hc) (setRow_heap w b _ _ t _ hr)
theorem z4s {b o : Nat} (hT : IsRow P ty m) (hc : ∀ j, j < m → w.cell? ⟨b, o + j, none⟩ = some (f j)) : (Instr.loadAt ty (.pointer (some ⟨b, o, none⟩))).run P w = .ok (.agg (AV m f)) w := by
 obtain ⟨d, hd, hd'⟩ := hT.under
 have := run_loadAt_mid (P := P) w b o ty (AV m f).toList d (fun j v hv => by
  have hj : j < m := by
   rcases Nat.lt_or_ge j m with h' | h'
   ·exact h'
   ·rw [List.getElem?_eq_none (by rw [z1p]; exact h')] at hv; cases hv
  rw [Array.getElem?_toList, z1s _ _ _ hj] at hv
  rw [hc j hj, hv]) hd (by cases d <;> simp_all) (by rw [z1p]; exact hT.size)
 rwa [Array.toArray_toList] at this
theorem z5u {b j : Nat} (hr : w.heap[b]? = some (Cs t (AV n f))) (hj : j < n) : w.cell? ⟨b, j, none⟩ = some (f j) := z6y hr (z1s n f j hj)
end
section
variable {P : Program} {ops : Array Oper} {rest : List Oper} {o : Oper} {a : Act} {w w0 : World} {l : List (Nat × Obj)} {Q : Exit → Act → World → Prop} {t ty : TypeId} {n m : Nat} {f g : Nat → Value}
theorem z2l {i : Nat} (hs : (P.info? ty).map (·.size) = some m) (H : Hid (Ow w0 w l)) (hgd : o.guard = none) {x y : Operand} (ho : o.op = .store ty x y) {b p : Nat} (hx : a.eval x = .pointer (some ⟨b, p, none⟩)) {v : Value} (hy : a.eval y = v)
  (hi : l[i]? = some (b, Cs t (AV n f))) (hp : p + m ≤ n) (hv : v.cells = AV m g) (h1 : ∀ j, j < m → (g j).oneCell' = true) {F : Nat → Value} (hF : AV n (layV f p m g) = AV n F)
  (h : ∀ w', Hid (Ow w0 w' (l.set i (b, Cs t (AV n F)))) → Hid (Turn (fun j => j = b) w w') → ∀ K : Act → World → Prop, (∀ a w, wpList P ops Q rest a w → K a w) → K (a.put o.dst undef) w') : wpList P ops Q (o :: rest) a w :=
 wpList_plain hgd fun K hK => by
  unfold Oper.wp execOp
  simp only [ho, hx, hy, Sem.run_bind, z4p hs (H.out.row i hi) hp hv h1, Result.andThen_ok]
  rw [hF]
  exact h _ (Lib.hid (H.out.setCs i hi _)) (Lib.hid ⟨rfl, rfl, rfl, by simp [World.setRow], fun c _ hc => setRow_other w b c _ hc⟩) K hK
theorem y0p {i : Nat} (hT : IsRow P ty m) (H : Hid (Ow w0 w l)) (hgd : o.guard = none) {x : Operand} (ho : o.op = .load ty x) {b p : Nat} (hx : a.eval x = .pointer (some ⟨b, p, none⟩))
  (hi : l[i]? = some (b, Cs t (AV n f))) (hp : p + m ≤ n) {C : Array Value} (hC : (AV m fun j => f (p + j)) = C)
  (h : ∀ K : Act → World → Prop, (∀ a w, wpList P ops Q rest a w → K a w) → K (a.put o.dst (.agg C)) w) : wpList P ops Q (o :: rest) a w :=
 wpList_plain hgd fun K hK => by
  subst hC
  have hrun := z4s (P := P) (w := w) (b := b) (o := p) (f := fun j => f (p + j)) hT fun j hj => z5u (H.out.row i hi) (by omega)
  unfold Oper.wp execOp
  simp only [ho, hx, Sem.run_bind, hrun, Result.andThen_ok]
  exact h K hK
theorem z5o (hT : IsRow P ty m) (hgd : o.guard = none) {x : Operand} (ho : o.op = .load ty x) {b p : Nat} (hx : a.eval x = .pointer (some ⟨b, p, none⟩)) (hc : ∀ j, j < m → w.cell? ⟨b, p + j, none⟩ = some (f j))
  (h : ∀ K : Act → World → Prop, (∀ a w, wpList P ops Q rest a w → K a w) → K (a.put o.dst (.agg (AV m f))) w) : wpList P ops Q (o :: rest) a w :=
 wpList_plain hgd fun K hK => by
  unfold Oper.wp execOp
  simp only [ho, hx, Sem.run_bind, z4s hT hc, Result.andThen_ok]
  exact h K hK
theorem z48 (hT : IsCell P ty) (hgd : o.guard = none) {x : Operand} (ho : o.op = .load ty x) {b p : Nat} (hx : a.eval x = .pointer (some ⟨b, p, none⟩)) {v : Value} (hc : w.cell? ⟨b, p, none⟩ = some v)
  (h : ∀ K : Act → World → Prop, (∀ a w, wpList P ops Q rest a w → K a w) → K (a.put o.dst v) w) : wpList P ops Q (o :: rest) a w :=
 wpList_plain hgd fun K hK => by
  have hrun : (Instr.loadAt ty (.pointer (some ⟨b, p, none⟩))).run P w = .ok v w := by simp [Instr.loadAt, Instr.sureAddr, loadVar, Sem.run_bind, hT.agg w, hc]
  unfold Oper.wp execOp
  simp only [ho, hx, Sem.run_bind, hrun, Result.andThen_ok]
  exact h K hK
theorem z1y {C : Array Value} (hz : ∀ w, (zeroValue t).run P w = .ok (.agg C) w) (H : Hid (Ow w0 w l)) (hgd : o.guard = none) (ho : o.op = .alloc t)
  (h : ∀ w' g, Hid (Ow w0 w' ((g, Cs t C) :: l)) → ∀ K : Act → World → Prop, (∀ a w, wpList P ops Q rest a w → K a w) → K (a.put o.dst (.pointer (some ⟨g, 0, none⟩))) w') : wpList P ops Q (o :: rest) a w :=
 wpList_plain hgd fun K hK => by
  unfold Oper.wp execOp
  simp only [ho, Instr.alloc, Sem.run_bind, hz, Result.andThen_ok, newVar, Value.cells]
  simp [go_sem]
  exact h _ _ (Lib.hid (H.out.alloc _)) K hK
end
theorem z2c {n : Nat} (f g : Nat → Value) : AV n (layV f 0 n g) = AV n g := z4d fun j hj => by
 unfold layV
 rw [if_pos (by omega), Nat.sub_zero]
section
variable {P : Program} {w w0 : World} {l : List (Nat × Obj)} {t : TypeId} {n : Nat}
theorem own_result_cs (i : Nat) (hT : IsRow P t n) {C : Array Value} (hC : C.size = n) {fn : Func} {p : Tmp} (h : fn.results = #[.cell p t]) (tmps : Array Value) {g : Nat} {tb : TypeId}
  (H : Hid (Ow w0 w l)) (hi : l[i]? = some (g, Cs tb C)) (hp : tmps.getD p undef = .pointer (some ⟨g, 0, none⟩)) : (results fn tmps).run P w = .ok (.agg C) w := by
 obtain ⟨d, hd, hd'⟩ := hT.under
 have hr : w.heap[g]? = some (.cells C tb) := H.out.row i hi
 have hp' : tmps[p]?.getD undef = .pointer (some ⟨g, 0, none⟩) := by simpa using hp
 simp [results, h, hp', asAddr, run_loadVar_row w g tb t _ (0, 0) d hr hd (by cases d <;> simp_all) (by rw [hC]; exact hT.size)]
end
structure Grid (w : World) (B : Nat) (a : Option Addr) (n c m : Nat) (G : Nat → Nat → Value) : Prop where
 le : n ≤ c
 nil : a = none → c = 0
 low : ∀ ad, a = some ad → 0 < n → ∃ b o, ad = ⟨b, o, none⟩ ∧ b < B ∧ ∀ i, i < n → ∀ j, j < m → w.cell? ⟨b, o + i * m + j, none⟩ = some (G i j)
section
variable {w w' : World} {B : Nat} {a : Option Addr} {n c m : Nat} {G : Nat → Nat → Value}
theorem Grid.get (h : Grid w B a n c m G) (h0 : 0 < n) : ∃ b o, a = some ⟨b, o, none⟩ ∧ b < B ∧ ∀ i, i < n → ∀ j, j < m → w.cell? ⟨b, o + i * m + j, none⟩ = some (G i j) := by
 cases ha : a with
 | none =>
  have := h.nil ha
  have := h.le
  omega
 | some ad =>
  obtain ⟨b, o, rfl, hb, hc⟩ := h.low ad ha h0
  exact ⟨b, o, rfl, hb, hc⟩
theorem Grid.below (h : Grid w B a n c m G) (hb : Below B w w') : Grid w' B a n c m G := ⟨h.le, h.nil, fun ad e h0 => by
 obtain ⟨b, o, e', hlt, hc⟩ := h.low ad e h0
 exact ⟨b, o, e', hlt, fun i hi j hj => (hb.cell (p := ⟨b, o + i * m + j, none⟩) hlt).trans (hc i hi j hj)⟩⟩
theorem Grid.more {B' : Nat} (h : Grid w B a n c m G) (hB : B ≤ B') : Grid w B' a n c m G := ⟨h.le, h.nil, fun ad e h0 => by
 obtain ⟨b, o, e', hlt, hc⟩ := h.low ad e h0
 exact ⟨b, o, e', Nat.lt_of_lt_of_le hlt hB, hc⟩⟩
theorem Grid.call (h : Grid w w.heap.size a n c m G) (hb : Below w.heap.size w w') : Grid w' w'.heap.size a n c m G := (h.below hb).more hb.size
theorem grid_blk {g : Nat} {t : TypeId} (hr : w.heap[g]? = some (Cs t (AV (n * m) (grd m G)))) : Grid w w.heap.size (some ⟨g, 0, none⟩) n n m G := by
 refine ⟨Nat.le_refl _, (fun e => by cases e), fun ad e h0 => ⟨g, 0, (Option.some.inj e).symm, z0w hr, fun i hi j hj => ?_⟩⟩
 have hlt : i * m + j < n * m := by
  have h1 : (i + 1) * m ≤ n * m := Nat.mul_le_mul_right m hi
  rw [Nat.add_mul, Nat.one_mul] at h1
  omega
 rw [Nat.zero_add, z5u hr hlt, grd_at G i j hj]
end
section
variable {P : Program} {md : Region.Mode} {ops : Array Oper} {Q : Exit → Act → World → Prop} {S : World → Prop} {fuel : Nat} {listed : Array Bool} {a : Act} {w : World} {ty : TypeId} {v : Value} {m : Nat} {f : Nat → Value}
theorem held_cell (i : Nat) (d : Tmp) {oi : Oper} (hT : IsCell P ty) (hi : ops[i]? = some oi) (hd : oi.dst = some d) (hw : Region.wanted oi (yielded ops a.tmps) = true) (hS : S w) {x : Operand} (ho : oi.op = .load ty x) {g p : Nat} (hx : a.eval x = .pointer (some ⟨g, p, none⟩))
  (hc : ∀ w, S w → w.cell? ⟨g, p, none⟩ = some v)
  (h : wpAnyH P md ops (NoPanic Q) S fuel (listed.setIfInBounds i true) (a.put (some d) v) w) (hs : Region.noSelect ops = true := by kernel_rfl) (hf : Region.free md ops listed i = true := by kernel_rfl) (hr : (Region.ready md ops listed).contains i = true := by kernel_rfl) : wpAnyH P md ops (NoPanic Q) S (fuel + 1) listed a w :=
 z0a i d v hi hd (hs := hs) (hf := hf) (hr := hr) hw hS (fun w hw' => by
  have hrun : (Instr.loadAt ty (.pointer (some ⟨g, p, none⟩))).run P w = .ok v w := by simp [Instr.loadAt, Instr.sureAddr, loadVar, Sem.run_bind, hT.agg w, hc w hw']
  unfold execOp
  simp only [ho, hx, Sem.run_bind, hrun, Result.andThen_ok]
  rfl) h
end
section
variable {P : Program} {o : Oper} {a : Act} {w w0 : World} {l : List (Nat × Obj)} {K : Act → World → Prop} {Q : Exit → Act → World → Prop} {t ty : TypeId} {n m : Nat} {f g : Nat → Value} {u v : Value}
theorem own_wp_ld1 (dd : Tmp) (hd : o.dst = some dd) (i : Nat) (hT : IsCell P ty) (H : Ow w0 w l) {x : Operand} (ho : o.op = .load ty x) {b : Nat} (hx : a.eval x = .pointer (some ⟨b, 0, none⟩))
  (hi : l[i]? = some (b, Oc t v)) (h : K (a.put (some dd) v) w) : o.wp P a w K Q := by
 unfold Oper.wp execOp
 simp only [ho, hx, Sem.run_bind, z5b hT (H.row i hi), Result.andThen_ok]
 show K (a.put o.dst _) _
 rw [hd]
 exact h
theorem own_wp_st1 (i : Nat) (hd : o.dst = none) (hT : IsCell P ty) (hv : OneV v) (H : Ow w0 w l) {x y : Operand} (ho : o.op = .store ty x y) {b : Nat} (hx : a.eval x = .pointer (some ⟨b, 0, none⟩)) (hy : a.eval y = v)
  (hi : l[i]? = some (b, Oc t u)) (h : ∀ w', Ow w0 w' (l.set i (b, Oc t v)) → Turn (fun j => j = b) w w' → K a w') : o.wp P a w K Q := by
 unfold Oper.wp execOp
 simp only [ho, hx, hy, Sem.run_bind, z52 hT (H.row i hi) hv, Result.andThen_ok]
 have hp : a.put o.dst undef = a := by
  rw [hd]
  rfl
 have h2 := h _ (H.setOc i hi v) ⟨rfl, rfl, rfl, by simp [World.setRow], fun c _ hc => setRow_other w b c _ hc⟩
 rw [← hp] at h2
 exact h2
theorem own_wp_stV (i : Nat) (hd : o.dst = none) (hs : (P.info? ty).map (·.size) = some m) (H : Ow w0 w l) {x y : Operand} (ho : o.op = .store ty x y) {b p : Nat} (hx : a.eval x = .pointer (some ⟨b, p, none⟩)) (hy : a.eval y = v)
  (hi : l[i]? = some (b, Cs t (AV n f))) (hp : p + m ≤ n) (hv : v.cells = AV m g) (h1 : ∀ j, j < m → (g j).oneCell' = true) {F : Nat → Value} (hF : AV n (layV f p m g) = AV n F)
  (h : ∀ w', Ow w0 w' (l.set i (b, Cs t (AV n F))) → Turn (fun j => j = b) w w' → K a w') : o.wp P a w K Q := by
 unfold Oper.wp execOp
 simp only [ho, hx, hy, Sem.run_bind, z4p hs (H.row i hi) hp hv h1, Result.andThen_ok]
 rw [hF]
 have hq : a.put o.dst undef = a := by
  rw [hd]
  rfl
 have h2 := h _ (H.setCs i hi _) ⟨rfl, rfl, rfl, by simp [World.setRow], fun c _ hc => setRow_other w b c _ hc⟩
 rw [← hq] at h2
 exact h2
end
section
variable {P : Program} {o : Oper} {a : Act} {w w0 : World} {l : List (Nat × Obj)} {K : Act → World → Prop} {Q : Exit → Act → World → Prop} {t ty : TypeId} {k : IntKind} {n : Nat}
theorem z7e (i : Nat) (hd : o.dst = none) (hT : IsRow P ty n) (H : Ow w0 w l) {x y : Operand} (ho : o.op = .store ty x y) {g : Nat} (hx : a.eval x = .pointer (some ⟨g, 0, none⟩)) {f f0 : Nat → Int} (hy : a.eval y = .agg (AZ k n f))
  (hi : l[i]? = some (g, Blk t k n f0)) (h : ∀ w', Ow w0 w' (l.set i (g, Blk t k n f)) → Turn (fun j => j = g) w w' → K a w') : o.wp P a w K Q := by
 unfold Oper.wp execOp
 have hs := z02 (o := 0) (g := f) hT (H.row i hi) (by omega)
 rw [z35] at hs
 simp only [ho, hx, hy, Sem.run_bind, hs, Result.andThen_ok]
 have hp : a.put o.dst undef = a := by
  rw [hd]
  rfl
 have h2 := h _ (H.setRow i hi f) ⟨rfl, rfl, rfl, by simp [World.setRow], fun c _ hc => setRow_other w g c _ hc⟩
 rw [← hp] at h2
 exact h2
end
theorem Turn.callq {X : Nat → Prop} {a b c : World} (h : Turn X a b) (hb : Below b.heap.size b c) : Turn X a c := h.trans (z23 hb fun j h1 h2 => by omega)
section
variable {P : Program} {ops : Array Oper} {rest : List Oper} {o : Oper} {a : Act} {w w0 : World} {l : List (Nat × Obj)} {Q : Exit → Act → World → Prop} {t ty : TypeId} {k : IntKind} {n : Nat}
theorem own_storeT {i : Nat} (hT : IsRow P ty n) (H : Hid (Ow w0 w l)) (hgd : o.guard = none) {x y : Operand} (ho : o.op = .store ty x y) {g : Nat} (hx : a.eval x = .pointer (some ⟨g, 0, none⟩)) {f f0 : Nat → Int} (hy : a.eval y = .agg (AZ k n f))
  (hi : l[i]? = some (g, Blk t k n f0)) (h : ∀ w', Hid (Ow w0 w' (l.set i (g, Blk t k n f))) → Hid (Turn (fun j => j = g) w w') → ∀ K : Act → World → Prop, (∀ a w, wpList P ops Q rest a w → K a w) → K (a.put o.dst undef) w') : wpList P ops Q (o :: rest) a w :=
 wpList_plain hgd fun K hK => by
  unfold Oper.wp execOp
  have hs := z02 (o := 0) (g := f) hT (H.out.row i hi) (by omega)
  rw [z35] at hs
  simp only [ho, hx, hy, Sem.run_bind, hs, Result.andThen_ok]
  exact h _ (Lib.hid (H.out.setRow i hi f)) (Lib.hid ⟨rfl, rfl, rfl, by simp [World.setRow], fun c _ hc => setRow_other w g c _ hc⟩) K hK
end
section
variable {P : Program} {ops : Array Oper} {rest : List Oper} {o : Oper} {a : Act} {w w0 : World} {l : List (Nat × Obj)} {Q : Exit → Act → World → Prop} {t : TypeId}
theorem own_allocVB {C : Array Value} (hz : ∀ w, (zeroValue t).run P w = .ok (.agg C) w) (H : Hid (Ow w0 w l)) (hgd : o.guard = none) (ho : o.op = .alloc t)
  (h : ∀ w' g, Hid (Ow w0 w' ((g, Cs t C) :: l)) → Hid (Below w.heap.size w w') → Hid (w.heap.size ≤ g) → ∀ K : Act → World → Prop, (∀ a w, wpList P ops Q rest a w → K a w) → K (a.put o.dst (.pointer (some ⟨g, 0, none⟩))) w') : wpList P ops Q (o :: rest) a w :=
 wpList_plain hgd fun K hK => by
  unfold Oper.wp execOp
  simp only [ho, Instr.alloc, Sem.run_bind, hz, Result.andThen_ok, newVar, Value.cells]
  simp [go_sem]
  exact h _ _ (Lib.hid (H.out.alloc _)) (Lib.hid (z1n _ _)) (Lib.hid (Nat.le_refl _)) K hK
end
theorem rowTm : IsRow Tryz.prog 145 25 := ⟨⟨_, Tryz.underlying145, rfl⟩, by kernel_rfl⟩
theorem rowRw : IsRow Tryz.prog 169 409 := ⟨⟨_, Tryz.underlying169, rfl⟩, by kernel_rfl⟩
theorem z37 : IsCell Tryz.prog 126 := ⟨fun w => by unfold isAgg; rw [Sem.run_bind, run_underlying Tryz.underlying126 w]; rfl, by kernel_rfl⟩
theorem z5v : IsCell Tryz.prog 166 := ⟨fun w => by unfold isAgg; rw [Sem.run_bind, run_underlying Tryz.underlying166 w]; rfl, by kernel_rfl⟩
theorem cellI : IsCell Tryz.prog 3 := ⟨fun w => by unfold isAgg; rw [Sem.run_bind, run_underlying Tryz.underlying3 w]; rfl, by kernel_rfl⟩
theorem nilInt (w : World) : (zeroValue 3).run Tryz.prog w = .ok (.int .i64 0) w := by kernel_rfl
theorem av_one {s : Value} (hs : OneV s) : s.cells = AV 1 fun _ => s := by
 rw [hs.cells]
 apply Array.ext_getElem?
 intro j
 by_cases hj : j < 1
 ·obtain rfl : j = 0 := by omega
  rw [z1s _ _ _ (by omega)]
  rfl
 ·rw [Array.getElem?_eq_none (by simp; omega), Array.getElem?_eq_none (by rw [z0z]; omega)]
theorem z4c {n : Nat} (s : Value) (F : Nat → Int) (h : 0 < n) : (AV n (sci s F))[0]? = some s := by rw [z1s _ _ _ h, z6m]
theorem z8k (n : Nat) (s : Value) : #[s] ++ Array.replicate n (.int .u64 0) = AV (n + 1) (sci s fun _ => 0) := by
 apply Array.ext_getElem?
 intro j
 by_cases hj : j < n + 1
 ·rw [z1s _ _ _ hj]
  by_cases h0 : j = 0
  ·subst h0
   rw [z6m, Array.getElem?_append_left (by simp)]
   rfl
  ·obtain ⟨i, rfl⟩ : ∃ i, j = 1 + i := ⟨j - 1, by omega⟩
   rw [z6o, Array.getElem?_append_right (by simp), Array.getElem?_replicate, if_pos (by simp; omega)]
 ·rw [Array.getElem?_eq_none (by simp; omega), Array.getElem?_eq_none (by rw [z0z]; omega)]
theorem nilTm (w : World) : (zeroValue 145).run Tryz.prog w = .ok (.agg (AV 25 (sci (.slice none 0 0) fun _ => 0))) w :=
 z8k 24 (.slice none 0 0) ▸ (zero_of_info (show (Tryz.prog.info? 145).map (fun i => (i.zero, i.size)) = some (some (.agg (#[.slice none 0 0] ++ Array.replicate 24 (.int .u64 0))), 25) by kernel_rfl)).1 w
theorem nilRw (w : World) : (zeroValue 169).run Tryz.prog w = .ok (.agg (AV 409 (sci (.slice none 0 0) fun _ => 0))) w :=
 z8k 408 (.slice none 0 0) ▸ (zero_of_info (show (Tryz.prog.info? 169).map (fun i => (i.zero, i.size)) = some (some (.agg (#[.slice none 0 0] ++ Array.replicate 408 (.int .u64 0))), 409) by kernel_rfl)).1 w
theorem grd_get {s : Nat} (G : Nat → Nat → Value) (n k : Nat) (h : k < n * s) : (AV (n * s) (grd s G))[k]? = some (G (k / s) (k % s)) := by
 rw [z1s _ _ _ h]
 rfl
theorem fill_grid {s : Nat} (hs : 0 < s) (m : Nat) (G : Nat → Nat → Value) (cells : Array Value) (hc : cells.size = m * s) (parts : List (Nat × Value))
  (hp : parts = (((List.range m).map fun i => Value.agg (AV s (G i))).zipIdx 0).map fun x => (x.2, x.1)) : Instr.fill (fun i => some (i * s, s)) cells parts = some (AV (m * s) (grd s G)) := by
 obtain ⟨r, h1, h2, h3⟩ := Great.fill_dense hs ((List.range m).map fun i => Value.agg (AV s (G i))) 0 cells (fun v hv => by
  obtain ⟨i, _, rfl⟩ := List.mem_map.1 hv
  show (AV s (G i)).size = s
  exact z0z ..) (by simp [hc])
 rw [hp, h1]
 congr 1
 apply Array.ext_getElem?
 intro j
 rw [h3 j]
 simp only [List.length_map, List.length_range, Nat.zero_mul, Nat.zero_add, Nat.zero_le, true_and, Nat.sub_zero]
 by_cases h : j < m * s
 ·rw [if_pos h, grd_get G m j h, List.getElem?_map, List.getElem?_range ((Nat.div_lt_iff_lt_mul hs).2 h)]
  exact z1s _ _ _ (Nat.mod_lt _ hs)
 ·rw [if_neg h, Array.getElem?_eq_none (by omega), Array.getElem?_eq_none (by rw [z0z]; omega)]
theorem y05 {s : Nat} (f : Nat → Value) : AV (1 * s) (grd s fun _ => f) = AV s f := by
 rw [Nat.one_mul]
 exact z4d fun j hj => by
  unfold grd
  rw [Nat.mod_eq_of_lt hj]
theorem grd_congr {s n : Nat} (hs : 0 < s) {G G' : Nat → Nat → Value} (h : ∀ i, i < n → G i = G' i) : AV (n * s) (grd s G) = AV (n * s) (grd s G') := z4d fun j hj => by
 unfold grd
 rw [h _ ((Nat.div_lt_iff_lt_mul hs).2 hj)]
section
variable {P : Program} {w : World} {t ts : TypeId} {s by' : Nat}
theorem run_buildG (hu : P.underlying ts = some (.slice t)) (hI : InfoR P t s by') (hs : 0 < s) (m : Nat) (hm : 0 < m) (hms : m * s ≤ 16777216) (G : Nat → Nat → Value) (parts : Array (Nat × Value))
  (hp : parts.toList = (((List.range m).map fun i => Value.agg (AV s (G i))).zipIdx 0).map fun x => (x.2, x.1)) :
  (Instr.buildSlice ts m parts).run P w = .ok (.slice (some ⟨w.heap.size, 0, none⟩) m m) (w.alloc (Cs t (AV (m * s) (grd s G)))) := by
 obtain ⟨i, z, hi, hz, hsz, hbyt, hzs⟩ := hI.has
 have := Nat.mul_pos hm hs
 refine run_buildSlice w ts t m parts _ i z hu hi hz (by rw [hsz]; omega) (by rw [hsz]; omega) ?_
 rw [hsz]
 exact fill_grid hs m G _ (by simp) _ hp
theorem run_build1G (hu : P.underlying ts = some (.slice t)) (hI : InfoR P t s by') (hs : 0 < s) (hms : s ≤ 1000) (f : Nat → Value) :
  (Instr.buildSlice ts 1 #[(0, .agg (AV s f))]).run P w = .ok (.slice (some ⟨w.heap.size, 0, none⟩) 1 1) (w.alloc (Cs t (AV s f))) := by
 have h := run_buildG (P := P) (w := w) hu hI hs 1 (by omega) (by omega) (fun _ => f) #[(0, .agg (AV s f))] rfl
 rwa [y05] at h
end
def OwnG (w : World) (base : Nat) (t : TypeId) (s : Nat) (v : Value) (n : Nat) (G : Nat → Nat → Value) : Prop := w.ownsRow base t s v n (AV (n * s) (grd s G)).toList
section
variable {P : Program} {w W W' : World} {base n s : Nat} {t : TypeId} {v : Value} {G G' : Nat → Nat → Value}
theorem OwnG.nil (w : World) (base : Nat) (t : TypeId) (s : Nat) (G : Nat → Nat → Value) : OwnG w base t s (.slice none 0 0) 0 G := ⟨by rw [z1p], .inl ⟨rfl, rfl⟩⟩
theorem OwnG.kept (h : OwnG W base t s v n G) (hk : ∀ g, v.ownBlock = some g → W'.heap[g]? = W.heap[g]?) : OwnG W' base t s v n G := by
 obtain ⟨hl, hv⟩ := h
 refine ⟨hl, ?_⟩
 rcases hv with h0 | ⟨g, cap, cur, rfl, hg, hrow, hr⟩
 ·exact .inl h0
 ·exact .inr ⟨g, cap, cur, rfl, hg, (hk g rfl).trans hrow, hr⟩
theorem OwnG.lt (h : OwnG W base t s v n G) (g : Nat) (hv : v.ownBlock = some g) : g < W.heap.size ∧ base ≤ g := by
 obtain ⟨_, hx⟩ := h
 rcases hx with ⟨rfl, _⟩ | ⟨g', cap, cur, rfl, hg, hrow, _⟩
 ·cases hv
 ·obtain rfl : g' = g := by simpa [Value.ownBlock] using hv
  exact ⟨z0w hrow, hg⟩
theorem OwnG.call (h : OwnG W base t s v n G) (hb : Below W.heap.size W W') : OwnG W' base t s v n G := h.kept fun g hg => hb.block g (h.lt g hg).1
theorem OwnG.congr (h : OwnG W base t s v n G) (hs : 0 < s) (hG : ∀ i, i < n → G i = G' i) : OwnG W base t s v n G' := by
 unfold OwnG at h ⊢
 rwa [← grd_congr hs hG]
end
section
variable {P : Program} {ops : Array Oper} {rest : List Oper} {o : Oper} {a : Act} {w w0 : World} {l : List (Nat × Obj)} {Q : Exit → Act → World → Prop} {t ts : TypeId} {s by' : Nat}
theorem own_build1G (hu : P.underlying ts = some (.slice t)) (hI : InfoR P t s by') (hs : 0 < s) (hms : s ≤ 1000) (H : Hid (Ow w0 w l)) (hgd : o.guard = none) {x : Operand} (ho : o.op = .buildSlice ts 1 #[(0, x)]) {f : Nat → Value} (hx : a.eval x = .agg (AV s f))
  (h : ∀ w' g, Hid (Ow w0 w' ((g, Cs t (AV s f)) :: l)) → ∀ K : Act → World → Prop, (∀ a w, wpList P ops Q rest a w → K a w) → K (a.put o.dst (.slice (some ⟨g, 0, none⟩) 1 1)) w') : wpList P ops Q (o :: rest) a w :=
 wpList_plain hgd fun K hK => by
  unfold Oper.wp execOp
  simp only [ho, List.map_toArray, List.map_cons, List.map_nil, hx, Sem.run_bind, run_build1G (P := P) (w := w) hu hI hs hms f, Result.andThen_ok]
  exact h _ _ (Lib.hid (H.out.alloc _)) K hK
end
theorem infoTm : InfoR Tryz.prog 145 25 216 := z6u (by kernel_rfl)
theorem infoRw : InfoR Tryz.prog 169 409 3288 := z6u (by kernel_rfl)
theorem built_tm (a : Option Addr) (n c : Nat) (v : Nat → Int) (w : World) : (Instr.build 145 #[(0, .slice a n c), (1, .agg (AZ .u64 24 v))]).run Tryz.prog w = .ok (.agg (AV 25 (sci (.slice a n c) v))) w :=
 run_build w _ _ _ (by kernel_rfl)
theorem zero_run_eq {P : Program} {t : TypeId} {i : TypeInfo} {z z' : Value} {w : World} (hi : P.info? t = some i) (hz : i.zero = some z) (h : (zeroValue t).run P w = .ok z' w) : z = z' := by
 simp [zeroValue, typeInfo, hi, hz] at h
 exact h
theorem made_av (m n : Nat) (f : Nat → Value) : madeCells (Value.agg (AV m f)).cells (n * m) = AV (n * m) (grd m fun _ => f) := by
 apply Array.ext_getElem?
 intro j
 unfold madeCells
 by_cases hj : j < n * m
 ·have hm : 0 < m := Nat.pos_of_ne_zero fun e => by subst e; omega
  have hl := Nat.mod_lt j hm
  rw [z1s _ _ _ hj, Array.getElem?_map, Array.getElem?_range, if_pos hj, Option.map_some]
  have e : (Value.agg (AV m f)).cells = AV m f := rfl
  rw [e, z0z, getElem!_pos _ _ (by rw [z0z]; exact hl)]
  have h2 := z1s m f _ hl
  rw [Array.getElem?_eq_getElem (by rw [z0z]; exact hl)] at h2
  exact h2
 ·rw [Array.getElem?_eq_none (by simpa using hj), Array.getElem?_eq_none (by rw [z0z]; omega)]
section
variable {ops : Array Oper} {rest : List Oper} {o : Oper} {a : Act} {w w0 : World} {l : List (Nat × Obj)} {Q : Exit → Act → World → Prop}
theorem lay_build_tm (hgd : o.guard = none) {x y : Operand} (ho : o.op = .build 145 #[(0, x), (1, y)]) {b : Option Addr} {n c : Nat} {v : Nat → Int} (hx : a.eval x = .slice b n c) (hy : a.eval y = .agg (AZ .u64 24 v))
  (k : ∀ K : Act → World → Prop, (∀ a w, wpList Tryz.prog ops Q rest a w → K a w) → K (a.put o.dst (.agg (AV 25 (sci (.slice b n c) v)))) w) : wpList Tryz.prog ops Q (o :: rest) a w :=
 wpList_plain hgd fun K hK => by
  unfold Oper.wp execOp
  simp only [ho, List.map_toArray, List.map_cons, List.map_nil, hx, hy, Sem.run_bind, built_tm, Result.andThen_ok]
  exact k K hK
theorem run_make_rws (w : World) (n : Nat) (hn : n ≤ 100) : (Instr.makeSlice 166 (.int .i64 (n : Int)) (.int .i64 (n : Int))).run Tryz.prog w = .ok (.slice (some ⟨w.heap.size, 0, none⟩) n n) (w.alloc (Cs 169 (AV (n * 409) (grd 409 fun _ => sci (.slice none 0 0) fun _ => 0)))) := by
 obtain ⟨i, z, hi, hz, hs, hb, _⟩ := infoRw.has
 have hz0 : i.zero = some (.agg (AV 409 (sci (.slice none 0 0) fun _ => 0))) := by
  have h := zero_run_eq (hi := hi) (hz := hz) (nilRw w)
  rw [hz, h]
 have h := run_makeSlice (P := Tryz.prog) w 166 169 i _ Tryz.underlying166 hi hz0 .i64 .i64 (n : Int) (n : Int) (by omega) (by omega) (by rw [hs, Int.toNat_natCast]; omega) (by rw [hb]; omega) (by omega)
 rw [hs, Int.toNat_natCast, made_av] at h
 exact h
theorem own_makeRw (H : Hid (Ow w0 w l)) (hgd : o.guard = none) {x y : Operand} (ho : o.op = .makeSlice 166 x y) {n : Nat} (hx : a.eval x = .int .i64 (n : Int)) (hy : a.eval y = .int .i64 (n : Int)) (hc : n ≤ 100)
  (k : ∀ w' g, Hid (Ow w0 w' ((g, Cs 169 (AV (n * 409) (grd 409 fun _ => sci (.slice none 0 0) fun _ => 0))) :: l)) → ∀ K : Act → World → Prop, (∀ a w, wpList Tryz.prog ops Q rest a w → K a w) → K (a.put o.dst (.slice (some ⟨g, 0, none⟩) n n)) w') : wpList Tryz.prog ops Q (o :: rest) a w :=
 wpList_plain hgd fun K hK => by
  unfold Oper.wp execOp
  simp only [ho, hx, hy, Sem.run_bind, run_make_rws w n hc, Result.andThen_ok]
  exact k _ _ (Lib.hid (H.out.alloc _)) K hK
end
section
variable {md : Region.Mode} {ops : Array Oper} {Q : Exit → Act → World → Prop} {S : World → Prop} {fuel : Nat} {listed : Array Bool} {a : Act} {w : World}
end
theorem Grid.congr {w : World} {B : Nat} {a : Option Addr} {n c m : Nat} {G G' : Nat → Nat → Value} (h : Grid w B a n c m G) (he : ∀ i, i < n → G i = G' i) : Grid w B a n c m G' := ⟨h.le, h.nil, fun ad e h0 => by
 obtain ⟨b, o, e', hlt, hc⟩ := h.low ad e h0
 exact ⟨b, o, e', hlt, fun i hi j hj => by rw [← he i hi]; exact hc i hi j hj⟩⟩
def zml (z : Int) (P : Pt pN dK) : Pt pN dK := if z < 0 then pneg (pmul edK z.natAbs P) else pmul edK z.natAbs P
theorem z7y (n : Nat) (P : Pt pN dK) : zml (n : Int) P = pmul edK n P := by
 unfold zml
 rw [if_neg (by omega), Int.natAbs_natCast]
theorem z8i (P : Pt pN dK) : zml 0 P = pzero := z7y 0 P
theorem z7x (m n : Nat) (P : Pt pN dK) : zml ((m : Int) - (n : Int)) P = padd edK (pmul edK m P) (pneg (pmul edK n P)) := by
 rcases Nat.lt_or_ge m n with h | h
 ·obtain ⟨k, rfl⟩ : ∃ k, n = m + k := ⟨n - m, by omega⟩
  have e : ((m : Int) - ((m + k : Nat) : Int)).natAbs = k := by omega
  unfold zml
  rw [if_pos (by omega), e, z26, z7c edK, ← z0v, z14, z2q]
 ·obtain ⟨k, rfl⟩ : ∃ k, m = k + n := ⟨m - n, by omega⟩
  have e : (((k + n : Nat) : Int) - (n : Int)) = (k : Int) := by omega
  rw [e, z7y, z26, z0v, z14, z05]
theorem z7n (z : Int) : ∃ m n : Nat, z = (m : Int) - (n : Int) := ⟨z.toNat, (-z).toNat, by omega⟩
theorem zml_add (a b : Int) (P : Pt pN dK) : zml (a + b) P = padd edK (zml a P) (zml b P) := by
 obtain ⟨m, n, rfl⟩ := z7n a
 obtain ⟨r, s, rfl⟩ := z7n b
 have e : (m : Int) - (n : Int) + ((r : Int) - (s : Int)) = ((m + r : Nat) : Int) - ((n + s : Nat) : Int) := by omega
 rw [e, z7x, z7x, z7x, z26, z26, z7c edK, z5i]
theorem z8j (z : Int) (P : Pt pN dK) {s : Int} (hs : s = if z < 0 then -1 else 0) : (if s % 2 = 0 then pmul edK z.natAbs P else pneg (pmul edK z.natAbs P)) = zml z P := by
 subst hs
 unfold zml
 by_cases h : z < 0
 ·rw [if_pos h, if_pos h, if_neg (by decide)]
 ·rw [if_neg h, if_neg h, if_pos (by decide)]
def tot (X : Nat → Int) (P : Nat → Pt pN dK) : Nat → Pt pN dK
 | 0 => pzero
 | n + 1 => padd edK (tot X P n) (zml (X n) (P n))
theorem z2s {X Y : Nat → Int} (P : Nat → Pt pN dK) : ∀ n, (∀ i, i < n → X i = Y i) → tot X P n = tot Y P n
 | 0, _ => rfl
 | n + 1, h => by
  unfold tot
  rw [z2s P n fun i hi => h i (by omega), h n (by omega)]
theorem z6k (P : Nat → Pt pN dK) : ∀ n, tot (fun _ => 0) P n = pzero
 | 0 => rfl
 | n + 1 => by
  unfold tot
  rw [z6k P n, z8i, z05]
theorem z71 (X Y : Nat → Int) (P : Nat → Pt pN dK) : ∀ n, tot (fun i => X i + Y i) P n = padd edK (tot X P n) (tot Y P n)
 | 0 => (z05 edK pzero).symm
 | n + 1 => by
  unfold tot
  rw [z71 X Y P n, zml_add, z5i]
theorem z95 (X : Nat → Int) (P : Nat → Pt pN dK) (n : Nat) : ∀ m : Nat, pmul edK m (tot X P n) = tot (fun i => (m : Int) * X i) P n
 | 0 => by
  rw [z5g, z2s (Y := fun _ => 0) P n fun i _ => by simp, z6k]
 | m + 1 => by
  rw [z3x, z95 X P n m, ← z71]
  exact z2s P n fun i _ => by rw [Int.natCast_succ, Int.add_mul, Int.one_mul]
def hor (f : Nat → Int) (m : Nat) : Nat → Int
 | 0 => 0
 | t + 1 => 32 * hor f m t + f (m - 1 - t)
theorem z9k (f : Nat → Int) (m : Nat) : ∀ t, t ≤ m → vl f 5 m = vl f 5 (m - t) + hor f m t * 2 ^ (5 * (m - t))
 | 0, _ => by simp [hor]
 | t + 1, h => by
  rw [z9k f m t (by omega)]
  obtain ⟨j, hj⟩ : ∃ j, m - t = j + 1 := ⟨m - t - 1, by omega⟩
  have e1 : m - (t + 1) = j := by omega
  have e2 : m - 1 - t = j := by omega
  rw [hj, e1, hor, e2, vl, Nat.mul_succ, z9j]
  have e3 : (2 : Int) ^ 5 = 32 := by decide
  rw [e3]
  generalize (2 : Int) ^ (5 * j) = P
  generalize hor f m t = q
  generalize vl f 5 j = z
  grind
theorem hor_all (f : Nat → Int) (m : Nat) : hor f m m = vl f 5 m := by
 have h := z9k f m m (Nat.le_refl _)
 rw [Nat.sub_self] at h
 rw [h]
 simp [vl]
def dgx (x M i : Nat) : Int := if i < M then sdg x 5 i else 0
theorem z91 (x M : Nat) : ∀ t, vl (dgx x M) 5 (M + t) = vl (sdg x 5) 5 M
 | 0 => z8p 5 M fun i hi => if_pos hi
 | t + 1 => by
  show vl (dgx x M) 5 (M + t) + dgx x M (M + t) * 2 ^ (5 * (M + t)) = _
  rw [z91 x M t]
  have e : dgx x M (M + t) = 0 := if_neg (by omega)
  rw [e, Int.zero_mul, Int.add_zero]
def dgn (n : Nat) : Nat := (8 * n + 5 - 1) / 5 + 1
theorem dgn_le {n : Nat} (h : n ≤ 64) : dgn n ≤ 104 := by
 unfold dgn
 omega
theorem dgx_all {x n m : Nat} (h : x < 2 ^ (8 * n)) (hm : dgn n ≤ m) : hor (dgx x (dgn n)) m m = (x : Int) := by
 obtain ⟨t, rfl⟩ : ∃ t, m = dgn n + t := ⟨m - dgn n, by omega⟩
 rw [hor_all, z91]
 exact sdg_all h (by omega) (by omega)
theorem tot_place (X : Nat → Nat → Int) (P : Nat → Pt pN dK) (n m t : Nat) : padd edK (pmul edK 32 (tot (fun k => hor (X k) m t) P n)) (tot (fun k => X k (m - 1 - t)) P n) = tot (fun k => hor (X k) m (t + 1)) P n := by
 rw [z95, ← z71]
 rfl
theorem tot_one (x : Nat) (P : Nat → Pt pN dK) : tot (fun _ => (x : Int)) P 1 = pmul edK x (P 0) := by
 show padd edK pzero (zml (x : Int) (P 0)) = _
 rw [z2q, z7y]
structure RowAt (w : World) (B b p M x : Nat) (P : Pt pN dK) : Prop where
 lt : b < B
 is : ∃ g, w.cell? ⟨b, p, none⟩ = some (.slice (some ⟨g, 0, none⟩) M M) ∧ g < B ∧ w.heap[g]? = some (Blk 3 .i64 M (sdg x 5))
 tab : ∀ i, i < 17 → ∃ v, PtK v (pmul edK i P) ∧ ∀ j, j < 24 → w.cell? ⟨b, p + 1 + i * 24 + j, none⟩ = some (.int .u64 (v j))
section
variable {w w' : World} {B b p M x : Nat} {P : Pt pN dK}
theorem RowAt.below (h : RowAt w B b p M x P) (hb : Below B w w') : RowAt w' B b p M x P := by
 obtain ⟨g, h1, h2, h3⟩ := h.is
 refine ⟨h.lt, ⟨g, (hb.cell (p := ⟨b, p, none⟩) h.lt).trans h1, h2, (hb.block g h2).trans h3⟩, fun i hi => ?_⟩
 obtain ⟨v, hv, hc⟩ := h.tab i hi
 exact ⟨v, hv, fun j hj => (hb.cell (p := ⟨b, p + 1 + i * 24 + j, none⟩) h.lt).trans (hc j hj)⟩
theorem RowAt.more {B' : Nat} (h : RowAt w B b p M x P) (hB : B ≤ B') : RowAt w B' b p M x P := by
 obtain ⟨g, h1, h2, h3⟩ := h.is
 exact ⟨Nat.lt_of_lt_of_le h.lt hB, ⟨g, h1, Nat.lt_of_lt_of_le h2 hB, h3⟩, h.tab⟩
theorem RowAt.call (h : RowAt w w.heap.size b p M x P) (hb : Below w.heap.size w w') : RowAt w' w'.heap.size b p M x P := (h.below hb).more hb.size
theorem RowAt.pts (h : RowAt w B b p M x P) : Pts w B (some ⟨b, p + 1, none⟩) 17 17 fun i => pmul edK i P :=
 ⟨Nat.le_refl _, (fun e => by cases e), fun ad e _ => ⟨b, p + 1, (Option.some.inj e).symm, h.lt, fun i hi => h.tab i hi⟩⟩
theorem row_at {t : TypeId} {n : Nat} {f : Nat → Value} {g : Nat} {F : Nat → Int} (hr : w.heap[b]? = some (Cs t (AV n f))) (hp : p + 409 ≤ n) (hf : ∀ j, j < 409 → f (p + j) = sci (.slice (some ⟨g, 0, none⟩) M M) F j)
  (hg : w.heap[g]? = some (Blk 3 .i64 M (sdg x 5))) (hF : Fill F 17 fun i => pmul edK i P) : RowAt w w.heap.size b p M x P := by
 refine ⟨z0w hr, ⟨g, ?_, z0w hg, hg⟩, fun i hi => ?_⟩
 ·rw [z5u hr (by omega)]
  exact congrArg some ((hf 0 (by omega)).trans (z6m _ _))
 ·obtain ⟨v, hv, he⟩ := hF i hi
  refine ⟨v, hv, fun j hj => ?_⟩
  rw [z5u hr (by omega), show p + 1 + i * 24 + j = p + (1 + (i * 24 + j)) by omega, hf _ (by omega), z6o, he j hj]
end
def mxn (M : Nat → Nat) : Nat → Nat
 | 0 => 0
 | n + 1 => max (mxn M n) (M n)
theorem y0u {M : Nat → Nat} {c : Nat} : ∀ n, (∀ i, i < n → M i ≤ c) → mxn M n ≤ c
 | 0, _ => Nat.zero_le _
 | n + 1, h => by
  have h1 := y0u n fun i hi => h i (by omega)
  have h2 := h n (by omega)
  unfold mxn
  omega
theorem le_mxn (M : Nat → Nat) : ∀ n i, i < n → M i ≤ mxn M n
 | 0, _, h => by omega
 | n + 1, i, h => by
  unfold mxn
  rcases (by omega : i < n ∨ i = n) with h1 | rfl
  ·have := le_mxn M n i h1
   omega
  ·omega
def PlaceV (m i : Nat) (args : Array Value) : Prop := args = #[.int .i64 ((m - 1 - i : Nat) : Int)]
end Go.Proofs.YtoeokhfhcpcjlaaGreatDoor
