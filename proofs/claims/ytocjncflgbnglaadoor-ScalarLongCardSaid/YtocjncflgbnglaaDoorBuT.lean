/-
  Lemmas for the walks, several texts in one. No statement is proved here.
-/
import Derived.Test.YtocjncflgbnglaaDoorBuS
import Derived.Test.YtocjncflgbnglaaDoorBuN
import Derived.Deep.CutRange
import Derived.Laws.BitsAllLaws
/-
  The contracts of scalar.Add, Neg, Sub, Zero, Equal, Mul. No statement is proved here: lemmas for the walks.
-/
namespace Go.Proofs.YtocjncflgbnglaaDoor
open Go.RowKit

set_option maxRecDepth 8000 in
set_option maxHeartbeats 3200000 in
theorem add_s (a b : KL) (w : World) {r : Bool} (hT : Tl r w) :
    Calls Tryd.prog 24 #[W7 a.val, W7 b.val] w fun e w' => e = .returned (W7 (a + b).val) ∧ Below w.heap.size w w' := by
  have HX : Hid (a.val + b.val < 2 * lN) := Lib.hid (by have := a.isLt; have := b.isLt; omega)
  rw [Fin.val_add]
  have HT := Lib.hid hT
  clear hT
  have H := Lib.hid (Ow.start w)
  go_enter Tryd.func24, Tryd.ntmps24
  go_wp2_with (first
    | ((fail_if_success have := g2); (with_reducible apply own_box H); (case hgd => exact rfl); (case ho => exact rfl); (case hx => exact rfl); intro w2 g2 H' _ _; replace H := H'; clear H'; go_simp)
    | ((fail_if_success have := g3); (with_reducible apply own_box H); (case hgd => exact rfl); (case ho => exact rfl); (case hx => exact rfl); intro w3 g3 H' _ _; replace H := H'; clear H'; go_simp)
    | ((fail_if_success have := g4); (with_reducible apply own_alloc nilSc H); (case hgd => exact rfl); (case ho => exact rfl); intro w4 g4 H' _ _; replace H := H'; clear H'; go_simp)
    | ((with_reducible apply own_load row7 H); (case hgd => exact rfl); (case ho => exact rfl); (case hx => exact rfl); (case hi => first | exact at0 | exact at1 | exact at2 | exact at3 | exact at4 | exact at5 | exact at6 | exact at7 | exact at8 | exact at9); intro _ _; go_simp)
    | ((with_reducible refine (plus_v a.val b.val _).mono ?_); rintro e wc ⟨rfl, hb⟩; replace H := Lib.hid (H.out.call hb); clear hb)
    | ((with_reducible refine (least_v (a.val + b.val) _ (HT.out.below H.out.bel) HX.out).mono ?_); rintro e wc ⟨rfl, hb⟩; replace H := Lib.hid (H.out.call hb); clear hb)
    | ((with_reducible apply own_store rowSc H); (case hgd => exact rfl); (case ho => exact rfl); (case hx => exact rfl); (case hy => exact rfl); (case hi => first | exact at0 | exact at1 | exact at2 | exact at3 | exact at4 | exact at5 | exact at6 | exact at7 | exact at8 | exact at9); intro ws H' _ _; replace H := H'; clear H'; simp only [List.set_cons_zero] at H; go_simp))
  exact bodyPost_ret (own_result 0 rowSc rfl _ H rfl rfl) rfl ⟨rfl, H.out.bel⟩
theorem kl_lt (a : KL) : a.val < tN := Nat.lt_trans a.isLt lN_lt_t
theorem und_no {x y : Nat} (h : y ≤ x) : und x y = 0 := by unfold und; rw [if_neg (by omega)]
set_option maxRecDepth 8000 in
set_option maxHeartbeats 3200000 in
theorem neg_s (a : KL) (w : World) {r : Bool} (hT : Tl r w) :
    Calls Tryd.prog 28 #[W7 a.val] w fun e w' => e = .returned (W7 (-a).val) ∧ Below w.heap.size w w' := by
  have HA := Lib.hid (kl_lt a)
  have HE : Hid (W7 (dif lN a.val) = W7 (lN - a.val)) := Lib.hid (W7_congr fun i hi => dif_ge (Nat.le_of_lt a.isLt) i hi)
  have HX : Hid (lN - a.val < 2 * lN) := Lib.hid (by have := a.isLt; omega)
  rw [fp_val_neg]
  have HT := Lib.hid hT
  clear hT
  have H := Lib.hid (Ow.start w)
  go_enter Tryd.func28, Tryd.ntmps28
  go_wp2_with (first
    | ((fail_if_success have := g1); (with_reducible apply own_box H); (case hgd => exact rfl); (case ho => exact rfl); (case hx => exact rfl); intro w1 g1 H' _ _; replace H := H'; clear H'; go_simp)
    | ((fail_if_success have := g2); (with_reducible apply own_alloc nilSc H); (case hgd => exact rfl); (case ho => exact rfl); intro w2 g2 H' _ _; replace H := H'; clear H'; go_simp)
    | ((with_reducible apply lay_load_ord (Lib.hid (HT.out.below H.out.bel))); (case hgd => exact rfl); (case ho => exact rfl); (case hx => exact rfl); intro _ _; go_simp)
    | ((with_reducible apply own_load row7 H); (case hgd => exact rfl); (case ho => exact rfl); (case hx => exact rfl); (case hi => first | exact at0 | exact at1 | exact at2 | exact at3 | exact at4 | exact at5 | exact at6 | exact at7 | exact at8 | exact at9); intro _ _; go_simp)
    | ((with_reducible refine (slessen_v lN a.val _ lN_lt_t HA.out).mono ?_); rintro e wc ⟨rfl, hb⟩; replace H := Lib.hid (H.out.call hb); clear hb; rw [HE.out])
    | ((fail_if_success have := g3); (with_reducible apply own_alloc nil7 H); (case hgd => exact rfl); (case ho => exact rfl); intro w3 g3 H' _ _; replace H := H'; clear H'; go_simp)
    | ((with_reducible apply own_store row7 H); (case hgd => exact rfl); (case ho => exact rfl); (case hx => exact rfl); (case hy => exact rfl); (case hi => first | exact at0 | exact at1 | exact at2 | exact at3 | exact at4 | exact at5 | exact at6 | exact at7 | exact at8 | exact at9); intro ws H' _ _; replace H := H'; clear H'; simp only [List.set_cons_zero] at H; go_simp)
    | ((with_reducible refine (least_v (lN - a.val) _ (HT.out.below H.out.bel) HX.out).mono ?_); rintro e wc ⟨rfl, hb⟩; replace H := Lib.hid (H.out.call hb); clear hb)
    | ((with_reducible apply own_store rowSc H); (case hgd => exact rfl); (case ho => exact rfl); (case hx => exact rfl); (case hy => exact rfl); (case hi => first | exact at0 | exact at1 | exact at2 | exact at3 | exact at4 | exact at5 | exact at6 | exact at7 | exact at8 | exact at9); intro ws H' _ _; replace H := H'; clear H'; simp only [List.set_cons_zero, List.set_cons_succ] at H; go_simp))
  exact bodyPost_ret (own_result 1 rowSc rfl _ H rfl rfl) rfl ⟨rfl, H.out.bel⟩
set_option maxRecDepth 8000 in
set_option maxHeartbeats 3200000 in
theorem sub_s (a b : KL) (w : World) {r : Bool} (hT : Tl r w) :
    Calls Tryd.prog 26 #[W7 a.val, W7 b.val] w fun e w' => e = .returned (W7 (a - b).val) ∧ Below w.heap.size w w' := by
  have HE : Hid (a + -b = a - b) := Lib.hid (by grind)
  have HT := Lib.hid hT
  clear hT
  have H := Lib.hid (Ow.start w)
  go_enter Tryd.func26, Tryd.ntmps26
  go_wp2_with (first
    | ((fail_if_success have := g2); (with_reducible apply own_box H); (case hgd => exact rfl); (case ho => exact rfl); (case hx => exact rfl); intro w2 g2 H' _ _; replace H := H'; clear H'; go_simp)
    | ((fail_if_success have := g3); (with_reducible apply own_box H); (case hgd => exact rfl); (case ho => exact rfl); (case hx => exact rfl); intro w3 g3 H' _ _; replace H := H'; clear H'; go_simp)
    | ((fail_if_success have := g4); (with_reducible apply own_alloc nilSc H); (case hgd => exact rfl); (case ho => exact rfl); intro w4 g4 H' _ _; replace H := H'; clear H'; go_simp))
  refine wp_region_noPanic ?_
  refine wp_region_held_drew (S := fun W => W.heap[g2]? = some (WB 27 7 (wd (a).val)) ∧ W.heap[g3]? = some (WB 27 7 (wd (b).val))) (by kernel_rfl) (⟨H.out.drew.row 2 rfl, H.out.drew.row 1 rfl⟩) (fun hH => ?_)
  replace H := Lib.hid H.out.drew
  generalize World.drew _ = w8 at *
  refine held_row 0 5 rowSc rfl rfl (by kernel_rfl) (by kernel_rfl) (by kernel_rfl) rfl hH rfl rfl (fun _ h => h.1) ?_
  try simp only [Act.put, List.setIfInBounds_toArray, List.set_cons_zero, List.set_cons_succ]
  refine held_row 1 6 rowSc rfl rfl (by kernel_rfl) (by kernel_rfl) (by kernel_rfl) rfl hH rfl rfl (fun _ h => h.2) ?_
  try simp only [Act.put, List.setIfInBounds_toArray, List.set_cons_zero, List.set_cons_succ]
  refine wpAnyH_ready (rs := [2]) (by kernel_rfl) (by simp) ?_
  refine AllReadyH.cons (o := _) rfl (fun K hK => ?_) AllReadyH.nil
  go_simp
  refine (neg_s (b) _ (HT.out.below H.out.bel)).mono ?_
  rintro e wc ⟨rfl, hb⟩
  replace H := Lib.hid (H.out.call hb)
  refine hK.out _ _ (⟨H.out.row 2 rfl, H.out.row 1 rfl⟩) (fun hN => ?_)
  clear hK K hH hb
  have hH := hN
  clear hN
  try simp only [Act.put, List.setIfInBounds_toArray, List.set_cons_zero, List.set_cons_succ]
  refine wpAnyH_ready (rs := [3]) (by kernel_rfl) (by simp) ?_
  refine AllReadyH.cons (o := _) rfl (fun K hK => ?_) AllReadyH.nil
  go_simp
  refine (add_s (a) ((-b)) _ (HT.out.below H.out.bel)).mono ?_
  rintro e wc ⟨rfl, hb⟩
  replace H := Lib.hid (H.out.call hb)
  refine hK.out _ _ (⟨H.out.row 2 rfl, H.out.row 1 rfl⟩) (fun hN => ?_)
  clear hK K hH hb
  have hH := hN
  clear hN
  try simp only [Act.put, List.setIfInBounds_toArray, List.set_cons_zero, List.set_cons_succ]
  refine wpAnyH_ready (rs := [4]) (by kernel_rfl) (by simp) ?_
  refine AllReadyH.cons (o := _) rfl (fun K hK => ?_) AllReadyH.nil
  refine own_wp_store 0 rowSc H.out rfl rfl rfl rfl ?_
  intro ws HS
  simp only [List.set_cons_zero] at HS
  replace H := Lib.hid HS
  refine hK.out _ _ (⟨H.out.row 2 rfl, H.out.row 1 rfl⟩) (fun hN => ?_)
  clear hK K HS hH
  have hH := hN
  clear hN
  try simp only [Act.put, List.setIfInBounds_toArray]
  try simp only [Act.put]
  refine wpAnyH_done (by kernel_rfl) ?_ _
  refine NoPanic.normal ?_
  clear hH
  go_wp2_with fail
  exact bodyPost_ret (own_result 0 rowSc rfl _ H rfl rfl) rfl ⟨by rw [← HE.out], H.out.bel⟩
/-- The words of a number, all together. -/
def orw (x : Nat) : Nat → BitVec 64
  | 0 => 0
  | k + 1 => orw x k ||| wd x k
theorem orw_zero (x : Nat) : ∀ k, orw x k = 0 ↔ x % 2 ^ (64 * k) = 0
  | 0 => by rw [Nat.mul_zero, Nat.pow_zero, Nat.mod_one]; exact ⟨fun _ => rfl, fun _ => rfl⟩
  | k + 1 => by
    have ih := orw_zero x k
    have e : orw x (k + 1) = 0 ↔ orw x k = 0 ∧ wd x k = 0 := by
      constructor
      · intro h
        have h' : orw x k ||| wd x k = 0 := h
        exact ⟨BitVec.or_eq_zero_iff.1 h' |>.1, BitVec.or_eq_zero_iff.1 h' |>.2⟩
      · intro h
        show orw x k ||| wd x k = 0
        rw [h.1, h.2]
        rfl
    have hw : wd x k = 0 ↔ x / 2 ^ (64 * k) % 18446744073709551616 = 0 := by
      rw [← wd_nat]
      exact ⟨fun h => by rw [h]; rfl, fun h => BitVec.eq_of_toNat_eq h⟩
    rw [e, ih, hw, pow64, Nat.mod_mul]
    have hP := Nat.two_pow_pos (64 * k)
    generalize x / 2 ^ (64 * k) % 18446744073709551616 = d
    generalize 2 ^ (64 * k) = P at *
    constructor
    · intro h; rw [h.1, h.2]; rfl
    · intro h
      have h1 : x % P = 0 := by omega
      rw [h1, Nat.zero_add] at h
      exact ⟨h1, by rcases Nat.mul_eq_zero.1 h with h2 | h2 <;> omega⟩
theorem orw_seven {x : Nat} (h : x < tN) : orw x 7 = 0 ↔ x = 0 := by rw [orw_zero, tN_words 7 rfl, Nat.mod_eq_of_lt h]
theorem L_dec (b : BitVec 64) : (L b == 0) = decide (b = 0) := by
  by_cases h : b = 0
  · rw [decide_eq_true h]; exact L_eq0 b h
  · rw [decide_eq_false h]; exact L_ne0 b h
set_option maxRecDepth 8000 in
set_option maxHeartbeats 3200000 in
theorem zero_s (a : KL) (w : World) :
    Calls Tryd.prog 17 #[W7 a.val] w fun e w' => e = .returned (.bool (decide (a = 0))) ∧ Below w.heap.size w w' := by
  have HZ : Hid ((L (orw a.val 7) == 0) = decide (a = 0)) := Lib.hid (by
    rw [L_dec]
    exact decide_eq_decide.2 ((orw_seven (kl_lt a)).trans fp_val_zero.symm))
  have H := Lib.hid (Ow.start w)
  go_enter Tryd.func17, Tryd.ntmps17
  go_wp2_with (first
    | ((fail_if_success have := g1); (with_reducible apply own_box H); (case hgd => exact rfl); (case ho => exact rfl); (case hx => exact rfl); intro w1 g1 H' _ _; replace H := H'; clear H'; go_simp)
    | ((with_reducible apply own_load row7 H); (case hgd => exact rfl); (case ho => exact rfl); (case hx => exact rfl); (case hi => first | exact at0 | exact at1 | exact at2 | exact at3 | exact at4 | exact at5 | exact at6 | exact at7 | exact at8 | exact at9); intro _ _; go_simp))
  go_loopw [3, 8] (fun v3 v8 wr => ∃ i : Nat, i ≤ 7 ∧ v8 = .int .i64 i ∧ v3 = V (orw a.val i) ∧ Ow w wr [(g1, WB 27 7 (wd (a).val))]) (fun _ v8 _ => 7 - (intOf v8).toNat)
  case atStart => exact ⟨0, by omega, rfl, rfl, H.out⟩
  case round =>
    clear H
    obtain ⟨i, hi, rfl, rfl, HR⟩ := hrel
    have H := Lib.hid HR
    clear HR
    by_cases hlt : i < 7
    · have hid : decide ((i : Int) < 7) = true := by simp; omega
      have i7 : (i : Int) < 7 := by omega
      go_wp2_with (first
        | ((with_reducible apply own_indexw (n := 7) (f := wd a.val) Tryd.underlying25); (case hgd => exact rfl); (case ho => exact rfl); (case hx => exact rfl); (case hy => exact rfl); (case hi => omega); intro _ _; go_simp))
      go_roundw
      case rel => exact ⟨i + 1, by omega, by go_num, rfl, H.out⟩
      case measure => simp [intOf]; omega
    · obtain rfl : i = 7 := by omega
      rw [show ((7 : Nat) : Int) = 7 from rfl]
      go_wp2_with fail
      go_ret
      exact ⟨congrArg (fun b => Ending.returned (.bool b)) HZ.out, H.out.bel⟩
set_option maxRecDepth 8000 in
set_option maxHeartbeats 3200000 in
theorem equal_s (a b : KL) (w : World) {r : Bool} (hT : Tl r w) :
    Calls Tryd.prog 35 #[W7 a.val, W7 b.val] w fun e w' => e = .returned (.bool (decide (a = b))) ∧ Below w.heap.size w w' := by
  have HE : Hid (decide (a - b = 0) = decide (a = b)) := Lib.hid (decide_eq_decide.2 ⟨fun h => by grind, fun h => by grind⟩)
  have HT := Lib.hid hT
  clear hT
  have H := Lib.hid (Ow.start w)
  go_enter Tryd.func35, Tryd.ntmps35
  go_wp2_with (first
    | ((fail_if_success have := g2); (with_reducible apply own_box H); (case hgd => exact rfl); (case ho => exact rfl); (case hx => exact rfl); intro w2 g2 H' _ _; replace H := H'; clear H'; go_simp)
    | ((fail_if_success have := g3); (with_reducible apply own_box H); (case hgd => exact rfl); (case ho => exact rfl); (case hx => exact rfl); intro w3 g3 H' _ _; replace H := H'; clear H'; go_simp)
    | ((with_reducible apply own_load rowSc H); (case hgd => exact rfl); (case ho => exact rfl); (case hx => exact rfl); (case hi => first | exact at0 | exact at1 | exact at2 | exact at3 | exact at4 | exact at5 | exact at6 | exact at7 | exact at8 | exact at9); intro _ _; go_simp)
    | ((with_reducible refine (sub_s a b _ (HT.out.below H.out.bel)).mono ?_); rintro e wc ⟨rfl, hb⟩; replace H := Lib.hid (H.out.call hb); clear hb)
    | ((with_reducible refine (zero_s (a - b) _).mono ?_); rintro e wc ⟨rfl, hb⟩; replace H := Lib.hid (H.out.call hb); clear hb))
  go_ret
  exact ⟨congrArg (fun b => Ending.returned (.bool b)) HE.out, H.out.bel⟩
theorem prod_bd (a b : KL) : Bd 3 (a.val * b.val) := by
  unfold Bd
  rw [if_neg (by decide)]
  have h := Nat.mul_le_mul (Nat.le_of_lt a.isLt) (Nat.le_of_lt b.isLt)
  exact Nat.lt_of_le_of_lt h (leb (by decide +kernel))
theorem fits7 (a : KL) : a.val < 2 ^ (64 * 7) := by rw [tN_words 7 rfl]; exact kl_lt a
set_option maxRecDepth 8000 in
set_option maxHeartbeats 3200000 in
theorem mul_s (a b : KL) (w : World) (hT : Tl true w) :
    Calls Tryd.prog 31 #[W7 a.val, W7 b.val] w fun e w' => e = .returned (W7 (a * b).val) ∧ Below w.heap.size w w' := by
  have HB := Lib.hid (prod_bd a b)
  have HF := Lib.hid (fits7 b)
  have HG : Hid (a.val % 2 ^ (64 * 7) = a.val) := Lib.hid (Nat.mod_eq_of_lt (fits7 a))
  rw [Fin.val_mul]
  have HT := Lib.hid hT
  clear hT
  have H := Lib.hid (Ow.start w)
  go_enter Tryd.func31, Tryd.ntmps31
  go_wp2_with (first
    | ((fail_if_success have := g2); (with_reducible apply own_box H); (case hgd => exact rfl); (case ho => exact rfl); (case hx => exact rfl); intro w2 g2 H' _ _; replace H := H'; clear H'; go_simp)
    | ((fail_if_success have := g3); (with_reducible apply own_box H); (case hgd => exact rfl); (case ho => exact rfl); (case hx => exact rfl); intro w3 g3 H' _ _; replace H := H'; clear H'; go_simp)
    | ((fail_if_success have := g4); (with_reducible apply own_alloc nilSc H); (case hgd => exact rfl); (case ho => exact rfl); intro w4 g4 H' _ _; replace H := H'; clear H'; go_simp)
    | ((fail_if_success have := g5); (with_reducible apply own_alloc nil17 H); (case hgd => exact rfl); (case ho => exact rfl); intro w5 g5 H' _ _; replace H := H'; clear H'; go_simp)
    | ((with_reducible apply own_load row7 H); (case hgd => exact rfl); (case ho => exact rfl); (case hx => exact rfl); (case hi => first | exact at0 | exact at1 | exact at2 | exact at3 | exact at4 | exact at5 | exact at6 | exact at7 | exact at8 | exact at9); intro _ _; go_simp))
  replace H := Lib.hid (H.out.like 0 (g := LZ (wd (a.val % 2 ^ (64 * 0) * b.val))) rfl fun k _ => by rw [Nat.mul_zero, Nat.pow_zero, Nat.mod_one, Nat.zero_mul, LZ_wd0])
  simp only [List.set_cons_zero] at H
  go_loopw [10] (fun v10 wr => ∃ i : Nat, i ≤ 7 ∧ v10 = .int .i64 i ∧ Ow w wr [(g5, WB 62 17 (wd (a.val % 2 ^ (64 * i) * b.val))), (g4, Blk 27 .u64 7 fun _ => 0), (g3, WB 27 7 (wd (b).val)), (g2, WB 27 7 (wd (a).val))]) (fun v10 _ => 7 - (intOf v10).toNat)
  case atStart => exact ⟨0, by omega, rfl, H.out⟩
  case round =>
    clear H
    obtain ⟨i, hi, rfl, HR⟩ := hrel
    have H := Lib.hid HR
    clear HR
    by_cases hlt : i < 7
    · have hid : decide ((i : Int) < 7) = true := by simp; omega
      have i7 : (i : Int) < 7 := by omega
      have i17 : (i : Int) ≤ 17 := by omega
      obtain ⟨R, hR⟩ : ∃ R, i + R = 17 := ⟨17 - i, by omega⟩
      have eR : 17 - i = R := by omega
      have HE := Lib.hid hR
      have R8 : 7 ≤ R := by omega
      have n17 : ¬ 17 = i := by omega
      go_wp2_with (first
        | ((with_reducible apply own_indexw (n := 7) (f := wd a.val) Tryd.underlying25); (case hgd => exact rfl); (case ho => exact rfl); (case hx => exact rfl); (case hy => exact rfl); (case hi => omega); intro _ _; go_simp))
      refine wp_region_noPanic ?_
      refine wp_region_held_drew (S := fun _ => True) (by kernel_rfl) trivial (fun hH => ?_)
      replace H := Lib.hid H.out.drew
      generalize World.drew _ = w8 at *
      clear hR
      refine held_value 0 14 (.int .i64 i) rfl rfl (by kernel_rfl) (by kernel_rfl) (by kernel_rfl) rfl hH (fun w hw => by go_simp) ?_
      try simp only [Act.put, List.setIfInBounds_toArray, List.set_cons_zero, List.set_cons_succ]
      refine held_value 1 15 (.slice (some ⟨g5, i, none⟩) R R) rfl rfl (by kernel_rfl) (by kernel_rfl) (by kernel_rfl) rfl hH (fun w hw => by go_simp) ?_
      try simp only [Act.put, List.setIfInBounds_toArray, List.set_cons_zero, List.set_cons_succ]
      refine held_value 2 16 (.pointer (some ⟨g3, 0, none⟩)) rfl rfl (by kernel_rfl) (by kernel_rfl) (by kernel_rfl) rfl hH (fun w hw => by go_simp) ?_
      try simp only [Act.put, List.setIfInBounds_toArray, List.set_cons_zero, List.set_cons_succ]
      refine held_value 3 17 (.slice (some ⟨g3, 0, none⟩) 7 7) rfl rfl (by kernel_rfl) (by kernel_rfl) (by kernel_rfl) rfl hH (fun w hw => by go_simp) ?_
      try simp only [Act.put, List.setIfInBounds_toArray, List.set_cons_zero, List.set_cons_succ]
      refine held_value 4 18 (V (wd a.val i)) rfl rfl (by kernel_rfl) (by kernel_rfl) (by kernel_rfl) rfl hH (fun w hw => by go_simp) ?_
      try simp only [Act.put, List.setIfInBounds_toArray, List.set_cons_zero, List.set_cons_succ]
      refine wpAnyH_ready (rs := [5]) (by kernel_rfl) (by simp) ?_
      refine AllReadyH.cons (o := _) rfl (fun K hK => ?_) AllReadyH.nil
      go_simp
      refine (stimes_v g5 17 i R (a.val % 2 ^ (64 * i) * b.val) g3 7 b.val _ _ (wd a.val i) _ HE.out (by omega) R8 (H.out.row 0 rfl) (H.out.row 2 rfl) (H.out.ne 2 0 rfl rfl (by decide)) HF.out).mono ?_
      rintro e wc ⟨rfl, hr, hb, ha⟩
      replace H := Lib.hid (H.out.put 0 rfl hb ha hr)
      simp only [List.set_cons_zero] at H
      clear hr hb ha
      refine hK.out _ _ trivial (fun _ => ?_)
      clear hK K hH
      try simp only [Act.put, List.setIfInBounds_toArray, List.set_cons_zero, List.set_cons_succ]
      try simp only [Act.put]
      refine wpAnyH_done (by kernel_rfl) ?_ _
      refine NoPanic.normal ?_
      rw [mul_step] at H
      go_wp2_with fail
      go_roundw
      case rel => exact ⟨i + 1, by omega, by go_num, H.out⟩
      case measure => simp [intOf]; omega
    · obtain rfl : i = 7 := by omega
      rw [show ((7 : Nat) : Int) = 7 from rfl]
      rw [HG.out] at H
      go_wp2_with (first
        | ((with_reducible apply own_load row17 H); (case hgd => exact rfl); (case ho => exact rfl); (case hx => exact rfl); (case hi => first | exact at0 | exact at1 | exact at2 | exact at3 | exact at4 | exact at5 | exact at6 | exact at7 | exact at8 | exact at9); intro _ _; go_simp)
        | ((with_reducible refine (reduce_v (a.val * b.val) _ (HT.out.below H.out.bel) HB.out).mono ?_); rintro e wc ⟨rfl, hb⟩; replace H := Lib.hid (H.out.call hb); clear hb)
        | ((with_reducible apply own_store rowSc H); (case hgd => exact rfl); (case ho => exact rfl); (case hx => exact rfl); (case hy => exact rfl); (case hi => first | exact at0 | exact at1 | exact at2 | exact at3 | exact at4 | exact at5 | exact at6 | exact at7 | exact at8 | exact at9); intro ws H' _ _; replace H := H'; clear H'; simp only [List.set_cons_zero, List.set_cons_succ] at H; go_simp))
      exact bodyPost_ret (own_result 1 rowSc rfl _ H rfl rfl) rfl ⟨rfl, H.out.bel⟩
end Go.Proofs.YtocjncflgbnglaaDoor

/-
  The contracts of scalar.Half and Int. No statement is proved here: lemmas for the walks.
-/
namespace Go.Proofs.YtocjncflgbnglaaDoor
open Go.RowKit

theorem mix_down (i : Nat) (f g : Nat → BitVec 64) : upd (mix (i + 1) f g) i (g i) = mix i f g := by
  funext k
  unfold upd mix
  by_cases e : k = i
  · subst e; simp
  · by_cases h : k < i
    · rw [if_neg e, if_pos (by omega), if_pos h]
    · rw [if_neg e, if_neg (by omega), if_neg h]
theorem half_word (A i : Nat) : shr (wd A i) 1 ||| shl (wd A (i + 1)) 63 = wd (A / 2) i := by
  have h := wd_down A 1 i
  rw [Nat.pow_one] at h
  exact h.symm
set_option maxRecDepth 8000 in
set_option maxHeartbeats 3200000 in
theorem half_at (a : KL) (M A : Nat) (mk : Int) (w : World) {r : Bool} (hT : Tl r w) (hm : IntKind.u64.wrap (-(L (wd a.val 0 &&& 1#64))) = mk)
    (hp : ∀ w, Calls Tryd.prog 56 #[.int .u64 mk, W7 0, W7 lN] w fun e w' => e = .returned (W7 M) ∧ Below w.heap.size w w') (hA : a.val + M = A) (hlt : A < tN) :
    Calls Tryd.prog 33 #[W7 a.val] w fun e w' => e = .returned (W7 (A / 2)) ∧ Below w.heap.size w w' := by
  have HT := Lib.hid hT
  have HP := Lib.hid hp
  have HA := Lib.hid hA
  have H7 : Hid (wd A 7 = 0) := Lib.hid (wd_over (n := 7) (by rw [tN_words 7 rfl]; exact hlt) (Nat.le_refl _))
  have HW := Lib.hid (half_word A)
  clear hT hp hA hlt
  have H := Lib.hid (Ow.start w)
  go_enter Tryd.func33, Tryd.ntmps33
  go_upto_region 2 with (first
    | ((fail_if_success have := g1); (with_reducible apply own_box H); (case hgd => exact rfl); (case ho => exact rfl); (case hx => exact rfl); intro w1 g1 H' _ _; replace H := H'; clear H'; go_simp)
    | ((fail_if_success have := g2); (with_reducible apply own_alloc nilSc H); (case hgd => exact rfl); (case ho => exact rfl); intro w2 g2 H' _ _; replace H := H'; clear H'; go_simp)
    | ((with_reducible apply own_word oneU H); (case hgd => exact rfl); (case ho => exact rfl); (case hx => exact rfl); (case hi => first | exact at0 | exact at1 | exact at2 | exact at3 | exact at4 | exact at5 | exact at6 | exact at7 | exact at8 | exact at9); (case hj => omega); intro _ _; go_simp))
  clear hm
  go_cut [4] from 12 to 19 (fun v4 wx => ∃ g4, v4 = .pointer (some ⟨g4, 0, none⟩) ∧ Ow w wx [(g4, WB 25 7 (wd A)), (g2, Blk 27 .u64 7 fun _ => 0), (g1, WB 27 7 (wd (a).val))])
  case first =>
    go_wp2_with fail
    refine wp_region_noPanic ?_
    refine wp_region_held_drew (S := fun W => W.heap[g1]? = some (WB 27 7 (wd (a).val)) ∧ Tl r W) (by kernel_rfl) (⟨H.out.drew.row 1 rfl, HT.out.below H.out.drew.bel⟩) (fun hH => ?_)
    replace H := Lib.hid H.out.drew
    generalize World.drew _ = w8 at *
    refine held_value 0 12 (.pointer (some ⟨g1, 0, none⟩)) rfl rfl (by kernel_rfl) (by kernel_rfl) (by kernel_rfl) rfl hH (fun w hw => by go_simp) ?_
    try simp only [Act.put, List.setIfInBounds_toArray, List.set_cons_zero, List.set_cons_succ]
    refine held_row 1 13 row7 rfl rfl (by kernel_rfl) (by kernel_rfl) (by kernel_rfl) rfl hH rfl rfl (fun _ h => h.1) ?_
    try simp only [Act.put, List.setIfInBounds_toArray, List.set_cons_zero, List.set_cons_succ]
    refine held_value 2 14 (.int .u64 mk) rfl rfl (by kernel_rfl) (by kernel_rfl) (by kernel_rfl) rfl hH (fun w hw => by go_simp) ?_
    try simp only [Act.put, List.setIfInBounds_toArray, List.set_cons_zero, List.set_cons_succ]
    refine held_value 3 15 (W7 (0)) rfl rfl (by kernel_rfl) (by kernel_rfl) (by kernel_rfl) rfl hH (fun w hw => by exact exec_70 rfl w) ?_
    try simp only [Act.put, List.setIfInBounds_toArray, List.set_cons_zero, List.set_cons_succ]
    refine held_ord 4 16 rfl rfl (by kernel_rfl) (by kernel_rfl) (by kernel_rfl) rfl hH rfl rfl (fun _ h => h.2) ?_
    try simp only [Act.put, List.setIfInBounds_toArray, List.set_cons_zero, List.set_cons_succ]
    refine wpAnyH_ready (rs := [5, 7]) (by kernel_rfl) (by simp) ?_
    refine AllReadyH.cons (o := _) rfl (fun K hK => ?_) (AllReadyH.cons (o := _) rfl (fun K hK => ?_) AllReadyH.nil)
    · skip
      go_simp
      refine (HP.out _).mono ?_
      rintro e wc ⟨rfl, hb⟩
      replace H := Lib.hid (H.out.call hb)
      refine hK.out _ _ (⟨H.out.row 1 rfl, HT.out.below H.out.bel⟩) (fun hN => ?_)
      clear hK K hH hb
      have hH := hN
      clear hN
      try simp only [Act.put, List.setIfInBounds_toArray, List.set_cons_zero, List.set_cons_succ]
      refine wpAnyH_ready (rs := [6, 7]) (by kernel_rfl) (by simp) ?_
      refine AllReadyH.cons (o := _) rfl (fun K hK => ?_) (AllReadyH.cons (o := _) rfl (fun K hK => ?_) AllReadyH.nil)
      · skip
        go_simp
        refine (plus_v a.val M _).mono ?_
        rintro e wc ⟨rfl, hb⟩
        replace H := Lib.hid (H.out.call hb)
        refine hK.out _ _ (⟨H.out.row 1 rfl, HT.out.below H.out.bel⟩) (fun hN => ?_)
        clear hK K hH hb
        have hH := hN
        clear hN
        try simp only [Act.put, List.setIfInBounds_toArray, List.set_cons_zero, List.set_cons_succ]
        refine wpAnyH_ready (rs := [7]) (by kernel_rfl) (by simp) ?_
        refine AllReadyH.cons (o := _) rfl (fun K hK => ?_) AllReadyH.nil
        refine own_wp_allocB 4 rfl nil7 H.out rfl ?_
        intro w4 g4 H3 hb
        replace H := Lib.hid H3
        refine hK.out _ _ (⟨H.out.row 2 rfl, HT.out.below H.out.bel⟩) (fun hN => ?_)
        clear hK K hH H3 hb
        have hH := hN
        clear hN
        try simp only [Act.put, List.setIfInBounds_toArray, List.set_cons_zero, List.set_cons_succ]
        refine wpAnyH_ready (rs := [8]) (by kernel_rfl) (by simp) ?_
        refine AllReadyH.cons (o := _) rfl (fun K hK => ?_) AllReadyH.nil
        refine own_wp_store 0 row7 H.out rfl rfl rfl rfl ?_
        intro ws HS
        simp only [List.set_cons_zero] at HS
        replace H := Lib.hid HS
        refine hK.out _ _ (⟨H.out.row 2 rfl, HT.out.below H.out.bel⟩) (fun hN => ?_)
        clear hK K HS hH
        have hH := hN
        clear hN
        try simp only [Act.put, List.setIfInBounds_toArray]
        try simp only [Act.put]
        refine wpAnyH_done (by kernel_rfl) ?_ _
        refine NoPanic.normal ?_
        clear hH
        rw [HA.out] at H
        replace H := Lib.hid (H.out.front (x := (g4, WB 25 7 (wd A))) 0 rfl)
        go_wp2_with fail
        go_meet
        exact ⟨g4, rfl, H.out⟩
      · skip
        refine own_wp_allocB 4 rfl nil7 H.out rfl ?_
        intro w4 g4 H3 hb
        replace H := Lib.hid H3
        refine hK.out _ _ (⟨H.out.row 2 rfl, HT.out.below H.out.bel⟩) (fun hN => ?_)
        clear hK K hH H3 hb
        have hH := hN
        clear hN
        try simp only [Act.put, List.setIfInBounds_toArray, List.set_cons_zero, List.set_cons_succ]
        refine wpAnyH_ready (rs := [6]) (by kernel_rfl) (by simp) ?_
        refine AllReadyH.cons (o := _) rfl (fun K hK => ?_) AllReadyH.nil
        go_simp
        refine (plus_v a.val M _).mono ?_
        rintro e wc ⟨rfl, hb⟩
        replace H := Lib.hid (H.out.call hb)
        refine hK.out _ _ (⟨H.out.row 2 rfl, HT.out.below H.out.bel⟩) (fun hN => ?_)
        clear hK K hH hb
        have hH := hN
        clear hN
        try simp only [Act.put, List.setIfInBounds_toArray, List.set_cons_zero, List.set_cons_succ]
        refine wpAnyH_ready (rs := [8]) (by kernel_rfl) (by simp) ?_
        refine AllReadyH.cons (o := _) rfl (fun K hK => ?_) AllReadyH.nil
        refine own_wp_store 0 row7 H.out rfl rfl rfl rfl ?_
        intro ws HS
        simp only [List.set_cons_zero] at HS
        replace H := Lib.hid HS
        refine hK.out _ _ (⟨H.out.row 2 rfl, HT.out.below H.out.bel⟩) (fun hN => ?_)
        clear hK K HS hH
        have hH := hN
        clear hN
        try simp only [Act.put, List.setIfInBounds_toArray]
        try simp only [Act.put]
        refine wpAnyH_done (by kernel_rfl) ?_ _
        refine NoPanic.normal ?_
        clear hH
        rw [HA.out] at H
        replace H := Lib.hid (H.out.front (x := (g4, WB 25 7 (wd A))) 0 rfl)
        go_wp2_with fail
        go_meet
        exact ⟨g4, rfl, H.out⟩
    · skip
      refine own_wp_allocB 4 rfl nil7 H.out rfl ?_
      intro w4 g4 H3 hb
      replace H := Lib.hid H3
      refine hK.out _ _ (⟨H.out.row 2 rfl, HT.out.below H.out.bel⟩) (fun hN => ?_)
      clear hK K hH H3 hb
      have hH := hN
      clear hN
      try simp only [Act.put, List.setIfInBounds_toArray, List.set_cons_zero, List.set_cons_succ]
      refine wpAnyH_ready (rs := [5]) (by kernel_rfl) (by simp) ?_
      refine AllReadyH.cons (o := _) rfl (fun K hK => ?_) AllReadyH.nil
      go_simp
      refine (HP.out _).mono ?_
      rintro e wc ⟨rfl, hb⟩
      replace H := Lib.hid (H.out.call hb)
      refine hK.out _ _ (⟨H.out.row 2 rfl, HT.out.below H.out.bel⟩) (fun hN => ?_)
      clear hK K hH hb
      have hH := hN
      clear hN
      try simp only [Act.put, List.setIfInBounds_toArray, List.set_cons_zero, List.set_cons_succ]
      refine wpAnyH_ready (rs := [6]) (by kernel_rfl) (by simp) ?_
      refine AllReadyH.cons (o := _) rfl (fun K hK => ?_) AllReadyH.nil
      go_simp
      refine (plus_v a.val M _).mono ?_
      rintro e wc ⟨rfl, hb⟩
      replace H := Lib.hid (H.out.call hb)
      refine hK.out _ _ (⟨H.out.row 2 rfl, HT.out.below H.out.bel⟩) (fun hN => ?_)
      clear hK K hH hb
      have hH := hN
      clear hN
      try simp only [Act.put, List.setIfInBounds_toArray, List.set_cons_zero, List.set_cons_succ]
      refine wpAnyH_ready (rs := [8]) (by kernel_rfl) (by simp) ?_
      refine AllReadyH.cons (o := _) rfl (fun K hK => ?_) AllReadyH.nil
      refine own_wp_store 0 row7 H.out rfl rfl rfl rfl ?_
      intro ws HS
      simp only [List.set_cons_zero] at HS
      replace H := Lib.hid HS
      refine hK.out _ _ (⟨H.out.row 2 rfl, HT.out.below H.out.bel⟩) (fun hN => ?_)
      clear hK K HS hH
      have hH := hN
      clear hN
      try simp only [Act.put, List.setIfInBounds_toArray]
      try simp only [Act.put]
      refine wpAnyH_done (by kernel_rfl) ?_ _
      refine NoPanic.normal ?_
      clear hH
      rw [HA.out] at H
      replace H := Lib.hid (H.out.front (x := (g4, WB 25 7 (wd A))) 0 rfl)
      go_wp2_with fail
      go_meet
      exact ⟨g4, rfl, H.out⟩
  case rest =>
    clear H HP
    obtain ⟨g4, rfl, HRR⟩ := hcut
    have H := Lib.hid HRR
    clear HRR
    go_wp2_with fail
    go_loopw [5, 6] (fun v5 v6 wr => ∃ j : Nat, j ≤ 7 ∧ v6 = .int .i64 ((j : Int) - 1) ∧ v5 = V (shl (wd A j) 63) ∧ Ow w wr [(g4, WB 25 7 (mix (j) (wd A) (wd (A / 2)))), (g2, Blk 27 .u64 7 fun _ => 0), (g1, WB 27 7 (wd (a).val))]) (fun _ v6 _ => (intOf v6 + 1).toNat)
    case atStart => exact ⟨7, by omega, rfl, by rw [H7.out]; rfl, H.out.like 0 rfl fun k hk => by show L (wd A k) = L (mix 7 _ _ k); rw [mix_all _ _ _ k hk]⟩
    case round =>
      clear H
      obtain ⟨j, hj, rfl, rfl, HR⟩ := hrel
      have H := Lib.hid HR
      clear HR
      cases j with
      | zero =>
        rw [show ((0 : Nat) : Int) - 1 = -1 from rfl]
        rw [mix_zero] at H
        go_wp2_with (first
          | ((with_reducible apply own_load row7 H); (case hgd => exact rfl); (case ho => exact rfl); (case hx => exact rfl); (case hi => first | exact at0 | exact at1 | exact at2 | exact at3 | exact at4 | exact at5 | exact at6 | exact at7 | exact at8 | exact at9); intro _ _; go_simp)
          | ((with_reducible apply lay_build_S); (case hgd => exact rfl); (case ho => exact rfl); (case hx => exact rfl); intro _ _; go_simp)
          | ((with_reducible apply own_store rowSc H); (case hgd => exact rfl); (case ho => exact rfl); (case hx => exact rfl); (case hy => exact rfl); (case hi => first | exact at0 | exact at1 | exact at2 | exact at3 | exact at4 | exact at5 | exact at6 | exact at7 | exact at8 | exact at9); intro ws H' _ _; replace H := H'; clear H'; simp only [List.set_cons_zero, List.set_cons_succ] at H; go_simp))
        exact bodyPost_ret (own_result 1 rowSc rfl _ H rfl rfl) rfl ⟨rfl, H.out.bel⟩
      | succ i =>
        have hid : decide ((0 : Int) ≤ (i : Int)) = true := by simp
        have i7 : (i : Int) < 7 := by omega
        have i7' : i < 7 := by omega
        rw [show ((i + 1 : Nat) : Int) - 1 = (i : Int) by omega]
        go_wp2_with fail
        refine wp_region_noPanic ?_
        refine wp_region_held_drew (S := fun _ => True) (by kernel_rfl) trivial (fun hH => ?_)
        replace H := Lib.hid H.out.drew
        generalize World.drew _ = w8 at *
        have em : mix (i + 1) (wd A) (wd (A / 2)) i = wd A i := mix_all _ _ _ i (Nat.lt_succ_self i)
        have s1 : L (wd A i) / 2 = L (shr (wd A i) 1) := u64_shr _ 1
        have s2 : IntKind.u64.wrap (L (wd A i) * 9223372036854775808) = L (shl (wd A i) 63) := u64_shl _ 63
        refine held_value 0 23 (.int .i64 i) rfl rfl (by kernel_rfl) (by kernel_rfl) (by kernel_rfl) rfl hH (fun w hw => by go_simp) ?_
        try simp only [Act.put, List.setIfInBounds_toArray, List.set_cons_zero, List.set_cons_succ]
        refine held_value 1 24 (.int .i64 i) rfl rfl (by kernel_rfl) (by kernel_rfl) (by kernel_rfl) rfl hH (fun w hw => by go_simp) ?_
        try simp only [Act.put, List.setIfInBounds_toArray, List.set_cons_zero, List.set_cons_succ]
        refine held_value 2 25 (.pointer (some ⟨g4, i, none⟩)) rfl rfl (by kernel_rfl) (by kernel_rfl) (by kernel_rfl) rfl hH (fun w hw => by go_simp) ?_
        try simp only [Act.put, List.setIfInBounds_toArray, List.set_cons_zero, List.set_cons_succ]
        refine held_value 5 28 (V (shl (wd A (i + 1)) 63)) rfl rfl (by kernel_rfl) (by kernel_rfl) (by kernel_rfl) rfl hH (fun w hw => by go_simp) ?_
        try simp only [Act.put, List.setIfInBounds_toArray, List.set_cons_zero, List.set_cons_succ]
        refine held_value 7 30 (.int .i64 i) rfl rfl (by kernel_rfl) (by kernel_rfl) (by kernel_rfl) rfl hH (fun w hw => by go_simp) ?_
        try simp only [Act.put, List.setIfInBounds_toArray, List.set_cons_zero, List.set_cons_succ]
        refine held_value 8 31 (.pointer (some ⟨g4, i, none⟩)) rfl rfl (by kernel_rfl) (by kernel_rfl) (by kernel_rfl) rfl hH (fun w hw => by go_simp) ?_
        try simp only [Act.put, List.setIfInBounds_toArray, List.set_cons_zero, List.set_cons_succ]
        refine wpAnyH_ready (rs := [3, 9]) (by kernel_rfl) (by simp) ?_
        refine AllReadyH.cons (o := _) rfl (fun K hK => ?_) (AllReadyH.cons (o := _) rfl (fun K hK => ?_) AllReadyH.nil)
        · skip
          refine own_wp_getw 26 rfl 0 oneU H.out rfl rfl rfl i7' ?_
          rw [em]
          refine hK.out _ _ (trivial) (fun hN => ?_)
          clear hK K hH
          have hH := hN
          clear hN
          try simp only [Act.put, List.setIfInBounds_toArray, List.set_cons_zero, List.set_cons_succ]
          refine held_value 4 27 (V (shr (wd A i) 1)) rfl rfl (by kernel_rfl) (by kernel_rfl) (by kernel_rfl) rfl hH (fun w hw => by go_simp) ?_
          try simp only [Act.put, List.setIfInBounds_toArray, List.set_cons_zero, List.set_cons_succ]
          refine held_value 6 29 (V (shr (wd A i) 1 ||| shl (wd A (i + 1)) 63)) rfl rfl (by kernel_rfl) (by kernel_rfl) (by kernel_rfl) rfl hH (fun w hw => by go_simp) ?_
          try simp only [Act.put, List.setIfInBounds_toArray, List.set_cons_zero, List.set_cons_succ]
          refine wpAnyH_ready (rs := [9]) (by kernel_rfl) (by simp) ?_
          refine AllReadyH.cons (o := _) rfl (fun K hK => ?_) AllReadyH.nil
          refine own_wp_getw 32 rfl 0 oneU H.out rfl rfl rfl i7' ?_
          rw [em]
          refine hK.out _ _ (trivial) (fun hN => ?_)
          clear hK K hH
          have hH := hN
          clear hN
          try simp only [Act.put, List.setIfInBounds_toArray, List.set_cons_zero, List.set_cons_succ]
          refine held_value 10 33 (V (shl (wd A i) 63)) rfl rfl (by kernel_rfl) (by kernel_rfl) (by kernel_rfl) rfl hH (fun w hw => by go_simp) ?_
          try simp only [Act.put, List.setIfInBounds_toArray, List.set_cons_zero, List.set_cons_succ]
          refine held_value 11 34 (.pointer (some ⟨g4, i, none⟩)) rfl rfl (by kernel_rfl) (by kernel_rfl) (by kernel_rfl) rfl hH (fun w hw => by go_simp) ?_
          try simp only [Act.put, List.setIfInBounds_toArray, List.set_cons_zero, List.set_cons_succ]
          refine wpAnyH_ready (rs := [12]) (by kernel_rfl) (by simp) ?_
          refine AllReadyH.cons (o := _) rfl (fun K hK => ?_) AllReadyH.nil
          refine own_wp_word 0 oneU H.out rfl rfl rfl rfl i7' ?_
          intro ws HS
          simp only [List.set_cons_zero] at HS
          rw [HW.out, mix_down] at HS
          replace H := Lib.hid HS
          refine hK.out _ _ (trivial) (fun hN => ?_)
          clear hK K hH HS
          have hH := hN
          clear hN
          try simp only [Act.put, List.setIfInBounds_toArray]
          refine held_value 13 5 (V (shl (wd A i) 63)) rfl rfl (by kernel_rfl) (by kernel_rfl) (by kernel_rfl) rfl hH (fun w hw => by go_simp) ?_
          try simp only [Act.put]
          try simp only [Act.put]
          refine wpAnyH_done (by kernel_rfl) ?_ _
          refine NoPanic.normal ?_
          clear hH s1 s2 em
          go_wp2_with fail
          go_roundw
          case rel => exact ⟨i, by omega, by go_num, rfl, H.out⟩
          case measure => (simp [intOf] <;> omega)
        · skip
          refine own_wp_getw 32 rfl 0 oneU H.out rfl rfl rfl i7' ?_
          rw [em]
          refine hK.out _ _ (trivial) (fun hN => ?_)
          clear hK K hH
          have hH := hN
          clear hN
          try simp only [Act.put, List.setIfInBounds_toArray, List.set_cons_zero, List.set_cons_succ]
          refine held_value 10 33 (V (shl (wd A i) 63)) rfl rfl (by kernel_rfl) (by kernel_rfl) (by kernel_rfl) rfl hH (fun w hw => by go_simp) ?_
          try simp only [Act.put, List.setIfInBounds_toArray, List.set_cons_zero, List.set_cons_succ]
          refine wpAnyH_ready (rs := [3]) (by kernel_rfl) (by simp) ?_
          refine AllReadyH.cons (o := _) rfl (fun K hK => ?_) AllReadyH.nil
          refine own_wp_getw 26 rfl 0 oneU H.out rfl rfl rfl i7' ?_
          rw [em]
          refine hK.out _ _ (trivial) (fun hN => ?_)
          clear hK K hH
          have hH := hN
          clear hN
          try simp only [Act.put, List.setIfInBounds_toArray, List.set_cons_zero, List.set_cons_succ]
          refine held_value 4 27 (V (shr (wd A i) 1)) rfl rfl (by kernel_rfl) (by kernel_rfl) (by kernel_rfl) rfl hH (fun w hw => by go_simp) ?_
          try simp only [Act.put, List.setIfInBounds_toArray, List.set_cons_zero, List.set_cons_succ]
          refine held_value 6 29 (V (shr (wd A i) 1 ||| shl (wd A (i + 1)) 63)) rfl rfl (by kernel_rfl) (by kernel_rfl) (by kernel_rfl) rfl hH (fun w hw => by go_simp) ?_
          try simp only [Act.put, List.setIfInBounds_toArray, List.set_cons_zero, List.set_cons_succ]
          refine held_value 11 34 (.pointer (some ⟨g4, i, none⟩)) rfl rfl (by kernel_rfl) (by kernel_rfl) (by kernel_rfl) rfl hH (fun w hw => by go_simp) ?_
          try simp only [Act.put, List.setIfInBounds_toArray, List.set_cons_zero, List.set_cons_succ]
          refine wpAnyH_ready (rs := [12]) (by kernel_rfl) (by simp) ?_
          refine AllReadyH.cons (o := _) rfl (fun K hK => ?_) AllReadyH.nil
          refine own_wp_word 0 oneU H.out rfl rfl rfl rfl i7' ?_
          intro ws HS
          simp only [List.set_cons_zero] at HS
          rw [HW.out, mix_down] at HS
          replace H := Lib.hid HS
          refine hK.out _ _ (trivial) (fun hN => ?_)
          clear hK K hH HS
          have hH := hN
          clear hN
          try simp only [Act.put, List.setIfInBounds_toArray]
          refine held_value 13 5 (V (shl (wd A i) 63)) rfl rfl (by kernel_rfl) (by kernel_rfl) (by kernel_rfl) rfl hH (fun w hw => by go_simp) ?_
          try simp only [Act.put]
          try simp only [Act.put]
          refine wpAnyH_done (by kernel_rfl) ?_ _
          refine NoPanic.normal ?_
          clear hH s1 s2 em
          go_wp2_with fail
          go_roundw
          case rel => exact ⟨i, by omega, by go_num, rfl, H.out⟩
          case measure => (simp [intOf] <;> omega)
theorem wd0_and (x : Nat) : L (wd x 0 &&& 1#64) = ((x % 2 : Nat) : Int) := by
  have h := bit1_nat x 0
  rw [Nat.pow_zero, Nat.div_one] at h
  rw [← L_nat h]
  unfold bit1 shr
  simp
theorem half_s (a : KL) (w : World) {r : Bool} (hT : Tl r w) :
    Calls Tryd.prog 33 #[W7 a.val] w fun e w' => e = .returned (W7 (haK a).val) ∧ Below w.heap.size w w' := by
  have ha := a.isLt
  have h2 := two_lN_lt_t
  by_cases h : a.val % 2 = 1
  · have e : (haK a).val = (a.val + lN) / 2 := by show hf a.val = _; unfold hf; rw [if_pos h]
    rw [e]
    exact half_at a lN _ 18446744073709551615 w hT (by rw [wd0_and, h, IntKind.wrap_u64]; rfl) (pick_1 0 lN) rfl (by omega)
  · have e : (haK a).val = (a.val + 0) / 2 := by show hf a.val = _; unfold hf; rw [if_neg h]
    rw [e]
    exact half_at a 0 _ 0 w hT (by rw [wd0_and, show a.val % 2 = 0 by omega, IntKind.wrap_u64]; rfl) (pick_0 0 lN) rfl (by omega)
end Go.Proofs.YtocjncflgbnglaaDoor

/-
  The contract of scalar.Int. No statement is proved here: lemmas for the walks.
-/
namespace Go.Proofs.YtocjncflgbnglaaDoor
open Go.RowKit

theorem xor_no (v : Nat) (hv : v < 9223372036854775808) : bits .xor .i64 (v : Int) 0 = (v : Int) := by
  show IntKind.i64.wrap ((BitVec.ofInt 64 (v : Int) ^^^ BitVec.ofInt 64 0).toNat : Int) = _
  rw [show BitVec.ofInt 64 0 = 0#64 by decide, BitVec.xor_zero, BitVec.toNat_ofInt]
  simp [IntKind.wrap, IntKind.bits, IntKind.signed]
  omega
theorem xor_all (v : Nat) (h0 : 0 < v) (hv : v ≤ 9223372036854775808) : bits .xor .i64 (-(v : Int)) (-1) = (v : Int) - 1 := by
  show IntKind.i64.wrap ((BitVec.ofInt 64 (-(v : Int)) ^^^ BitVec.ofInt 64 (-1)).toNat : Int) = _
  rw [show BitVec.ofInt 64 (-1) = BitVec.allOnes 64 by decide, BitVec.xor_allOnes, BitVec.toNat_not, BitVec.toNat_ofInt]
  simp [IntKind.wrap, IntKind.bits, IntKind.signed]
  omega
/-- A field of a struct of one array. -/
theorem run_field (f : Nat → Int) (w : World) : (Instr.field 27 (.agg (AZ .u64 7 f)) 0).run Tryd.prog w = .ok (.agg (AZ .u64 7 f)) w := by
  cases hq : Tryd.prog.info? 25 with
  | none => have := row7.size; simp [hq] at this
  | some q =>
    have hs : q.size = 7 := by have := row7.size; simpa [hq] using this
    have hagg : (isAgg 25).run Tryd.prog w = .ok true w := by
      unfold isAgg
      rw [Sem.run_bind, run_underlying Tryd.underlying25 w]
      rfl
    have hx : (AZ .u64 7 f).extract 0 7 = AZ .u64 7 f := by
      have h := AZ_extract .u64 7 f 0 7 (by omega)
      rw [Nat.zero_add] at h
      rw [h]
      exact AZ_congr fun i _ => by rw [Nat.zero_add]
    unfold Instr.field
    simp only [Sem.run_bind, run_underlying Tryd.underlying27 w, Result.andThen_ok]
    simp [part, asAgg, Sem.run_bind, hagg, sizeOf, typeInfo, hq, hs, hx]
theorem exec_field {e : Operand → Value} {o : Oper} {x : Operand} (ho : o.op = .field 27 x 0) {f : Nat → Int} (hx : e x = .agg (AZ .u64 7 f)) (w : World) : (execOp e o).run Tryd.prog w = .ok (.value (.agg (AZ .u64 7 f))) w := by
  unfold execOp
  simp only [ho, hx, Sem.run_bind, run_field, Result.andThen_ok]
  rfl
set_option maxRecDepth 8000 in
set_option maxHeartbeats 3200000 in
theorem int_pos (k : KL) (v : Nat) (w : World) {r : Bool} (hT : Tl r w) (hk : k.val = v) (hv1 : v < 9223372036854775808) :
    Calls Tryd.prog 29 #[.int .i64 (v : Int)] w fun e w' => e = .returned (W7 (k).val) ∧ Below w.heap.size w w' := by
  have e1 : (v : Int) / 9223372036854775808 = 0 := by omega
  have e2 := xor_no v hv1
  have e3 : IntKind.u64.wrap (v : Int) = (v : Int) := by rw [IntKind.wrap_u64]; omega
  have e4 : IntKind.u64.wrap 0 = 0 := by rw [IntKind.wrap_u64]; rfl
  have HK := Lib.hid hk
  have hv : v < 18446744073709551616 := by omega
  have HT := Lib.hid hT
  clear hT hk
  have H := Lib.hid (Ow.start w)
  go_enter Tryd.func29, Tryd.ntmps29
  go_wp2_with (first
    | ((fail_if_success have := g2); (with_reducible apply own_alloc nilSc H); (case hgd => exact rfl); (case ho => exact rfl); intro w2 g2 H' _ _; replace H := H'; clear H'; go_simp)
    | ((with_reducible apply lay_build_71 (n := v)); (case hgd => exact rfl); (case ho => exact rfl); (case hn => omega); (case hx => exact rfl); intro _ _; go_simp)
    | ((with_reducible apply lay_build_S); (case hgd => exact rfl); (case ho => exact rfl); (case hx => exact rfl); intro _ _; go_simp)
    | ((fail_if_success have := g4); (with_reducible apply own_alloc nilSc H); (case hgd => exact rfl); (case ho => exact rfl); intro w4 g4 H' _ _; replace H := H'; clear H'; go_simp)
    | ((with_reducible apply own_store rowSc H); (case hgd => exact rfl); (case ho => exact rfl); (case hx => exact rfl); (case hy => exact rfl); (case hi => first | exact at0 | exact at1 | exact at2 | exact at3 | exact at4 | exact at5 | exact at6 | exact at7 | exact at8 | exact at9); intro ws H' _ _; replace H := H'; clear H'; simp only [List.set_cons_zero] at H; go_simp))
  replace H := Lib.hid (H.out.like 0 (g := LZ (wd k.val)) rfl fun i _ => by rw [HK.out])
  simp only [List.set_cons_zero] at H
  refine wp_region_noPanic ?_
  refine wp_region_held_drew (S := fun W => W.heap[g4]? = some (WB 27 7 (wd (k).val))) (by kernel_rfl) (H.out.drew.row 0 rfl) (fun hH => ?_)
  replace H := Lib.hid H.out.drew
  generalize World.drew _ = w8 at *
  refine held_value 0 16 (.int .i64 0) rfl rfl (by kernel_rfl) (by kernel_rfl) (by kernel_rfl) rfl hH (fun w hw => by go_simp) ?_
  try simp only [Act.put, List.setIfInBounds_toArray, List.set_cons_zero, List.set_cons_succ]
  refine held_value 1 17 (.int .u64 0) rfl rfl (by kernel_rfl) (by kernel_rfl) (by kernel_rfl) rfl hH (fun w hw => by go_simp) ?_
  try simp only [Act.put, List.setIfInBounds_toArray, List.set_cons_zero, List.set_cons_succ]
  refine held_value 2 18 (.pointer (some ⟨g4, 0, none⟩)) rfl rfl (by kernel_rfl) (by kernel_rfl) (by kernel_rfl) rfl hH (fun w hw => by go_simp) ?_
  try simp only [Act.put, List.setIfInBounds_toArray, List.set_cons_zero, List.set_cons_succ]
  refine held_row 3 19 row7 rfl rfl (by kernel_rfl) (by kernel_rfl) (by kernel_rfl) rfl hH rfl rfl (fun _ h => h) ?_
  try simp only [Act.put, List.setIfInBounds_toArray, List.set_cons_zero, List.set_cons_succ]
  refine held_row 4 20 rowSc rfl rfl (by kernel_rfl) (by kernel_rfl) (by kernel_rfl) rfl hH rfl rfl (fun _ h => h) ?_
  try simp only [Act.put, List.setIfInBounds_toArray, List.set_cons_zero, List.set_cons_succ]
  refine wpAnyH_ready (rs := [5]) (by kernel_rfl) (by simp) ?_
  refine AllReadyH.cons (o := _) rfl (fun K hK => ?_) AllReadyH.nil
  go_simp
  refine (neg_s (k) _ (HT.out.below H.out.bel)).mono ?_
  rintro e wc ⟨rfl, hb⟩
  replace H := Lib.hid (H.out.call hb)
  refine hK.out _ _ (H.out.row 0 rfl) (fun hN => ?_)
  clear hK K hH hb
  have hH := hN
  clear hN
  try simp only [Act.put, List.setIfInBounds_toArray, List.set_cons_zero, List.set_cons_succ]
  refine held_value 6 22 (W7 (-k).val) rfl rfl (by kernel_rfl) (by kernel_rfl) (by kernel_rfl) rfl hH (fun w hw => by exact exec_field rfl rfl w) ?_
  try simp only [Act.put, List.setIfInBounds_toArray, List.set_cons_zero, List.set_cons_succ]
  refine wpAnyH_ready (rs := [7]) (by kernel_rfl) (by simp) ?_
  refine AllReadyH.cons (o := _) rfl (fun K hK => ?_) AllReadyH.nil
  go_simp
  refine (pick_0 k.val (-k).val _).mono ?_
  rintro e wc ⟨rfl, hb⟩
  replace H := Lib.hid (H.out.call hb)
  refine hK.out _ _ (H.out.row 0 rfl) (fun hN => ?_)
  clear hK K hH hb
  have hH := hN
  clear hN
  try simp only [Act.put, List.setIfInBounds_toArray, List.set_cons_zero, List.set_cons_succ]
  refine held_value 8 24 (W7 (k).val) rfl rfl (by kernel_rfl) (by kernel_rfl) (by kernel_rfl) rfl hH (fun w hw => by exact exec_S rfl rfl w) ?_
  try simp only [Act.put, List.setIfInBounds_toArray, List.set_cons_zero, List.set_cons_succ]
  refine wpAnyH_ready (rs := [9]) (by kernel_rfl) (by simp) ?_
  refine AllReadyH.cons (o := _) rfl (fun K hK => ?_) AllReadyH.nil
  refine own_wp_store 1 rowSc H.out rfl rfl rfl rfl ?_
  intro ws HS
  simp only [List.set_cons_zero, List.set_cons_succ] at HS
  replace H := Lib.hid HS
  refine hK.out _ _ (H.out.row 0 rfl) (fun hN => ?_)
  clear hK K HS hH
  have hH := hN
  clear hN
  try simp only [Act.put, List.setIfInBounds_toArray]
  try simp only [Act.put]
  refine wpAnyH_done (by kernel_rfl) ?_ _
  refine NoPanic.normal ?_
  clear hH
  go_wp2_with fail
  exact bodyPost_ret (own_result 1 rowSc rfl _ H rfl rfl) rfl ⟨rfl, H.out.bel⟩
set_option maxRecDepth 8000 in
set_option maxHeartbeats 3200000 in
theorem int_neg (k : KL) (v : Nat) (w : World) {r : Bool} (hT : Tl r w) (hk : k.val = v) (hv0 : 0 < v) (hv1 : v ≤ 9223372036854775808) :
    Calls Tryd.prog 29 #[.int .i64 (-(v : Int))] w fun e w' => e = .returned (W7 (-k).val) ∧ Below w.heap.size w w' := by
  have e1 : (-(v : Int)) / 9223372036854775808 = -1 := by omega
  have e2 := xor_all v hv0 hv1
  have e3 : IntKind.u64.wrap ((v : Int) - 1) = (v : Int) - 1 := by rw [IntKind.wrap_u64]; omega
  have e4 : IntKind.u64.wrap (-1) = 18446744073709551615 := by rw [IntKind.wrap_u64]; rfl
  have e5 : IntKind.u64.wrap ((v : Int) - 1 - 18446744073709551615) = (v : Int) := by rw [IntKind.wrap_u64]; omega
  have HK := Lib.hid hk
  have hv : v < 18446744073709551616 := by omega
  have HT := Lib.hid hT
  clear hT hk
  have H := Lib.hid (Ow.start w)
  go_enter Tryd.func29, Tryd.ntmps29
  go_wp2_with (first
    | ((fail_if_success have := g2); (with_reducible apply own_alloc nilSc H); (case hgd => exact rfl); (case ho => exact rfl); intro w2 g2 H' _ _; replace H := H'; clear H'; go_simp)
    | ((with_reducible apply lay_build_71 (n := v)); (case hgd => exact rfl); (case ho => exact rfl); (case hn => omega); (case hx => exact rfl); intro _ _; go_simp)
    | ((with_reducible apply lay_build_S); (case hgd => exact rfl); (case ho => exact rfl); (case hx => exact rfl); intro _ _; go_simp)
    | ((fail_if_success have := g4); (with_reducible apply own_alloc nilSc H); (case hgd => exact rfl); (case ho => exact rfl); intro w4 g4 H' _ _; replace H := H'; clear H'; go_simp)
    | ((with_reducible apply own_store rowSc H); (case hgd => exact rfl); (case ho => exact rfl); (case hx => exact rfl); (case hy => exact rfl); (case hi => first | exact at0 | exact at1 | exact at2 | exact at3 | exact at4 | exact at5 | exact at6 | exact at7 | exact at8 | exact at9); intro ws H' _ _; replace H := H'; clear H'; simp only [List.set_cons_zero] at H; go_simp))
  replace H := Lib.hid (H.out.like 0 (g := LZ (wd k.val)) rfl fun i _ => by rw [HK.out])
  simp only [List.set_cons_zero] at H
  refine wp_region_noPanic ?_
  refine wp_region_held_drew (S := fun W => W.heap[g4]? = some (WB 27 7 (wd (k).val))) (by kernel_rfl) (H.out.drew.row 0 rfl) (fun hH => ?_)
  replace H := Lib.hid H.out.drew
  generalize World.drew _ = w8 at *
  refine held_value 0 16 (.int .i64 (-1)) rfl rfl (by kernel_rfl) (by kernel_rfl) (by kernel_rfl) rfl hH (fun w hw => by go_simp) ?_
  try simp only [Act.put, List.setIfInBounds_toArray, List.set_cons_zero, List.set_cons_succ]
  refine held_value 1 17 (.int .u64 18446744073709551615) rfl rfl (by kernel_rfl) (by kernel_rfl) (by kernel_rfl) rfl hH (fun w hw => by go_simp) ?_
  try simp only [Act.put, List.setIfInBounds_toArray, List.set_cons_zero, List.set_cons_succ]
  refine held_value 2 18 (.pointer (some ⟨g4, 0, none⟩)) rfl rfl (by kernel_rfl) (by kernel_rfl) (by kernel_rfl) rfl hH (fun w hw => by go_simp) ?_
  try simp only [Act.put, List.setIfInBounds_toArray, List.set_cons_zero, List.set_cons_succ]
  refine held_row 3 19 row7 rfl rfl (by kernel_rfl) (by kernel_rfl) (by kernel_rfl) rfl hH rfl rfl (fun _ h => h) ?_
  try simp only [Act.put, List.setIfInBounds_toArray, List.set_cons_zero, List.set_cons_succ]
  refine held_row 4 20 rowSc rfl rfl (by kernel_rfl) (by kernel_rfl) (by kernel_rfl) rfl hH rfl rfl (fun _ h => h) ?_
  try simp only [Act.put, List.setIfInBounds_toArray, List.set_cons_zero, List.set_cons_succ]
  refine wpAnyH_ready (rs := [5]) (by kernel_rfl) (by simp) ?_
  refine AllReadyH.cons (o := _) rfl (fun K hK => ?_) AllReadyH.nil
  go_simp
  refine (neg_s (k) _ (HT.out.below H.out.bel)).mono ?_
  rintro e wc ⟨rfl, hb⟩
  replace H := Lib.hid (H.out.call hb)
  refine hK.out _ _ (H.out.row 0 rfl) (fun hN => ?_)
  clear hK K hH hb
  have hH := hN
  clear hN
  try simp only [Act.put, List.setIfInBounds_toArray, List.set_cons_zero, List.set_cons_succ]
  refine held_value 6 22 (W7 (-k).val) rfl rfl (by kernel_rfl) (by kernel_rfl) (by kernel_rfl) rfl hH (fun w hw => by exact exec_field rfl rfl w) ?_
  try simp only [Act.put, List.setIfInBounds_toArray, List.set_cons_zero, List.set_cons_succ]
  refine wpAnyH_ready (rs := [7]) (by kernel_rfl) (by simp) ?_
  refine AllReadyH.cons (o := _) rfl (fun K hK => ?_) AllReadyH.nil
  go_simp
  refine (pick_1 k.val (-k).val _).mono ?_
  rintro e wc ⟨rfl, hb⟩
  replace H := Lib.hid (H.out.call hb)
  refine hK.out _ _ (H.out.row 0 rfl) (fun hN => ?_)
  clear hK K hH hb
  have hH := hN
  clear hN
  try simp only [Act.put, List.setIfInBounds_toArray, List.set_cons_zero, List.set_cons_succ]
  refine held_value 8 24 (W7 (-k).val) rfl rfl (by kernel_rfl) (by kernel_rfl) (by kernel_rfl) rfl hH (fun w hw => by exact exec_S rfl rfl w) ?_
  try simp only [Act.put, List.setIfInBounds_toArray, List.set_cons_zero, List.set_cons_succ]
  refine wpAnyH_ready (rs := [9]) (by kernel_rfl) (by simp) ?_
  refine AllReadyH.cons (o := _) rfl (fun K hK => ?_) AllReadyH.nil
  refine own_wp_store 1 rowSc H.out rfl rfl rfl rfl ?_
  intro ws HS
  simp only [List.set_cons_zero, List.set_cons_succ] at HS
  replace H := Lib.hid HS
  refine hK.out _ _ (H.out.row 0 rfl) (fun hN => ?_)
  clear hK K HS hH
  have hH := hN
  clear hN
  try simp only [Act.put, List.setIfInBounds_toArray]
  try simp only [Act.put]
  refine wpAnyH_done (by kernel_rfl) ?_ _
  refine NoPanic.normal ?_
  clear hH
  go_wp2_with fail
  exact bodyPost_ret (own_result 1 rowSc rfl _ H rfl rfl) rfl ⟨rfl, H.out.bel⟩
theorem small_lN : 18446744073709551616 < lN := by decide +kernel
theorem int_s (n : Int) (w : World) {r : Bool} (hT : Tl r w) (h1 : -9223372036854775808 ≤ n) (h2 : n ≤ 9223372036854775807) :
    Calls Tryd.prog 29 #[.int .i64 n] w fun e w' => e = .returned (W7 (ofL n).val) ∧ Below w.heap.size w w' := by
  have hs := small_lN
  rcases Int.lt_or_le n 0 with h | h
  · obtain ⟨v, hv⟩ := Int.eq_ofNat_of_zero_le (show 0 ≤ -n by omega)
    obtain rfl : n = -(v : Int) := by omega
    rw [ofL_neg]
    exact int_neg (ofL (v : Int)) v w hT (by rw [ofL_nat, Nat.mod_eq_of_lt (by omega)]) (by omega) (by omega)
  · obtain ⟨v, rfl⟩ := Int.eq_ofNat_of_zero_le h
    exact int_pos (ofL (v : Int)) v w hT (by rw [ofL_nat, Nat.mod_eq_of_lt (by omega)]) (by omega)
end Go.Proofs.YtocjncflgbnglaaDoor

/-
  The contract of scalar.Inverse. No statement is proved here: lemmas for the walks.
-/
namespace Go.Proofs.YtocjncflgbnglaaDoor
open Go.RowKit

theorem kpow_bit (a : KL) (x k : Nat) : a ^ (x / 2 ^ k) = a ^ (x / 2 ^ (k + 1)) * a ^ (x / 2 ^ (k + 1)) * (if x / 2 ^ k % 2 = 0 then 1 else a) := by
  have e : x / 2 ^ (k + 1) = x / 2 ^ k / 2 := by rw [Nat.pow_succ, Nat.div_div_eq_div_mul]
  rw [e]
  generalize x / 2 ^ k = y
  rw [← fp_pow_add]
  split
  · rw [show y / 2 + y / 2 = y by omega]
    grind
  · rw [← fp_pow_succ, show y / 2 + y / 2 + 1 = y by omega]
theorem kpow_bit0 {a : KL} {x k : Nat} (h : x / 2 ^ k % 2 = 0) : a ^ (x / 2 ^ (k + 1)) * a ^ (x / 2 ^ (k + 1)) = a ^ (x / 2 ^ k) := by
  rw [kpow_bit a x k, if_pos h]
  grind
theorem kpow_bit1 {a : KL} {x k : Nat} (h : x / 2 ^ k % 2 = 1) : a ^ (x / 2 ^ (k + 1)) * a ^ (x / 2 ^ (k + 1)) * a = a ^ (x / 2 ^ k) := by rw [kpow_bit a x k, if_neg (by omega)]
theorem lN_fits : lN < 2 ^ (64 * 7) := by rw [tN_words 7 rfl]; exact lN_lt_t
theorem eL_fits : lN - 2 < 2 ^ (64 * 7) := Nat.lt_of_le_of_lt (Nat.sub_le _ _) lN_fits
theorem eL_len : dl 64 (lN - 2) = 7 := dl_eq (by omega) eL_fits (.inr (leb (by decide +kernel)))
set_option maxRecDepth 8000 in
set_option maxHeartbeats 3200000 in
theorem inverse_s (a : KL) (w : World) (hT : Tl true w) :
    Calls Tryd.prog 40 #[W7 a.val] w fun e w' => e = .returned (W7 (inv a).val) ∧ Below w.heap.size w w' := by
  have HT := Lib.hid hT
  clear hT
  have HL1 := Lib.hid lN_fits
  have HL2 := Lib.hid eL_fits
  have HL3 := Lib.hid lN_two
  obtain ⟨n, hn⟩ : ∃ n, bl (lN - 2) = n := ⟨_, rfl⟩
  have HN := Lib.hid hn
  have hn8 : n ≤ 64 * 7 := by rw [← hn]; exact (bl_le _ _).2 eL_fits
  have HF : Hid (a ^ ((lN - 2) / 2 ^ n) = ofL 1) := Lib.hid (by rw [Nat.div_eq_of_lt (by rw [← hn]; exact bl_fits _), fp_pow_zero, ofL_one])
  clear hn
  have H := Lib.hid (Ow.start w)
  go_enter Tryd.func40, Tryd.ntmps40
  go_wp2_with (first
    | ((fail_if_success have := g1); (with_reducible apply own_box H); (case hgd => exact rfl); (case ho => exact rfl); (case hx => exact rfl); intro w1 g1 H' _ _; replace H := H'; clear H'; go_simp)
    | ((fail_if_success have := g2); (with_reducible apply own_alloc nilSc H); (case hgd => exact rfl); (case ho => exact rfl); intro w2 g2 H' _ _; replace H := H'; clear H'; go_simp))
  go_step3
  go_wp2_with (first
    | ((with_reducible apply lay_load_ord (Lib.hid (HT.out.below H.out.bel))); (case hgd => exact rfl); (case ho => exact rfl); (case hx => exact rfl); intro _ _; go_simp)
    | ((fail_if_success have := g3); (with_reducible apply own_alloc nil7 H); (case hgd => exact rfl); (case ho => exact rfl); intro w3 g3 H' _ _; replace H := H'; clear H'; go_simp)
    | ((with_reducible apply own_store row7 H); (case hgd => exact rfl); (case ho => exact rfl); (case hx => exact rfl); (case hy => exact rfl); (case hi => first | exact at0 | exact at1 | exact at2 | exact at3 | exact at4 | exact at5 | exact at6 | exact at7 | exact at8 | exact at9); intro ws H' _ _; replace H := H'; clear H'; simp only [List.set_cons_zero] at H; go_simp)
    | ((fail_if_success have := gb); (with_reducible apply own_buildW (v := 2) Tryd.underlying80 (by decide) H); (case hgd => exact rfl); (case ho => exact rfl); intro wb gb H' _ _; replace H := H'; clear H'; go_simp)
    | ((with_reducible refine (sub_ge (some ⟨g3, 0, none⟩) 7 7 lN (some ⟨gb, 0, none⟩) 1 1 2 _ (by omega) (by omega) (H.out.sw 1 rfl (by omega) (by omega) HL1.out) (H.out.sw 0 rfl (by omega) (by omega) (by decide)) (Nat.le_of_lt HL3.out)).mono ?_); rintro e wc ⟨v, rfl, hv⟩; obtain ⟨gp, NP, rfl, hgp, hrp, hnp, hb⟩ := hv; rw [eL_len] at hnp; rw [eL_len]; replace H := Lib.hid (H.out.pop.add (hb.mono (Nat.le_refl _)) hgp (rowW_blk hrp)); have HNP := Lib.hid hnp; clear hgp hrp hnp hb)
    | ((with_reducible refine (int_s 1 _ (HT.out.below H.out.bel) (by omega) (by omega)).mono ?_); rintro e wc ⟨rfl, hb⟩; replace H := Lib.hid (H.out.call hb); clear hb)
    | ((fail_if_success have := g6); (with_reducible apply own_alloc nilSc H); (case hgd => exact rfl); (case ho => exact rfl); intro w6 g6 H' _ _; replace H := H'; clear H'; go_simp)
    | ((with_reducible apply own_store rowSc H); (case hgd => exact rfl); (case ho => exact rfl); (case hx => exact rfl); (case hy => exact rfl); (case hi => first | exact at0 | exact at1 | exact at2 | exact at3 | exact at4 | exact at5 | exact at6 | exact at7 | exact at8 | exact at9); intro ws H' _ _; replace H := H'; clear H'; simp only [List.set_cons_zero] at H; go_simp))
  rw [← HF.out] at H
  go_step3
  go_wp2_with (first
    | ((with_reducible refine (len_any (some ⟨gp, 0, none⟩) 7 7 (lN - 2) _ (by omega) (H.out.sw 1 rfl HNP.out (by omega) HL2.out)).mono ?_); rintro e wc ⟨rfl, rfl⟩; rw [HN.out]))
  clear HF HN HL1 HL3
  go_loopw [7] (fun v7 wr => ∃ j : Nat, j ≤ n ∧ v7 = .int .i64 ((j : Int) - 1) ∧ Ow w wr [(g6, WB 27 7 (wd (a ^ ((lN - 2) / 2 ^ j)).val)), (gp, WB 24 NP (wd (lN - 2))), (g3, WB 25 7 (wd lN)), (g2, Blk 27 .u64 7 fun _ => 0), (g1, WB 27 7 (wd (a).val))]) (fun v7 _ => (intOf v7 + 1).toNat)
  case atStart => exact ⟨n, Nat.le_refl _, by go_num, H.out⟩
  case round =>
    clear H
    obtain ⟨j, hj, rfl, HR⟩ := hrel
    have H := Lib.hid HR
    clear HR
    cases j with
    | zero =>
      rw [show ((0 : Nat) : Int) - 1 = -1 from rfl]
      go_wp2_with (first
        | ((with_reducible apply own_load rowSc H); (case hgd => exact rfl); (case ho => exact rfl); (case hx => exact rfl); (case hi => first | exact at0 | exact at1 | exact at2 | exact at3 | exact at4 | exact at5 | exact at6 | exact at7 | exact at8 | exact at9); intro _ _; go_simp)
        | ((with_reducible apply own_store rowSc H); (case hgd => exact rfl); (case ho => exact rfl); (case hx => exact rfl); (case hy => exact rfl); (case hi => first | exact at0 | exact at1 | exact at2 | exact at3 | exact at4 | exact at5 | exact at6 | exact at7 | exact at8 | exact at9); intro ws H' _ _; replace H := H'; clear H'; simp only [List.set_cons_zero, List.set_cons_succ] at H; go_simp))
      rw [Exit.noGoto_ret]
      exact bodyPost_ret (own_result 3 rowSc rfl _ H rfl rfl) rfl ⟨rfl, H.out.bel⟩
    | succ k =>
      have hid : decide ((0 : Int) ≤ (k : Int)) = true := by simp
      have HB : Hid (bitI (lN - 2) (k : Int) = (((lN - 2) / 2 ^ k % 2 : Nat) : Int)) := Lib.hid (by unfold bitI; rw [if_neg (by omega)]; rfl)
      have k8 : (k : Int) ≤ 448 := by omega
      have Hj := Lib.hid hj
      rw [show ((k + 1 : Nat) : Int) - 1 = (k : Int) by omega]
      obtain ⟨u, hu⟩ : ∃ u, (lN - 2) / 2 ^ k % 2 = u := ⟨_, rfl⟩
      have HX := Lib.hid hu
      rw [hu] at HB
      have hu2 : u < 2 := by rw [← hu]; exact Nat.mod_lt _ (by omega)
      clear hu hj
      rcases (by omega : u = 0 ∨ u = 1) with rfl | rfl
      · rw [show ((0 : Nat) : Int) = 0 from rfl] at HB
        go_wp2_with (first
          | ((with_reducible apply own_load rowSc H); (case hgd => exact rfl); (case ho => exact rfl); (case hx => exact rfl); (case hi => first | exact at0 | exact at1 | exact at2 | exact at3 | exact at4 | exact at5 | exact at6 | exact at7 | exact at8 | exact at9); intro _ _; go_simp)
          | ((with_reducible refine (mul_s (a ^ ((lN - 2) / 2 ^ (k + 1))) (a ^ ((lN - 2) / 2 ^ (k + 1))) _ (HT.out.below H.out.bel)).mono ?_); rintro e wc ⟨rfl, hb⟩; replace H := Lib.hid (H.out.call hb); clear hb)
          | ((with_reducible apply own_store rowSc H); (case hgd => exact rfl); (case ho => exact rfl); (case hx => exact rfl); (case hy => exact rfl); (case hi => first | exact at0 | exact at1 | exact at2 | exact at3 | exact at4 | exact at5 | exact at6 | exact at7 | exact at8 | exact at9); intro ws H' _ _; replace H := H'; clear H'; simp only [List.set_cons_zero] at H; go_simp)
          | ((with_reducible refine (bit_any (some ⟨gp, 0, none⟩) 7 7 (lN - 2) (k : Int) _ (by omega) (by omega) (H.out.sw 1 rfl HNP.out (by omega) HL2.out)).mono ?_); rintro e wc ⟨rfl, rfl⟩; rw [HB.out]))
        rw [kpow_bit0 HX.out] at H
        go_roundw
        case rel => exact ⟨k, by have := Hj.out; omega, by go_num, H.out⟩
        case measure => (simp [intOf] <;> omega)
      · rw [show ((1 : Nat) : Int) = 1 from rfl] at HB
        go_wp2_with (first
          | ((with_reducible apply own_load rowSc H); (case hgd => exact rfl); (case ho => exact rfl); (case hx => exact rfl); (case hi => first | exact at0 | exact at1 | exact at2 | exact at3 | exact at4 | exact at5 | exact at6 | exact at7 | exact at8 | exact at9); intro _ _; go_simp)
          | ((with_reducible refine (mul_s (a ^ ((lN - 2) / 2 ^ (k + 1))) (a ^ ((lN - 2) / 2 ^ (k + 1))) _ (HT.out.below H.out.bel)).mono ?_); rintro e wc ⟨rfl, hb⟩; replace H := Lib.hid (H.out.call hb); clear hb)
          | ((with_reducible apply own_store rowSc H); (case hgd => exact rfl); (case ho => exact rfl); (case hx => exact rfl); (case hy => exact rfl); (case hi => first | exact at0 | exact at1 | exact at2 | exact at3 | exact at4 | exact at5 | exact at6 | exact at7 | exact at8 | exact at9); intro ws H' _ _; replace H := H'; clear H'; simp only [List.set_cons_zero] at H; go_simp)
          | ((with_reducible refine (bit_any (some ⟨gp, 0, none⟩) 7 7 (lN - 2) (k : Int) _ (by omega) (by omega) (H.out.sw 1 rfl HNP.out (by omega) HL2.out)).mono ?_); rintro e wc ⟨rfl, rfl⟩; rw [HB.out])
          | ((with_reducible refine (mul_s (a ^ ((lN - 2) / 2 ^ (k + 1)) * a ^ ((lN - 2) / 2 ^ (k + 1))) a _ (HT.out.below H.out.bel)).mono ?_); rintro e wc ⟨rfl, hb⟩; replace H := Lib.hid (H.out.call hb); clear hb))
        rw [kpow_bit1 HX.out] at H
        go_roundw
        case rel => exact ⟨k, by have := Hj.out; omega, by go_num, H.out⟩
        case measure => (simp [intOf] <;> omega)
end Go.Proofs.YtocjncflgbnglaaDoor
