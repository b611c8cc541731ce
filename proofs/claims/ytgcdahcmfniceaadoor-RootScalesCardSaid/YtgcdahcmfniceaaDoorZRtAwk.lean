/-
  What the laws of layer 5 want; the chapter's examples hold. No statement is proved here: lemmas for the walks.
-/
import Derived.Test.YtgcdahcmfniceaaDoorZRtRat
import Derived.Test.YtgcdahcmfniceaaDoorZFdRingM
namespace Go.Proofs.YtgcdahcmfniceaaDoor
open Go.RowKit

section
variable {f g : Nat → Nat} {a b : K}
theorem equal_kt (w : World) (hT : Tp w) (hf : EK f a) (hg : EK g b) (h : a = b) :
    Calls Tryd.prog 8 #[EV f, EV g] w fun e w' => e = .returned (.bool true) ∧ Below w.heap.size w w' :=
  (equal_k w hT hf hg).mono fun _ _ ⟨he, hb⟩ => ⟨by rw [he, decide_eq_true h], hb⟩
theorem equal_kf (w : World) (hT : Tp w) (hf : EK f a) (hg : EK g b) (h : a ≠ b) :
    Calls Tryd.prog 8 #[EV f, EV g] w fun e w' => e = .returned (.bool false) ∧ Below w.heap.size w w' :=
  (equal_k w hT hf hg).mono fun _ _ ⟨he, hb⟩ => ⟨by rw [he, decide_eq_false h], hb⟩
theorem zero_kt (w : World) (hf : EK f a) (h : a = 0) :
    Calls Tryd.prog 7 #[EV f] w fun e w' => e = .returned (.bool true) ∧ Below w.heap.size w w' :=
  (zero_k w hf).mono fun _ _ ⟨he, hb⟩ => ⟨by rw [he, decide_eq_true h], hb⟩
theorem zero_kf (w : World) (hf : EK f a) (h : a ≠ 0) :
    Calls Tryd.prog 7 #[EV f] w fun e w' => e = .returned (.bool false) ∧ Below w.heap.size w w' :=
  (zero_k w hf).mono fun _ _ ⟨he, hb⟩ => ⟨by rw [he, decide_eq_false h], hb⟩









end
/-- The root of a square. -/
theorem root_sq (x : K) : (x * x) ^ (eC + 1) * (x * x) ^ (eC + 1) = x * x ∧ ab ((x * x) ^ (eC + 1)) = ab x := by
  have h : (x * x) ^ (eC + 1) * (x * x) ^ (eC + 1) = x * x := by
    rw [up_sq]
    by_cases h0 : x = 0
    · rw [h0]
      grind
    · rw [fp_mul_pow, ← fp_pow_add, show 2 * eC + 1 + (2 * eC + 1) = pN - 1 by have := pN_c; omega, fp_fermat prime_pN h0]
      grind
  exact ⟨h, ab_same prime_pN pN_odd h⟩
theorem root_sq_k {f : Nat → Nat} {a x : K} (w : World) (hT : Tp w) (hx : a = x * x) (hf : EK f a) :
    Calls Tryd.prog 9 #[EV f] w fun e w' => ∃ h, e = .returned (.tuple #[EV h, .int .i64 0]) ∧ EK h (ab x) ∧ Below w.heap.size w w' := by
  subst hx
  obtain ⟨h1, h2⟩ := root_sq x
  refine (root_k w hT hf).mono ?_
  rintro e w' ⟨⟨_, h, he, hv⟩ | ⟨hn, _⟩, hb⟩
  · exact ⟨h, he, by rw [← h2]; exact hv, hb⟩
  · exact absurd h1 hn
theorem awk_four : ofZ 4 = ofZ 2 * ofZ 2 := by decide +kernel
theorem awk_two : ab (ofZ 2) = ofZ 2 := by decide +kernel
theorem awk_ab : ab (1 : K) = -1 := by decide +kernel
theorem awk_ne : ofZ 2 ≠ 0 := by decide +kernel
theorem awk_inv : inv (ofZ 2) * ofZ 2 = ofZ 1 := by rw [inv_mul prime_pN awk_ne, ofZ_one]
theorem awk_val : (-1 : K).val = pN - 1 := by decide +kernel
/-- The ratio of -1 and 1. -/
theorem awk_rat : ab (rat eC (ofZ (-1)) (ofZ 1)) = -1 ∧ ¬ (ofZ 1 * (rat eC (ofZ (-1)) (ofZ 1) * rat eC (ofZ (-1)) (ofZ 1)) = ofZ (-1)) := by
  rw [ofZ_one, ofZ_neg]
  have h1 : (1 : K) ≠ 0 := fp_one_ne prime_pN
  have hm : (-1 : K) ≠ 0 := fun h => h1 (by
    have e1 : (1 : K) = -(-1) := by grind
    rw [e1, h]
    grind)
  have h := rat_or prime_pN pN_c hm h1
  obtain ⟨r, hr⟩ : ∃ r, rat eC (-1 : K) 1 = r := ⟨_, rfl⟩
  rw [hr] at h ⊢
  have hn : ¬ (1 * (r * r) = -1) := fun h2 => h1 (neg_no_sq prime_pN pN_c (a := r) (b := 1) (by grind)).2
  refine ⟨?_, hn⟩
  have h3 : r * r = 1 * 1 := by
    have := h.resolve_left hn
    grind
  rw [ab_same prime_pN pN_odd h3, awk_ab]
set_option maxRecDepth 20000 in
set_option maxHeartbeats 6400000 in
theorem awake5 (w : World) (hT : Tp w) :
    Calls Tryd.prog 13 #[] w fun e w' => e = .returned (.bool true) ∧ Below w.heap.size w w' := by
  have HT := Lib.hid hT
  clear hT
  have H := Lib.hid (Ow.start w)
  go_enter Tryd.func13, Tryd.ntmps13
  go_wp2_with fail
  refine (int_k 4 _ (HT.out.below H.out.bel) (by omega) (by omega)).mono ?_
  rintro e wc ⟨k1, rfl, hv, hb⟩
  replace H := Lib.hid (H.out.call hb)
  have V1 := Lib.hid hv
  clear hb hv
  go_wp2_with (first
    | ((fail_if_success have := g1); (with_reducible apply own_alloc nilE H); (case hgd => exact rfl); (case ho => exact rfl); intro w1 g1 H' _ _; replace H := H'; clear H'; go_simp)
    | ((fail_if_success have := g3); (with_reducible apply own_alloc nilE H); (case hgd => exact rfl); (case ho => exact rfl); intro w3 g3 H' _ _; replace H := H'; clear H'; go_simp)
    | ((with_reducible apply own_store rowE H); (case hgd => exact rfl); (case ho => exact rfl); (case hx => exact rfl); (case hy => exact rfl); (case hi => first | exact at0 | exact at1 | exact at2 | exact at3 | exact at4 | exact at5 | exact at6 | exact at7 | exact at8 | exact at9); intro ws H' _ _; replace H := H'; clear H'; simp only [List.set_cons_zero, List.set_cons_succ] at H; go_simp))
  refine (root_sq_k _ (HT.out.below H.out.bel) awk_four V1.out).mono ?_
  rintro e wc ⟨k2, rfl, hv, hb⟩
  replace H := Lib.hid (H.out.call hb)
  have V2 := Lib.hid (hv.eq awk_two)
  clear hb hv
  go_wp2_with (first
    | ((fail_if_success have := g1); (with_reducible apply own_alloc nilE H); (case hgd => exact rfl); (case ho => exact rfl); intro w1 g1 H' _ _; replace H := H'; clear H'; go_simp)
    | ((fail_if_success have := g3); (with_reducible apply own_alloc nilE H); (case hgd => exact rfl); (case ho => exact rfl); intro w3 g3 H' _ _; replace H := H'; clear H'; go_simp)
    | ((with_reducible apply own_store rowE H); (case hgd => exact rfl); (case ho => exact rfl); (case hx => exact rfl); (case hy => exact rfl); (case hi => first | exact at0 | exact at1 | exact at2 | exact at3 | exact at4 | exact at5 | exact at6 | exact at7 | exact at8 | exact at9); intro ws H' _ _; replace H := H'; clear H'; simp only [List.set_cons_zero] at H; go_simp))
  refine (int_k (-1) _ (HT.out.below H.out.bel) (by omega) (by omega)).mono ?_
  rintro e wc ⟨k3, rfl, hv, hb⟩
  replace H := Lib.hid (H.out.call hb)
  have V3 := Lib.hid hv
  clear hb hv
  go_wp2_with (first
    | ((fail_if_success have := g1); (with_reducible apply own_alloc nilE H); (case hgd => exact rfl); (case ho => exact rfl); intro w1 g1 H' _ _; replace H := H'; clear H'; go_simp)
    | ((fail_if_success have := g3); (with_reducible apply own_alloc nilE H); (case hgd => exact rfl); (case ho => exact rfl); intro w3 g3 H' _ _; replace H := H'; clear H'; go_simp)
    | ((with_reducible apply own_store rowE H); (case hgd => exact rfl); (case ho => exact rfl); (case hx => exact rfl); (case hy => exact rfl); (case hi => first | exact at0 | exact at1 | exact at2 | exact at3 | exact at4 | exact at5 | exact at6 | exact at7 | exact at8 | exact at9); intro ws H' _ _; replace H := H'; clear H'; simp only [List.set_cons_zero, List.set_cons_succ] at H; go_simp))
  refine (int_k 1 _ (HT.out.below H.out.bel) (by omega) (by omega)).mono ?_
  rintro e wc ⟨k4, rfl, hv, hb⟩
  replace H := Lib.hid (H.out.call hb)
  have V4 := Lib.hid hv
  clear hb hv
  go_wp2_with (first
    | ((fail_if_success have := g1); (with_reducible apply own_alloc nilE H); (case hgd => exact rfl); (case ho => exact rfl); intro w1 g1 H' _ _; replace H := H'; clear H'; go_simp)
    | ((fail_if_success have := g3); (with_reducible apply own_alloc nilE H); (case hgd => exact rfl); (case ho => exact rfl); intro w3 g3 H' _ _; replace H := H'; clear H'; go_simp)
    | ((with_reducible apply own_store rowE H); (case hgd => exact rfl); (case ho => exact rfl); (case hx => exact rfl); (case hy => exact rfl); (case hi => first | exact at0 | exact at1 | exact at2 | exact at3 | exact at4 | exact at5 | exact at6 | exact at7 | exact at8 | exact at9); intro ws H' _ _; replace H := H'; clear H'; simp only [List.set_cons_zero, List.set_cons_succ] at H; go_simp))
  refine (ratio_k _ (HT.out.below H.out.bel) V3.out V4.out).mono ?_
  rintro e wc ⟨k5, rfl, hv, hb⟩
  replace H := Lib.hid (H.out.call hb)
  have V5 := Lib.hid (hv.eq awk_rat.1)
  clear hb hv
  rw [decide_eq_false awk_rat.2]
  go_wp2_with (first
    | ((fail_if_success have := g1); (with_reducible apply own_alloc nilE H); (case hgd => exact rfl); (case ho => exact rfl); intro w1 g1 H' _ _; replace H := H'; clear H'; go_simp)
    | ((fail_if_success have := g3); (with_reducible apply own_alloc nilE H); (case hgd => exact rfl); (case ho => exact rfl); intro w3 g3 H' _ _; replace H := H'; clear H'; go_simp)
    | ((with_reducible apply own_store rowE H); (case hgd => exact rfl); (case ho => exact rfl); (case hx => exact rfl); (case hy => exact rfl); (case hi => first | exact at0 | exact at1 | exact at2 | exact at3 | exact at4 | exact at5 | exact at6 | exact at7 | exact at8 | exact at9); intro ws H' _ _; replace H := H'; clear H'; simp only [List.set_cons_zero] at H; go_simp)
    | ((with_reducible apply own_load rowE H); (case hgd => exact rfl); (case ho => exact rfl); (case hx => exact rfl); (case hi => first | exact at0 | exact at1 | exact at2 | exact at3 | exact at4 | exact at5 | exact at6 | exact at7 | exact at8 | exact at9); intro _ _; go_simp))
  refine (bytes_v _ V5.out).mono ?_
  rintro e w2 ⟨ad, c, rfl, hs, hb⟩
  replace H := Lib.hid (H.out.call hb)
  obtain ⟨b, o, rfl, _, hcell⟩ := hold_slice hs (by omega)
  have HC : Hid (w2.cell? ⟨b, o, none⟩ = some (.int .u8 254)) := Lib.hid (by
    have := hcell 0 (by omega)
    rw [awk_val, awake_bytes.1] at this
    exact this)
  clear hb hs hcell
  go_wp2_with fail
  refine wp_region_noPanic ?_
  refine wp_region_held_drew (S := fun W => W.heap[g1]? = some (Blk 27 .u64 8 (NZ k2)) ∧ W.cell? ⟨b, o, none⟩ = some (.int .u8 254)) (by kernel_rfl) (⟨H.out.drew.row 1 rfl, HC.out⟩) (fun hH => ?_)
  replace H := Lib.hid H.out.drew
  replace HC := Lib.hid (show (World.drew _).cell? _ = _ from HC.out)
  generalize World.drew _ = w8 at *
  refine held_value 0 19 (.int .i64 0) rfl rfl (by kernel_rfl) (by kernel_rfl) (by kernel_rfl) rfl hH (fun w hw => by go_simp) ?_
  try simp only [Act.put, List.setIfInBounds_toArray, List.set_cons_zero, List.set_cons_succ]
  refine held_value 1 20 (.bool true) rfl rfl (by kernel_rfl) (by kernel_rfl) (by kernel_rfl) rfl hH (fun w hw => by go_simp) ?_
  try simp only [Act.put, List.setIfInBounds_toArray, List.set_cons_zero, List.set_cons_succ]
  refine held_value 2 21 (.bool true) rfl rfl (by kernel_rfl) (by kernel_rfl) (by kernel_rfl) rfl hH (fun w hw => by go_simp) ?_
  try simp only [Act.put, List.setIfInBounds_toArray, List.set_cons_zero, List.set_cons_succ]
  refine held_value 3 22 (.slice (some ⟨b, o, none⟩) 56 c) rfl rfl (by kernel_rfl) (by kernel_rfl) (by kernel_rfl) rfl hH (fun w hw => by go_simp) ?_
  try simp only [Act.put, List.setIfInBounds_toArray, List.set_cons_zero, List.set_cons_succ]
  refine held_value 4 23 (.int .i64 56) rfl rfl (by kernel_rfl) (by kernel_rfl) (by kernel_rfl) rfl hH (fun w hw => by go_simp) ?_
  try simp only [Act.put, List.setIfInBounds_toArray, List.set_cons_zero, List.set_cons_succ]
  refine held_value 5 24 (.bool true) rfl rfl (by kernel_rfl) (by kernel_rfl) (by kernel_rfl) rfl hH (fun w hw => by go_simp) ?_
  try simp only [Act.put, List.setIfInBounds_toArray, List.set_cons_zero, List.set_cons_succ]
  refine held_value 6 25 (.bool true) rfl rfl (by kernel_rfl) (by kernel_rfl) (by kernel_rfl) rfl hH (fun w hw => by go_simp) ?_
  try simp only [Act.put, List.setIfInBounds_toArray, List.set_cons_zero, List.set_cons_succ]
  refine held_value 7 26 (.bool true) rfl rfl (by kernel_rfl) (by kernel_rfl) (by kernel_rfl) rfl hH (fun w hw => by go_simp) ?_
  try simp only [Act.put, List.setIfInBounds_toArray, List.set_cons_zero, List.set_cons_succ]
  refine held_value 8 27 (.slice (some ⟨b, o, none⟩) 56 c) rfl rfl (by kernel_rfl) (by kernel_rfl) (by kernel_rfl) rfl hH (fun w hw => by go_simp) ?_
  try simp only [Act.put, List.setIfInBounds_toArray, List.set_cons_zero, List.set_cons_succ]
  refine held_value 9 28 (.pointer (some ⟨b, o, none⟩)) rfl rfl (by kernel_rfl) (by kernel_rfl) (by kernel_rfl) rfl hH (fun w hw => by go_simp) ?_
  try simp only [Act.put, List.setIfInBounds_toArray, List.set_cons_zero, List.set_cons_succ]
  refine held_value 10 29 (.int .u8 254) rfl rfl (by kernel_rfl) (by kernel_rfl) (by kernel_rfl) rfl hH (fun w hw => by have hc := hw.2; go_simp) ?_
  try simp only [Act.put, List.setIfInBounds_toArray, List.set_cons_zero, List.set_cons_succ]
  refine held_value 11 30 (.bool true) rfl rfl (by kernel_rfl) (by kernel_rfl) (by kernel_rfl) rfl hH (fun w hw => by go_simp) ?_
  try simp only [Act.put, List.setIfInBounds_toArray, List.set_cons_zero, List.set_cons_succ]
  refine held_value 12 31 (.bool true) rfl rfl (by kernel_rfl) (by kernel_rfl) (by kernel_rfl) rfl hH (fun w hw => by go_simp) ?_
  try simp only [Act.put, List.setIfInBounds_toArray, List.set_cons_zero, List.set_cons_succ]
  refine held_value 13 32 (.bool true) rfl rfl (by kernel_rfl) (by kernel_rfl) (by kernel_rfl) rfl hH (fun w hw => by go_simp) ?_
  try simp only [Act.put, List.setIfInBounds_toArray, List.set_cons_zero, List.set_cons_succ]
  refine held_value 14 33 (.bool false) rfl rfl (by kernel_rfl) (by kernel_rfl) (by kernel_rfl) rfl hH (fun w hw => by go_simp) ?_
  try simp only [Act.put, List.setIfInBounds_toArray, List.set_cons_zero, List.set_cons_succ]
  refine held_value 15 34 (.bool true) rfl rfl (by kernel_rfl) (by kernel_rfl) (by kernel_rfl) rfl hH (fun w hw => by go_simp) ?_
  try simp only [Act.put, List.setIfInBounds_toArray, List.set_cons_zero, List.set_cons_succ]
  refine held_value 16 35 (.bool true) rfl rfl (by kernel_rfl) (by kernel_rfl) (by kernel_rfl) rfl hH (fun w hw => by go_simp) ?_
  try simp only [Act.put, List.setIfInBounds_toArray, List.set_cons_zero, List.set_cons_succ]
  refine held_value 17 36 (.bool true) rfl rfl (by kernel_rfl) (by kernel_rfl) (by kernel_rfl) rfl hH (fun w hw => by go_simp) ?_
  try simp only [Act.put, List.setIfInBounds_toArray, List.set_cons_zero, List.set_cons_succ]
  refine held_row 18 37 rowE rfl rfl (by kernel_rfl) (by kernel_rfl) (by kernel_rfl) rfl hH rfl rfl (fun _ h => h.1) ?_
  try simp only [Act.put, List.setIfInBounds_toArray, List.set_cons_zero, List.set_cons_succ]
  refine wpAnyH_ready (rs := [19]) (by kernel_rfl) (by simp) ?_
  refine AllReadyH.cons (o := _) rfl (fun K hK => ?_) AllReadyH.nil
  go_simp
  refine (int_k (2) _ (HT.out.below H.out.bel) (by omega) (by omega)).mono ?_
  rintro e wc ⟨h38, rfl, hv, hb⟩
  replace HC := Lib.hid ((Below.cell hb (p := ⟨b, o, none⟩) (block_lt_of_cell HC.out)).trans HC.out)
  replace H := Lib.hid (H.out.call hb)
  have HV38 := Lib.hid hv
  refine hK.out _ _ (⟨H.out.row 1 rfl, HC.out⟩) (fun hN => ?_)
  clear hK K hH hb hv
  have hH := hN
  clear hN
  try simp only [Act.put, List.setIfInBounds_toArray, List.set_cons_zero, List.set_cons_succ]
  refine wpAnyH_ready (rs := [20]) (by kernel_rfl) (by simp) ?_
  refine AllReadyH.cons (o := _) rfl (fun K hK => ?_) AllReadyH.nil
  go_simp
  refine (equal_kt _ (HT.out.below H.out.bel) V2.out HV38.out (rfl)).mono ?_
  rintro e wc ⟨rfl, hb⟩
  replace HC := Lib.hid ((Below.cell hb (p := ⟨b, o, none⟩) (block_lt_of_cell HC.out)).trans HC.out)
  replace H := Lib.hid (H.out.call hb)
  refine hK.out _ _ (⟨H.out.row 1 rfl, HC.out⟩) (fun hN => ?_)
  clear hK K hH hb
  have hH := hN
  clear hN
  try simp only [Act.put, List.setIfInBounds_toArray, List.set_cons_zero, List.set_cons_succ]
  refine held_value 21 40 (.bool true) rfl rfl (by kernel_rfl) (by kernel_rfl) (by kernel_rfl) rfl hH (fun w hw => by go_simp) ?_
  try simp only [Act.put, List.setIfInBounds_toArray, List.set_cons_zero, List.set_cons_succ]
  refine held_value 22 41 (.bool true) rfl rfl (by kernel_rfl) (by kernel_rfl) (by kernel_rfl) rfl hH (fun w hw => by go_simp) ?_
  try simp only [Act.put, List.setIfInBounds_toArray, List.set_cons_zero, List.set_cons_succ]
  refine wpAnyH_ready (rs := [23]) (by kernel_rfl) (by simp) ?_
  refine AllReadyH.cons (o := _) rfl (fun K hK => ?_) AllReadyH.nil
  go_simp
  refine (int_k (2) _ (HT.out.below H.out.bel) (by omega) (by omega)).mono ?_
  rintro e wc ⟨h42, rfl, hv, hb⟩
  replace HC := Lib.hid ((Below.cell hb (p := ⟨b, o, none⟩) (block_lt_of_cell HC.out)).trans HC.out)
  replace H := Lib.hid (H.out.call hb)
  have HV42 := Lib.hid hv
  refine hK.out _ _ (⟨H.out.row 1 rfl, HC.out⟩) (fun hN => ?_)
  clear hK K hH hb hv
  have hH := hN
  clear hN
  try simp only [Act.put, List.setIfInBounds_toArray, List.set_cons_zero, List.set_cons_succ]
  refine wpAnyH_ready (rs := [24]) (by kernel_rfl) (by simp) ?_
  refine AllReadyH.cons (o := _) rfl (fun K hK => ?_) AllReadyH.nil
  go_simp
  refine (inverse_k _ HV42.out).mono ?_
  rintro e wc ⟨h43, rfl, hv, hb⟩
  replace HC := Lib.hid ((Below.cell hb (p := ⟨b, o, none⟩) (block_lt_of_cell HC.out)).trans HC.out)
  replace H := Lib.hid (H.out.call hb)
  have HV43 := Lib.hid hv
  refine hK.out _ _ (⟨H.out.row 1 rfl, HC.out⟩) (fun hN => ?_)
  clear hK K hH hb hv
  have hH := hN
  clear hN
  try simp only [Act.put, List.setIfInBounds_toArray, List.set_cons_zero, List.set_cons_succ]
  refine wpAnyH_ready (rs := [25]) (by kernel_rfl) (by simp) ?_
  refine AllReadyH.cons (o := _) rfl (fun K hK => ?_) AllReadyH.nil
  go_simp
  refine (int_k (2) _ (HT.out.below H.out.bel) (by omega) (by omega)).mono ?_
  rintro e wc ⟨h44, rfl, hv, hb⟩
  replace HC := Lib.hid ((Below.cell hb (p := ⟨b, o, none⟩) (block_lt_of_cell HC.out)).trans HC.out)
  replace H := Lib.hid (H.out.call hb)
  have HV44 := Lib.hid hv
  refine hK.out _ _ (⟨H.out.row 1 rfl, HC.out⟩) (fun hN => ?_)
  clear hK K hH hb hv
  have hH := hN
  clear hN
  try simp only [Act.put, List.setIfInBounds_toArray, List.set_cons_zero, List.set_cons_succ]
  refine wpAnyH_ready (rs := [26]) (by kernel_rfl) (by simp) ?_
  refine AllReadyH.cons (o := _) rfl (fun K hK => ?_) AllReadyH.nil
  go_simp
  refine (mul_k _ HV43.out HV44.out).mono ?_
  rintro e wc ⟨h45, rfl, hv, hb⟩
  replace HC := Lib.hid ((Below.cell hb (p := ⟨b, o, none⟩) (block_lt_of_cell HC.out)).trans HC.out)
  replace H := Lib.hid (H.out.call hb)
  have HV45 := Lib.hid hv
  refine hK.out _ _ (⟨H.out.row 1 rfl, HC.out⟩) (fun hN => ?_)
  clear hK K hH hb hv
  have hH := hN
  clear hN
  try simp only [Act.put, List.setIfInBounds_toArray, List.set_cons_zero, List.set_cons_succ]
  refine wpAnyH_ready (rs := [27]) (by kernel_rfl) (by simp) ?_
  refine AllReadyH.cons (o := _) rfl (fun K hK => ?_) AllReadyH.nil
  go_simp
  refine (int_k (1) _ (HT.out.below H.out.bel) (by omega) (by omega)).mono ?_
  rintro e wc ⟨h46, rfl, hv, hb⟩
  replace HC := Lib.hid ((Below.cell hb (p := ⟨b, o, none⟩) (block_lt_of_cell HC.out)).trans HC.out)
  replace H := Lib.hid (H.out.call hb)
  have HV46 := Lib.hid hv
  refine hK.out _ _ (⟨H.out.row 1 rfl, HC.out⟩) (fun hN => ?_)
  clear hK K hH hb hv
  have hH := hN
  clear hN
  try simp only [Act.put, List.setIfInBounds_toArray, List.set_cons_zero, List.set_cons_succ]
  refine wpAnyH_ready (rs := [28]) (by kernel_rfl) (by simp) ?_
  refine AllReadyH.cons (o := _) rfl (fun K hK => ?_) AllReadyH.nil
  go_simp
  refine (equal_kt _ (HT.out.below H.out.bel) HV45.out HV46.out (awk_inv)).mono ?_
  rintro e wc ⟨rfl, hb⟩
  replace HC := Lib.hid ((Below.cell hb (p := ⟨b, o, none⟩) (block_lt_of_cell HC.out)).trans HC.out)
  replace H := Lib.hid (H.out.call hb)
  refine hK.out _ _ (⟨H.out.row 1 rfl, HC.out⟩) (fun hN => ?_)
  clear hK K hH hb
  have hH := hN
  clear hN
  try simp only [Act.put, List.setIfInBounds_toArray, List.set_cons_zero, List.set_cons_succ]
  refine held_value 29 48 (.bool true) rfl rfl (by kernel_rfl) (by kernel_rfl) (by kernel_rfl) rfl hH (fun w hw => by go_simp) ?_
  try simp only [Act.put, List.setIfInBounds_toArray, List.set_cons_zero, List.set_cons_succ]
  refine held_value 30 0 (.bool true) rfl rfl (by kernel_rfl) (by kernel_rfl) (by kernel_rfl) rfl hH (fun w hw => by go_simp) ?_
  try simp only [Act.put, List.setIfInBounds_toArray, List.set_cons_zero]
  try simp only [Act.put]
  refine wpAnyH_done (by kernel_rfl) ?_ _
  refine NoPanic.normal ?_
  clear hH
  go_wp2_with fail
  go_ret
  exact ⟨rfl, H.out.bel⟩
end Go.Proofs.YtgcdahcmfniceaaDoor
