/-
  The contracts of the reference's Inverse, Negative and Abs. No statement is proved here: lemmas for the walks.
-/
import Derived.Test.YtieoapcakdaelaaDoorZRtBy
namespace Go.Proofs.YtieoapcakdaelaaDoor
open Go.RowKit

set_option maxRecDepth 8000 in
set_option maxHeartbeats 3200000 in
theorem refInverse_k {a : K} (w : World) :
    Calls Tryd.prog 32 #[FV a.val] w fun e w' => e = .returned (FV (inv a).val) ∧ Below w.heap.size w w' := by
  have h56 := fits_56 (show pN - 2 ≤ pN + 1 by omega)
  have H := Lib.hid (Ow.start w)
  go_enter Tryd.func32, Tryd.ntmps32
  go_wp2_with (first
    | ((fail_if_success have := g1); (with_reducible apply own_box H); (case hgd => exact rfl); (case ho => exact rfl); (case hx => exact rfl); intro w1 g1 H' _ _; replace H := H'; clear H'; go_simp)
    | ((fail_if_success have := g2); (with_reducible apply own_alloc intsF.zero H); (case hgd => exact rfl); (case ho => exact rfl); intro w2 g2 H' _ _; replace H := H'; clear H'; go_simp))
  refine wp_region_noPanic ?_
  refine wp_region_held_drew (S := fun W => W.heap[g1]? = some (Blk 34 .i64 16 (dF (a).val))) (by kernel_rfl) (H.out.drew.row 1 rfl) (fun hH => ?_)
  replace H := Lib.hid H.out.drew
  generalize World.drew _ = w8 at *
  refine held_row 0 3 rowF rfl rfl (by kernel_rfl) (by kernel_rfl) (by kernel_rfl) rfl hH rfl rfl (fun _ h => h) ?_
  try simp only [Act.put, List.setIfInBounds_toArray, List.set_cons_zero, List.set_cons_succ]
  refine wpAnyH_ready (rs := [1, 2]) (by kernel_rfl) (by simp) ?_
  refine AllReadyH.cons (o := _) rfl (fun K hK => ?_) (AllReadyH.cons (o := _) rfl (fun K hK => ?_) AllReadyH.nil)
  · skip
    go_simp
    refine (refPrime_sb _).mono ?_
    rintro e wc ⟨a4, c4, rfl, hs, hb⟩
    replace H := Lib.hid (H.out.call hb)
    have HS4 := Lib.hid hs
    refine hK.out _ _ (H.out.row 1 rfl) (fun hN => ?_)
    clear hK K hH hb hs
    have hH := hN
    clear hN
    try simp only [Act.put, List.setIfInBounds_toArray, List.set_cons_zero, List.set_cons_succ]
    refine wpAnyH_ready (rs := [2]) (by kernel_rfl) (by simp) ?_
    refine AllReadyH.cons (o := _) rfl (fun K hK => ?_) AllReadyH.nil
    refine own_wp_byte 5 rfl (v := 2) (by omega) H.out rfl ?_
    intro w5 g5 H3 hs hb
    replace HS4 := Lib.hid (HS4.out.call hb)
    replace H := Lib.hid H3
    have HS5 := Lib.hid hs
    refine hK.out _ _ (H.out.row 2 rfl) (fun hN => ?_)
    clear hK K hH H3 hs hb
    have hH := hN
    clear hN
    try simp only [Act.put, List.setIfInBounds_toArray, List.set_cons_zero, List.set_cons_succ]
    refine wpAnyH_ready (rs := [3]) (by kernel_rfl) (by simp) ?_
    refine AllReadyH.cons (o := _) rfl (fun K hK => ?_) AllReadyH.nil
    go_simp
    refine (nrefSub_any _ _ _ _ _ _ _ _ _ (by omega) (by omega) HS4.out HS5.out (by decide +kernel)).mono ?_
    rintro e wc ⟨_, rfl, a6, c6, rfl, hs, hb⟩
    replace HS4 := Lib.hid (HS4.out.call hb)
    replace HS5 := Lib.hid (HS5.out.call hb)
    replace H := Lib.hid (H.out.call hb)
    have HS6 := Lib.hid hs
    refine hK.out _ _ (H.out.row 2 rfl) (fun hN => ?_)
    clear hK K hH hb hs
    have hH := hN
    clear hN
    try simp only [Act.put, List.setIfInBounds_toArray, List.set_cons_zero, List.set_cons_succ]
    refine wpAnyH_ready (rs := [4]) (by kernel_rfl) (by simp) ?_
    refine AllReadyH.cons (o := _) rfl (fun K hK => ?_) AllReadyH.nil
    go_simp
    refine (refPower_k _ _ _ _ _ HS6.out (by omega)).mono ?_
    rintro e wc ⟨rfl, hb⟩
    replace HS4 := Lib.hid (HS4.out.call hb)
    replace HS5 := Lib.hid (HS5.out.call hb)
    replace HS6 := Lib.hid (HS6.out.call hb)
    replace H := Lib.hid (H.out.call hb)
    refine hK.out _ _ (H.out.row 2 rfl) (fun hN => ?_)
    clear hK K hH hb
    have hH := hN
    clear hN
    try simp only [Act.put, List.setIfInBounds_toArray, List.set_cons_zero, List.set_cons_succ]
    refine wpAnyH_ready (rs := [5]) (by kernel_rfl) (by simp) ?_
    refine AllReadyH.cons (o := _) rfl (fun K hK => ?_) AllReadyH.nil
    refine own_wp_store 1 rowF H.out rfl rfl rfl rfl ?_
    intro ws HS
    simp only [List.set_cons_zero, List.set_cons_succ] at HS
    replace H := Lib.hid HS
    refine hK.out _ _ (H.out.row 2 rfl) (fun hN => ?_)
    clear hK K HS hH
    have hH := hN
    clear hN
    try simp only [Act.put, List.setIfInBounds_toArray]
    try simp only [Act.put]
    refine wpAnyH_done (by kernel_rfl) ?_ _
    refine NoPanic.normal ?_
    clear hH
    go_wp2_with fail
    exact bodyPost_ret (own_result 1 rowF rfl _ H rfl rfl) rfl ⟨rfl, H.out.bel⟩
  · skip
    refine own_wp_byte 5 rfl (v := 2) (by omega) H.out rfl ?_
    intro w5 g5 H3 hs hb
    replace H := Lib.hid H3
    have HS5 := Lib.hid hs
    refine hK.out _ _ (H.out.row 2 rfl) (fun hN => ?_)
    clear hK K hH H3 hs hb
    have hH := hN
    clear hN
    try simp only [Act.put, List.setIfInBounds_toArray, List.set_cons_zero, List.set_cons_succ]
    refine wpAnyH_ready (rs := [1]) (by kernel_rfl) (by simp) ?_
    refine AllReadyH.cons (o := _) rfl (fun K hK => ?_) AllReadyH.nil
    go_simp
    refine (refPrime_sb _).mono ?_
    rintro e wc ⟨a4, c4, rfl, hs, hb⟩
    replace HS5 := Lib.hid (HS5.out.call hb)
    replace H := Lib.hid (H.out.call hb)
    have HS4 := Lib.hid hs
    refine hK.out _ _ (H.out.row 2 rfl) (fun hN => ?_)
    clear hK K hH hb hs
    have hH := hN
    clear hN
    try simp only [Act.put, List.setIfInBounds_toArray, List.set_cons_zero, List.set_cons_succ]
    refine wpAnyH_ready (rs := [3]) (by kernel_rfl) (by simp) ?_
    refine AllReadyH.cons (o := _) rfl (fun K hK => ?_) AllReadyH.nil
    go_simp
    refine (nrefSub_any _ _ _ _ _ _ _ _ _ (by omega) (by omega) HS4.out HS5.out (by decide +kernel)).mono ?_
    rintro e wc ⟨_, rfl, a6, c6, rfl, hs, hb⟩
    replace HS5 := Lib.hid (HS5.out.call hb)
    replace HS4 := Lib.hid (HS4.out.call hb)
    replace H := Lib.hid (H.out.call hb)
    have HS6 := Lib.hid hs
    refine hK.out _ _ (H.out.row 2 rfl) (fun hN => ?_)
    clear hK K hH hb hs
    have hH := hN
    clear hN
    try simp only [Act.put, List.setIfInBounds_toArray, List.set_cons_zero, List.set_cons_succ]
    refine wpAnyH_ready (rs := [4]) (by kernel_rfl) (by simp) ?_
    refine AllReadyH.cons (o := _) rfl (fun K hK => ?_) AllReadyH.nil
    go_simp
    refine (refPower_k _ _ _ _ _ HS6.out (by omega)).mono ?_
    rintro e wc ⟨rfl, hb⟩
    replace HS5 := Lib.hid (HS5.out.call hb)
    replace HS4 := Lib.hid (HS4.out.call hb)
    replace HS6 := Lib.hid (HS6.out.call hb)
    replace H := Lib.hid (H.out.call hb)
    refine hK.out _ _ (H.out.row 2 rfl) (fun hN => ?_)
    clear hK K hH hb
    have hH := hN
    clear hN
    try simp only [Act.put, List.setIfInBounds_toArray, List.set_cons_zero, List.set_cons_succ]
    refine wpAnyH_ready (rs := [5]) (by kernel_rfl) (by simp) ?_
    refine AllReadyH.cons (o := _) rfl (fun K hK => ?_) AllReadyH.nil
    refine own_wp_store 1 rowF H.out rfl rfl rfl rfl ?_
    intro ws HS
    simp only [List.set_cons_zero, List.set_cons_succ] at HS
    replace H := Lib.hid HS
    refine hK.out _ _ (H.out.row 2 rfl) (fun hN => ?_)
    clear hK K HS hH
    have hH := hN
    clear hN
    try simp only [Act.put, List.setIfInBounds_toArray]
    try simp only [Act.put]
    refine wpAnyH_done (by kernel_rfl) ?_ _
    refine NoPanic.normal ?_
    clear hH
    go_wp2_with fail
    exact bodyPost_ret (own_result 1 rowF rfl _ H rfl rfl) rfl ⟨rfl, H.out.bel⟩
set_option maxRecDepth 8000 in
set_option maxHeartbeats 3200000 in
theorem refNegative_k {a : K} (w : World) :
    Calls Tryd.prog 34 #[FV a.val] w fun e w' => e = .returned (.bool (decide (a.val % 2 = 1))) ∧ Below w.heap.size w w' := by
  obtain ⟨y, hy⟩ : ∃ y : Nat, dF a.val 0 = (y : Int) := ⟨_, rfl⟩
  have hy2 : (y : Int) < 268435456 := by rw [← hy]; exact (dF_bd _ _).2
  obtain ⟨z, hz⟩ : ∃ z, y % 2 = z := ⟨_, rfl⟩
  have HZ : Hid (((z : Int) == 1) = decide (a.val % 2 = 1)) := Lib.hid (by
    have h1 : a.val / 268435456 ^ 0 % 268435456 = y := by
      have := hy
      unfold dF at this
      exact_mod_cast this
    rw [Nat.pow_zero, Nat.div_one] at h1
    rw [Bool.eq_iff_iff, beq_iff_eq, decide_eq_true_eq]
    omega)
  have e1 : (y : Int) % 2 = (z : Int) := by omega
  have e2 : (y : Int).tmod 2 = (z : Int) := by rw [Int.tmod_eq_emod_of_nonneg (by omega)]; omega
  clear hz
  have H := Lib.hid (Ow.start w)
  go_enter Tryd.func34, Tryd.ntmps34
  go_wp2_with (first
    | ((fail_if_success have := g1); (with_reducible apply own_box H); (case hgd => exact rfl); (case ho => exact rfl); (case hx => exact rfl); intro w1 g1 H' _ _; replace H := H'; clear H'; go_simp)
    | ((with_reducible apply own_get oneI H); (case hgd => exact rfl); (case ho => exact rfl); (case hx => exact rfl); (case hi => first | exact at0 | exact at1 | exact at2 | exact at3 | exact at4 | exact at5 | exact at6 | exact at7 | exact at8 | exact at9); (case hj => omega); intro _ _; rw [hy]; go_simp))
  go_ret
  exact ⟨by rw [← HZ.out]; rfl, H.out.bel⟩
set_option maxRecDepth 8000 in
set_option maxHeartbeats 3200000 in
theorem refAbs_k {a : K} (w : World) :
    Calls Tryd.prog 36 #[FV a.val] w fun e w' => e = .returned (FV (ab a).val) ∧ Below w.heap.size w w' := by
  have HN := Lib.hid (fun w => refNegative_k (a := a) w)
  by_cases hd : a.val % 2 = 1
  · rw [decide_eq_true hd] at HN
    have HA : Hid (ab a = -a) := Lib.hid (by unfold ab; rw [if_pos hd])
    clear hd
    have H := Lib.hid (Ow.start w)
    go_enter Tryd.func36, Tryd.ntmps36
    go_wp2_with (first
      | ((fail_if_success have := g1); (with_reducible apply own_box H); (case hgd => exact rfl); (case ho => exact rfl); (case hx => exact rfl); intro w1 g1 H' _ _; replace H := H'; clear H'; go_simp)
      | ((fail_if_success have := g2); (with_reducible apply own_alloc intsF.zero H); (case hgd => exact rfl); (case ho => exact rfl); intro w2 g2 H' _ _; replace H := H'; clear H'; go_simp)
      | ((with_reducible apply own_load rowF H); (case hgd => exact rfl); (case ho => exact rfl); (case hx => exact rfl); (case hi => first | exact at0 | exact at1 | exact at2 | exact at3 | exact at4 | exact at5 | exact at6 | exact at7 | exact at8 | exact at9); intro _ _; go_simp)
      | ((with_reducible refine (HN.out _).mono ?_); rintro e wc ⟨rfl, hb⟩; replace H := Lib.hid (H.out.call hb); clear hb)
      | ((with_reducible refine (refNeg_k _ _).mono ?_); rintro e wc ⟨rfl, hb⟩; replace H := Lib.hid (H.out.call hb); clear hb)
      | ((with_reducible apply own_store rowF H); (case hgd => exact rfl); (case ho => exact rfl); (case hx => exact rfl); (case hy => exact rfl); (case hi => first | exact at0 | exact at1 | exact at2 | exact at3 | exact at4 | exact at5 | exact at6 | exact at7 | exact at8 | exact at9); intro ws H' _ _; replace H := H'; clear H'; simp only [List.set_cons_zero] at H; go_simp))
    exact bodyPost_ret (own_result 0 rowF rfl _ H rfl rfl) rfl ⟨by rw [HA.out], H.out.bel⟩
  · rw [decide_eq_false hd] at HN
    have HA : Hid (ab a = a) := Lib.hid (by unfold ab; rw [if_neg hd])
    clear hd
    have H := Lib.hid (Ow.start w)
    go_enter Tryd.func36, Tryd.ntmps36
    go_wp2_with (first
      | ((fail_if_success have := g1); (with_reducible apply own_box H); (case hgd => exact rfl); (case ho => exact rfl); (case hx => exact rfl); intro w1 g1 H' _ _; replace H := H'; clear H'; go_simp)
      | ((fail_if_success have := g2); (with_reducible apply own_alloc intsF.zero H); (case hgd => exact rfl); (case ho => exact rfl); intro w2 g2 H' _ _; replace H := H'; clear H'; go_simp)
      | ((with_reducible apply own_load rowF H); (case hgd => exact rfl); (case ho => exact rfl); (case hx => exact rfl); (case hi => first | exact at0 | exact at1 | exact at2 | exact at3 | exact at4 | exact at5 | exact at6 | exact at7 | exact at8 | exact at9); intro _ _; go_simp)
      | ((with_reducible refine (HN.out _).mono ?_); rintro e wc ⟨rfl, hb⟩; replace H := Lib.hid (H.out.call hb); clear hb)
      | ((with_reducible apply own_store rowF H); (case hgd => exact rfl); (case ho => exact rfl); (case hx => exact rfl); (case hy => exact rfl); (case hi => first | exact at0 | exact at1 | exact at2 | exact at3 | exact at4 | exact at5 | exact at6 | exact at7 | exact at8 | exact at9); intro ws H' _ _; replace H := H'; clear H'; simp only [List.set_cons_zero] at H; go_simp))
    exact bodyPost_ret (own_result 0 rowF rfl _ H rfl rfl) rfl ⟨by rw [HA.out], H.out.bel⟩
end Go.Proofs.YtieoapcakdaelaaDoor
