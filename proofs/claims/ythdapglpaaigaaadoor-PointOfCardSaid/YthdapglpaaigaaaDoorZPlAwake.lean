/-
  The chapter's examples hold. No statement is proved here: lemmas for the walks.
-/
import Derived.Test.YthdapglpaaigaaaDoorZPlMade
import Derived.Deep.CutRange
namespace Go.Proofs.YthdapglpaaigaaaDoor
open Go.RowKit

theorem q_two : padd edK (pquarter : Pt pN dK) pquarter = phalf := quarter_two edK
theorem q_two_x : (padd edK (pquarter : Pt pN dK) pquarter).x = 0 := by rw [q_two]; rfl
theorem q_two_y : (padd edK (pquarter : Pt pN dK) pquarter).y = ofZ (-1) := by rw [q_two, ofZ_neg]; rfl
theorem q_four : padd edK (padd edK (pquarter : Pt pN dK) pquarter) (padd edK pquarter pquarter) = pzero := by
  have h := quarter_four edK
  rw [show (4 : Nat) = 2 * (2 * 1) from rfl, pmul_two, pmul_two, pmul_one] at h
  exact h
set_option maxRecDepth 20000 in
set_option maxHeartbeats 12800000 in
theorem awake8_k (w : World) (hT : Tp w) :
    Calls Tryd.prog 22 #[] w fun e w' => e = .returned (.bool true) ∧ Below w.heap.size w w' := by
  have HT := Lib.hid hT
  clear hT
  have H := Lib.hid (Ow.start w)
  go_enter Tryd.func22, Tryd.ntmps22
  go_wp2_with (first
    | ((fail_if_success have := V1); (with_reducible refine (int_k 1 _ (HT.out.below H.out.bel) (by omega) (by omega)).mono ?_); rintro e wc ⟨e1, rfl, hv, hb⟩; replace H := Lib.hid (H.out.call hb); clear hb; have V1 := Lib.hid hv; clear hv)
    | ((fail_if_success have := V2); (with_reducible refine (int_k 0 _ (HT.out.below H.out.bel) (by omega) (by omega)).mono ?_); rintro e wc ⟨e2, rfl, hv, hb⟩; replace H := Lib.hid (H.out.call hb); clear hb; have V2 := Lib.hid hv; clear hv)
    | ((fail_if_success have := V3); (with_reducible refine (quart_k _ (HT.out.below H.out.bel) V1.out V2.out).mono ?_); rintro e wc ⟨k3, rfl, hv, hb⟩; replace H := Lib.hid (H.out.call hb); clear hb; have V3 := Lib.hid hv; clear hv)
    | ((fail_if_success have := g1); (fail_if_success have := g1); (with_reducible apply own_alloc nilPt H); (case hgd => exact rfl); (case ho => exact rfl); intro w1 g1 H' _ _; replace H := H'; clear H'; go_simp)
    | ((with_reducible apply own_store rowPt H); (case hgd => exact rfl); (case ho => exact rfl); (case hx => exact rfl); (case hy => exact rfl); (case hi => first | exact at0 | exact at1 | exact at2 | exact at3 | exact at4 | exact at5 | exact at6 | exact at7 | exact at8 | exact at9); intro ws H' _ _; replace H := H'; clear H'; simp only [List.set_cons_zero] at H; go_simp)
    | ((with_reducible apply own_load rowPt H); (case hgd => exact rfl); (case ho => exact rfl); (case hx => exact rfl); (case hi => first | exact at0 | exact at1 | exact at2 | exact at3 | exact at4 | exact at5 | exact at6 | exact at7 | exact at8 | exact at9); intro _ _; go_simp)
    | ((fail_if_success have := V4); (with_reducible refine (ptDouble_k _ (HT.out.below H.out.bel) V3.out).mono ?_); rintro e wc ⟨k4, rfl, hv, hb⟩; replace H := Lib.hid (H.out.call hb); clear hb; have V4 := Lib.hid hv; clear hv)
    | ((fail_if_success have := A1); (with_reducible refine (ptAffine_k _ V4.out).mono ?_); rintro e wc ⟨a1, a2, rfl, hv1, hv2, hb⟩; replace H := Lib.hid (H.out.call hb); clear hb; have A1 := Lib.hid hv1; have A2 := Lib.hid hv2; clear hv1 hv2)
    | ((fail_if_success have := g3); (fail_if_success have := g3); (with_reducible apply own_alloc nilE H); (case hgd => exact rfl); (case ho => exact rfl); intro w3 g3 H' _ _; replace H := H'; clear H'; go_simp)
    | ((fail_if_success have := g4); (fail_if_success have := g4); (with_reducible apply own_alloc nilE H); (case hgd => exact rfl); (case ho => exact rfl); intro w4 g4 H' _ _; replace H := H'; clear H'; go_simp)
    | ((with_reducible apply own_store rowE H); (case hgd => exact rfl); (case ho => exact rfl); (case hx => exact rfl); (case hy => exact rfl); (case hi => first | exact at0 | exact at1 | exact at2 | exact at3 | exact at4 | exact at5 | exact at6 | exact at7 | exact at8 | exact at9); intro ws H' _ _; replace H := H'; clear H'; simp only [List.set_cons_zero, List.set_cons_succ] at H; go_simp))
  refine wp_region_noPanic ?_
  refine wp_region_held_drew (S := fun W => W.heap[g3]? = some (Blk 30 .u64 8 (NZ a1)) ∧ W.heap[g4]? = some (Blk 30 .u64 8 (NZ a2)) ∧ W.heap[g1]? = some (Blk 34 .u64 24 (k3))) (by kernel_rfl) (⟨H.out.drew.row 1 rfl, H.out.drew.row 0 rfl, H.out.drew.row 2 rfl⟩) (fun hH => ?_)
  replace H := Lib.hid H.out.drew
  generalize World.drew _ = w8 at *
  refine held_value 0 17 (.int .i64 0) rfl rfl (by kernel_rfl) (by kernel_rfl) (by kernel_rfl) rfl hH (fun w hw => by go_simp) ?_
  try simp only [Act.put, List.setIfInBounds_toArray, List.set_cons_zero, List.set_cons_succ]
  refine held_value 1 18 (.bool true) rfl rfl (by kernel_rfl) (by kernel_rfl) (by kernel_rfl) rfl hH (fun w hw => by go_simp) ?_
  try simp only [Act.put, List.setIfInBounds_toArray, List.set_cons_zero, List.set_cons_succ]
  refine held_value 2 19 (.bool true) rfl rfl (by kernel_rfl) (by kernel_rfl) (by kernel_rfl) rfl hH (fun w hw => by go_simp) ?_
  try simp only [Act.put, List.setIfInBounds_toArray, List.set_cons_zero, List.set_cons_succ]
  refine held_row 3 20 rowE rfl rfl (by kernel_rfl) (by kernel_rfl) (by kernel_rfl) rfl hH rfl rfl (fun _ h => h.1) ?_
  try simp only [Act.put, List.setIfInBounds_toArray, List.set_cons_zero, List.set_cons_succ]
  refine wpAnyH_ready (rs := [4]) (by kernel_rfl) (by simp) ?_
  refine AllReadyH.cons (o := _) rfl (fun K hK => ?_) AllReadyH.nil
  go_simp
  refine (zero_kt _ A1.out q_two_x).mono ?_
  rintro e wc ⟨rfl, hb⟩
  replace H := Lib.hid (H.out.call hb)
  refine hK.out _ _ (⟨H.out.row 1 rfl, H.out.row 0 rfl, H.out.row 2 rfl⟩) (fun hN => ?_)
  clear hK K hH hb
  have hH := hN
  clear hN
  try simp only [Act.put, List.setIfInBounds_toArray, List.set_cons_zero, List.set_cons_succ]
  refine held_value 5 22 (.bool true) rfl rfl (by kernel_rfl) (by kernel_rfl) (by kernel_rfl) rfl hH (fun w hw => by go_simp) ?_
  try simp only [Act.put, List.setIfInBounds_toArray, List.set_cons_zero, List.set_cons_succ]
  refine held_value 6 23 (.bool true) rfl rfl (by kernel_rfl) (by kernel_rfl) (by kernel_rfl) rfl hH (fun w hw => by go_simp) ?_
  try simp only [Act.put, List.setIfInBounds_toArray, List.set_cons_zero, List.set_cons_succ]
  refine held_row 7 24 rowE rfl rfl (by kernel_rfl) (by kernel_rfl) (by kernel_rfl) rfl hH rfl rfl (fun _ h => h.2.1) ?_
  try simp only [Act.put, List.setIfInBounds_toArray, List.set_cons_zero, List.set_cons_succ]
  refine wpAnyH_ready (rs := [8]) (by kernel_rfl) (by simp) ?_
  refine AllReadyH.cons (o := _) rfl (fun K hK => ?_) AllReadyH.nil
  go_simp
  refine (int_k (-1) _ (HT.out.below H.out.bel) (by omega) (by omega)).mono ?_
  rintro e wc ⟨h25, rfl, hv, hb⟩
  replace H := Lib.hid (H.out.call hb)
  have HV25 := Lib.hid hv
  refine hK.out _ _ (⟨H.out.row 1 rfl, H.out.row 0 rfl, H.out.row 2 rfl⟩) (fun hN => ?_)
  clear hK K hH hb hv
  have hH := hN
  clear hN
  try simp only [Act.put, List.setIfInBounds_toArray, List.set_cons_zero, List.set_cons_succ]
  refine wpAnyH_ready (rs := [9]) (by kernel_rfl) (by simp) ?_
  refine AllReadyH.cons (o := _) rfl (fun K hK => ?_) AllReadyH.nil
  go_simp
  refine (equal_kt _ (HT.out.below H.out.bel) A2.out HV25.out (q_two_y)).mono ?_
  rintro e wc ⟨rfl, hb⟩
  replace H := Lib.hid (H.out.call hb)
  refine hK.out _ _ (⟨H.out.row 1 rfl, H.out.row 0 rfl, H.out.row 2 rfl⟩) (fun hN => ?_)
  clear hK K hH hb
  have hH := hN
  clear hN
  try simp only [Act.put, List.setIfInBounds_toArray, List.set_cons_zero, List.set_cons_succ]
  refine held_value 10 27 (.bool true) rfl rfl (by kernel_rfl) (by kernel_rfl) (by kernel_rfl) rfl hH (fun w hw => by go_simp) ?_
  try simp only [Act.put, List.setIfInBounds_toArray, List.set_cons_zero, List.set_cons_succ]
  refine held_value 11 28 (.bool true) rfl rfl (by kernel_rfl) (by kernel_rfl) (by kernel_rfl) rfl hH (fun w hw => by go_simp) ?_
  try simp only [Act.put, List.setIfInBounds_toArray, List.set_cons_zero, List.set_cons_succ]
  refine held_row 12 29 rowPt rfl rfl (by kernel_rfl) (by kernel_rfl) (by kernel_rfl) rfl hH rfl rfl (fun _ h => h.2.2) ?_
  try simp only [Act.put, List.setIfInBounds_toArray, List.set_cons_zero, List.set_cons_succ]
  refine wpAnyH_ready (rs := [13]) (by kernel_rfl) (by simp) ?_
  refine AllReadyH.cons (o := _) rfl (fun K hK => ?_) AllReadyH.nil
  go_simp
  refine (ptFour_k _ (HT.out.below H.out.bel) V3.out).mono ?_
  rintro e wc ⟨h30, rfl, hv, hb⟩
  replace H := Lib.hid (H.out.call hb)
  have HV30 := Lib.hid hv
  refine hK.out _ _ (⟨H.out.row 1 rfl, H.out.row 0 rfl, H.out.row 2 rfl⟩) (fun hN => ?_)
  clear hK K hH hb hv
  have hH := hN
  clear hN
  try simp only [Act.put, List.setIfInBounds_toArray, List.set_cons_zero, List.set_cons_succ]
  refine wpAnyH_ready (rs := [14]) (by kernel_rfl) (by simp) ?_
  refine AllReadyH.cons (o := _) rfl (fun K hK => ?_) AllReadyH.nil
  go_simp
  refine (identity_k _ (HT.out.below H.out.bel)).mono ?_
  rintro e wc ⟨h31, rfl, hv, hb⟩
  replace H := Lib.hid (H.out.call hb)
  have HV31 := Lib.hid hv
  refine hK.out _ _ (⟨H.out.row 1 rfl, H.out.row 0 rfl, H.out.row 2 rfl⟩) (fun hN => ?_)
  clear hK K hH hb hv
  have hH := hN
  clear hN
  try simp only [Act.put, List.setIfInBounds_toArray, List.set_cons_zero, List.set_cons_succ]
  refine wpAnyH_ready (rs := [15]) (by kernel_rfl) (by simp) ?_
  refine AllReadyH.cons (o := _) rfl (fun K hK => ?_) AllReadyH.nil
  go_simp
  refine (ptEqual_k _ (HT.out.below H.out.bel) HV30.out HV31.out (decide_eq_true (q_four))).mono ?_
  rintro e wc ⟨rfl, hb⟩
  replace H := Lib.hid (H.out.call hb)
  refine hK.out _ _ (⟨H.out.row 1 rfl, H.out.row 0 rfl, H.out.row 2 rfl⟩) (fun hN => ?_)
  clear hK K hH hb
  have hH := hN
  clear hN
  try simp only [Act.put, List.setIfInBounds_toArray, List.set_cons_zero, List.set_cons_succ]
  refine held_value 16 33 (.bool true) rfl rfl (by kernel_rfl) (by kernel_rfl) (by kernel_rfl) rfl hH (fun w hw => by go_simp) ?_
  try simp only [Act.put, List.setIfInBounds_toArray, List.set_cons_zero, List.set_cons_succ]
  refine held_value 17 0 (.bool true) rfl rfl (by kernel_rfl) (by kernel_rfl) (by kernel_rfl) rfl hH (fun w hw => by go_simp) ?_
  try simp only [Act.put, List.setIfInBounds_toArray, List.set_cons_zero]
  try simp only [Act.put]
  refine wpAnyH_done (by kernel_rfl) ?_ _
  refine NoPanic.normal ?_
  clear hH
  go_wp2_with fail
  go_ret
  exact ⟨rfl, H.out.bel⟩
end Go.Proofs.YthdapglpaaigaaaDoor
