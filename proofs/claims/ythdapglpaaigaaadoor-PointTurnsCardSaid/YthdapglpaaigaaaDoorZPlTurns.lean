/-
  The walk of PointTurns. No statement is proved here: lemmas for the walks.
-/
import Derived.Test.YthdapglpaaigaaaDoorZPlAwake
import Derived.Deep.CutRange
namespace Go.Proofs.YthdapglpaaigaaaDoor
open Go.RowKit

theorem qn_one : qn 1 = 1 := rfl
theorem qn_two : qn 2 = 2 * 1 := rfl
theorem q1_is : pmul edK (qn 1) (pquarter : Pt pN dK) = pquarter := by rw [qn_one, pmul_one]
theorem q2_is : pmul edK (qn 2) (pquarter : Pt pN dK) = phalf := by rw [qn_two, pmul_two, pmul_one, quarter_two]
set_option maxRecDepth 20000 in
set_option maxHeartbeats 12800000 in
theorem turns_walk (u : Nat → BitVec 8) (y : Int) (w : World) (hT : Tp w) :
    Calls Tryd.prog 9 #[.agg (SpotA u y)] w fun e w' => e = .returned (.bool true) ∧ Below w.heap.size w w' := by
  obtain ⟨x1, hx1⟩ := num57 u
  have M1 := Lib.hid (fun w hT => made8_k u y x1 w hT hx1)
  obtain ⟨P1, hP1⟩ : ∃ P, spot x1 (qn y) = P := ⟨_, rfl⟩
  rw [hP1] at M1
  clear hP1 hx1
  have HT := Lib.hid hT
  clear hT
  have H := Lib.hid (Ow.start w)
  go_enter Tryd.func9, Tryd.ntmps9
  go_wp2_with (first
    | ((fail_if_success have := g1); (with_reducible apply own_boxS H); (case hgd => exact rfl); (case ho => exact rfl); (case hx => exact rfl); intro w1 g1 H' _ _; replace H := H'; clear H'; go_simp)
    | ((with_reducible apply own_loadS H); (case hgd => exact rfl); (case ho => exact rfl); (case hx => exact rfl); (case hi => first | exact at0 | exact at1 | exact at2 | exact at3 | exact at4 | exact at5 | exact at6 | exact at7 | exact at8 | exact at9); intro _ _; go_simp)
    | ((fail_if_success have := V1); (with_reducible refine (M1.out _ (HT.out.below H.out.bel)).mono ?_); rintro e wc ⟨k1, rfl, hv, hb⟩; replace H := Lib.hid (H.out.call hb); clear hb; have V1 := Lib.hid hv; clear hv)
    | ((fail_if_success have := V2); (with_reducible refine (quarter_k 1 _ (HT.out.below H.out.bel)).mono ?_); rintro e wc ⟨k2, rfl, hv, hb⟩; replace H := Lib.hid (H.out.call hb); clear hb; have V2 := Lib.hid (hv.eq q1_is); clear hv)
    | ((fail_if_success have := V3); (with_reducible refine (quarter_k 2 _ (HT.out.below H.out.bel)).mono ?_); rintro e wc ⟨k3, rfl, hv, hb⟩; replace H := Lib.hid (H.out.call hb); clear hb; have V3 := Lib.hid (hv.eq q2_is); clear hv)
    | ((fail_if_success have := g3); (fail_if_success have := g3); (with_reducible apply own_alloc nilPt H); (case hgd => exact rfl); (case ho => exact rfl); intro w3 g3 H' _ _; replace H := H'; clear H'; go_simp)
    | ((fail_if_success have := g5); (fail_if_success have := g5); (with_reducible apply own_alloc nilPt H); (case hgd => exact rfl); (case ho => exact rfl); intro w5 g5 H' _ _; replace H := H'; clear H'; go_simp)
    | ((fail_if_success have := g7); (fail_if_success have := g7); (with_reducible apply own_alloc nilPt H); (case hgd => exact rfl); (case ho => exact rfl); intro w7 g7 H' _ _; replace H := H'; clear H'; go_simp)
    | ((fail_if_success have := g9); (fail_if_success have := g9); (with_reducible apply own_alloc nilE H); (case hgd => exact rfl); (case ho => exact rfl); intro w9 g9 H' _ _; replace H := H'; clear H'; go_simp)
    | ((fail_if_success have := g10); (fail_if_success have := g10); (with_reducible apply own_alloc nilE H); (case hgd => exact rfl); (case ho => exact rfl); intro w10 g10 H' _ _; replace H := H'; clear H'; go_simp)
    | ((fail_if_success have := g11); (fail_if_success have := g11); (with_reducible apply own_alloc nilE H); (case hgd => exact rfl); (case ho => exact rfl); intro w11 g11 H' _ _; replace H := H'; clear H'; go_simp)
    | ((fail_if_success have := g12); (fail_if_success have := g12); (with_reducible apply own_alloc nilE H); (case hgd => exact rfl); (case ho => exact rfl); intro w12 g12 H' _ _; replace H := H'; clear H'; go_simp)
    | ((fail_if_success have := g13); (fail_if_success have := g13); (with_reducible apply own_alloc nilE H); (case hgd => exact rfl); (case ho => exact rfl); intro w13 g13 H' _ _; replace H := H'; clear H'; go_simp)
    | ((fail_if_success have := g14); (fail_if_success have := g14); (with_reducible apply own_alloc nilE H); (case hgd => exact rfl); (case ho => exact rfl); intro w14 g14 H' _ _; replace H := H'; clear H'; go_simp)
    | ((with_reducible apply own_store rowPt H); (case hgd => exact rfl); (case ho => exact rfl); (case hx => exact rfl); (case hy => exact rfl); (case hi => first | exact at0 | exact at1 | exact at2 | exact at3 | exact at4 | exact at5 | exact at6 | exact at7 | exact at8 | exact at9); intro ws H' _ _; replace H := H'; clear H'; simp only [List.set_cons_zero] at H; go_simp)
    | ((with_reducible apply own_load rowPt H); (case hgd => exact rfl); (case ho => exact rfl); (case hx => exact rfl); (case hi => first | exact at0 | exact at1 | exact at2 | exact at3 | exact at4 | exact at5 | exact at6 | exact at7 | exact at8 | exact at9); intro _ _; go_simp)
    | ((with_reducible apply own_store rowE H); (case hgd => exact rfl); (case ho => exact rfl); (case hx => exact rfl); (case hy => exact rfl); (case hi => first | exact at0 | exact at1 | exact at2 | exact at3 | exact at4 | exact at5 | exact at6 | exact at7 | exact at8 | exact at9); intro ws H' _ _; replace H := H'; clear H'; simp only [List.set_cons_zero, List.set_cons_succ] at H; go_simp)
    | ((fail_if_success have := A1); (with_reducible refine (ptAffine_k _ V1.out).mono ?_); rintro e wc ⟨a1, a2, rfl, hv1, hv2, hb⟩; replace H := Lib.hid (H.out.call hb); clear hb; have A1 := Lib.hid hv1; have A2 := Lib.hid hv2; clear hv1 hv2)
    | ((fail_if_success have := V4); (with_reducible refine (ptAdd_k _ (HT.out.below H.out.bel) V1.out V2.out).mono ?_); rintro e wc ⟨k4, rfl, hv, hb⟩; replace H := Lib.hid (H.out.call hb); clear hb; have V4 := Lib.hid hv; clear hv)
    | ((fail_if_success have := V5); (with_reducible refine (ptAdd_k _ (HT.out.below H.out.bel) V1.out V3.out).mono ?_); rintro e wc ⟨k5, rfl, hv, hb⟩; replace H := Lib.hid (H.out.call hb); clear hb; have V5 := Lib.hid hv; clear hv)
    | ((fail_if_success have := A3); (with_reducible refine (ptAffine_k _ V4.out).mono ?_); rintro e wc ⟨a3, a4, rfl, hv1, hv2, hb⟩; replace H := Lib.hid (H.out.call hb); clear hb; have A3 := Lib.hid hv1; have A4 := Lib.hid hv2; clear hv1 hv2)
    | ((fail_if_success have := A5); (with_reducible refine (ptAffine_k _ V5.out).mono ?_); rintro e wc ⟨a5, a6, rfl, hv1, hv2, hb⟩; replace H := Lib.hid (H.out.call hb); clear hb; have A5 := Lib.hid hv1; have A6 := Lib.hid hv2; clear hv1 hv2))
  refine wp_region_noPanic ?_
  refine wp_region_held_drew (S := fun W => W.heap[g11]? = some (Blk 30 .u64 8 (NZ a3)) ∧ W.heap[g10]? = some (Blk 30 .u64 8 (NZ a2)) ∧ W.heap[g12]? = some (Blk 30 .u64 8 (NZ a4)) ∧ W.heap[g9]? = some (Blk 30 .u64 8 (NZ a1)) ∧ W.heap[g13]? = some (Blk 30 .u64 8 (NZ a5)) ∧ W.heap[g14]? = some (Blk 30 .u64 8 (NZ a6))) (by kernel_rfl) (⟨H.out.drew.row 3 rfl, H.out.drew.row 4 rfl, H.out.drew.row 2 rfl, H.out.drew.row 5 rfl, H.out.drew.row 1 rfl, H.out.drew.row 0 rfl⟩) (fun hH => ?_)
  replace H := Lib.hid H.out.drew
  generalize World.drew _ = w8 at *
  refine held_row 0 57 rowE rfl rfl (by kernel_rfl) (by kernel_rfl) (by kernel_rfl) rfl hH rfl rfl (fun _ h => h.1) ?_
  try simp only [Act.put, List.setIfInBounds_toArray, List.set_cons_zero, List.set_cons_succ]
  refine held_row 1 58 rowE rfl rfl (by kernel_rfl) (by kernel_rfl) (by kernel_rfl) rfl hH rfl rfl (fun _ h => h.2.1) ?_
  try simp only [Act.put, List.setIfInBounds_toArray, List.set_cons_zero, List.set_cons_succ]
  refine wpAnyH_ready (rs := [2]) (by kernel_rfl) (by simp) ?_
  refine AllReadyH.cons (o := _) rfl (fun K hK => ?_) AllReadyH.nil
  go_simp
  refine (equal_kt _ (HT.out.below H.out.bel) A3.out A2.out ((padd_quarter edK P1).1)).mono ?_
  rintro e wc ⟨rfl, hb⟩
  replace H := Lib.hid (H.out.call hb)
  refine hK.out _ _ (⟨H.out.row 3 rfl, H.out.row 4 rfl, H.out.row 2 rfl, H.out.row 5 rfl, H.out.row 1 rfl, H.out.row 0 rfl⟩) (fun hN => ?_)
  clear hK K hH hb
  have hH := hN
  clear hN
  try simp only [Act.put, List.setIfInBounds_toArray, List.set_cons_zero, List.set_cons_succ]
  refine held_value 3 60 (.bool true) rfl rfl (by kernel_rfl) (by kernel_rfl) (by kernel_rfl) rfl hH (fun w hw => by go_simp) ?_
  try simp only [Act.put, List.setIfInBounds_toArray, List.set_cons_zero, List.set_cons_succ]
  refine held_row 4 61 rowE rfl rfl (by kernel_rfl) (by kernel_rfl) (by kernel_rfl) rfl hH rfl rfl (fun _ h => h.2.2.1) ?_
  try simp only [Act.put, List.setIfInBounds_toArray, List.set_cons_zero, List.set_cons_succ]
  refine held_row 5 62 rowE rfl rfl (by kernel_rfl) (by kernel_rfl) (by kernel_rfl) rfl hH rfl rfl (fun _ h => h.2.2.2.1) ?_
  try simp only [Act.put, List.setIfInBounds_toArray, List.set_cons_zero, List.set_cons_succ]
  refine wpAnyH_ready (rs := [6]) (by kernel_rfl) (by simp) ?_
  refine AllReadyH.cons (o := _) rfl (fun K hK => ?_) AllReadyH.nil
  go_simp
  refine (neg_k _ (HT.out.below H.out.bel) A1.out).mono ?_
  rintro e wc ⟨h63, rfl, hv, hb⟩
  replace H := Lib.hid (H.out.call hb)
  have HV63 := Lib.hid hv
  refine hK.out _ _ (⟨H.out.row 3 rfl, H.out.row 4 rfl, H.out.row 2 rfl, H.out.row 5 rfl, H.out.row 1 rfl, H.out.row 0 rfl⟩) (fun hN => ?_)
  clear hK K hH hb hv
  have hH := hN
  clear hN
  try simp only [Act.put, List.setIfInBounds_toArray, List.set_cons_zero, List.set_cons_succ]
  refine wpAnyH_ready (rs := [7]) (by kernel_rfl) (by simp) ?_
  refine AllReadyH.cons (o := _) rfl (fun K hK => ?_) AllReadyH.nil
  go_simp
  refine (equal_kt _ (HT.out.below H.out.bel) A4.out HV63.out ((padd_quarter edK P1).2)).mono ?_
  rintro e wc ⟨rfl, hb⟩
  replace H := Lib.hid (H.out.call hb)
  refine hK.out _ _ (⟨H.out.row 3 rfl, H.out.row 4 rfl, H.out.row 2 rfl, H.out.row 5 rfl, H.out.row 1 rfl, H.out.row 0 rfl⟩) (fun hN => ?_)
  clear hK K hH hb
  have hH := hN
  clear hN
  try simp only [Act.put, List.setIfInBounds_toArray, List.set_cons_zero, List.set_cons_succ]
  refine held_value 8 65 (.bool true) rfl rfl (by kernel_rfl) (by kernel_rfl) (by kernel_rfl) rfl hH (fun w hw => by go_simp) ?_
  try simp only [Act.put, List.setIfInBounds_toArray, List.set_cons_zero, List.set_cons_succ]
  refine held_value 9 66 (.bool true) rfl rfl (by kernel_rfl) (by kernel_rfl) (by kernel_rfl) rfl hH (fun w hw => by go_simp) ?_
  try simp only [Act.put, List.setIfInBounds_toArray, List.set_cons_zero, List.set_cons_succ]
  refine held_row 10 67 rowE rfl rfl (by kernel_rfl) (by kernel_rfl) (by kernel_rfl) rfl hH rfl rfl (fun _ h => h.2.2.2.2.1) ?_
  try simp only [Act.put, List.setIfInBounds_toArray, List.set_cons_zero, List.set_cons_succ]
  refine held_row 11 68 rowE rfl rfl (by kernel_rfl) (by kernel_rfl) (by kernel_rfl) rfl hH rfl rfl (fun _ h => h.2.2.2.1) ?_
  try simp only [Act.put, List.setIfInBounds_toArray, List.set_cons_zero, List.set_cons_succ]
  refine wpAnyH_ready (rs := [12]) (by kernel_rfl) (by simp) ?_
  refine AllReadyH.cons (o := _) rfl (fun K hK => ?_) AllReadyH.nil
  go_simp
  refine (neg_k _ (HT.out.below H.out.bel) A1.out).mono ?_
  rintro e wc ⟨h69, rfl, hv, hb⟩
  replace H := Lib.hid (H.out.call hb)
  have HV69 := Lib.hid hv
  refine hK.out _ _ (⟨H.out.row 3 rfl, H.out.row 4 rfl, H.out.row 2 rfl, H.out.row 5 rfl, H.out.row 1 rfl, H.out.row 0 rfl⟩) (fun hN => ?_)
  clear hK K hH hb hv
  have hH := hN
  clear hN
  try simp only [Act.put, List.setIfInBounds_toArray, List.set_cons_zero, List.set_cons_succ]
  refine wpAnyH_ready (rs := [13]) (by kernel_rfl) (by simp) ?_
  refine AllReadyH.cons (o := _) rfl (fun K hK => ?_) AllReadyH.nil
  go_simp
  refine (equal_kt _ (HT.out.below H.out.bel) A5.out HV69.out ((padd_half edK P1).1)).mono ?_
  rintro e wc ⟨rfl, hb⟩
  replace H := Lib.hid (H.out.call hb)
  refine hK.out _ _ (⟨H.out.row 3 rfl, H.out.row 4 rfl, H.out.row 2 rfl, H.out.row 5 rfl, H.out.row 1 rfl, H.out.row 0 rfl⟩) (fun hN => ?_)
  clear hK K hH hb
  have hH := hN
  clear hN
  try simp only [Act.put, List.setIfInBounds_toArray, List.set_cons_zero, List.set_cons_succ]
  refine held_value 14 71 (.bool true) rfl rfl (by kernel_rfl) (by kernel_rfl) (by kernel_rfl) rfl hH (fun w hw => by go_simp) ?_
  try simp only [Act.put, List.setIfInBounds_toArray, List.set_cons_zero, List.set_cons_succ]
  refine held_value 15 72 (.bool true) rfl rfl (by kernel_rfl) (by kernel_rfl) (by kernel_rfl) rfl hH (fun w hw => by go_simp) ?_
  try simp only [Act.put, List.setIfInBounds_toArray, List.set_cons_zero, List.set_cons_succ]
  refine held_row 16 73 rowE rfl rfl (by kernel_rfl) (by kernel_rfl) (by kernel_rfl) rfl hH rfl rfl (fun _ h => h.2.2.2.2.2) ?_
  try simp only [Act.put, List.setIfInBounds_toArray, List.set_cons_zero, List.set_cons_succ]
  refine held_row 17 74 rowE rfl rfl (by kernel_rfl) (by kernel_rfl) (by kernel_rfl) rfl hH rfl rfl (fun _ h => h.2.1) ?_
  try simp only [Act.put, List.setIfInBounds_toArray, List.set_cons_zero, List.set_cons_succ]
  refine wpAnyH_ready (rs := [18]) (by kernel_rfl) (by simp) ?_
  refine AllReadyH.cons (o := _) rfl (fun K hK => ?_) AllReadyH.nil
  go_simp
  refine (neg_k _ (HT.out.below H.out.bel) A2.out).mono ?_
  rintro e wc ⟨h75, rfl, hv, hb⟩
  replace H := Lib.hid (H.out.call hb)
  have HV75 := Lib.hid hv
  refine hK.out _ _ (⟨H.out.row 3 rfl, H.out.row 4 rfl, H.out.row 2 rfl, H.out.row 5 rfl, H.out.row 1 rfl, H.out.row 0 rfl⟩) (fun hN => ?_)
  clear hK K hH hb hv
  have hH := hN
  clear hN
  try simp only [Act.put, List.setIfInBounds_toArray, List.set_cons_zero, List.set_cons_succ]
  refine wpAnyH_ready (rs := [19]) (by kernel_rfl) (by simp) ?_
  refine AllReadyH.cons (o := _) rfl (fun K hK => ?_) AllReadyH.nil
  go_simp
  refine (equal_kt _ (HT.out.below H.out.bel) A6.out HV75.out ((padd_half edK P1).2)).mono ?_
  rintro e wc ⟨rfl, hb⟩
  replace H := Lib.hid (H.out.call hb)
  refine hK.out _ _ (⟨H.out.row 3 rfl, H.out.row 4 rfl, H.out.row 2 rfl, H.out.row 5 rfl, H.out.row 1 rfl, H.out.row 0 rfl⟩) (fun hN => ?_)
  clear hK K hH hb
  have hH := hN
  clear hN
  try simp only [Act.put, List.setIfInBounds_toArray, List.set_cons_zero, List.set_cons_succ]
  refine held_value 20 77 (.bool true) rfl rfl (by kernel_rfl) (by kernel_rfl) (by kernel_rfl) rfl hH (fun w hw => by go_simp) ?_
  try simp only [Act.put, List.setIfInBounds_toArray, List.set_cons_zero, List.set_cons_succ]
  refine held_value 21 78 (.bool true) rfl rfl (by kernel_rfl) (by kernel_rfl) (by kernel_rfl) rfl hH (fun w hw => by go_simp) ?_
  try simp only [Act.put, List.setIfInBounds_toArray, List.set_cons_zero, List.set_cons_succ]
  refine wpAnyH_ready (rs := [22]) (by kernel_rfl) (by simp) ?_
  refine AllReadyH.cons (o := _) rfl (fun K hK => ?_) AllReadyH.nil
  go_simp
  refine (awake8_k _ (HT.out.below H.out.bel)).mono ?_
  rintro e wc ⟨rfl, hb⟩
  replace H := Lib.hid (H.out.call hb)
  refine hK.out _ _ (⟨H.out.row 3 rfl, H.out.row 4 rfl, H.out.row 2 rfl, H.out.row 5 rfl, H.out.row 1 rfl, H.out.row 0 rfl⟩) (fun hN => ?_)
  clear hK K hH hb
  have hH := hN
  clear hN
  try simp only [Act.put, List.setIfInBounds_toArray, List.set_cons_zero, List.set_cons_succ]
  refine held_value 23 80 (.bool true) rfl rfl (by kernel_rfl) (by kernel_rfl) (by kernel_rfl) rfl hH (fun w hw => by go_simp) ?_
  try simp only [Act.put, List.setIfInBounds_toArray, List.set_cons_zero, List.set_cons_succ]
  refine held_value 24 2 (.bool true) rfl rfl (by kernel_rfl) (by kernel_rfl) (by kernel_rfl) rfl hH (fun w hw => by go_simp) ?_
  try simp only [Act.put, List.setIfInBounds_toArray, List.set_cons_zero, List.set_cons_succ]
  try simp only [Act.put]
  refine wpAnyH_done (by kernel_rfl) ?_ _
  refine NoPanic.normal ?_
  clear hH
  go_wp2_with fail
  go_ret
  exact ⟨rfl, H.out.bel⟩
end Go.Proofs.YthdapglpaaigaaaDoor
