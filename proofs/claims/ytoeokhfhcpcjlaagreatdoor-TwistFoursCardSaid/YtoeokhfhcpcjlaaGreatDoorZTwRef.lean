/-
 The contracts of the reference's x and y: Over, Add, To, Back. No statement is proved here: lemmas for the walks.
-/
import Derived.Test.YtoeokhfhcpcjlaaGreatDoorBuZ
import Derived.Test.YtoeokhfhcpcjlaaGreatDoorZRfPt
import Derived.Test.YtoeokhfhcpcjlaaGreatDoorBuQ
import Derived.Deep.CutRange
namespace Go.Proofs.YtoeokhfhcpcjlaaGreatDoor
open Go.RowKit
theorem k_two : (ofZ 2 : K) = 2 := by decide +kernel
theorem k_one : (ofZ 1 : K) = 1 := by decide +kernel
theorem k_n : (ofZ 39082 : K) = nK := by decide +kernel
theorem over_of {a b c : K} (h : b ≠ 0) (e : c * b = a) : a * inv b = c := by
 have := inv_mul prime_pN h
 rw [← e]
 generalize inv b = i at *
 grind
set_option maxRecDepth 8000 in
set_option maxHeartbeats 3200000 in
theorem refOver_k {a b : K} (w : World) : Calls Tryz.prog 55 #[FV a.val, FV b.val] w fun e w' => e = .returned (FV (a * inv b).val) ∧ Below w.heap.size w w' := by
 have H := Lib.hid (Ow.start w)
 go_enter Tryz.func55, Tryz.ntmps55
 go_wp2_with (first
  | ((fail_if_success have := g2); (with_reducible apply own_box H); (case hgd | ho | hx => exact rfl); intro w2 g2 H' _ _; replace H := H'; clear H'; go_simp)
  | ((fail_if_success have := g3); (fail_if_success have := g3); (with_reducible apply own_box H); (case hgd | ho | hx => exact rfl); intro w3 g3 H' _ _; replace H := H'; clear H'; go_simp)
  | ((fail_if_success have := g4); (with_reducible apply own_alloc intsF.zero H); (case hgd | ho => exact rfl); intro w4 g4 H' _ _; replace H := H'; clear H'; go_simp))
 refine wp_region_noPanic ?_
 refine wp_region_held_drew (S := fun W => W.heap[g2]? = some (Blk 31 .i64 16 (dF (a).val)) ∧ W.heap[g3]? = some (Blk 31 .i64 16 (dF (b).val))) (by kernel_rfl) (⟨H.out.drew.row 2 rfl, H.out.drew.row 1 rfl⟩) (fun hH => ?_)
 replace H := Lib.hid H.out.drew
 generalize World.drew _ = w8 at *
 refine held_row 0 5 rowF rfl rfl (by kernel_rfl) (by kernel_rfl) (by kernel_rfl) rfl hH rfl rfl (fun _ h => h.1) ?_
 try simp only [Act.put, List.setIfInBounds_toArray, List.set_cons_zero, List.set_cons_succ]
 refine held_row 1 6 rowF rfl rfl (by kernel_rfl) (by kernel_rfl) (by kernel_rfl) rfl hH rfl rfl (fun _ h => h.2) ?_
 try simp only [Act.put, List.setIfInBounds_toArray, List.set_cons_zero, List.set_cons_succ]
 refine wpAnyH_ready (rs := [2]) (by kernel_rfl) (by simp) ?_
 refine AllReadyH.cons (o := _) rfl (fun K hK => ?_) AllReadyH.nil
 go_simp
 refine (refInverse_k _).mono ?_
 rintro e wc ⟨rfl, hb⟩
 replace H := Lib.hid (H.out.call hb)
 refine hK.out _ _ (⟨H.out.row 2 rfl, H.out.row 1 rfl⟩) (fun hN => ?_)
 clear hK K hH hb
 have hH := hN
 clear hN
 try simp only [Act.put, List.setIfInBounds_toArray, List.set_cons_zero, List.set_cons_succ]
 refine wpAnyH_ready (rs := [3]) (by kernel_rfl) (by simp) ?_
 refine AllReadyH.cons (o := _) rfl (fun K hK => ?_) AllReadyH.nil
 go_simp
 refine (refMul_k _ _ _).mono ?_
 rintro e wc ⟨rfl, hb⟩
 replace H := Lib.hid (H.out.call hb)
 refine hK.out _ _ (⟨H.out.row 2 rfl, H.out.row 1 rfl⟩) (fun hN => ?_)
 clear hK K hH hb
 have hH := hN
 clear hN
 try simp only [Act.put, List.setIfInBounds_toArray, List.set_cons_zero, List.set_cons_succ]
 refine wpAnyH_ready (rs := [4]) (by kernel_rfl) (by simp) ?_
 refine AllReadyH.cons (o := _) rfl (fun K hK => ?_) AllReadyH.nil
 refine own_wp_store 0 rowF H.out rfl rfl rfl rfl ?_
 intro ws HS
 simp only [List.set_cons_zero] at HS
 replace H := Lib.hid HS
 refine hK.out _ _ (⟨H.out.row 2 rfl, H.out.row 1 rfl⟩) (fun hN => ?_)
 clear hK K HS hH
 have hH := hN
 clear hN
 try simp only [Act.put, List.setIfInBounds_toArray]
 try simp only [Act.put]
 refine wpAnyH_done (by kernel_rfl) ?_ _
 refine NoPanic.normal ?_
 clear hH
 go_wp2_with fail
 exact bodyPost_ret (own_result 0 rowF rfl _ H rfl rfl) rfl ⟨rfl, H.out.bel⟩
set_option maxRecDepth 8000 in
set_option maxHeartbeats 3200000 in
theorem refTAdd_x {X1 Y1 X2 Y2 : K} (w : World) :
  Calls Tryz.prog 19 #[T2 (T2v X1 Y1), T2 (T2v X2 Y2)] w fun e w' => e = .returned (T2 (T2v (((X1 * Y2) + (Y1 * X2)) * inv (ofZ (1) - (ofZ (39082) * ((X1 * Y2) * (Y1 * X2))))) (((Y1 * Y2) + (X1 * X2)) * inv (ofZ (1) + (ofZ (39082) * ((X1 * Y2) * (Y1 * X2))))))) ∧ Below w.heap.size w w' := by
 have H := Lib.hid (Ow.start w)
 go_enter Tryz.func19, Tryz.ntmps19
 go_upto_region 3 with (first
  | ((fail_if_success have := g2); (with_reducible apply own_box H); (case hgd | ho | hx => exact rfl); intro w2 g2 H' _ _; replace H := H'; clear H'; go_simp)
  | ((fail_if_success have := g3); (fail_if_success have := g3); (with_reducible apply own_box H); (case hgd | ho | hx => exact rfl); intro w3 g3 H' _ _; replace H := H'; clear H'; go_simp)
  | ((fail_if_success have := g4); (fail_if_success have := g4); (with_reducible apply own_alloc nilT2 H); (case hgd | ho => exact rfl); intro w4 g4 H' _ _; replace H := H'; clear H'; go_simp)
  | ((with_reducible apply own_load_p rowF H); (case hgd | ho | hx => exact rfl); (case hi => first|exact at0|exact at1|exact at2|exact at3|exact at4|exact at5|exact at6|exact at7|exact at8|exact at9); (case hp => first | exact partT_0 | exact partT_1); intro _ _; go_simp)
  | ((with_reducible apply own_load rowF H); (case hgd | ho | hx => exact rfl); (case hi => first|exact at0|exact at1|exact at2|exact at3|exact at4|exact at5|exact at6|exact at7|exact at8|exact at9); intro _ _; go_simp)
  | ((with_reducible apply own_store rowF H); (case hgd | ho | hx | hy => exact rfl); (case hi => first|exact at0|exact at1|exact at2|exact at3|exact at4|exact at5|exact at6|exact at7|exact at8|exact at9); intro ws H' _ _; replace H := H'; clear H'; simp only [List.set_cons_zero] at H; go_simp)
  | ((fail_if_success have := g5); (with_reducible refine (refMul_k (X1) (Y2) _).mono ?_); rintro e wc ⟨rfl, hb⟩; replace H := Lib.hid (H.out.call hb); clear hb)
  | ((fail_if_success have := g5); (fail_if_success have := g5); (with_reducible apply own_alloc intsF.zero H); (case hgd | ho => exact rfl); intro w5 g5 H' _ _; replace H := H'; clear H'; go_simp)
  | ((fail_if_success have := g6); (with_reducible refine (refMul_k (Y1) (X2) _).mono ?_); rintro e wc ⟨rfl, hb⟩; replace H := Lib.hid (H.out.call hb); clear hb)
  | ((fail_if_success have := g6); (fail_if_success have := g6); (with_reducible apply own_alloc intsF.zero H); (case hgd | ho => exact rfl); intro w6 g6 H' _ _; replace H := H'; clear H'; go_simp))
 go_cut [7] from 20 to 24 (fun v7 wx => ∃ g7, v7 = .pointer (some ⟨g7, 0, none⟩) ∧ Ow w wx [(g7, Blk 31 .i64 16 (dF (((ofZ (39082)) * ((X1 * Y2) * (Y1 * X2)))).val)), (g6, Blk 31 .i64 16 (dF ((Y1 * X2)).val)), (g5, Blk 31 .i64 16 (dF ((X1 * Y2)).val)), (g4, Blk 36 .i64 32 fun _ => 0), (g3, Blk 36 .i64 32 ((t2 16 (dF (X2).val) (dF (Y2).val)))), (g2, Blk 36 .i64 32 ((t2 16 (dF (X1).val) (dF (Y1).val))))])
 case first =>
  go_wp2_with fail
  refine wp_region_noPanic ?_
  refine wp_region_held_drew (S := fun W => W.heap[g5]? = some (Blk 31 .i64 16 (dF ((X1 * Y2)).val)) ∧ W.heap[g6]? = some (Blk 31 .i64 16 (dF ((Y1 * X2)).val))) (by kernel_rfl) (⟨H.out.drew.row 1 rfl, H.out.drew.row 0 rfl⟩) (fun hH => ?_)
  replace H := Lib.hid H.out.drew
  generalize World.drew _ = w8 at *
  refine held_row 1 21 rowF rfl rfl (by kernel_rfl) (by kernel_rfl) (by kernel_rfl) rfl hH rfl rfl (fun _ h => h.1) ?_
  try simp only [Act.put, List.setIfInBounds_toArray, List.set_cons_zero, List.set_cons_succ]
  refine held_row 2 22 rowF rfl rfl (by kernel_rfl) (by kernel_rfl) (by kernel_rfl) rfl hH rfl rfl (fun _ h => h.2) ?_
  try simp only [Act.put, List.setIfInBounds_toArray, List.set_cons_zero, List.set_cons_succ]
  refine wpAnyH_ready (rs := [0, 5]) (by kernel_rfl) (by simp) ?_
  refine AllReadyH.cons (o := _) rfl (fun K hK => ?_) (AllReadyH.cons (o := _) rfl (fun K hK => ?_) AllReadyH.nil)
  ·skip
   go_simp
   refine (refInt_k _ (39082) (by omega) (by omega)).mono ?_
   rintro e wc ⟨rfl, hb⟩
   replace H := Lib.hid (H.out.call hb)
   refine hK.out _ _ (⟨H.out.row 1 rfl, H.out.row 0 rfl⟩) (fun hN => ?_)
   clear hK K hH hb
   have hH := hN
   clear hN
   try simp only [Act.put, List.setIfInBounds_toArray, List.set_cons_zero, List.set_cons_succ]
   refine wpAnyH_ready (rs := [3, 5]) (by kernel_rfl) (by simp) ?_
   refine AllReadyH.cons (o := _) rfl (fun K hK => ?_) (AllReadyH.cons (o := _) rfl (fun K hK => ?_) AllReadyH.nil)
   ·skip
    go_simp
    refine (refMul_k _ _ _).mono ?_
    rintro e wc ⟨rfl, hb⟩
    replace H := Lib.hid (H.out.call hb)
    refine hK.out _ _ (⟨H.out.row 1 rfl, H.out.row 0 rfl⟩) (fun hN => ?_)
    clear hK K hH hb
    have hH := hN
    clear hN
    try simp only [Act.put, List.setIfInBounds_toArray, List.set_cons_zero, List.set_cons_succ]
    refine wpAnyH_ready (rs := [4, 5]) (by kernel_rfl) (by simp) ?_
    refine AllReadyH.cons (o := _) rfl (fun K hK => ?_) (AllReadyH.cons (o := _) rfl (fun K hK => ?_) AllReadyH.nil)
    ·skip
     go_simp
     refine (refMul_k _ _ _).mono ?_
     rintro e wc ⟨rfl, hb⟩
     replace H := Lib.hid (H.out.call hb)
     refine hK.out _ _ (⟨H.out.row 1 rfl, H.out.row 0 rfl⟩) (fun hN => ?_)
     clear hK K hH hb
     have hH := hN
     clear hN
     try simp only [Act.put, List.setIfInBounds_toArray, List.set_cons_zero, List.set_cons_succ]
     refine wpAnyH_ready (rs := [5]) (by kernel_rfl) (by simp) ?_
     refine AllReadyH.cons (o := _) rfl (fun K hK => ?_) AllReadyH.nil
     refine own_wp_allocB 7 rfl intsF.zero H.out rfl ?_
     intro w7 g7 H3 hb
     replace H := Lib.hid H3
     refine hK.out _ _ (⟨H.out.row 2 rfl, H.out.row 1 rfl⟩) (fun hN => ?_)
     clear hK K hH H3 hb
     have hH := hN
     clear hN
     try simp only [Act.put, List.setIfInBounds_toArray, List.set_cons_zero, List.set_cons_succ]
     refine wpAnyH_ready (rs := [6]) (by kernel_rfl) (by simp) ?_
     refine AllReadyH.cons (o := _) rfl (fun K hK => ?_) AllReadyH.nil
     refine own_wp_store 0 rowF H.out rfl rfl rfl rfl ?_
     intro ws HS
     simp only [List.set_cons_zero] at HS
     replace H := Lib.hid HS
     refine hK.out _ _ (⟨H.out.row 2 rfl, H.out.row 1 rfl⟩) (fun hN => ?_)
     clear hK K HS hH
     have hH := hN
     clear hN
     try simp only [Act.put, List.setIfInBounds_toArray]
     try simp only [Act.put]
     refine wpAnyH_done (by kernel_rfl) ?_ _
     refine NoPanic.normal ?_
     clear hH
     go_wp2_with fail
     go_meet
     exact ⟨g7, rfl, H.out⟩
    ·skip
     refine own_wp_allocB 7 rfl intsF.zero H.out rfl ?_
     intro w7 g7 H3 hb
     replace H := Lib.hid H3
     refine hK.out _ _ (⟨H.out.row 2 rfl, H.out.row 1 rfl⟩) (fun hN => ?_)
     clear hK K hH H3 hb
     have hH := hN
     clear hN
     try simp only [Act.put, List.setIfInBounds_toArray, List.set_cons_zero, List.set_cons_succ]
     refine wpAnyH_ready (rs := [4]) (by kernel_rfl) (by simp) ?_
     refine AllReadyH.cons (o := _) rfl (fun K hK => ?_) AllReadyH.nil
     go_simp
     refine (refMul_k _ _ _).mono ?_
     rintro e wc ⟨rfl, hb⟩
     replace H := Lib.hid (H.out.call hb)
     refine hK.out _ _ (⟨H.out.row 2 rfl, H.out.row 1 rfl⟩) (fun hN => ?_)
     clear hK K hH hb
     have hH := hN
     clear hN
     try simp only [Act.put, List.setIfInBounds_toArray, List.set_cons_zero, List.set_cons_succ]
     refine wpAnyH_ready (rs := [6]) (by kernel_rfl) (by simp) ?_
     refine AllReadyH.cons (o := _) rfl (fun K hK => ?_) AllReadyH.nil
     refine own_wp_store 0 rowF H.out rfl rfl rfl rfl ?_
     intro ws HS
     simp only [List.set_cons_zero] at HS
     replace H := Lib.hid HS
     refine hK.out _ _ (⟨H.out.row 2 rfl, H.out.row 1 rfl⟩) (fun hN => ?_)
     clear hK K HS hH
     have hH := hN
     clear hN
     try simp only [Act.put, List.setIfInBounds_toArray]
     try simp only [Act.put]
     refine wpAnyH_done (by kernel_rfl) ?_ _
     refine NoPanic.normal ?_
     clear hH
     go_wp2_with fail
     go_meet
     exact ⟨g7, rfl, H.out⟩
   ·skip
    refine own_wp_allocB 7 rfl intsF.zero H.out rfl ?_
    intro w7 g7 H3 hb
    replace H := Lib.hid H3
    refine hK.out _ _ (⟨H.out.row 2 rfl, H.out.row 1 rfl⟩) (fun hN => ?_)
    clear hK K hH H3 hb
    have hH := hN
    clear hN
    try simp only [Act.put, List.setIfInBounds_toArray, List.set_cons_zero, List.set_cons_succ]
    refine wpAnyH_ready (rs := [3]) (by kernel_rfl) (by simp) ?_
    refine AllReadyH.cons (o := _) rfl (fun K hK => ?_) AllReadyH.nil
    go_simp
    refine (refMul_k _ _ _).mono ?_
    rintro e wc ⟨rfl, hb⟩
    replace H := Lib.hid (H.out.call hb)
    refine hK.out _ _ (⟨H.out.row 2 rfl, H.out.row 1 rfl⟩) (fun hN => ?_)
    clear hK K hH hb
    have hH := hN
    clear hN
    try simp only [Act.put, List.setIfInBounds_toArray, List.set_cons_zero, List.set_cons_succ]
    refine wpAnyH_ready (rs := [4]) (by kernel_rfl) (by simp) ?_
    refine AllReadyH.cons (o := _) rfl (fun K hK => ?_) AllReadyH.nil
    go_simp
    refine (refMul_k _ _ _).mono ?_
    rintro e wc ⟨rfl, hb⟩
    replace H := Lib.hid (H.out.call hb)
    refine hK.out _ _ (⟨H.out.row 2 rfl, H.out.row 1 rfl⟩) (fun hN => ?_)
    clear hK K hH hb
    have hH := hN
    clear hN
    try simp only [Act.put, List.setIfInBounds_toArray, List.set_cons_zero, List.set_cons_succ]
    refine wpAnyH_ready (rs := [6]) (by kernel_rfl) (by simp) ?_
    refine AllReadyH.cons (o := _) rfl (fun K hK => ?_) AllReadyH.nil
    refine own_wp_store 0 rowF H.out rfl rfl rfl rfl ?_
    intro ws HS
    simp only [List.set_cons_zero] at HS
    replace H := Lib.hid HS
    refine hK.out _ _ (⟨H.out.row 2 rfl, H.out.row 1 rfl⟩) (fun hN => ?_)
    clear hK K HS hH
    have hH := hN
    clear hN
    try simp only [Act.put, List.setIfInBounds_toArray]
    try simp only [Act.put]
    refine wpAnyH_done (by kernel_rfl) ?_ _
    refine NoPanic.normal ?_
    clear hH
    go_wp2_with fail
    go_meet
    exact ⟨g7, rfl, H.out⟩
  ·skip
   refine own_wp_allocB 7 rfl intsF.zero H.out rfl ?_
   intro w7 g7 H3 hb
   replace H := Lib.hid H3
   refine hK.out _ _ (⟨H.out.row 2 rfl, H.out.row 1 rfl⟩) (fun hN => ?_)
   clear hK K hH H3 hb
   have hH := hN
   clear hN
   try simp only [Act.put, List.setIfInBounds_toArray, List.set_cons_zero, List.set_cons_succ]
   refine wpAnyH_ready (rs := [0]) (by kernel_rfl) (by simp) ?_
   refine AllReadyH.cons (o := _) rfl (fun K hK => ?_) AllReadyH.nil
   go_simp
   refine (refInt_k _ (39082) (by omega) (by omega)).mono ?_
   rintro e wc ⟨rfl, hb⟩
   replace H := Lib.hid (H.out.call hb)
   refine hK.out _ _ (⟨H.out.row 2 rfl, H.out.row 1 rfl⟩) (fun hN => ?_)
   clear hK K hH hb
   have hH := hN
   clear hN
   try simp only [Act.put, List.setIfInBounds_toArray, List.set_cons_zero, List.set_cons_succ]
   refine wpAnyH_ready (rs := [3]) (by kernel_rfl) (by simp) ?_
   refine AllReadyH.cons (o := _) rfl (fun K hK => ?_) AllReadyH.nil
   go_simp
   refine (refMul_k _ _ _).mono ?_
   rintro e wc ⟨rfl, hb⟩
   replace H := Lib.hid (H.out.call hb)
   refine hK.out _ _ (⟨H.out.row 2 rfl, H.out.row 1 rfl⟩) (fun hN => ?_)
   clear hK K hH hb
   have hH := hN
   clear hN
   try simp only [Act.put, List.setIfInBounds_toArray, List.set_cons_zero, List.set_cons_succ]
   refine wpAnyH_ready (rs := [4]) (by kernel_rfl) (by simp) ?_
   refine AllReadyH.cons (o := _) rfl (fun K hK => ?_) AllReadyH.nil
   go_simp
   refine (refMul_k _ _ _).mono ?_
   rintro e wc ⟨rfl, hb⟩
   replace H := Lib.hid (H.out.call hb)
   refine hK.out _ _ (⟨H.out.row 2 rfl, H.out.row 1 rfl⟩) (fun hN => ?_)
   clear hK K hH hb
   have hH := hN
   clear hN
   try simp only [Act.put, List.setIfInBounds_toArray, List.set_cons_zero, List.set_cons_succ]
   refine wpAnyH_ready (rs := [6]) (by kernel_rfl) (by simp) ?_
   refine AllReadyH.cons (o := _) rfl (fun K hK => ?_) AllReadyH.nil
   refine own_wp_store 0 rowF H.out rfl rfl rfl rfl ?_
   intro ws HS
   simp only [List.set_cons_zero] at HS
   replace H := Lib.hid HS
   refine hK.out _ _ (⟨H.out.row 2 rfl, H.out.row 1 rfl⟩) (fun hN => ?_)
   clear hK K HS hH
   have hH := hN
   clear hN
   try simp only [Act.put, List.setIfInBounds_toArray]
   try simp only [Act.put]
   refine wpAnyH_done (by kernel_rfl) ?_ _
   refine NoPanic.normal ?_
   clear hH
   go_wp2_with fail
   go_meet
   exact ⟨g7, rfl, H.out⟩
 clear H
 obtain ⟨g7, rfl, HRR⟩ := hcut
 have H := Lib.hid HRR
 clear HRR 
 go_upto_region 5 with (first
  | ((fail_if_success have := g8); (with_reducible refine (refInt_k _ 1 (by omega) (by omega)).mono ?_); rintro e wc ⟨rfl, hb⟩; replace H := Lib.hid (H.out.call hb); clear hb)
  | ((fail_if_success have := g8); (fail_if_success have := g8); (with_reducible apply own_alloc intsF.zero H); (case hgd | ho => exact rfl); intro w8 g8 H' _ _; replace H := H'; clear H'; go_simp)
  | ((with_reducible apply own_store rowF H); (case hgd | ho | hx | hy => exact rfl); (case hi => first|exact at0|exact at1|exact at2|exact at3|exact at4|exact at5|exact at6|exact at7|exact at8|exact at9); intro ws H' _ _; replace H := H'; clear H'; simp only [List.set_cons_zero] at H; go_simp))
 go_cut [9] from 26 to 36 (fun v9 wx => ∃ g9, v9 = .pointer (some ⟨g9, 0, none⟩) ∧ Ow w wx [(g9, Blk 31 .i64 16 (dF (((Y1 * Y2) + (X1 * X2))).val)), (g8, Blk 31 .i64 16 (dF ((ofZ (1))).val)), (g7, Blk 31 .i64 16 (dF (((ofZ (39082)) * ((X1 * Y2) * (Y1 * X2)))).val)), (g6, Blk 31 .i64 16 (dF ((Y1 * X2)).val)), (g5, Blk 31 .i64 16 (dF ((X1 * Y2)).val)), (g4, Blk 36 .i64 32 fun _ => 0), (g3, Blk 36 .i64 32 ((t2 16 (dF (X2).val) (dF (Y2).val)))), (g2, Blk 36 .i64 32 ((t2 16 (dF (X1).val) (dF (Y1).val))))])
 case first =>
  go_wp2_with fail
  refine wp_region_noPanic ?_
  refine wp_region_held_drew (S := fun W => W.heap[g2]? = some (Blk 36 .i64 32 ((t2 16 (dF (X1).val) (dF (Y1).val)))) ∧ W.heap[g3]? = some (Blk 36 .i64 32 ((t2 16 (dF (X2).val) (dF (Y2).val))))) (by kernel_rfl) (⟨H.out.drew.row 6 rfl, H.out.drew.row 5 rfl⟩) (fun hH => ?_)
  replace H := Lib.hid H.out.drew
  generalize World.drew _ = w8 at *
  refine held_value 0 26 (.pointer (some ⟨g2, 16, none⟩)) rfl rfl (by kernel_rfl) (by kernel_rfl) (by kernel_rfl) rfl hH (fun w hw => by go_simp) ?_
  try simp only [Act.put, List.setIfInBounds_toArray, List.set_cons_zero, List.set_cons_succ]
  refine held_part 1 27 rowF rfl rfl (by kernel_rfl) (by kernel_rfl) (by kernel_rfl) rfl hH rfl rfl partT_1 (fun _ h => h.1) ?_
  try simp only [Act.put, List.setIfInBounds_toArray, List.set_cons_zero, List.set_cons_succ]
  refine held_value 2 28 (.pointer (some ⟨g3, 16, none⟩)) rfl rfl (by kernel_rfl) (by kernel_rfl) (by kernel_rfl) rfl hH (fun w hw => by go_simp) ?_
  try simp only [Act.put, List.setIfInBounds_toArray, List.set_cons_zero, List.set_cons_succ]
  refine held_part 3 29 rowF rfl rfl (by kernel_rfl) (by kernel_rfl) (by kernel_rfl) rfl hH rfl rfl partT_1 (fun _ h => h.2) ?_
  try simp only [Act.put, List.setIfInBounds_toArray, List.set_cons_zero, List.set_cons_succ]
  refine held_value 5 31 (.pointer (some ⟨g2, 0, none⟩)) rfl rfl (by kernel_rfl) (by kernel_rfl) (by kernel_rfl) rfl hH (fun w hw => by go_simp) ?_
  try simp only [Act.put, List.setIfInBounds_toArray, List.set_cons_zero, List.set_cons_succ]
  refine held_part 6 32 rowF rfl rfl (by kernel_rfl) (by kernel_rfl) (by kernel_rfl) rfl hH rfl rfl partT_0 (fun _ h => h.1) ?_
  try simp only [Act.put, List.setIfInBounds_toArray, List.set_cons_zero, List.set_cons_succ]
  refine held_value 7 33 (.pointer (some ⟨g3, 0, none⟩)) rfl rfl (by kernel_rfl) (by kernel_rfl) (by kernel_rfl) rfl hH (fun w hw => by go_simp) ?_
  try simp only [Act.put, List.setIfInBounds_toArray, List.set_cons_zero, List.set_cons_succ]
  refine held_part 8 34 rowF rfl rfl (by kernel_rfl) (by kernel_rfl) (by kernel_rfl) rfl hH rfl rfl partT_0 (fun _ h => h.2) ?_
  try simp only [Act.put, List.setIfInBounds_toArray, List.set_cons_zero, List.set_cons_succ]
  refine wpAnyH_ready (rs := [4, 11]) (by kernel_rfl) (by simp) ?_
  refine AllReadyH.cons (o := _) rfl (fun K hK => ?_) (AllReadyH.cons (o := _) rfl (fun K hK => ?_) AllReadyH.nil)
  ·skip
   go_simp
   refine (refMul_k _ _ _).mono ?_
   rintro e wc ⟨rfl, hb⟩
   replace H := Lib.hid (H.out.call hb)
   refine hK.out _ _ (⟨H.out.row 6 rfl, H.out.row 5 rfl⟩) (fun hN => ?_)
   clear hK K hH hb
   have hH := hN
   clear hN
   try simp only [Act.put, List.setIfInBounds_toArray, List.set_cons_zero, List.set_cons_succ]
   refine wpAnyH_ready (rs := [9, 11]) (by kernel_rfl) (by simp) ?_
   refine AllReadyH.cons (o := _) rfl (fun K hK => ?_) (AllReadyH.cons (o := _) rfl (fun K hK => ?_) AllReadyH.nil)
   ·skip
    go_simp
    refine (refMul_k _ _ _).mono ?_
    rintro e wc ⟨rfl, hb⟩
    replace H := Lib.hid (H.out.call hb)
    refine hK.out _ _ (⟨H.out.row 6 rfl, H.out.row 5 rfl⟩) (fun hN => ?_)
    clear hK K hH hb
    have hH := hN
    clear hN
    try simp only [Act.put, List.setIfInBounds_toArray, List.set_cons_zero, List.set_cons_succ]
    refine wpAnyH_ready (rs := [10, 11]) (by kernel_rfl) (by simp) ?_
    refine AllReadyH.cons (o := _) rfl (fun K hK => ?_) (AllReadyH.cons (o := _) rfl (fun K hK => ?_) AllReadyH.nil)
    ·skip
     go_simp
     refine (refAdd_k _ _ _).mono ?_
     rintro e wc ⟨rfl, hb⟩
     replace H := Lib.hid (H.out.call hb)
     refine hK.out _ _ (⟨H.out.row 6 rfl, H.out.row 5 rfl⟩) (fun hN => ?_)
     clear hK K hH hb
     have hH := hN
     clear hN
     try simp only [Act.put, List.setIfInBounds_toArray, List.set_cons_zero, List.set_cons_succ]
     refine wpAnyH_ready (rs := [11]) (by kernel_rfl) (by simp) ?_
     refine AllReadyH.cons (o := _) rfl (fun K hK => ?_) AllReadyH.nil
     refine own_wp_allocB 9 rfl intsF.zero H.out rfl ?_
     intro w9 g9 H3 hb
     replace H := Lib.hid H3
     refine hK.out _ _ (⟨H.out.row 7 rfl, H.out.row 6 rfl⟩) (fun hN => ?_)
     clear hK K hH H3 hb
     have hH := hN
     clear hN
     try simp only [Act.put, List.setIfInBounds_toArray, List.set_cons_zero, List.set_cons_succ]
     refine wpAnyH_ready (rs := [12]) (by kernel_rfl) (by simp) ?_
     refine AllReadyH.cons (o := _) rfl (fun K hK => ?_) AllReadyH.nil
     refine own_wp_store 0 rowF H.out rfl rfl rfl rfl ?_
     intro ws HS
     simp only [List.set_cons_zero] at HS
     replace H := Lib.hid HS
     refine hK.out _ _ (⟨H.out.row 7 rfl, H.out.row 6 rfl⟩) (fun hN => ?_)
     clear hK K HS hH
     have hH := hN
     clear hN
     try simp only [Act.put, List.setIfInBounds_toArray]
     try simp only [Act.put]
     refine wpAnyH_done (by kernel_rfl) ?_ _
     refine NoPanic.normal ?_
     clear hH
     go_wp2_with fail
     go_meet
     exact ⟨g9, rfl, H.out⟩
    ·skip
     refine own_wp_allocB 9 rfl intsF.zero H.out rfl ?_
     intro w9 g9 H3 hb
     replace H := Lib.hid H3
     refine hK.out _ _ (⟨H.out.row 7 rfl, H.out.row 6 rfl⟩) (fun hN => ?_)
     clear hK K hH H3 hb
     have hH := hN
     clear hN
     try simp only [Act.put, List.setIfInBounds_toArray, List.set_cons_zero, List.set_cons_succ]
     refine wpAnyH_ready (rs := [10]) (by kernel_rfl) (by simp) ?_
     refine AllReadyH.cons (o := _) rfl (fun K hK => ?_) AllReadyH.nil
     go_simp
     refine (refAdd_k _ _ _).mono ?_
     rintro e wc ⟨rfl, hb⟩
     replace H := Lib.hid (H.out.call hb)
     refine hK.out _ _ (⟨H.out.row 7 rfl, H.out.row 6 rfl⟩) (fun hN => ?_)
     clear hK K hH hb
     have hH := hN
     clear hN
     try simp only [Act.put, List.setIfInBounds_toArray, List.set_cons_zero, List.set_cons_succ]
     refine wpAnyH_ready (rs := [12]) (by kernel_rfl) (by simp) ?_
     refine AllReadyH.cons (o := _) rfl (fun K hK => ?_) AllReadyH.nil
     refine own_wp_store 0 rowF H.out rfl rfl rfl rfl ?_
     intro ws HS
     simp only [List.set_cons_zero] at HS
     replace H := Lib.hid HS
     refine hK.out _ _ (⟨H.out.row 7 rfl, H.out.row 6 rfl⟩) (fun hN => ?_)
     clear hK K HS hH
     have hH := hN
     clear hN
     try simp only [Act.put, List.setIfInBounds_toArray]
     try simp only [Act.put]
     refine wpAnyH_done (by kernel_rfl) ?_ _
     refine NoPanic.normal ?_
     clear hH
     go_wp2_with fail
     go_meet
     exact ⟨g9, rfl, H.out⟩
   ·skip
    refine own_wp_allocB 9 rfl intsF.zero H.out rfl ?_
    intro w9 g9 H3 hb
    replace H := Lib.hid H3
    refine hK.out _ _ (⟨H.out.row 7 rfl, H.out.row 6 rfl⟩) (fun hN => ?_)
    clear hK K hH H3 hb
    have hH := hN
    clear hN
    try simp only [Act.put, List.setIfInBounds_toArray, List.set_cons_zero, List.set_cons_succ]
    refine wpAnyH_ready (rs := [9]) (by kernel_rfl) (by simp) ?_
    refine AllReadyH.cons (o := _) rfl (fun K hK => ?_) AllReadyH.nil
    go_simp
    refine (refMul_k _ _ _).mono ?_
    rintro e wc ⟨rfl, hb⟩
    replace H := Lib.hid (H.out.call hb)
    refine hK.out _ _ (⟨H.out.row 7 rfl, H.out.row 6 rfl⟩) (fun hN => ?_)
    clear hK K hH hb
    have hH := hN
    clear hN
    try simp only [Act.put, List.setIfInBounds_toArray, List.set_cons_zero, List.set_cons_succ]
    refine wpAnyH_ready (rs := [10]) (by kernel_rfl) (by simp) ?_
    refine AllReadyH.cons (o := _) rfl (fun K hK => ?_) AllReadyH.nil
    go_simp
    refine (refAdd_k _ _ _).mono ?_
    rintro e wc ⟨rfl, hb⟩
    replace H := Lib.hid (H.out.call hb)
    refine hK.out _ _ (⟨H.out.row 7 rfl, H.out.row 6 rfl⟩) (fun hN => ?_)
    clear hK K hH hb
    have hH := hN
    clear hN
    try simp only [Act.put, List.setIfInBounds_toArray, List.set_cons_zero, List.set_cons_succ]
    refine wpAnyH_ready (rs := [12]) (by kernel_rfl) (by simp) ?_
    refine AllReadyH.cons (o := _) rfl (fun K hK => ?_) AllReadyH.nil
    refine own_wp_store 0 rowF H.out rfl rfl rfl rfl ?_
    intro ws HS
    simp only [List.set_cons_zero] at HS
    replace H := Lib.hid HS
    refine hK.out _ _ (⟨H.out.row 7 rfl, H.out.row 6 rfl⟩) (fun hN => ?_)
    clear hK K HS hH
    have hH := hN
    clear hN
    try simp only [Act.put, List.setIfInBounds_toArray]
    try simp only [Act.put]
    refine wpAnyH_done (by kernel_rfl) ?_ _
    refine NoPanic.normal ?_
    clear hH
    go_wp2_with fail
    go_meet
    exact ⟨g9, rfl, H.out⟩
  ·skip
   refine own_wp_allocB 9 rfl intsF.zero H.out rfl ?_
   intro w9 g9 H3 hb
   replace H := Lib.hid H3
   refine hK.out _ _ (⟨H.out.row 7 rfl, H.out.row 6 rfl⟩) (fun hN => ?_)
   clear hK K hH H3 hb
   have hH := hN
   clear hN
   try simp only [Act.put, List.setIfInBounds_toArray, List.set_cons_zero, List.set_cons_succ]
   refine wpAnyH_ready (rs := [4]) (by kernel_rfl) (by simp) ?_
   refine AllReadyH.cons (o := _) rfl (fun K hK => ?_) AllReadyH.nil
   go_simp
   refine (refMul_k _ _ _).mono ?_
   rintro e wc ⟨rfl, hb⟩
   replace H := Lib.hid (H.out.call hb)
   refine hK.out _ _ (⟨H.out.row 7 rfl, H.out.row 6 rfl⟩) (fun hN => ?_)
   clear hK K hH hb
   have hH := hN
   clear hN
   try simp only [Act.put, List.setIfInBounds_toArray, List.set_cons_zero, List.set_cons_succ]
   refine wpAnyH_ready (rs := [9]) (by kernel_rfl) (by simp) ?_
   refine AllReadyH.cons (o := _) rfl (fun K hK => ?_) AllReadyH.nil
   go_simp
   refine (refMul_k _ _ _).mono ?_
   rintro e wc ⟨rfl, hb⟩
   replace H := Lib.hid (H.out.call hb)
   refine hK.out _ _ (⟨H.out.row 7 rfl, H.out.row 6 rfl⟩) (fun hN => ?_)
   clear hK K hH hb
   have hH := hN
   clear hN
   try simp only [Act.put, List.setIfInBounds_toArray, List.set_cons_zero, List.set_cons_succ]
   refine wpAnyH_ready (rs := [10]) (by kernel_rfl) (by simp) ?_
   refine AllReadyH.cons (o := _) rfl (fun K hK => ?_) AllReadyH.nil
   go_simp
   refine (refAdd_k _ _ _).mono ?_
   rintro e wc ⟨rfl, hb⟩
   replace H := Lib.hid (H.out.call hb)
   refine hK.out _ _ (⟨H.out.row 7 rfl, H.out.row 6 rfl⟩) (fun hN => ?_)
   clear hK K hH hb
   have hH := hN
   clear hN
   try simp only [Act.put, List.setIfInBounds_toArray, List.set_cons_zero, List.set_cons_succ]
   refine wpAnyH_ready (rs := [12]) (by kernel_rfl) (by simp) ?_
   refine AllReadyH.cons (o := _) rfl (fun K hK => ?_) AllReadyH.nil
   refine own_wp_store 0 rowF H.out rfl rfl rfl rfl ?_
   intro ws HS
   simp only [List.set_cons_zero] at HS
   replace H := Lib.hid HS
   refine hK.out _ _ (⟨H.out.row 7 rfl, H.out.row 6 rfl⟩) (fun hN => ?_)
   clear hK K HS hH
   have hH := hN
   clear hN
   try simp only [Act.put, List.setIfInBounds_toArray]
   try simp only [Act.put]
   refine wpAnyH_done (by kernel_rfl) ?_ _
   refine NoPanic.normal ?_
   clear hH
   go_wp2_with fail
   go_meet
   exact ⟨g9, rfl, H.out⟩
 clear H
 obtain ⟨g9, rfl, HRR⟩ := hcut
 have H := Lib.hid HRR
 clear HRR 
 go_upto_region 6 with fail
 refine wp_region_noPanic ?_
 refine wp_region_held_drew (S := fun W => W.heap[g5]? = some (Blk 31 .i64 16 (dF ((X1 * Y2)).val)) ∧ W.heap[g6]? = some (Blk 31 .i64 16 (dF ((Y1 * X2)).val)) ∧ W.heap[g8]? = some (Blk 31 .i64 16 (dF ((ofZ (1))).val)) ∧ W.heap[g7]? = some (Blk 31 .i64 16 (dF (((ofZ (39082)) * ((X1 * Y2) * (Y1 * X2)))).val)) ∧ W.heap[g9]? = some (Blk 31 .i64 16 (dF (((Y1 * Y2) + (X1 * X2))).val))) (by kernel_rfl) (⟨H.out.drew.row 4 rfl, H.out.drew.row 3 rfl, H.out.drew.row 1 rfl, H.out.drew.row 2 rfl, H.out.drew.row 0 rfl⟩) (fun hH => ?_)
 replace H := Lib.hid H.out.drew
 generalize World.drew _ = w8 at *
 refine held_row 0 37 rowF rfl rfl (by kernel_rfl) (by kernel_rfl) (by kernel_rfl) rfl hH rfl rfl (fun _ h => h.1) ?_
 try simp only [Act.put, List.setIfInBounds_toArray, List.set_cons_zero, List.set_cons_succ]
 refine held_row 1 38 rowF rfl rfl (by kernel_rfl) (by kernel_rfl) (by kernel_rfl) rfl hH rfl rfl (fun _ h => h.2.1) ?_
 try simp only [Act.put, List.setIfInBounds_toArray, List.set_cons_zero, List.set_cons_succ]
 refine held_row 3 40 rowF rfl rfl (by kernel_rfl) (by kernel_rfl) (by kernel_rfl) rfl hH rfl rfl (fun _ h => h.2.2.1) ?_
 try simp only [Act.put, List.setIfInBounds_toArray, List.set_cons_zero, List.set_cons_succ]
 refine held_row 4 41 rowF rfl rfl (by kernel_rfl) (by kernel_rfl) (by kernel_rfl) rfl hH rfl rfl (fun _ h => h.2.2.2.1) ?_
 try simp only [Act.put, List.setIfInBounds_toArray, List.set_cons_zero, List.set_cons_succ]
 refine held_row 7 44 rowF rfl rfl (by kernel_rfl) (by kernel_rfl) (by kernel_rfl) rfl hH rfl rfl (fun _ h => h.2.2.2.2) ?_
 try simp only [Act.put, List.setIfInBounds_toArray, List.set_cons_zero, List.set_cons_succ]
 refine held_row 8 45 rowF rfl rfl (by kernel_rfl) (by kernel_rfl) (by kernel_rfl) rfl hH rfl rfl (fun _ h => h.2.2.1) ?_
 try simp only [Act.put, List.setIfInBounds_toArray, List.set_cons_zero, List.set_cons_succ]
 refine held_row 9 46 rowF rfl rfl (by kernel_rfl) (by kernel_rfl) (by kernel_rfl) rfl hH rfl rfl (fun _ h => h.2.2.2.1) ?_
 try simp only [Act.put, List.setIfInBounds_toArray, List.set_cons_zero, List.set_cons_succ]
 refine wpAnyH_ready (rs := [2]) (by kernel_rfl) (by simp) ?_
 refine AllReadyH.cons (o := _) rfl (fun K hK => ?_) AllReadyH.nil
 go_simp
 refine (refAdd_k _ _ _).mono ?_
 rintro e wc ⟨rfl, hb⟩
 replace H := Lib.hid (H.out.call hb)
 refine hK.out _ _ (⟨H.out.row 4 rfl, H.out.row 3 rfl, H.out.row 1 rfl, H.out.row 2 rfl, H.out.row 0 rfl⟩) (fun hN => ?_)
 clear hK K hH hb
 have hH := hN
 clear hN
 try simp only [Act.put, List.setIfInBounds_toArray, List.set_cons_zero, List.set_cons_succ]
 refine wpAnyH_ready (rs := [5]) (by kernel_rfl) (by simp) ?_
 refine AllReadyH.cons (o := _) rfl (fun K hK => ?_) AllReadyH.nil
 go_simp
 refine (refSub_k _ _ _).mono ?_
 rintro e wc ⟨rfl, hb⟩
 replace H := Lib.hid (H.out.call hb)
 refine hK.out _ _ (⟨H.out.row 4 rfl, H.out.row 3 rfl, H.out.row 1 rfl, H.out.row 2 rfl, H.out.row 0 rfl⟩) (fun hN => ?_)
 clear hK K hH hb
 have hH := hN
 clear hN
 try simp only [Act.put, List.setIfInBounds_toArray, List.set_cons_zero, List.set_cons_succ]
 refine wpAnyH_ready (rs := [6]) (by kernel_rfl) (by simp) ?_
 refine AllReadyH.cons (o := _) rfl (fun K hK => ?_) AllReadyH.nil
 go_simp
 refine (refOver_k _).mono ?_
 rintro e wc ⟨rfl, hb⟩
 replace H := Lib.hid (H.out.call hb)
 refine hK.out _ _ (⟨H.out.row 4 rfl, H.out.row 3 rfl, H.out.row 1 rfl, H.out.row 2 rfl, H.out.row 0 rfl⟩) (fun hN => ?_)
 clear hK K hH hb
 have hH := hN
 clear hN
 try simp only [Act.put, List.setIfInBounds_toArray, List.set_cons_zero, List.set_cons_succ]
 refine wpAnyH_ready (rs := [10]) (by kernel_rfl) (by simp) ?_
 refine AllReadyH.cons (o := _) rfl (fun K hK => ?_) AllReadyH.nil
 go_simp
 refine (refAdd_k _ _ _).mono ?_
 rintro e wc ⟨rfl, hb⟩
 replace H := Lib.hid (H.out.call hb)
 refine hK.out _ _ (⟨H.out.row 4 rfl, H.out.row 3 rfl, H.out.row 1 rfl, H.out.row 2 rfl, H.out.row 0 rfl⟩) (fun hN => ?_)
 clear hK K hH hb
 have hH := hN
 clear hN
 try simp only [Act.put, List.setIfInBounds_toArray, List.set_cons_zero, List.set_cons_succ]
 refine wpAnyH_ready (rs := [11]) (by kernel_rfl) (by simp) ?_
 refine AllReadyH.cons (o := _) rfl (fun K hK => ?_) AllReadyH.nil
 go_simp
 refine (refOver_k _).mono ?_
 rintro e wc ⟨rfl, hb⟩
 replace H := Lib.hid (H.out.call hb)
 refine hK.out _ _ (⟨H.out.row 4 rfl, H.out.row 3 rfl, H.out.row 1 rfl, H.out.row 2 rfl, H.out.row 0 rfl⟩) (fun hN => ?_)
 clear hK K hH hb
 have hH := hN
 clear hN
 try simp only [Act.put, List.setIfInBounds_toArray, List.set_cons_zero, List.set_cons_succ]
 refine held_T2 12 49 rfl rfl (by kernel_rfl) (by kernel_rfl) (by kernel_rfl) rfl hH rfl rfl rfl ?_
 try simp only [Act.put, List.setIfInBounds_toArray, List.set_cons_zero, List.set_cons_succ]
 refine wpAnyH_ready (rs := [13]) (by kernel_rfl) (by simp) ?_
 refine AllReadyH.cons (o := _) rfl (fun K hK => ?_) AllReadyH.nil
 refine own_wp_store 5 rowT2 H.out rfl rfl rfl rfl ?_
 intro ws HS
 simp only [List.set_cons_zero, List.set_cons_succ] at HS
 replace H := Lib.hid HS
 refine hK.out _ _ (⟨H.out.row 4 rfl, H.out.row 3 rfl, H.out.row 1 rfl, H.out.row 2 rfl, H.out.row 0 rfl⟩) (fun hN => ?_)
 clear hK K HS hH
 have hH := hN
 clear hN
 try simp only [Act.put, List.setIfInBounds_toArray]
 try simp only [Act.put]
 refine wpAnyH_done (by kernel_rfl) ?_ _
 refine NoPanic.normal ?_
 clear hH
 go_wp2_with fail
 exact bodyPost_ret (own_result 5 rowT2 rfl _ H rfl rfl) rfl ⟨rfl, H.out.bel⟩
theorem refTAdd_k {P Q : Pt pN dK} (w : World) :
  Calls Tryz.prog 19 #[T2 (T2v (wtX P) (wtY P)), T2 (T2v (wtX Q) (wtY Q))] w fun e w' => e = .returned (T2 (T2v (wtX (padd edK P Q)) (wtY (padd edK P Q)))) ∧ Below w.heap.size w w' := by
 refine (refTAdd_x w).mono fun e w' h => ⟨h.1.trans ?_, h.2⟩
 have h1 := over_of (tw_less twK P Q) (tw_sum_x twK P Q)
 have h2 := over_of (tw_more twK P Q) (tw_sum_y twK P Q)
 rw [k_one, k_n]
 unfold wtc at h1 h2
 rw [h1, h2]
set_option maxRecDepth 8000 in
set_option maxHeartbeats 3200000 in
theorem refTTo_k {v : Nat → Int} {P : Pt pN dK} (w : World) (q : RfK v P) :
  Calls Tryz.prog 13 #[QO v] w fun e w' => e = .returned (T2 (T2v (wtX P) (wtY P))) ∧ Below w.heap.size w w' := by
 have Q1 := Lib.hid q
 clear q
 have HE : Hid (∀ X Y : K, P.x = X → P.y = Y → ofZ (2) * (X * Y) * inv (Y * Y - X * X) = wtX P ∧ (X * X + Y * Y) * inv (ofZ (2) - (X * X + Y * Y)) = wtY P) := Lib.hid (fun X Y hX hY => by
  subst hX hY
  rw [k_two]
  exact ⟨rfl, rfl⟩)
 have HA : Hid (∀ w, Calls Tryz.prog 52 #[QO v] w fun e w' => e = .returned (.tuple #[FV P.x.val, FV P.y.val]) ∧ Below w.heap.size w w') := Lib.hid (fun w => refAffine_k w Q1.out)
 clear Q1
 obtain ⟨X, hX⟩ : ∃ X, P.x = X := ⟨_, rfl⟩
 obtain ⟨Y, hY⟩ : ∃ Y, P.y = Y := ⟨_, rfl⟩
 replace HE := Lib.hid (HE.out X Y hX hY)
 rw [hX, hY] at HA
 clear hX hY
 obtain ⟨U, hU⟩ : ∃ U, wtX P = U := ⟨_, rfl⟩
 obtain ⟨V, hV⟩ : ∃ V, wtY P = V := ⟨_, rfl⟩
 rw [hU, hV] at HE ⊢
 clear hU hV
 have H := Lib.hid (Ow.start w)
 go_enter Tryz.func13, Tryz.ntmps13
 go_upto_region 6 with (first
  | ((fail_if_success have := g1); (with_reducible apply own_box H); (case hgd | ho | hx => exact rfl); intro w1 g1 H' _ _; replace H := H'; clear H'; go_simp)
  | ((fail_if_success have := g2); (fail_if_success have := g2); (with_reducible apply own_alloc nilT2 H); (case hgd | ho => exact rfl); intro w2 g2 H' _ _; replace H := H'; clear H'; go_simp)
  | ((with_reducible apply own_load rowQt H); (case hgd | ho | hx => exact rfl); (case hi => first|exact at0|exact at1|exact at2|exact at3|exact at4|exact at5|exact at6|exact at7|exact at8|exact at9); intro _ _; go_simp)
  | ((fail_if_success have := g3); (with_reducible refine (HA.out _).mono ?_); rintro e wc ⟨rfl, hb⟩; replace H := Lib.hid (H.out.call hb); clear hb)
  | ((fail_if_success have := g3); (fail_if_success have := g3); (with_reducible apply own_alloc intsF.zero H); (case hgd | ho => exact rfl); intro w3 g3 H' _ _; replace H := H'; clear H'; go_simp)
  | ((fail_if_success have := g4); (fail_if_success have := g4); (with_reducible apply own_alloc intsF.zero H); (case hgd | ho => exact rfl); intro w4 g4 H' _ _; replace H := H'; clear H'; go_simp)
  | ((with_reducible apply own_load rowF H); (case hgd | ho | hx => exact rfl); (case hi => first|exact at0|exact at1|exact at2|exact at3|exact at4|exact at5|exact at6|exact at7|exact at8|exact at9); intro _ _; go_simp)
  | ((with_reducible apply own_store rowF H); (case hgd | ho | hx | hy => exact rfl); (case hi => first|exact at0|exact at1|exact at2|exact at3|exact at4|exact at5|exact at6|exact at7|exact at8|exact at9); intro ws H' _ _; replace H := H'; clear H'; simp only [List.set_cons_zero, List.set_cons_succ] at H; go_simp)
  | ((fail_if_success have := g5); (with_reducible refine (refMul_k (X) (X) _).mono ?_); rintro e wc ⟨rfl, hb⟩; replace H := Lib.hid (H.out.call hb); clear hb)
  | ((fail_if_success have := g5); (fail_if_success have := g5); (with_reducible apply own_alloc intsF.zero H); (case hgd | ho => exact rfl); intro w5 g5 H' _ _; replace H := H'; clear H'; go_simp)
  | ((fail_if_success have := g6); (with_reducible refine (refMul_k (Y) (Y) _).mono ?_); rintro e wc ⟨rfl, hb⟩; replace H := Lib.hid (H.out.call hb); clear hb)
  | ((fail_if_success have := g6); (fail_if_success have := g6); (with_reducible apply own_alloc intsF.zero H); (case hgd | ho => exact rfl); intro w6 g6 H' _ _; replace H := H'; clear H'; go_simp)
  | ((fail_if_success have := g7); (with_reducible refine (refInt_k _ 2 (by omega) (by omega)).mono ?_); rintro e wc ⟨rfl, hb⟩; replace H := Lib.hid (H.out.call hb); clear hb)
  | ((fail_if_success have := g7); (fail_if_success have := g7); (with_reducible apply own_alloc intsF.zero H); (case hgd | ho => exact rfl); intro w7 g7 H' _ _; replace H := H'; clear H'; go_simp)
  | ((fail_if_success have := g8); (with_reducible refine (refAdd_k (X * X) (Y * Y) _).mono ?_); rintro e wc ⟨rfl, hb⟩; replace H := Lib.hid (H.out.call hb); clear hb)
  | ((fail_if_success have := g8); (fail_if_success have := g8); (with_reducible apply own_alloc intsF.zero H); (case hgd | ho => exact rfl); intro w8 g8 H' _ _; replace H := H'; clear H'; go_simp))
 refine wp_region_noPanic ?_
 refine wp_region_held_drew (S := fun W => W.heap[g7]? = some (Blk 31 .i64 16 (dF ((ofZ (2))).val)) ∧ W.heap[g3]? = some (Blk 31 .i64 16 (dF (X).val)) ∧ W.heap[g4]? = some (Blk 31 .i64 16 (dF (Y).val)) ∧ W.heap[g6]? = some (Blk 31 .i64 16 (dF ((Y * Y)).val)) ∧ W.heap[g5]? = some (Blk 31 .i64 16 (dF ((X * X)).val)) ∧ W.heap[g8]? = some (Blk 31 .i64 16 (dF (((X * X) + (Y * Y))).val))) (by kernel_rfl) (⟨H.out.drew.row 1 rfl, H.out.drew.row 5 rfl, H.out.drew.row 4 rfl, H.out.drew.row 2 rfl, H.out.drew.row 3 rfl, H.out.drew.row 0 rfl⟩) (fun hH => ?_)
 replace H := Lib.hid H.out.drew
 generalize World.drew _ = w8 at *
 refine held_row 0 24 rowF rfl rfl (by kernel_rfl) (by kernel_rfl) (by kernel_rfl) rfl hH rfl rfl (fun _ h => h.1) ?_
 try simp only [Act.put, List.setIfInBounds_toArray, List.set_cons_zero, List.set_cons_succ]
 refine held_row 1 25 rowF rfl rfl (by kernel_rfl) (by kernel_rfl) (by kernel_rfl) rfl hH rfl rfl (fun _ h => h.2.1) ?_
 try simp only [Act.put, List.setIfInBounds_toArray, List.set_cons_zero, List.set_cons_succ]
 refine held_row 2 26 rowF rfl rfl (by kernel_rfl) (by kernel_rfl) (by kernel_rfl) rfl hH rfl rfl (fun _ h => h.2.2.1) ?_
 try simp only [Act.put, List.setIfInBounds_toArray, List.set_cons_zero, List.set_cons_succ]
 refine held_row 5 29 rowF rfl rfl (by kernel_rfl) (by kernel_rfl) (by kernel_rfl) rfl hH rfl rfl (fun _ h => h.2.2.2.1) ?_
 try simp only [Act.put, List.setIfInBounds_toArray, List.set_cons_zero, List.set_cons_succ]
 refine held_row 6 30 rowF rfl rfl (by kernel_rfl) (by kernel_rfl) (by kernel_rfl) rfl hH rfl rfl (fun _ h => h.2.2.2.2.1) ?_
 try simp only [Act.put, List.setIfInBounds_toArray, List.set_cons_zero, List.set_cons_succ]
 refine held_row 9 33 rowF rfl rfl (by kernel_rfl) (by kernel_rfl) (by kernel_rfl) rfl hH rfl rfl (fun _ h => h.2.2.2.2.2) ?_
 try simp only [Act.put, List.setIfInBounds_toArray, List.set_cons_zero, List.set_cons_succ]
 refine held_row 10 34 rowF rfl rfl (by kernel_rfl) (by kernel_rfl) (by kernel_rfl) rfl hH rfl rfl (fun _ h => h.1) ?_
 try simp only [Act.put, List.setIfInBounds_toArray, List.set_cons_zero, List.set_cons_succ]
 refine held_row 11 35 rowF rfl rfl (by kernel_rfl) (by kernel_rfl) (by kernel_rfl) rfl hH rfl rfl (fun _ h => h.2.2.2.2.2) ?_
 try simp only [Act.put, List.setIfInBounds_toArray, List.set_cons_zero, List.set_cons_succ]
 refine wpAnyH_ready (rs := [3]) (by kernel_rfl) (by simp) ?_
 refine AllReadyH.cons (o := _) rfl (fun K hK => ?_) AllReadyH.nil
 go_simp
 refine (refMul_k _ _ _).mono ?_
 rintro e wc ⟨rfl, hb⟩
 replace H := Lib.hid (H.out.call hb)
 refine hK.out _ _ (⟨H.out.row 1 rfl, H.out.row 5 rfl, H.out.row 4 rfl, H.out.row 2 rfl, H.out.row 3 rfl, H.out.row 0 rfl⟩) (fun hN => ?_)
 clear hK K hH hb
 have hH := hN
 clear hN
 try simp only [Act.put, List.setIfInBounds_toArray, List.set_cons_zero, List.set_cons_succ]
 refine wpAnyH_ready (rs := [4]) (by kernel_rfl) (by simp) ?_
 refine AllReadyH.cons (o := _) rfl (fun K hK => ?_) AllReadyH.nil
 go_simp
 refine (refMul_k _ _ _).mono ?_
 rintro e wc ⟨rfl, hb⟩
 replace H := Lib.hid (H.out.call hb)
 refine hK.out _ _ (⟨H.out.row 1 rfl, H.out.row 5 rfl, H.out.row 4 rfl, H.out.row 2 rfl, H.out.row 3 rfl, H.out.row 0 rfl⟩) (fun hN => ?_)
 clear hK K hH hb
 have hH := hN
 clear hN
 try simp only [Act.put, List.setIfInBounds_toArray, List.set_cons_zero, List.set_cons_succ]
 refine wpAnyH_ready (rs := [7]) (by kernel_rfl) (by simp) ?_
 refine AllReadyH.cons (o := _) rfl (fun K hK => ?_) AllReadyH.nil
 go_simp
 refine (refSub_k _ _ _).mono ?_
 rintro e wc ⟨rfl, hb⟩
 replace H := Lib.hid (H.out.call hb)
 refine hK.out _ _ (⟨H.out.row 1 rfl, H.out.row 5 rfl, H.out.row 4 rfl, H.out.row 2 rfl, H.out.row 3 rfl, H.out.row 0 rfl⟩) (fun hN => ?_)
 clear hK K hH hb
 have hH := hN
 clear hN
 try simp only [Act.put, List.setIfInBounds_toArray, List.set_cons_zero, List.set_cons_succ]
 refine wpAnyH_ready (rs := [8]) (by kernel_rfl) (by simp) ?_
 refine AllReadyH.cons (o := _) rfl (fun K hK => ?_) AllReadyH.nil
 go_simp
 refine (refOver_k _).mono ?_
 rintro e wc ⟨rfl, hb⟩
 replace H := Lib.hid (H.out.call hb)
 refine hK.out _ _ (⟨H.out.row 1 rfl, H.out.row 5 rfl, H.out.row 4 rfl, H.out.row 2 rfl, H.out.row 3 rfl, H.out.row 0 rfl⟩) (fun hN => ?_)
 clear hK K hH hb
 have hH := hN
 clear hN
 try simp only [Act.put, List.setIfInBounds_toArray, List.set_cons_zero, List.set_cons_succ]
 refine wpAnyH_ready (rs := [12]) (by kernel_rfl) (by simp) ?_
 refine AllReadyH.cons (o := _) rfl (fun K hK => ?_) AllReadyH.nil
 go_simp
 refine (refSub_k _ _ _).mono ?_
 rintro e wc ⟨rfl, hb⟩
 replace H := Lib.hid (H.out.call hb)
 refine hK.out _ _ (⟨H.out.row 1 rfl, H.out.row 5 rfl, H.out.row 4 rfl, H.out.row 2 rfl, H.out.row 3 rfl, H.out.row 0 rfl⟩) (fun hN => ?_)
 clear hK K hH hb
 have hH := hN
 clear hN
 try simp only [Act.put, List.setIfInBounds_toArray, List.set_cons_zero, List.set_cons_succ]
 refine wpAnyH_ready (rs := [13]) (by kernel_rfl) (by simp) ?_
 refine AllReadyH.cons (o := _) rfl (fun K hK => ?_) AllReadyH.nil
 go_simp
 refine (refOver_k _).mono ?_
 rintro e wc ⟨rfl, hb⟩
 replace H := Lib.hid (H.out.call hb)
 refine hK.out _ _ (⟨H.out.row 1 rfl, H.out.row 5 rfl, H.out.row 4 rfl, H.out.row 2 rfl, H.out.row 3 rfl, H.out.row 0 rfl⟩) (fun hN => ?_)
 clear hK K hH hb
 have hH := hN
 clear hN
 try simp only [Act.put, List.setIfInBounds_toArray, List.set_cons_zero, List.set_cons_succ]
 refine held_T2 14 38 rfl rfl (by kernel_rfl) (by kernel_rfl) (by kernel_rfl) rfl hH rfl rfl rfl ?_
 try simp only [Act.put, List.setIfInBounds_toArray, List.set_cons_zero, List.set_cons_succ]
 refine wpAnyH_ready (rs := [15]) (by kernel_rfl) (by simp) ?_
 refine AllReadyH.cons (o := _) rfl (fun K hK => ?_) AllReadyH.nil
 refine own_wp_store 6 rowT2 H.out rfl rfl rfl rfl ?_
 intro ws HS
 simp only [List.set_cons_zero, List.set_cons_succ] at HS
 replace H := Lib.hid HS
 refine hK.out _ _ (⟨H.out.row 1 rfl, H.out.row 5 rfl, H.out.row 4 rfl, H.out.row 2 rfl, H.out.row 3 rfl, H.out.row 0 rfl⟩) (fun hN => ?_)
 clear hK K HS hH
 have hH := hN
 clear hN
 try simp only [Act.put, List.setIfInBounds_toArray]
 try simp only [Act.put]
 refine wpAnyH_done (by kernel_rfl) ?_ _
 refine NoPanic.normal ?_
 clear hH
 go_wp2_with fail
 rw [HE.out.1, HE.out.2] at H
 exact bodyPost_ret (own_result 6 rowT2 rfl _ H rfl rfl) rfl ⟨rfl, H.out.bel⟩
set_option maxRecDepth 8000 in
set_option maxHeartbeats 3200000 in
theorem refTBack_x {X Y : K} (w : World) :
  Calls Tryz.prog 24 #[T2 (T2v X Y)] w fun e w' => e = .returned (.tuple #[FV (ofZ (2) * (X * Y) * inv (X * X + Y * Y)).val, FV ((Y * Y - X * X) * inv (ofZ (2) - (Y * Y - X * X))).val]) ∧ Below w.heap.size w w' := by
 have H := Lib.hid (Ow.start w)
 go_enter Tryz.func24, Tryz.ntmps24
 go_upto_region 5 with (first
  | ((fail_if_success have := g1); (with_reducible apply own_box H); (case hgd | ho | hx => exact rfl); intro w1 g1 H' _ _; replace H := H'; clear H'; go_simp)
  | ((fail_if_success have := g2); (fail_if_success have := g2); (with_reducible apply own_alloc intsF.zero H); (case hgd | ho => exact rfl); intro w2 g2 H' _ _; replace H := H'; clear H'; go_simp)
  | ((fail_if_success have := g3); (fail_if_success have := g3); (with_reducible apply own_alloc intsF.zero H); (case hgd | ho => exact rfl); intro w3 g3 H' _ _; replace H := H'; clear H'; go_simp)
  | ((with_reducible apply own_load_p rowF H); (case hgd | ho | hx => exact rfl); (case hi => first|exact at0|exact at1|exact at2|exact at3|exact at4|exact at5|exact at6|exact at7|exact at8|exact at9); (case hp => first | exact partT_0 | exact partT_1); intro _ _; go_simp)
  | ((with_reducible apply own_load rowF H); (case hgd | ho | hx => exact rfl); (case hi => first|exact at0|exact at1|exact at2|exact at3|exact at4|exact at5|exact at6|exact at7|exact at8|exact at9); intro _ _; go_simp)
  | ((with_reducible apply own_store rowF H); (case hgd | ho | hx | hy => exact rfl); (case hi => first|exact at0|exact at1|exact at2|exact at3|exact at4|exact at5|exact at6|exact at7|exact at8|exact at9); intro ws H' _ _; replace H := H'; clear H'; simp only [List.set_cons_zero] at H; go_simp)
  | ((fail_if_success have := g4); (with_reducible refine (refMul_k (X) (X) _).mono ?_); rintro e wc ⟨rfl, hb⟩; replace H := Lib.hid (H.out.call hb); clear hb)
  | ((fail_if_success have := g4); (fail_if_success have := g4); (with_reducible apply own_alloc intsF.zero H); (case hgd | ho => exact rfl); intro w4 g4 H' _ _; replace H := H'; clear H'; go_simp)
  | ((fail_if_success have := g5); (with_reducible refine (refMul_k (Y) (Y) _).mono ?_); rintro e wc ⟨rfl, hb⟩; replace H := Lib.hid (H.out.call hb); clear hb)
  | ((fail_if_success have := g5); (fail_if_success have := g5); (with_reducible apply own_alloc intsF.zero H); (case hgd | ho => exact rfl); intro w5 g5 H' _ _; replace H := H'; clear H'; go_simp)
  | ((fail_if_success have := g6); (with_reducible refine (refInt_k _ 2 (by omega) (by omega)).mono ?_); rintro e wc ⟨rfl, hb⟩; replace H := Lib.hid (H.out.call hb); clear hb)
  | ((fail_if_success have := g6); (fail_if_success have := g6); (with_reducible apply own_alloc intsF.zero H); (case hgd | ho => exact rfl); intro w6 g6 H' _ _; replace H := H'; clear H'; go_simp)
  | ((fail_if_success have := g7); (with_reducible refine (refSub_k (Y * Y) (X * X) _).mono ?_); rintro e wc ⟨rfl, hb⟩; replace H := Lib.hid (H.out.call hb); clear hb)
  | ((fail_if_success have := g7); (fail_if_success have := g7); (with_reducible apply own_alloc intsF.zero H); (case hgd | ho => exact rfl); intro w7 g7 H' _ _; replace H := H'; clear H'; go_simp))
 refine wp_region_noPanic ?_
 refine wp_region_held_drew (S := fun W => W.heap[g6]? = some (Blk 31 .i64 16 (dF ((ofZ (2))).val)) ∧ W.heap[g1]? = some (Blk 36 .i64 32 ((t2 16 (dF (X).val) (dF (Y).val)))) ∧ W.heap[g4]? = some (Blk 31 .i64 16 (dF ((X * X)).val)) ∧ W.heap[g5]? = some (Blk 31 .i64 16 (dF ((Y * Y)).val)) ∧ W.heap[g7]? = some (Blk 31 .i64 16 (dF (((Y * Y) - (X * X))).val))) (by kernel_rfl) (⟨H.out.drew.row 1 rfl, H.out.drew.row 6 rfl, H.out.drew.row 3 rfl, H.out.drew.row 2 rfl, H.out.drew.row 0 rfl⟩) (fun hH => ?_)
 replace H := Lib.hid H.out.drew
 generalize World.drew _ = w8 at *
 refine held_row 0 22 rowF rfl rfl (by kernel_rfl) (by kernel_rfl) (by kernel_rfl) rfl hH rfl rfl (fun _ h => h.1) ?_
 try simp only [Act.put, List.setIfInBounds_toArray, List.set_cons_zero, List.set_cons_succ]
 refine held_value 1 23 (.pointer (some ⟨g1, 0, none⟩)) rfl rfl (by kernel_rfl) (by kernel_rfl) (by kernel_rfl) rfl hH (fun w hw => by go_simp) ?_
 try simp only [Act.put, List.setIfInBounds_toArray, List.set_cons_zero, List.set_cons_succ]
 refine held_part 2 24 rowF rfl rfl (by kernel_rfl) (by kernel_rfl) (by kernel_rfl) rfl hH rfl rfl partT_0 (fun _ h => h.2.1) ?_
 try simp only [Act.put, List.setIfInBounds_toArray, List.set_cons_zero, List.set_cons_succ]
 refine held_value 3 25 (.pointer (some ⟨g1, 16, none⟩)) rfl rfl (by kernel_rfl) (by kernel_rfl) (by kernel_rfl) rfl hH (fun w hw => by go_simp) ?_
 try simp only [Act.put, List.setIfInBounds_toArray, List.set_cons_zero, List.set_cons_succ]
 refine held_part 4 26 rowF rfl rfl (by kernel_rfl) (by kernel_rfl) (by kernel_rfl) rfl hH rfl rfl partT_1 (fun _ h => h.2.1) ?_
 try simp only [Act.put, List.setIfInBounds_toArray, List.set_cons_zero, List.set_cons_succ]
 refine held_row 7 29 rowF rfl rfl (by kernel_rfl) (by kernel_rfl) (by kernel_rfl) rfl hH rfl rfl (fun _ h => h.2.2.1) ?_
 try simp only [Act.put, List.setIfInBounds_toArray, List.set_cons_zero, List.set_cons_succ]
 refine held_row 8 30 rowF rfl rfl (by kernel_rfl) (by kernel_rfl) (by kernel_rfl) rfl hH rfl rfl (fun _ h => h.2.2.2.1) ?_
 try simp only [Act.put, List.setIfInBounds_toArray, List.set_cons_zero, List.set_cons_succ]
 refine held_row 11 33 rowF rfl rfl (by kernel_rfl) (by kernel_rfl) (by kernel_rfl) rfl hH rfl rfl (fun _ h => h.2.2.2.2) ?_
 try simp only [Act.put, List.setIfInBounds_toArray, List.set_cons_zero, List.set_cons_succ]
 refine held_row 12 34 rowF rfl rfl (by kernel_rfl) (by kernel_rfl) (by kernel_rfl) rfl hH rfl rfl (fun _ h => h.1) ?_
 try simp only [Act.put, List.setIfInBounds_toArray, List.set_cons_zero, List.set_cons_succ]
 refine held_row 13 35 rowF rfl rfl (by kernel_rfl) (by kernel_rfl) (by kernel_rfl) rfl hH rfl rfl (fun _ h => h.2.2.2.2) ?_
 try simp only [Act.put, List.setIfInBounds_toArray, List.set_cons_zero, List.set_cons_succ]
 refine wpAnyH_ready (rs := [5]) (by kernel_rfl) (by simp) ?_
 refine AllReadyH.cons (o := _) rfl (fun K hK => ?_) AllReadyH.nil
 go_simp
 refine (refMul_k _ _ _).mono ?_
 rintro e wc ⟨rfl, hb⟩
 replace H := Lib.hid (H.out.call hb)
 refine hK.out _ _ (⟨H.out.row 1 rfl, H.out.row 6 rfl, H.out.row 3 rfl, H.out.row 2 rfl, H.out.row 0 rfl⟩) (fun hN => ?_)
 clear hK K hH hb
 have hH := hN
 clear hN
 try simp only [Act.put, List.setIfInBounds_toArray, List.set_cons_zero, List.set_cons_succ]
 refine wpAnyH_ready (rs := [6]) (by kernel_rfl) (by simp) ?_
 refine AllReadyH.cons (o := _) rfl (fun K hK => ?_) AllReadyH.nil
 go_simp
 refine (refMul_k _ _ _).mono ?_
 rintro e wc ⟨rfl, hb⟩
 replace H := Lib.hid (H.out.call hb)
 refine hK.out _ _ (⟨H.out.row 1 rfl, H.out.row 6 rfl, H.out.row 3 rfl, H.out.row 2 rfl, H.out.row 0 rfl⟩) (fun hN => ?_)
 clear hK K hH hb
 have hH := hN
 clear hN
 try simp only [Act.put, List.setIfInBounds_toArray, List.set_cons_zero, List.set_cons_succ]
 refine wpAnyH_ready (rs := [9]) (by kernel_rfl) (by simp) ?_
 refine AllReadyH.cons (o := _) rfl (fun K hK => ?_) AllReadyH.nil
 go_simp
 refine (refAdd_k _ _ _).mono ?_
 rintro e wc ⟨rfl, hb⟩
 replace H := Lib.hid (H.out.call hb)
 refine hK.out _ _ (⟨H.out.row 1 rfl, H.out.row 6 rfl, H.out.row 3 rfl, H.out.row 2 rfl, H.out.row 0 rfl⟩) (fun hN => ?_)
 clear hK K hH hb
 have hH := hN
 clear hN
 try simp only [Act.put, List.setIfInBounds_toArray, List.set_cons_zero, List.set_cons_succ]
 refine wpAnyH_ready (rs := [10]) (by kernel_rfl) (by simp) ?_
 refine AllReadyH.cons (o := _) rfl (fun K hK => ?_) AllReadyH.nil
 go_simp
 refine (refOver_k _).mono ?_
 rintro e wc ⟨rfl, hb⟩
 replace H := Lib.hid (H.out.call hb)
 refine hK.out _ _ (⟨H.out.row 1 rfl, H.out.row 6 rfl, H.out.row 3 rfl, H.out.row 2 rfl, H.out.row 0 rfl⟩) (fun hN => ?_)
 clear hK K hH hb
 have hH := hN
 clear hN
 try simp only [Act.put, List.setIfInBounds_toArray, List.set_cons_zero, List.set_cons_succ]
 refine wpAnyH_ready (rs := [14]) (by kernel_rfl) (by simp) ?_
 refine AllReadyH.cons (o := _) rfl (fun K hK => ?_) AllReadyH.nil
 go_simp
 refine (refSub_k _ _ _).mono ?_
 rintro e wc ⟨rfl, hb⟩
 replace H := Lib.hid (H.out.call hb)
 refine hK.out _ _ (⟨H.out.row 1 rfl, H.out.row 6 rfl, H.out.row 3 rfl, H.out.row 2 rfl, H.out.row 0 rfl⟩) (fun hN => ?_)
 clear hK K hH hb
 have hH := hN
 clear hN
 try simp only [Act.put, List.setIfInBounds_toArray, List.set_cons_zero, List.set_cons_succ]
 refine wpAnyH_ready (rs := [15]) (by kernel_rfl) (by simp) ?_
 refine AllReadyH.cons (o := _) rfl (fun K hK => ?_) AllReadyH.nil
 go_simp
 refine (refOver_k _).mono ?_
 rintro e wc ⟨rfl, hb⟩
 replace H := Lib.hid (H.out.call hb)
 refine hK.out _ _ (⟨H.out.row 1 rfl, H.out.row 6 rfl, H.out.row 3 rfl, H.out.row 2 rfl, H.out.row 0 rfl⟩) (fun hN => ?_)
 clear hK K hH hb
 have hH := hN
 clear hN
 try simp only [Act.put, List.setIfInBounds_toArray, List.set_cons_zero, List.set_cons_succ]
 refine wpAnyH_ready (rs := [16]) (by kernel_rfl) (by simp) ?_
 refine AllReadyH.cons (o := _) rfl (fun K hK => ?_) AllReadyH.nil
 refine own_wp_store 5 rowF H.out rfl rfl rfl rfl ?_
 intro ws HS
 simp only [List.set_cons_zero, List.set_cons_succ] at HS
 replace H := Lib.hid HS
 refine hK.out _ _ (⟨H.out.row 1 rfl, H.out.row 6 rfl, H.out.row 3 rfl, H.out.row 2 rfl, H.out.row 0 rfl⟩) (fun hN => ?_)
 clear hK K HS hH
 have hH := hN
 clear hN
 try simp only [Act.put, List.setIfInBounds_toArray]
 refine wpAnyH_ready (rs := [17]) (by kernel_rfl) (by simp) ?_
 refine AllReadyH.cons (o := _) rfl (fun K hK => ?_) AllReadyH.nil
 refine own_wp_store 4 rowF H.out rfl rfl rfl rfl ?_
 intro ws HS
 simp only [List.set_cons_zero, List.set_cons_succ] at HS
 replace H := Lib.hid HS
 refine hK.out _ _ (⟨H.out.row 1 rfl, H.out.row 6 rfl, H.out.row 3 rfl, H.out.row 2 rfl, H.out.row 0 rfl⟩) (fun hN => ?_)
 clear hK K HS hH
 have hH := hN
 clear hN
 try simp only [Act.put]
 try simp only [Act.put]
 refine wpAnyH_done (by kernel_rfl) ?_ _
 refine NoPanic.normal ?_
 clear hH
 go_wp2_with fail
 exact bodyPost_ret (own_result2 5 4 rowF rfl _ H rfl rfl rfl rfl) rfl ⟨rfl, H.out.bel⟩
theorem refTBack_k {P : Pt pN dK} (w : World) :
  Calls Tryz.prog 24 #[T2 (T2v (wtX P) (wtY P))] w fun e w' => e = .returned (.tuple #[FV (padd edK (padd edK P P) (padd edK P P)).x.val, FV (padd edK (padd edK P P) (padd edK P P)).y.val]) ∧ Below w.heap.size w w' := by
 refine (refTBack_x w).mono fun e w' h => ⟨h.1.trans ?_, h.2⟩
 obtain ⟨n1, n2, e1, e2⟩ := tw_back twK P
 have n3 : 2 - (wtY P * wtY P - wtX P * wtX P) ≠ 0 := by
  intro h
  exact n2 (by grind)
 rw [k_two, over_of n1 e1, over_of (c := (padd edK (padd edK P P) (padd edK P P)).y) n3 (by
  refine Eq.trans ?_ e2
  grind)]
end Go.Proofs.YtoeokhfhcpcjlaaGreatDoor
