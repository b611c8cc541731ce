/-
 The law's awake. No statement is proved here: lemmas for the walks.
-/
import Derived.Test.YtoeokhfhcpcjlaaGreatDoorZTwLaw
import Derived.Test.YtoeokhfhcpcjlaaGreatDoorZPtBase
import Derived.Test.YtoeokhfhcpcjlaaGreatDoorZPtEq
import Derived.Deep.CutRange
namespace Go.Proofs.YtoeokhfhcpcjlaaGreatDoor
open Go.RowKit
theorem tq_on : (ofZ 1 : K) * ofZ 1 + ofZ 0 * ofZ 0 = 1 + dK * (ofZ 1 * ofZ 1 * (ofZ 0 * ofZ 0)) := by decide +kernel
theorem tq_is : (⟨ofZ 1, ofZ 0, tq_on⟩ : Pt pN dK) = pquarter := Pt.same ax_one ax_zero
theorem tq_off : ¬ tOn (ofZ 1) (ofZ 1) := by
 unfold tOn
 decide +kernel
theorem eq_pt {A B : Pt pN dK} (h : A = B) : decide (wtX A = wtX B ∧ wtY A = wtY B) = true := by
 subst h
 exact decide_eq_true ⟨rfl, rfl⟩
theorem tq_one : decide (wtX (pquarter : Pt pN dK) = wtX (pzero : Pt pN dK) ∧ wtY (pquarter : Pt pN dK) = wtY (pzero : Pt pN dK)) = true :=
 decide_eq_true ⟨ax_quart_x.trans ax_zero_x.symm, ax_quart_y.trans ax_zero_y.symm⟩
theorem tq_two : decide (wtX (pzero : Pt pN dK) = wtX (pquarter : Pt pN dK) ∧ wtY (pzero : Pt pN dK) = wtY (pquarter : Pt pN dK)) = true :=
 decide_eq_true ⟨ax_zero_x.trans ax_quart_x.symm, ax_zero_y.trans ax_quart_y.symm⟩
theorem tq_base : decide (wtX pB = wtX (pquarter : Pt pN dK) ∧ wtY pB = wtY (pquarter : Pt pN dK)) = false :=
 decide_eq_false fun h => absurd (tw_zero twK (h.1.trans ax_quart_x)).2 (by decide +kernel)
theorem rowS2 : IsRow Tryz.prog 55 4 := ⟨⟨_, Tryz.underlying55, rfl⟩, by kernel_rfl⟩
set_option maxRecDepth 8000 in
set_option maxHeartbeats 3200000 in
theorem awake13_k (w : World) (hT : Tp w) :
  Calls Tryz.prog 9 #[] w fun e w' => e = .returned (.bool true) ∧ Below w.heap.size w w' := by
 have HT := Lib.hid hT
 clear hT
 have H := Lib.hid (Ow.start w)
 go_enter Tryz.func9, Tryz.ntmps9
 go_upto_region 4 with (first
  | ((fail_if_success have := V1); (with_reducible refine (int_k (1) _ (HT.out.below H.out.bel) (by omega) (by omega)).mono ?_); rintro e wc ⟨kV1, rfl, hv, hb⟩; replace H := Lib.hid (H.out.call hb); clear hb; have V1 := Lib.hid hv; clear hv)
  | ((fail_if_success have := V2); (with_reducible refine (int_k (0) _ (HT.out.below H.out.bel) (by omega) (by omega)).mono ?_); rintro e wc ⟨kV2, rfl, hv, hb⟩; replace H := Lib.hid (H.out.call hb); clear hb; have V2 := Lib.hid hv; clear hv)
  | ((fail_if_success have := VQ); (with_reducible refine (ptOf_on _ (HT.out.below H.out.bel) V1.out V2.out tq_on).mono ?_); rintro e wc ⟨kQ, rfl, hv, hb⟩; replace H := Lib.hid (H.out.call hb); clear hb; have VQ := Lib.hid (hv.eq tq_is); clear hv)
  | ((fail_if_success have := g1); (fail_if_success have := g1); (with_reducible apply own_alloc nilPt H); (case hgd | ho => exact rfl); intro w1 g1 H' _ _; replace H := H'; clear H'; go_simp)
  | ((with_reducible apply own_store rowPt H); (case hgd | ho | hx | hy => exact rfl); (case hi => first|exact at0|exact at1|exact at2|exact at3|exact at4|exact at5|exact at6|exact at7|exact at8|exact at9); intro ws H' _ _; replace H := H'; clear H'; simp only [List.set_cons_zero] at H; go_simp)
  | ((fail_if_success have := V3); (with_reducible refine (int_k (1) _ (HT.out.below H.out.bel) (by omega) (by omega)).mono ?_); rintro e wc ⟨kV3, rfl, hv, hb⟩; replace H := Lib.hid (H.out.call hb); clear hb; have V3 := Lib.hid hv; clear hv)
  | ((fail_if_success have := V4); (with_reducible refine (int_k (1) _ (HT.out.below H.out.bel) (by omega) (by omega)).mono ?_); rintro e wc ⟨kV4, rfl, hv, hb⟩; replace H := Lib.hid (H.out.call hb); clear hb; have V4 := Lib.hid hv; clear hv)
  | ((fail_if_success have := mk1); (with_reducible refine (twOf_off _ (HT.out.below H.out.bel) V3.out V4.out tq_off).mono ?_); rintro e wc ⟨rfl, hb⟩; replace H := Lib.hid (H.out.call hb); clear hb; have mk1 := trivial)
  | ((fail_if_success have := g3); (fail_if_success have := g3); (with_reducible apply own_alloc nilTO H); (case hgd | ho => exact rfl); intro w3 g3 H' _ _; replace H := H'; clear H'; go_simp)
  | ((with_reducible apply own_store rowTO H); (case hgd | ho | hx | hy => exact rfl); (case hi => first|exact at0|exact at1|exact at2|exact at3|exact at4|exact at5|exact at6|exact at7|exact at8|exact at9); intro ws H' _ _; replace H := H'; clear H'; simp only [List.set_cons_zero] at H; go_simp)
  | ((with_reducible apply own_load rowPt H); (case hgd | ho | hx => exact rfl); (case hi => first|exact at0|exact at1|exact at2|exact at3|exact at4|exact at5|exact at6|exact at7|exact at8|exact at9); intro _ _; go_simp)
  | ((fail_if_success have := VA); (with_reducible refine (twTo_k _ (HT.out.below H.out.bel) VQ.out).mono ?_); rintro e wc ⟨kVA, rfl, hv, hb⟩; replace H := Lib.hid (H.out.call hb); clear hb; have VA := Lib.hid hv; clear hv)
  | ((fail_if_success have := g5); (fail_if_success have := g5); (with_reducible apply own_alloc nilTO H); (case hgd | ho => exact rfl); intro w5 g5 H' _ _; replace H := H'; clear H'; go_simp))
 clear mk1
 refine wp_region_noPanic ?_
 refine wp_region_held_drew (S := fun W => W.heap[g5]? = some (Blk 46 .u64 16 (kVA))) (by kernel_rfl) (H.out.drew.row 0 rfl) (fun hH => ?_)
 replace H := Lib.hid H.out.drew
 generalize World.drew _ = w8 at *
 refine held_value 0 20 (.int .i64 0) rfl rfl (by kernel_rfl) (by kernel_rfl) (by kernel_rfl) rfl hH (fun w hw => by go_simp) ?_
 try simp only [Act.put, List.setIfInBounds_toArray, List.set_cons_zero, List.set_cons_succ]
 refine held_value 1 21 (.bool true) rfl rfl (by kernel_rfl) (by kernel_rfl) (by kernel_rfl) rfl hH (fun w hw => by go_simp) ?_
 try simp only [Act.put, List.setIfInBounds_toArray, List.set_cons_zero, List.set_cons_succ]
 refine held_value 2 22 (.bool true) rfl rfl (by kernel_rfl) (by kernel_rfl) (by kernel_rfl) rfl hH (fun w hw => by go_simp) ?_
 try simp only [Act.put, List.setIfInBounds_toArray, List.set_cons_zero, List.set_cons_succ]
 refine held_row 3 23 rowTO rfl rfl (by kernel_rfl) (by kernel_rfl) (by kernel_rfl) rfl hH rfl rfl (fun _ h => h) ?_
 try simp only [Act.put, List.setIfInBounds_toArray, List.set_cons_zero, List.set_cons_succ]
 refine wpAnyH_ready (rs := [4]) (by kernel_rfl) (by simp) ?_
 refine AllReadyH.cons (o := _) rfl (fun K hK => ?_) AllReadyH.nil
 go_simp
 refine (twIdentity_k _ (HT.out.below H.out.bel)).mono ?_
 rintro e wc ⟨r24, rfl, hv, hb⟩
 replace H := Lib.hid (H.out.call hb)
 have HV24 := Lib.hid hv
 refine hK.out _ _ (H.out.row 0 rfl) (fun hN => ?_)
 clear hK K hH hb hv
 have hH := hN
 clear hN
 try simp only [Act.put, List.setIfInBounds_toArray, List.set_cons_zero, List.set_cons_succ]
 refine wpAnyH_ready (rs := [5]) (by kernel_rfl) (by simp) ?_
 refine AllReadyH.cons (o := _) rfl (fun K hK => ?_) AllReadyH.nil
 go_simp
 refine (twEqual_x _ (HT.out.below H.out.bel) VA.out HV24.out (tq_one)).mono ?_
 rintro e wc ⟨rfl, hb⟩
 replace H := Lib.hid (H.out.call hb)
 refine hK.out _ _ (H.out.row 0 rfl) (fun hN => ?_)
 clear hK K hH hb
 have hH := hN
 clear hN
 try simp only [Act.put, List.setIfInBounds_toArray, List.set_cons_zero, List.set_cons_succ]
 refine held_value 6 26 (.bool true) rfl rfl (by kernel_rfl) (by kernel_rfl) (by kernel_rfl) rfl hH (fun w hw => by go_simp) ?_
 try simp only [Act.put, List.setIfInBounds_toArray, List.set_cons_zero, List.set_cons_succ]
 refine held_value 7 27 (.bool true) rfl rfl (by kernel_rfl) (by kernel_rfl) (by kernel_rfl) rfl hH (fun w hw => by go_simp) ?_
 try simp only [Act.put, List.setIfInBounds_toArray, List.set_cons_zero, List.set_cons_succ]
 refine held_row 10 30 rowTO rfl rfl (by kernel_rfl) (by kernel_rfl) (by kernel_rfl) rfl hH rfl rfl (fun _ h => h) ?_
 try simp only [Act.put, List.setIfInBounds_toArray, List.set_cons_zero, List.set_cons_succ]
 refine wpAnyH_ready (rs := [8]) (by kernel_rfl) (by simp) ?_
 refine AllReadyH.cons (o := _) rfl (fun K hK => ?_) AllReadyH.nil
 go_simp
 refine (identity_k _ (HT.out.below H.out.bel)).mono ?_
 rintro e wc ⟨r28, rfl, hv, hb⟩
 replace H := Lib.hid (H.out.call hb)
 have HV28 := Lib.hid hv
 refine hK.out _ _ (H.out.row 0 rfl) (fun hN => ?_)
 clear hK K hH hb hv
 have hH := hN
 clear hN
 try simp only [Act.put, List.setIfInBounds_toArray, List.set_cons_zero, List.set_cons_succ]
 refine wpAnyH_ready (rs := [9]) (by kernel_rfl) (by simp) ?_
 refine AllReadyH.cons (o := _) rfl (fun K hK => ?_) AllReadyH.nil
 go_simp
 refine (twTo_k _ (HT.out.below H.out.bel) HV28.out).mono ?_
 rintro e wc ⟨r29, rfl, hv, hb⟩
 replace H := Lib.hid (H.out.call hb)
 have HV29 := Lib.hid hv
 refine hK.out _ _ (H.out.row 0 rfl) (fun hN => ?_)
 clear hK K hH hb hv
 have hH := hN
 clear hN
 try simp only [Act.put, List.setIfInBounds_toArray, List.set_cons_zero, List.set_cons_succ]
 refine wpAnyH_ready (rs := [11]) (by kernel_rfl) (by simp) ?_
 refine AllReadyH.cons (o := _) rfl (fun K hK => ?_) AllReadyH.nil
 go_simp
 refine (twEqual_x _ (HT.out.below H.out.bel) HV29.out VA.out (tq_two)).mono ?_
 rintro e wc ⟨rfl, hb⟩
 replace H := Lib.hid (H.out.call hb)
 refine hK.out _ _ (H.out.row 0 rfl) (fun hN => ?_)
 clear hK K hH hb
 have hH := hN
 clear hN
 try simp only [Act.put, List.setIfInBounds_toArray, List.set_cons_zero, List.set_cons_succ]
 refine held_value 12 32 (.bool true) rfl rfl (by kernel_rfl) (by kernel_rfl) (by kernel_rfl) rfl hH (fun w hw => by go_simp) ?_
 try simp only [Act.put, List.setIfInBounds_toArray, List.set_cons_zero, List.set_cons_succ]
 refine held_value 13 33 (.bool true) rfl rfl (by kernel_rfl) (by kernel_rfl) (by kernel_rfl) rfl hH (fun w hw => by go_simp) ?_
 try simp only [Act.put, List.setIfInBounds_toArray, List.set_cons_zero, List.set_cons_succ]
 refine held_row 16 36 rowTO rfl rfl (by kernel_rfl) (by kernel_rfl) (by kernel_rfl) rfl hH rfl rfl (fun _ h => h) ?_
 try simp only [Act.put, List.setIfInBounds_toArray, List.set_cons_zero, List.set_cons_succ]
 refine wpAnyH_ready (rs := [14]) (by kernel_rfl) (by simp) ?_
 refine AllReadyH.cons (o := _) rfl (fun K hK => ?_) AllReadyH.nil
 go_simp
 refine (base_k _ (HT.out.below H.out.bel)).mono ?_
 rintro e wc ⟨r34, rfl, hv, hb⟩
 replace H := Lib.hid (H.out.call hb)
 have HV34 := Lib.hid hv
 refine hK.out _ _ (H.out.row 0 rfl) (fun hN => ?_)
 clear hK K hH hb hv
 have hH := hN
 clear hN
 try simp only [Act.put, List.setIfInBounds_toArray, List.set_cons_zero, List.set_cons_succ]
 refine wpAnyH_ready (rs := [15]) (by kernel_rfl) (by simp) ?_
 refine AllReadyH.cons (o := _) rfl (fun K hK => ?_) AllReadyH.nil
 go_simp
 refine (twTo_k _ (HT.out.below H.out.bel) HV34.out).mono ?_
 rintro e wc ⟨r35, rfl, hv, hb⟩
 replace H := Lib.hid (H.out.call hb)
 have HV35 := Lib.hid hv
 refine hK.out _ _ (H.out.row 0 rfl) (fun hN => ?_)
 clear hK K hH hb hv
 have hH := hN
 clear hN
 try simp only [Act.put, List.setIfInBounds_toArray, List.set_cons_zero, List.set_cons_succ]
 refine wpAnyH_ready (rs := [17]) (by kernel_rfl) (by simp) ?_
 refine AllReadyH.cons (o := _) rfl (fun K hK => ?_) AllReadyH.nil
 go_simp
 refine (twEqual_x _ (HT.out.below H.out.bel) HV35.out VA.out (tq_base)).mono ?_
 rintro e wc ⟨rfl, hb⟩
 replace H := Lib.hid (H.out.call hb)
 refine hK.out _ _ (H.out.row 0 rfl) (fun hN => ?_)
 clear hK K hH hb
 have hH := hN
 clear hN
 try simp only [Act.put, List.setIfInBounds_toArray, List.set_cons_zero, List.set_cons_succ]
 refine held_value 18 38 (.bool true) rfl rfl (by kernel_rfl) (by kernel_rfl) (by kernel_rfl) rfl hH (fun w hw => by go_simp) ?_
 try simp only [Act.put, List.setIfInBounds_toArray, List.set_cons_zero, List.set_cons_succ]
 refine held_value 19 39 (.bool true) rfl rfl (by kernel_rfl) (by kernel_rfl) (by kernel_rfl) rfl hH (fun w hw => by go_simp) ?_
 try simp only [Act.put, List.setIfInBounds_toArray, List.set_cons_zero, List.set_cons_succ]
 refine held_value 20 40 (.bool true) rfl rfl (by kernel_rfl) (by kernel_rfl) (by kernel_rfl) rfl hH (fun w hw => by go_simp) ?_
 try simp only [Act.put, List.setIfInBounds_toArray, List.set_cons_zero, List.set_cons_succ]
 refine held_value 21 41 (.int .i64 13) rfl rfl (by kernel_rfl) (by kernel_rfl) (by kernel_rfl) rfl hH (fun w hw => by go_simp) ?_
 try simp only [Act.put, List.setIfInBounds_toArray, List.set_cons_zero, List.set_cons_succ]
 refine held_value 22 42 (.bool true) rfl rfl (by kernel_rfl) (by kernel_rfl) (by kernel_rfl) rfl hH (fun w hw => by go_simp) ?_
 try simp only [Act.put, List.setIfInBounds_toArray, List.set_cons_zero, List.set_cons_succ]
 refine held_value 23 43 (.bool true) rfl rfl (by kernel_rfl) (by kernel_rfl) (by kernel_rfl) rfl hH (fun w hw => by go_simp) ?_
 try simp only [Act.put, List.setIfInBounds_toArray, List.set_cons_zero, List.set_cons_succ]
 refine held_value 24 0 (.bool true) rfl rfl (by kernel_rfl) (by kernel_rfl) (by kernel_rfl) rfl hH (fun w hw => by go_simp) ?_
 try simp only [Act.put, List.setIfInBounds_toArray, List.set_cons_zero]
 try simp only [Act.put]
 refine wpAnyH_done (by kernel_rfl) ?_ _
 refine NoPanic.normal ?_
 clear hH
 go_wp2_with fail
 go_ret
 exact ⟨rfl, H.out.bel⟩
end Go.Proofs.YtoeokhfhcpcjlaaGreatDoor
