/-
 The walk of TwistFours. No statement is proved here: lemmas for the walks.
-/
import Derived.Test.YtoeokhfhcpcjlaaGreatDoorZTwAwake
import Derived.Test.YtoeokhfhcpcjlaaGreatDoorZPtAdd
import Derived.Deep.CutRange
namespace Go.Proofs.YtoeokhfhcpcjlaaGreatDoor
open Go.RowKit
set_option maxRecDepth 8000 in
set_option maxHeartbeats 3200000 in
theorem tfours_no {a : Option Addr} {n c x : Nat} {z : Int} (w : World) (hT : Tp w) (hs : Sb w w.heap.size a n c x) (ok : okS n z = false) :
  Calls Tryz.prog 5 #[.agg #[.slice a n c, .int .i64 z]] w fun e w' => e = .returned (.bool true) ∧ Below w.heap.size w w' := by
 have HS1 := Lib.hid hs
 have OK1 := Lib.hid ok
 clear hs ok
 have HT := Lib.hid hT
 clear hT
 have H := Lib.hid (Ow.start w)
 go_enter Tryz.func5, Tryz.ntmps5
 go_wp2_with (first
  | ((fail_if_success have := g1); (with_reducible apply own_boxC H); (case hgd | ho | hx => exact rfl); intro w1 g1 H' _ _; replace H := H'; clear H'; go_simp)
  | ((with_reducible apply own_loadA rowSpK ?hC H); (case hgd | ho | hx => exact rfl); (case hi => first|exact at0|exact at1|exact at2|exact at3|exact at4|exact at5|exact at6|exact at7|exact at8|exact at9); (case hC => exact rfl); intro _ _; go_simp)
  | ((fail_if_success have := mk1); (with_reducible refine (made11_any OK1.out _ (HT.out.below H.out.bel) ((HS1.out.below H.out.bel).more H.out.bel.size)).mono ?_); rintro e wc ⟨v1, r1, P1, rfl, hv, hw, hb⟩; replace H := Lib.hid (H.out.call hb); have V1 := Lib.hid hv; have W1 := Lib.hid hw; have mk1 := trivial; clear hb hv hw)
  | ((fail_if_success have := g3); (with_reducible apply own_alloc nilPt H); (case hgd | ho => exact rfl); intro w3 g3 H' _ _; replace H := H'; clear H'; go_simp)
  | ((fail_if_success have := g4); (fail_if_success have := g4); (with_reducible apply own_alloc nilQt H); (case hgd | ho => exact rfl); intro w4 g4 H' _ _; replace H := H'; clear H'; go_simp)
  | ((with_reducible apply own_store rowPt H); (case hgd | ho | hx | hy => exact rfl); (case hi => first|exact at0|exact at1|exact at2|exact at3|exact at4|exact at5|exact at6|exact at7|exact at8|exact at9); intro ws H' _ _; replace H := H'; clear H'; simp only [List.set_cons_zero, List.set_cons_succ] at H; go_simp)
  | ((with_reducible apply own_store rowQt H); (case hgd | ho | hx | hy => exact rfl); (case hi => first|exact at0|exact at1|exact at2|exact at3|exact at4|exact at5|exact at6|exact at7|exact at8|exact at9); intro ws H' _ _; replace H := H'; clear H'; simp only [List.set_cons_zero] at H; go_simp)
  | ((with_reducible refine (awake13_k _ (HT.out.below H.out.bel)).mono ?_); rintro e wc ⟨rfl, hb⟩; replace H := Lib.hid (H.out.call hb); clear hb))
 go_ret
 exact ⟨rfl, H.out.bel⟩
set_option maxRecDepth 8000 in
set_option maxHeartbeats 3200000 in
theorem tfours_k {a : Option Addr} {n c x : Nat} {z : Int} (w : World) (hT : Tp w) (hs : Sb w w.heap.size a n c x) (ok : okS n z = true) :
  Calls Tryz.prog 5 #[.agg #[.slice a n c, .int .i64 z]] w fun e w' => e = .returned (.bool true) ∧ Below w.heap.size w w' := by
 have HS1 := Lib.hid hs
 have OK1 := Lib.hid ok
 clear hs ok
 have HT := Lib.hid hT
 clear hT
 have H := Lib.hid (Ow.start w)
 go_enter Tryz.func5, Tryz.ntmps5
 go_upto_region 7 with (first
  | ((fail_if_success have := g1); (with_reducible apply own_boxC H); (case hgd | ho | hx => exact rfl); intro w1 g1 H' _ _; replace H := H'; clear H'; go_simp)
  | ((with_reducible apply own_loadA rowSpK ?hC H); (case hgd | ho | hx => exact rfl); (case hi => first|exact at0|exact at1|exact at2|exact at3|exact at4|exact at5|exact at6|exact at7|exact at8|exact at9); (case hC => exact rfl); intro _ _; go_simp)
  | ((fail_if_success have := mk1); (with_reducible refine (made11_any OK1.out _ (HT.out.below H.out.bel) ((HS1.out.below H.out.bel).more H.out.bel.size)).mono ?_); rintro e wc ⟨v1, r1, P1, rfl, hv, hw, hb⟩; replace H := Lib.hid (H.out.call hb); have V1 := Lib.hid hv; have W1 := Lib.hid hw; have mk1 := trivial; clear hb hv hw)
  | ((fail_if_success have := g3); (with_reducible apply own_alloc nilPt H); (case hgd | ho => exact rfl); intro w3 g3 H' _ _; replace H := H'; clear H'; go_simp)
  | ((fail_if_success have := g4); (fail_if_success have := g4); (with_reducible apply own_alloc nilQt H); (case hgd | ho => exact rfl); intro w4 g4 H' _ _; replace H := H'; clear H'; go_simp)
  | ((with_reducible apply own_store rowPt H); (case hgd | ho | hx | hy => exact rfl); (case hi => first|exact at0|exact at1|exact at2|exact at3|exact at4|exact at5|exact at6|exact at7|exact at8|exact at9); intro ws H' _ _; replace H := H'; clear H'; simp only [List.set_cons_zero, List.set_cons_succ] at H; go_simp)
  | ((with_reducible apply own_store rowQt H); (case hgd | ho | hx | hy => exact rfl); (case hi => first|exact at0|exact at1|exact at2|exact at3|exact at4|exact at5|exact at6|exact at7|exact at8|exact at9); intro ws H' _ _; replace H := H'; clear H'; simp only [List.set_cons_zero] at H; go_simp)
  | ((with_reducible apply own_load rowPt H); (case hgd | ho | hx => exact rfl); (case hi => first|exact at0|exact at1|exact at2|exact at3|exact at4|exact at5|exact at6|exact at7|exact at8|exact at9); intro _ _; go_simp)
  | ((fail_if_success have := VA); (with_reducible refine (twTo_k _ (HT.out.below H.out.bel) V1.out).mono ?_); rintro e wc ⟨kVA, rfl, hv, hb⟩; replace H := Lib.hid (H.out.call hb); clear hb; have VA := Lib.hid hv; clear hv)
  | ((fail_if_success have := g6); (fail_if_success have := g6); (with_reducible apply own_alloc nilTO H); (case hgd | ho => exact rfl); intro w6 g6 H' _ _; replace H := H'; clear H'; go_simp)
  | ((with_reducible apply own_store rowTO H); (case hgd | ho | hx | hy => exact rfl); (case hi => first|exact at0|exact at1|exact at2|exact at3|exact at4|exact at5|exact at6|exact at7|exact at8|exact at9); intro ws H' _ _; replace H := H'; clear H'; simp only [List.set_cons_zero] at H; go_simp)
  | ((with_reducible apply own_load rowTO H); (case hgd | ho | hx => exact rfl); (case hi => first|exact at0|exact at1|exact at2|exact at3|exact at4|exact at5|exact at6|exact at7|exact at8|exact at9); intro _ _; go_simp)
  | ((fail_if_success have := VB); (with_reducible refine (twBack_k _ (HT.out.below H.out.bel) VA.out).mono ?_); rintro e wc ⟨kVB, rfl, hv, hb⟩; replace H := Lib.hid (H.out.call hb); clear hb; have VB := Lib.hid hv; clear hv)
  | ((fail_if_success have := g7); (fail_if_success have := g7); (with_reducible apply own_alloc nilPt H); (case hgd | ho => exact rfl); intro w7 g7 H' _ _; replace H := H'; clear H'; go_simp)
  | ((fail_if_success have := VD); (with_reducible refine (twDouble_k _ (HT.out.below H.out.bel) VA.out).mono ?_); rintro e wc ⟨kVD, rfl, hv, hb⟩; replace H := Lib.hid (H.out.call hb); clear hb; have VD := Lib.hid hv; clear hv)
  | ((fail_if_success have := VE); (with_reducible refine (twDouble_k _ (HT.out.below H.out.bel) VD.out).mono ?_); rintro e wc ⟨kVE, rfl, hv, hb⟩; replace H := Lib.hid (H.out.call hb); clear hb; have VE := Lib.hid hv; clear hv)
  | ((fail_if_success have := g9); (fail_if_success have := g9); (with_reducible apply own_alloc nilTO H); (case hgd | ho => exact rfl); intro w9 g9 H' _ _; replace H := H'; clear H'; go_simp))
 clear mk1
 refine wp_region_noPanic ?_
 refine wp_region_held_drew (S := fun W => W.heap[g7]? = some (Blk 38 .u64 24 (kVB)) ∧ W.heap[g3]? = some (Blk 38 .u64 24 (v1)) ∧ W.heap[g9]? = some (Blk 46 .u64 16 (kVE))) (by kernel_rfl) (⟨H.out.drew.row 1 rfl, H.out.drew.row 4 rfl, H.out.drew.row 0 rfl⟩) (fun hH => ?_)
 replace H := Lib.hid H.out.drew
 generalize World.drew _ = w8 at *
 refine held_value 0 29 (.int .i64 0) rfl rfl (by kernel_rfl) (by kernel_rfl) (by kernel_rfl) rfl hH (fun w hw => by go_simp) ?_
 try simp only [Act.put, List.setIfInBounds_toArray, List.set_cons_zero, List.set_cons_succ]
 refine held_value 1 30 (.bool true) rfl rfl (by kernel_rfl) (by kernel_rfl) (by kernel_rfl) rfl hH (fun w hw => by go_simp) ?_
 try simp only [Act.put, List.setIfInBounds_toArray, List.set_cons_zero, List.set_cons_succ]
 refine held_value 2 31 (.bool true) rfl rfl (by kernel_rfl) (by kernel_rfl) (by kernel_rfl) rfl hH (fun w hw => by go_simp) ?_
 try simp only [Act.put, List.setIfInBounds_toArray, List.set_cons_zero, List.set_cons_succ]
 refine held_row 3 32 rowPt rfl rfl (by kernel_rfl) (by kernel_rfl) (by kernel_rfl) rfl hH rfl rfl (fun _ h => h.1) ?_
 try simp only [Act.put, List.setIfInBounds_toArray, List.set_cons_zero, List.set_cons_succ]
 refine held_row 4 33 rowPt rfl rfl (by kernel_rfl) (by kernel_rfl) (by kernel_rfl) rfl hH rfl rfl (fun _ h => h.2.1) ?_
 try simp only [Act.put, List.setIfInBounds_toArray, List.set_cons_zero, List.set_cons_succ]
 refine wpAnyH_ready (rs := [5]) (by kernel_rfl) (by simp) ?_
 refine AllReadyH.cons (o := _) rfl (fun K hK => ?_) AllReadyH.nil
 go_simp
 refine (ptFour_k _ (HT.out.below H.out.bel) V1.out).mono ?_
 rintro e wc ⟨r34, rfl, hv, hb⟩
 replace H := Lib.hid (H.out.call hb)
 have HV34 := Lib.hid hv
 refine hK.out _ _ (⟨H.out.row 1 rfl, H.out.row 4 rfl, H.out.row 0 rfl⟩) (fun hN => ?_)
 clear hK K hH hb hv
 have hH := hN
 clear hN
 try simp only [Act.put, List.setIfInBounds_toArray, List.set_cons_zero, List.set_cons_succ]
 refine wpAnyH_ready (rs := [6]) (by kernel_rfl) (by simp) ?_
 refine AllReadyH.cons (o := _) rfl (fun K hK => ?_) AllReadyH.nil
 go_simp
 refine (ptEqual_k _ (HT.out.below H.out.bel) VB.out HV34.out (decide_eq_true rfl)).mono ?_
 rintro e wc ⟨rfl, hb⟩
 replace H := Lib.hid (H.out.call hb)
 refine hK.out _ _ (⟨H.out.row 1 rfl, H.out.row 4 rfl, H.out.row 0 rfl⟩) (fun hN => ?_)
 clear hK K hH hb
 have hH := hN
 clear hN
 try simp only [Act.put, List.setIfInBounds_toArray, List.set_cons_zero, List.set_cons_succ]
 refine held_value 7 36 (.bool true) rfl rfl (by kernel_rfl) (by kernel_rfl) (by kernel_rfl) rfl hH (fun w hw => by go_simp) ?_
 try simp only [Act.put, List.setIfInBounds_toArray, List.set_cons_zero, List.set_cons_succ]
 refine held_value 8 37 (.bool true) rfl rfl (by kernel_rfl) (by kernel_rfl) (by kernel_rfl) rfl hH (fun w hw => by go_simp) ?_
 try simp only [Act.put, List.setIfInBounds_toArray, List.set_cons_zero, List.set_cons_succ]
 refine held_row 9 38 rowPt rfl rfl (by kernel_rfl) (by kernel_rfl) (by kernel_rfl) rfl hH rfl rfl (fun _ h => h.1) ?_
 try simp only [Act.put, List.setIfInBounds_toArray, List.set_cons_zero, List.set_cons_succ]
 refine held_row 11 40 rowTO rfl rfl (by kernel_rfl) (by kernel_rfl) (by kernel_rfl) rfl hH rfl rfl (fun _ h => h.2.2) ?_
 try simp only [Act.put, List.setIfInBounds_toArray, List.set_cons_zero, List.set_cons_succ]
 refine wpAnyH_ready (rs := [10]) (by kernel_rfl) (by simp) ?_
 refine AllReadyH.cons (o := _) rfl (fun K hK => ?_) AllReadyH.nil
 go_simp
 refine (twTo_k _ (HT.out.below H.out.bel) VB.out).mono ?_
 rintro e wc ⟨r39, rfl, hv, hb⟩
 replace H := Lib.hid (H.out.call hb)
 have HV39 := Lib.hid hv
 refine hK.out _ _ (⟨H.out.row 1 rfl, H.out.row 4 rfl, H.out.row 0 rfl⟩) (fun hN => ?_)
 clear hK K hH hb hv
 have hH := hN
 clear hN
 try simp only [Act.put, List.setIfInBounds_toArray, List.set_cons_zero, List.set_cons_succ]
 refine wpAnyH_ready (rs := [12]) (by kernel_rfl) (by simp) ?_
 refine AllReadyH.cons (o := _) rfl (fun K hK => ?_) AllReadyH.nil
 go_simp
 refine (twEqual_x _ (HT.out.below H.out.bel) HV39.out VE.out (eq_pt rfl)).mono ?_
 rintro e wc ⟨rfl, hb⟩
 replace H := Lib.hid (H.out.call hb)
 refine hK.out _ _ (⟨H.out.row 1 rfl, H.out.row 4 rfl, H.out.row 0 rfl⟩) (fun hN => ?_)
 clear hK K hH hb
 have hH := hN
 clear hN
 try simp only [Act.put, List.setIfInBounds_toArray, List.set_cons_zero, List.set_cons_succ]
 refine held_value 13 42 (.bool true) rfl rfl (by kernel_rfl) (by kernel_rfl) (by kernel_rfl) rfl hH (fun w hw => by go_simp) ?_
 try simp only [Act.put, List.setIfInBounds_toArray, List.set_cons_zero, List.set_cons_succ]
 refine held_value 14 43 (.bool true) rfl rfl (by kernel_rfl) (by kernel_rfl) (by kernel_rfl) rfl hH (fun w hw => by go_simp) ?_
 try simp only [Act.put, List.setIfInBounds_toArray, List.set_cons_zero, List.set_cons_succ]
 refine wpAnyH_ready (rs := [15]) (by kernel_rfl) (by simp) ?_
 refine AllReadyH.cons (o := _) rfl (fun K hK => ?_) AllReadyH.nil
 go_simp
 refine (awake13_k _ (HT.out.below H.out.bel)).mono ?_
 rintro e wc ⟨rfl, hb⟩
 replace H := Lib.hid (H.out.call hb)
 refine hK.out _ _ (⟨H.out.row 1 rfl, H.out.row 4 rfl, H.out.row 0 rfl⟩) (fun hN => ?_)
 clear hK K hH hb
 have hH := hN
 clear hN
 try simp only [Act.put, List.setIfInBounds_toArray, List.set_cons_zero, List.set_cons_succ]
 refine held_value 16 45 (.bool true) rfl rfl (by kernel_rfl) (by kernel_rfl) (by kernel_rfl) rfl hH (fun w hw => by go_simp) ?_
 try simp only [Act.put, List.setIfInBounds_toArray, List.set_cons_zero, List.set_cons_succ]
 refine held_value 17 2 (.bool true) rfl rfl (by kernel_rfl) (by kernel_rfl) (by kernel_rfl) rfl hH (fun w hw => by go_simp) ?_
 try simp only [Act.put, List.setIfInBounds_toArray, List.set_cons_zero, List.set_cons_succ]
 try simp only [Act.put]
 refine wpAnyH_done (by kernel_rfl) ?_ _
 refine NoPanic.normal ?_
 clear hH
 go_wp2_with fail
 go_ret
 exact ⟨rfl, H.out.bel⟩
theorem tfours_walk {a : Option Addr} {n c x : Nat} {z : Int} (w : World) (hT : Tp w) (hs : Sb w w.heap.size a n c x) :
  Calls Tryz.prog 5 #[.agg #[.slice a n c, .int .i64 z]] w fun e w' => e = .returned (.bool true) ∧ Below w.heap.size w w' := by
 cases ok : okS n z with
 | false => exact tfours_no w hT hs ok
 | true => exact tfours_k w hT hs ok
end Go.Proofs.YtoeokhfhcpcjlaaGreatDoor
