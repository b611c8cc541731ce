/-
 The contracts of twist's Add, Double, Neg, Identity and Affine. No statement is proved here: lemmas for the walks.
-/
import Derived.Test.YtoeokhfhcpcjlaaGreatDoorBuZ
import Derived.Test.YtoeokhfhcpcjlaaGreatDoorBuQ
import Derived.Deep.CutRange
namespace Go.Proofs.YtoeokhfhcpcjlaaGreatDoor
open Go.RowKit
set_option maxRecDepth 8000 in
set_option maxHeartbeats 3200000 in
theorem sum_c {f g x y : Nat → Nat} {a b X Y : K} {l : List (Nat × Obj)} {i gp : Nat} (W w : World) (h0 : Ow W w l) (hi : l[i]? = some (gp, Blk 46 .u64 16 (t2 8 (NZ x) (NZ y)))) (hf : EK f a) (hg : EK g b) (hx : EK x X) (hy : EK y Y) :
  Calls Tryz.prog 60 #[EV f, EV g, .pointer (some ⟨gp, 0, none⟩)] w fun e w' => ∃ h, e = .returned (EV h) ∧ EK h (X * a + Y * b) ∧ Ow W w' l := by
 have H := Lib.hid h0
 have HI := Lib.hid hi
 have EA := Lib.hid hf
 have EB := Lib.hid hg
 have EX := Lib.hid hx
 have EY := Lib.hid hy
 clear hi hf hg hx hy
 clear h0
 go_enter Tryz.func60, Tryz.ntmps60
 go_wp2_with (first
  | ((fail_if_success have := g3); (with_reducible apply own_box H); (case hgd | ho | hx => exact rfl); intro w3 g3 H' _ _; replace H := H'; clear H'; go_simp)
  | ((fail_if_success have := g4); (fail_if_success have := g4); (with_reducible apply own_box H); (case hgd | ho | hx => exact rfl); intro w4 g4 H' _ _; replace H := H'; clear H'; go_simp)
  | ((fail_if_success have := g5); (with_reducible apply own_alloc nilE H); (case hgd | ho => exact rfl); intro w5 g5 H' _ _; replace H := H'; clear H'; go_simp))
 refine wp_region_noPanic ?_
 refine wp_region_held_drew (S := fun W => W.heap[gp]? = some (Blk 46 .u64 16 ((t2 8 (NZ x) (NZ y)))) ∧ W.heap[g3]? = some (Blk 29 .u64 8 (NZ f)) ∧ W.heap[g4]? = some (Blk 29 .u64 8 (NZ g))) (by kernel_rfl) (⟨H.out.drew.row (i + 3) HI.out, H.out.drew.row 2 rfl, H.out.drew.row 1 rfl⟩) (fun hH => ?_)
 replace H := Lib.hid H.out.drew
 generalize World.drew _ = w8 at *
 refine held_value 0 6 (.pointer (some ⟨gp, 0, none⟩)) rfl rfl (by kernel_rfl) (by kernel_rfl) (by kernel_rfl) rfl hH (fun w hw => by go_simp) ?_
 try simp only [Act.put, List.setIfInBounds_toArray, List.set_cons_zero, List.set_cons_succ]
 refine held_part 1 7 rowE rfl rfl (by kernel_rfl) (by kernel_rfl) (by kernel_rfl) rfl hH rfl rfl part2_0 (fun _ h => h.1) ?_
 try simp only [Act.put, List.setIfInBounds_toArray, List.set_cons_zero, List.set_cons_succ]
 refine held_row 2 8 rowE rfl rfl (by kernel_rfl) (by kernel_rfl) (by kernel_rfl) rfl hH rfl rfl (fun _ h => h.2.1) ?_
 try simp only [Act.put, List.setIfInBounds_toArray, List.set_cons_zero, List.set_cons_succ]
 refine held_value 5 11 (.pointer (some ⟨gp, 8, none⟩)) rfl rfl (by kernel_rfl) (by kernel_rfl) (by kernel_rfl) rfl hH (fun w hw => by go_simp) ?_
 try simp only [Act.put, List.setIfInBounds_toArray, List.set_cons_zero, List.set_cons_succ]
 refine held_part 6 12 rowE rfl rfl (by kernel_rfl) (by kernel_rfl) (by kernel_rfl) rfl hH rfl rfl part2_1 (fun _ h => h.1) ?_
 try simp only [Act.put, List.setIfInBounds_toArray, List.set_cons_zero, List.set_cons_succ]
 refine held_row 7 13 rowE rfl rfl (by kernel_rfl) (by kernel_rfl) (by kernel_rfl) rfl hH rfl rfl (fun _ h => h.2.2) ?_
 try simp only [Act.put, List.setIfInBounds_toArray, List.set_cons_zero, List.set_cons_succ]
 refine wpAnyH_ready (rs := [3, 8]) (by kernel_rfl) (by simp) ?_
 refine AllReadyH.cons (o := _) rfl (fun K hK => ?_) (AllReadyH.cons (o := _) rfl (fun K hK => ?_) AllReadyH.nil)
 ·skip
  refine own_wp_build1E 9 rfl H.out rfl rfl ?_
  intro w9 g9 H3 hb
  replace H := Lib.hid H3
  refine hK.out _ _ (⟨H.out.row (i + 4) HI.out, H.out.row 3 rfl, H.out.row 2 rfl⟩) (fun hN => ?_)
  clear hK K hH H3 hb
  have hH := hN
  clear hN
  try simp only [Act.put, List.setIfInBounds_toArray, List.set_cons_zero, List.set_cons_succ]
  refine wpAnyH_ready (rs := [4, 8]) (by kernel_rfl) (by simp) ?_
  refine AllReadyH.cons (o := _) rfl (fun K hK => ?_) (AllReadyH.cons (o := _) rfl (fun K hK => ?_) AllReadyH.nil)
  ·skip
   go_simp
   refine (product_1 _ EX.out (H.out.row 0 rfl) EA.out).mono ?_
   rintro e wc ⟨h10, rfl, hv, hb⟩
   replace H := Lib.hid (H.out.call hb)
   have HV10 := Lib.hid hv
   refine hK.out _ _ (⟨H.out.row (i + 4) HI.out, H.out.row 3 rfl, H.out.row 2 rfl⟩) (fun hN => ?_)
   clear hK K hH hb hv
   have hH := hN
   clear hN
   try simp only [Act.put, List.setIfInBounds_toArray, List.set_cons_zero, List.set_cons_succ]
   refine wpAnyH_ready (rs := [8]) (by kernel_rfl) (by simp) ?_
   refine AllReadyH.cons (o := _) rfl (fun K hK => ?_) AllReadyH.nil
   refine own_wp_build1E 14 rfl H.out rfl rfl ?_
   intro w14 g14 H3 hb
   replace H := Lib.hid H3
   refine hK.out _ _ (⟨H.out.row (i + 5) HI.out, H.out.row 4 rfl, H.out.row 3 rfl⟩) (fun hN => ?_)
   clear hK K hH H3 hb
   have hH := hN
   clear hN
   try simp only [Act.put, List.setIfInBounds_toArray, List.set_cons_zero, List.set_cons_succ]
   refine wpAnyH_ready (rs := [9]) (by kernel_rfl) (by simp) ?_
   refine AllReadyH.cons (o := _) rfl (fun K hK => ?_) AllReadyH.nil
   go_simp
   refine (product_1 _ EY.out (H.out.row 0 rfl) EB.out).mono ?_
   rintro e wc ⟨h15, rfl, hv, hb⟩
   replace H := Lib.hid (H.out.call hb)
   have HV15 := Lib.hid hv
   refine hK.out _ _ (⟨H.out.row (i + 5) HI.out, H.out.row 4 rfl, H.out.row 3 rfl⟩) (fun hN => ?_)
   clear hK K hH hb hv
   have hH := hN
   clear hN
   try simp only [Act.put, List.setIfInBounds_toArray, List.set_cons_zero, List.set_cons_succ]
   refine wpAnyH_ready (rs := [10]) (by kernel_rfl) (by simp) ?_
   refine AllReadyH.cons (o := _) rfl (fun K hK => ?_) AllReadyH.nil
   go_simp
   refine (add_k _ HV10.out HV15.out).mono ?_
   rintro e wc ⟨h16, rfl, hv, hb⟩
   replace H := Lib.hid (H.out.call hb)
   have HV16 := Lib.hid hv
   refine hK.out _ _ (⟨H.out.row (i + 5) HI.out, H.out.row 4 rfl, H.out.row 3 rfl⟩) (fun hN => ?_)
   clear hK K hH hb hv
   have hH := hN
   clear hN
   try simp only [Act.put, List.setIfInBounds_toArray, List.set_cons_zero, List.set_cons_succ]
   refine wpAnyH_ready (rs := [11]) (by kernel_rfl) (by simp) ?_
   refine AllReadyH.cons (o := _) rfl (fun K hK => ?_) AllReadyH.nil
   refine own_st 2 rfl rowE H.out rfl rfl rfl rfl ?_
   intro ws HS
   simp only [List.set_cons_zero, List.set_cons_succ] at HS
   replace H := Lib.hid HS
   refine hK.out _ _ (⟨H.out.row (i + 5) HI.out, H.out.row 4 rfl, H.out.row 3 rfl⟩) (fun hN => ?_)
   clear hK K HS hH
   have hH := hN
   clear hN
   try simp only [List.setIfInBounds_toArray]
   try simp only [Act.put]
   refine wpAnyH_done (by kernel_rfl) ?_ _
   refine NoPanic.normal ?_
   clear hH
   go_wp2_with fail
   exact bodyPost_ret (own_result 2 rowE rfl _ H rfl rfl) rfl ⟨_, rfl, HV16.out, H.out.pop.pop.pop.pop.pop⟩
  ·skip
   refine own_wp_build1E 14 rfl H.out rfl rfl ?_
   intro w14 g14 H3 hb
   replace H := Lib.hid H3
   refine hK.out _ _ (⟨H.out.row (i + 5) HI.out, H.out.row 4 rfl, H.out.row 3 rfl⟩) (fun hN => ?_)
   clear hK K hH H3 hb
   have hH := hN
   clear hN
   try simp only [Act.put, List.setIfInBounds_toArray, List.set_cons_zero, List.set_cons_succ]
   refine wpAnyH_ready (rs := [4]) (by kernel_rfl) (by simp) ?_
   refine AllReadyH.cons (o := _) rfl (fun K hK => ?_) AllReadyH.nil
   go_simp
   refine (product_1 _ EX.out (H.out.row 1 rfl) EA.out).mono ?_
   rintro e wc ⟨h10, rfl, hv, hb⟩
   replace H := Lib.hid (H.out.call hb)
   have HV10 := Lib.hid hv
   refine hK.out _ _ (⟨H.out.row (i + 5) HI.out, H.out.row 4 rfl, H.out.row 3 rfl⟩) (fun hN => ?_)
   clear hK K hH hb hv
   have hH := hN
   clear hN
   try simp only [Act.put, List.setIfInBounds_toArray, List.set_cons_zero, List.set_cons_succ]
   refine wpAnyH_ready (rs := [9]) (by kernel_rfl) (by simp) ?_
   refine AllReadyH.cons (o := _) rfl (fun K hK => ?_) AllReadyH.nil
   go_simp
   refine (product_1 _ EY.out (H.out.row 0 rfl) EB.out).mono ?_
   rintro e wc ⟨h15, rfl, hv, hb⟩
   replace H := Lib.hid (H.out.call hb)
   have HV15 := Lib.hid hv
   refine hK.out _ _ (⟨H.out.row (i + 5) HI.out, H.out.row 4 rfl, H.out.row 3 rfl⟩) (fun hN => ?_)
   clear hK K hH hb hv
   have hH := hN
   clear hN
   try simp only [Act.put, List.setIfInBounds_toArray, List.set_cons_zero, List.set_cons_succ]
   refine wpAnyH_ready (rs := [10]) (by kernel_rfl) (by simp) ?_
   refine AllReadyH.cons (o := _) rfl (fun K hK => ?_) AllReadyH.nil
   go_simp
   refine (add_k _ HV10.out HV15.out).mono ?_
   rintro e wc ⟨h16, rfl, hv, hb⟩
   replace H := Lib.hid (H.out.call hb)
   have HV16 := Lib.hid hv
   refine hK.out _ _ (⟨H.out.row (i + 5) HI.out, H.out.row 4 rfl, H.out.row 3 rfl⟩) (fun hN => ?_)
   clear hK K hH hb hv
   have hH := hN
   clear hN
   try simp only [Act.put, List.setIfInBounds_toArray, List.set_cons_zero, List.set_cons_succ]
   refine wpAnyH_ready (rs := [11]) (by kernel_rfl) (by simp) ?_
   refine AllReadyH.cons (o := _) rfl (fun K hK => ?_) AllReadyH.nil
   refine own_st 2 rfl rowE H.out rfl rfl rfl rfl ?_
   intro ws HS
   simp only [List.set_cons_zero, List.set_cons_succ] at HS
   replace H := Lib.hid HS
   refine hK.out _ _ (⟨H.out.row (i + 5) HI.out, H.out.row 4 rfl, H.out.row 3 rfl⟩) (fun hN => ?_)
   clear hK K HS hH
   have hH := hN
   clear hN
   try simp only [List.setIfInBounds_toArray]
   try simp only [Act.put]
   refine wpAnyH_done (by kernel_rfl) ?_ _
   refine NoPanic.normal ?_
   clear hH
   go_wp2_with fail
   exact bodyPost_ret (own_result 2 rowE rfl _ H rfl rfl) rfl ⟨_, rfl, HV16.out, H.out.pop.pop.pop.pop.pop⟩
 ·skip
  refine own_wp_build1E 14 rfl H.out rfl rfl ?_
  intro w14 g14 H3 hb
  replace H := Lib.hid H3
  refine hK.out _ _ (⟨H.out.row (i + 4) HI.out, H.out.row 3 rfl, H.out.row 2 rfl⟩) (fun hN => ?_)
  clear hK K hH H3 hb
  have hH := hN
  clear hN
  try simp only [Act.put, List.setIfInBounds_toArray, List.set_cons_zero, List.set_cons_succ]
  refine wpAnyH_ready (rs := [3]) (by kernel_rfl) (by simp) ?_
  refine AllReadyH.cons (o := _) rfl (fun K hK => ?_) AllReadyH.nil
  refine own_wp_build1E 9 rfl H.out rfl rfl ?_
  intro w9 g9 H3 hb
  replace H := Lib.hid H3
  refine hK.out _ _ (⟨H.out.row (i + 5) HI.out, H.out.row 4 rfl, H.out.row 3 rfl⟩) (fun hN => ?_)
  clear hK K hH H3 hb
  have hH := hN
  clear hN
  try simp only [Act.put, List.setIfInBounds_toArray, List.set_cons_zero, List.set_cons_succ]
  refine wpAnyH_ready (rs := [4]) (by kernel_rfl) (by simp) ?_
  refine AllReadyH.cons (o := _) rfl (fun K hK => ?_) AllReadyH.nil
  go_simp
  refine (product_1 _ EX.out (H.out.row 0 rfl) EA.out).mono ?_
  rintro e wc ⟨h10, rfl, hv, hb⟩
  replace H := Lib.hid (H.out.call hb)
  have HV10 := Lib.hid hv
  refine hK.out _ _ (⟨H.out.row (i + 5) HI.out, H.out.row 4 rfl, H.out.row 3 rfl⟩) (fun hN => ?_)
  clear hK K hH hb hv
  have hH := hN
  clear hN
  try simp only [Act.put, List.setIfInBounds_toArray, List.set_cons_zero, List.set_cons_succ]
  refine wpAnyH_ready (rs := [9]) (by kernel_rfl) (by simp) ?_
  refine AllReadyH.cons (o := _) rfl (fun K hK => ?_) AllReadyH.nil
  go_simp
  refine (product_1 _ EY.out (H.out.row 1 rfl) EB.out).mono ?_
  rintro e wc ⟨h15, rfl, hv, hb⟩
  replace H := Lib.hid (H.out.call hb)
  have HV15 := Lib.hid hv
  refine hK.out _ _ (⟨H.out.row (i + 5) HI.out, H.out.row 4 rfl, H.out.row 3 rfl⟩) (fun hN => ?_)
  clear hK K hH hb hv
  have hH := hN
  clear hN
  try simp only [Act.put, List.setIfInBounds_toArray, List.set_cons_zero, List.set_cons_succ]
  refine wpAnyH_ready (rs := [10]) (by kernel_rfl) (by simp) ?_
  refine AllReadyH.cons (o := _) rfl (fun K hK => ?_) AllReadyH.nil
  go_simp
  refine (add_k _ HV10.out HV15.out).mono ?_
  rintro e wc ⟨h16, rfl, hv, hb⟩
  replace H := Lib.hid (H.out.call hb)
  have HV16 := Lib.hid hv
  refine hK.out _ _ (⟨H.out.row (i + 5) HI.out, H.out.row 4 rfl, H.out.row 3 rfl⟩) (fun hN => ?_)
  clear hK K hH hb hv
  have hH := hN
  clear hN
  try simp only [Act.put, List.setIfInBounds_toArray, List.set_cons_zero, List.set_cons_succ]
  refine wpAnyH_ready (rs := [11]) (by kernel_rfl) (by simp) ?_
  refine AllReadyH.cons (o := _) rfl (fun K hK => ?_) AllReadyH.nil
  refine own_st 2 rfl rowE H.out rfl rfl rfl rfl ?_
  intro ws HS
  simp only [List.set_cons_zero, List.set_cons_succ] at HS
  replace H := Lib.hid HS
  refine hK.out _ _ (⟨H.out.row (i + 5) HI.out, H.out.row 4 rfl, H.out.row 3 rfl⟩) (fun hN => ?_)
  clear hK K HS hH
  have hH := hN
  clear hN
  try simp only [List.setIfInBounds_toArray]
  try simp only [Act.put]
  refine wpAnyH_done (by kernel_rfl) ?_ _
  refine NoPanic.normal ?_
  clear hH
  go_wp2_with fail
  exact bodyPost_ret (own_result 2 rowE rfl _ H rfl rfl) rfl ⟨_, rfl, HV16.out, H.out.pop.pop.pop.pop.pop⟩
set_option maxRecDepth 8000 in
set_option maxHeartbeats 3200000 in
theorem twAdd_x {v1 v2 : Nat → Int} {X1 Y1 X2 Y2 : K} (w : World) (hT : Tp w) (p1 : TwX v1 X1 Y1) (p2 : TwX v2 X2 Y2) :
  Calls Tryz.prog 18 #[TO v1, TO v2] w fun e w' => ∃ r, e = .returned (TO r) ∧ TwX r ((X1 * Y2 + Y1 * X2) * inv (ofZ 1 - X1 * X2 * Y1 * Y2 * ofZ 39082)) ((X1 * X2 + Y1 * Y2) * inv (ofZ 1 + X1 * X2 * Y1 * Y2 * ofZ 39082)) ∧ Below w.heap.size w w' := by
 obtain ⟨x1, y1, rfl, e1x, e1y⟩ := p1.is
 have E1x := Lib.hid e1x
 have E1y := Lib.hid e1y
 clear p1 e1x e1y
 obtain ⟨x2, y2, rfl, e2x, e2y⟩ := p2.is
 have E2x := Lib.hid e2x
 have E2y := Lib.hid e2y
 clear p2 e2x e2y
 have HT := Lib.hid hT
 clear hT
 have H := Lib.hid (Ow.start w)
 go_enter Tryz.func18, Tryz.ntmps18
 go_upto_region 3 with (first
  | ((fail_if_success have := g2); (with_reducible apply own_box H); (case hgd | ho | hx => exact rfl); intro w2 g2 H' _ _; replace H := H'; clear H'; go_simp)
  | ((fail_if_success have := g3); (fail_if_success have := g3); (with_reducible apply own_box H); (case hgd | ho | hx => exact rfl); intro w3 g3 H' _ _; replace H := H'; clear H'; go_simp)
  | ((fail_if_success have := g4); (with_reducible apply own_alloc nilTO H); (case hgd | ho => exact rfl); intro w4 g4 H' _ _; replace H := H'; clear H'; go_simp)
  | ((with_reducible apply own_load_p rowE H); (case hgd | ho | hx => exact rfl); (case hi => first|exact at0|exact at1|exact at2|exact at3|exact at4|exact at5|exact at6|exact at7|exact at8|exact at9); (case hp => first | exact part2_0 | exact part2_1); intro _ _; go_simp)
  | ((fail_if_success have := VB); (with_reducible refine (bent13_k _ (HT.out.below H.out.bel) E1x.out E2x.out E1y.out E2y.out).mono ?_); rintro e wc ⟨hB, rfl, hv, hb⟩; replace H := Lib.hid (H.out.call hb); clear hb; have VB := Lib.hid hv; clear hv)
  | ((fail_if_success have := g5); (fail_if_success have := g5); (with_reducible apply own_alloc nilE H); (case hgd | ho => exact rfl); intro w5 g5 H' _ _; replace H := H'; clear H'; go_simp)
  | ((with_reducible apply own_store rowE H); (case hgd | ho | hx | hy => exact rfl); (case hi => first|exact at0|exact at1|exact at2|exact at3|exact at4|exact at5|exact at6|exact at7|exact at8|exact at9); intro ws H' _ _; replace H := H'; clear H'; simp only [List.set_cons_zero] at H; go_simp))
 refine wp_region_noPanic ?_
 refine wp_region_held_drew (S := fun W => W.heap[g3]? = some (Blk 46 .u64 16 ((t2 8 (NZ x2) (NZ y2)))) ∧ W.heap[g5]? = some (Blk 29 .u64 8 (NZ hB))) (by kernel_rfl) (⟨H.out.drew.row 2 rfl, H.out.drew.row 0 rfl⟩) (fun hH => ?_)
 replace H := Lib.hid H.out.drew
 generalize World.drew _ = w8 at *
 refine held_value 0 17 (.func (.func 60) #[] #[.pointer (some ⟨g2, 0, none⟩)]) rfl rfl (by kernel_rfl) (by kernel_rfl) (by kernel_rfl) rfl hH (fun w hw => by go_simp) ?_
 try simp only [Act.put, List.setIfInBounds_toArray, List.set_cons_zero, List.set_cons_succ]
 refine held_value 1 18 (.pointer (some ⟨g3, 8, none⟩)) rfl rfl (by kernel_rfl) (by kernel_rfl) (by kernel_rfl) rfl hH (fun w hw => by go_simp) ?_
 try simp only [Act.put, List.setIfInBounds_toArray, List.set_cons_zero, List.set_cons_succ]
 refine held_part 2 19 rowE rfl rfl (by kernel_rfl) (by kernel_rfl) (by kernel_rfl) rfl hH rfl rfl part2_1 (fun _ h => h.1) ?_
 try simp only [Act.put, List.setIfInBounds_toArray, List.set_cons_zero, List.set_cons_succ]
 refine held_value 3 20 (.pointer (some ⟨g3, 0, none⟩)) rfl rfl (by kernel_rfl) (by kernel_rfl) (by kernel_rfl) rfl hH (fun w hw => by go_simp) ?_
 try simp only [Act.put, List.setIfInBounds_toArray, List.set_cons_zero, List.set_cons_succ]
 refine held_part 4 21 rowE rfl rfl (by kernel_rfl) (by kernel_rfl) (by kernel_rfl) rfl hH rfl rfl part2_0 (fun _ h => h.1) ?_
 try simp only [Act.put, List.setIfInBounds_toArray, List.set_cons_zero, List.set_cons_succ]
 refine held_row 7 24 rowE rfl rfl (by kernel_rfl) (by kernel_rfl) (by kernel_rfl) rfl hH rfl rfl (fun _ h => h.2) ?_
 try simp only [Act.put, List.setIfInBounds_toArray, List.set_cons_zero, List.set_cons_succ]
 refine held_value 10 27 (.func (.func 60) #[] #[.pointer (some ⟨g2, 0, none⟩)]) rfl rfl (by kernel_rfl) (by kernel_rfl) (by kernel_rfl) rfl hH (fun w hw => by go_simp) ?_
 try simp only [Act.put, List.setIfInBounds_toArray, List.set_cons_zero, List.set_cons_succ]
 refine held_value 11 28 (.pointer (some ⟨g3, 0, none⟩)) rfl rfl (by kernel_rfl) (by kernel_rfl) (by kernel_rfl) rfl hH (fun w hw => by go_simp) ?_
 try simp only [Act.put, List.setIfInBounds_toArray, List.set_cons_zero, List.set_cons_succ]
 refine held_part 12 29 rowE rfl rfl (by kernel_rfl) (by kernel_rfl) (by kernel_rfl) rfl hH rfl rfl part2_0 (fun _ h => h.1) ?_
 try simp only [Act.put, List.setIfInBounds_toArray, List.set_cons_zero, List.set_cons_succ]
 refine held_value 13 30 (.pointer (some ⟨g3, 8, none⟩)) rfl rfl (by kernel_rfl) (by kernel_rfl) (by kernel_rfl) rfl hH (fun w hw => by go_simp) ?_
 try simp only [Act.put, List.setIfInBounds_toArray, List.set_cons_zero, List.set_cons_succ]
 refine held_part 14 31 rowE rfl rfl (by kernel_rfl) (by kernel_rfl) (by kernel_rfl) rfl hH rfl rfl part2_1 (fun _ h => h.1) ?_
 try simp only [Act.put, List.setIfInBounds_toArray, List.set_cons_zero, List.set_cons_succ]
 refine held_row 17 34 rowE rfl rfl (by kernel_rfl) (by kernel_rfl) (by kernel_rfl) rfl hH rfl rfl (fun _ h => h.2) ?_
 try simp only [Act.put, List.setIfInBounds_toArray, List.set_cons_zero, List.set_cons_succ]
 refine wpAnyH_ready (rs := [5]) (by kernel_rfl) (by simp) ?_
 refine AllReadyH.cons (o := _) rfl (fun K hK => ?_) AllReadyH.nil
 go_simp
 refine (sum_c (i := 3) _ _ H.out rfl E2y.out E2x.out E1x.out E1y.out).mono ?_
 rintro e wc ⟨h22, rfl, hv, H2⟩
 replace H := Lib.hid (H2)
 have HV22 := Lib.hid hv
 refine hK.out _ _ (⟨H.out.row 2 rfl, H.out.row 0 rfl⟩) (fun hN => ?_)
 clear hK K hH H2 hv
 have hH := hN
 clear hN
 try simp only [Act.put, List.setIfInBounds_toArray, List.set_cons_zero, List.set_cons_succ]
 refine wpAnyH_ready (rs := [6]) (by kernel_rfl) (by simp) ?_
 refine AllReadyH.cons (o := _) rfl (fun K hK => ?_) AllReadyH.nil
 go_simp
 refine (int_k (1) _ (HT.out.below H.out.bel) (by omega) (by omega)).mono ?_
 rintro e wc ⟨h23, rfl, hv, hb⟩
 replace H := Lib.hid (H.out.call hb)
 have HV23 := Lib.hid hv
 refine hK.out _ _ (⟨H.out.row 2 rfl, H.out.row 0 rfl⟩) (fun hN => ?_)
 clear hK K hH hb hv
 have hH := hN
 clear hN
 try simp only [Act.put, List.setIfInBounds_toArray, List.set_cons_zero, List.set_cons_succ]
 refine wpAnyH_ready (rs := [8]) (by kernel_rfl) (by simp) ?_
 refine AllReadyH.cons (o := _) rfl (fun K hK => ?_) AllReadyH.nil
 go_simp
 refine (sub_k _ (HT.out.below H.out.bel) HV23.out VB.out).mono ?_
 rintro e wc ⟨h25, rfl, hv, hb⟩
 replace H := Lib.hid (H.out.call hb)
 have HV25 := Lib.hid hv
 refine hK.out _ _ (⟨H.out.row 2 rfl, H.out.row 0 rfl⟩) (fun hN => ?_)
 clear hK K hH hb hv
 have hH := hN
 clear hN
 try simp only [Act.put, List.setIfInBounds_toArray, List.set_cons_zero, List.set_cons_succ]
 refine wpAnyH_ready (rs := [9]) (by kernel_rfl) (by simp) ?_
 refine AllReadyH.cons (o := _) rfl (fun K hK => ?_) AllReadyH.nil
 go_simp
 refine (ratio13_k _ HV22.out HV25.out).mono ?_
 rintro e wc ⟨h26, rfl, hv, hb⟩
 replace H := Lib.hid (H.out.call hb)
 have HV26 := Lib.hid hv
 refine hK.out _ _ (⟨H.out.row 2 rfl, H.out.row 0 rfl⟩) (fun hN => ?_)
 clear hK K hH hb hv
 have hH := hN
 clear hN
 try simp only [Act.put, List.setIfInBounds_toArray, List.set_cons_zero, List.set_cons_succ]
 refine wpAnyH_ready (rs := [15]) (by kernel_rfl) (by simp) ?_
 refine AllReadyH.cons (o := _) rfl (fun K hK => ?_) AllReadyH.nil
 go_simp
 refine (sum_c (i := 3) _ _ H.out rfl E2x.out E2y.out E1x.out E1y.out).mono ?_
 rintro e wc ⟨h32, rfl, hv, H2⟩
 replace H := Lib.hid (H2)
 have HV32 := Lib.hid hv
 refine hK.out _ _ (⟨H.out.row 2 rfl, H.out.row 0 rfl⟩) (fun hN => ?_)
 clear hK K hH H2 hv
 have hH := hN
 clear hN
 try simp only [Act.put, List.setIfInBounds_toArray, List.set_cons_zero, List.set_cons_succ]
 refine wpAnyH_ready (rs := [16]) (by kernel_rfl) (by simp) ?_
 refine AllReadyH.cons (o := _) rfl (fun K hK => ?_) AllReadyH.nil
 go_simp
 refine (int_k (1) _ (HT.out.below H.out.bel) (by omega) (by omega)).mono ?_
 rintro e wc ⟨h33, rfl, hv, hb⟩
 replace H := Lib.hid (H.out.call hb)
 have HV33 := Lib.hid hv
 refine hK.out _ _ (⟨H.out.row 2 rfl, H.out.row 0 rfl⟩) (fun hN => ?_)
 clear hK K hH hb hv
 have hH := hN
 clear hN
 try simp only [Act.put, List.setIfInBounds_toArray, List.set_cons_zero, List.set_cons_succ]
 refine wpAnyH_ready (rs := [18]) (by kernel_rfl) (by simp) ?_
 refine AllReadyH.cons (o := _) rfl (fun K hK => ?_) AllReadyH.nil
 go_simp
 refine (add_k _ HV33.out VB.out).mono ?_
 rintro e wc ⟨h35, rfl, hv, hb⟩
 replace H := Lib.hid (H.out.call hb)
 have HV35 := Lib.hid hv
 refine hK.out _ _ (⟨H.out.row 2 rfl, H.out.row 0 rfl⟩) (fun hN => ?_)
 clear hK K hH hb hv
 have hH := hN
 clear hN
 try simp only [Act.put, List.setIfInBounds_toArray, List.set_cons_zero, List.set_cons_succ]
 refine wpAnyH_ready (rs := [19]) (by kernel_rfl) (by simp) ?_
 refine AllReadyH.cons (o := _) rfl (fun K hK => ?_) AllReadyH.nil
 go_simp
 refine (ratio13_k _ HV32.out HV35.out).mono ?_
 rintro e wc ⟨h36, rfl, hv, hb⟩
 replace H := Lib.hid (H.out.call hb)
 have HV36 := Lib.hid hv
 refine hK.out _ _ (⟨H.out.row 2 rfl, H.out.row 0 rfl⟩) (fun hN => ?_)
 clear hK K hH hb hv
 have hH := hN
 clear hN
 try simp only [Act.put, List.setIfInBounds_toArray, List.set_cons_zero, List.set_cons_succ]
 refine held_TO 20 37 rfl rfl (by kernel_rfl) (by kernel_rfl) (by kernel_rfl) rfl hH rfl rfl rfl ?_
 try simp only [Act.put, List.setIfInBounds_toArray, List.set_cons_zero, List.set_cons_succ]
 refine wpAnyH_ready (rs := [21]) (by kernel_rfl) (by simp) ?_
 refine AllReadyH.cons (o := _) rfl (fun K hK => ?_) AllReadyH.nil
 refine own_st 1 rfl rowTO H.out rfl rfl rfl rfl ?_
 intro ws HS
 simp only [List.set_cons_zero, List.set_cons_succ] at HS
 replace H := Lib.hid HS
 refine hK.out _ _ (⟨H.out.row 2 rfl, H.out.row 0 rfl⟩) (fun hN => ?_)
 clear hK K HS hH
 have hH := hN
 clear hN
 try simp only [List.setIfInBounds_toArray]
 try simp only [Act.put]
 refine wpAnyH_done (by kernel_rfl) ?_ _
 refine NoPanic.normal ?_
 clear hH
 go_wp2_with fail
 exact bodyPost_ret (own_result 1 rowTO rfl _ H rfl rfl) rfl ⟨_, rfl, .mk2 HV26.out HV36.out, H.out.bel⟩
theorem twAdd_k {v1 v2 : Nat → Int} {P Q : Pt pN dK} (w : World) (hT : Tp w) (p1 : TwK v1 P) (p2 : TwK v2 Q) :
  Calls Tryz.prog 18 #[TO v1, TO v2] w fun e w' => ∃ r, e = .returned (TO r) ∧ TwK r (padd edK P Q) ∧ Below w.heap.size w w' :=
 (twAdd_x w hT p1 p2).mono fun _ _ ⟨r, he, hr, hb⟩ => ⟨r, he, hr.eq (ax_add_x P Q) (ax_add_y P Q), hb⟩
set_option maxRecDepth 8000 in
set_option maxHeartbeats 3200000 in
theorem twDouble_k {v : Nat → Int} {P : Pt pN dK} (w : World) (hT : Tp w) (p : TwK v P) :
  Calls Tryz.prog 20 #[TO v] w fun e w' => ∃ r, e = .returned (TO r) ∧ TwK r (padd edK P P) ∧ Below w.heap.size w w' := by
 have V := Lib.hid p
 clear p
 have HT := Lib.hid hT
 clear hT
 have H := Lib.hid (Ow.start w)
 go_enter Tryz.func20, Tryz.ntmps20
 go_wp2_with (first
  | ((fail_if_success have := g1); (with_reducible apply own_box H); (case hgd | ho | hx => exact rfl); intro w1 g1 H' _ _; replace H := H'; clear H'; go_simp)
  | ((fail_if_success have := g2); (with_reducible apply own_alloc nilTO H); (case hgd | ho => exact rfl); intro w2 g2 H' _ _; replace H := H'; clear H'; go_simp)
  | ((with_reducible apply own_load rowTO H); (case hgd | ho | hx => exact rfl); (case hi => first|exact at0|exact at1|exact at2|exact at3|exact at4|exact at5|exact at6|exact at7|exact at8|exact at9); intro _ _; go_simp)
  | ((fail_if_success have := V2); (with_reducible refine (twAdd_k _ (HT.out.below H.out.bel) V.out V.out).mono ?_); rintro e wc ⟨h2, rfl, hv, hb⟩; replace H := Lib.hid (H.out.call hb); clear hb; have V2 := Lib.hid hv; clear hv)
  | ((with_reducible apply own_store rowTO H); (case hgd | ho | hx | hy => exact rfl); (case hi => first|exact at0|exact at1|exact at2|exact at3|exact at4|exact at5|exact at6|exact at7|exact at8|exact at9); intro ws H' _ _; replace H := H'; clear H'; simp only [List.set_cons_zero] at H; go_simp))
 exact bodyPost_ret (own_result 0 rowTO rfl _ H rfl rfl) rfl ⟨_, rfl, V2.out, H.out.bel⟩
set_option maxRecDepth 8000 in
set_option maxHeartbeats 3200000 in
theorem twNeg_k {v1 : Nat → Int} {P : Pt pN dK} (w : World) (hT : Tp w) (p1 : TwK v1 P) :
  Calls Tryz.prog 21 #[TO v1] w fun e w' => ∃ r, e = .returned (TO r) ∧ TwK r (pneg P) ∧ Below w.heap.size w w' := by
 obtain ⟨x1, y1, rfl, e1x, e1y⟩ := p1.is
 have E1x := Lib.hid e1x
 have E1y := Lib.hid e1y
 clear p1 e1x e1y
 have HT := Lib.hid hT
 clear hT
 have H := Lib.hid (Ow.start w)
 go_enter Tryz.func21, Tryz.ntmps21
 go_wp2_with (first
  | ((fail_if_success have := g1); (with_reducible apply own_box H); (case hgd | ho | hx => exact rfl); intro w1 g1 H' _ _; replace H := H'; clear H'; go_simp)
  | ((fail_if_success have := g2); (with_reducible apply own_alloc nilTO H); (case hgd | ho => exact rfl); intro w2 g2 H' _ _; replace H := H'; clear H'; go_simp))
 refine wp_region_noPanic ?_
 refine wp_region_held_drew (S := fun W => W.heap[g1]? = some (Blk 46 .u64 16 ((t2 8 (NZ x1) (NZ y1))))) (by kernel_rfl) (H.out.drew.row 1 rfl) (fun hH => ?_)
 replace H := Lib.hid H.out.drew
 generalize World.drew _ = w8 at *
 refine held_value 0 3 (.pointer (some ⟨g1, 0, none⟩)) rfl rfl (by kernel_rfl) (by kernel_rfl) (by kernel_rfl) rfl hH (fun w hw => by go_simp) ?_
 try simp only [Act.put, List.setIfInBounds_toArray, List.set_cons_zero, List.set_cons_succ]
 refine held_part 1 4 rowE rfl rfl (by kernel_rfl) (by kernel_rfl) (by kernel_rfl) rfl hH rfl rfl part2_0 (fun _ h => h) ?_
 try simp only [Act.put, List.setIfInBounds_toArray, List.set_cons_zero, List.set_cons_succ]
 refine held_value 3 6 (.pointer (some ⟨g1, 8, none⟩)) rfl rfl (by kernel_rfl) (by kernel_rfl) (by kernel_rfl) rfl hH (fun w hw => by go_simp) ?_
 try simp only [Act.put, List.setIfInBounds_toArray, List.set_cons_zero, List.set_cons_succ]
 refine held_part 4 7 rowE rfl rfl (by kernel_rfl) (by kernel_rfl) (by kernel_rfl) rfl hH rfl rfl part2_1 (fun _ h => h) ?_
 try simp only [Act.put, List.setIfInBounds_toArray, List.set_cons_zero, List.set_cons_succ]
 refine wpAnyH_ready (rs := [2]) (by kernel_rfl) (by simp) ?_
 refine AllReadyH.cons (o := _) rfl (fun K hK => ?_) AllReadyH.nil
 go_simp
 refine (neg_k _ (HT.out.below H.out.bel) E1x.out).mono ?_
 rintro e wc ⟨h5, rfl, hv, hb⟩
 replace H := Lib.hid (H.out.call hb)
 have HV5 := Lib.hid hv
 refine hK.out _ _ (H.out.row 1 rfl) (fun hN => ?_)
 clear hK K hH hb hv
 have hH := hN
 clear hN
 try simp only [Act.put, List.setIfInBounds_toArray, List.set_cons_zero, List.set_cons_succ]
 refine held_TO 5 8 rfl rfl (by kernel_rfl) (by kernel_rfl) (by kernel_rfl) rfl hH rfl rfl rfl ?_
 try simp only [Act.put, List.setIfInBounds_toArray, List.set_cons_zero, List.set_cons_succ]
 refine wpAnyH_ready (rs := [6]) (by kernel_rfl) (by simp) ?_
 refine AllReadyH.cons (o := _) rfl (fun K hK => ?_) AllReadyH.nil
 refine own_st 0 rfl rowTO H.out rfl rfl rfl rfl ?_
 intro ws HS
 simp only [List.set_cons_zero] at HS
 replace H := Lib.hid HS
 refine hK.out _ _ (H.out.row 1 rfl) (fun hN => ?_)
 clear hK K HS hH
 have hH := hN
 clear hN
 try simp only [List.setIfInBounds_toArray]
 try simp only [Act.put]
 refine wpAnyH_done (by kernel_rfl) ?_ _
 refine NoPanic.normal ?_
 clear hH
 go_wp2_with fail
 exact bodyPost_ret (own_result 0 rowTO rfl _ H rfl rfl) rfl ⟨_, rfl, (TwX.mk2 HV5.out E1y.out).eq (tw_neg P).1.symm (tw_neg P).2.symm, H.out.bel⟩
set_option maxRecDepth 8000 in
set_option maxHeartbeats 3200000 in
theorem twIdentity_k (w : World) (hT : Tp w) :
  Calls Tryz.prog 33 #[] w fun e w' => ∃ r, e = .returned (TO r) ∧ TwK r pzero ∧ Below w.heap.size w w' := by
 have HT := Lib.hid hT
 clear hT
 have H := Lib.hid (Ow.start w)
 go_enter Tryz.func33, Tryz.ntmps33
 go_wp2_with (first
  | ((fail_if_success have := g0); (with_reducible apply own_alloc nilTO H); (case hgd | ho => exact rfl); intro w0 g0 H' _ _; replace H := H'; clear H'; go_simp)
  | ((fail_if_success have := V1); (with_reducible refine (int_k (0) _ (HT.out.below H.out.bel) (by omega) (by omega)).mono ?_); rintro e wc ⟨h1, rfl, hv, hb⟩; replace H := Lib.hid (H.out.call hb); clear hb; have V1 := Lib.hid hv; clear hv)
  | ((fail_if_success have := V2); (with_reducible refine (int_k (1) _ (HT.out.below H.out.bel) (by omega) (by omega)).mono ?_); rintro e wc ⟨h2, rfl, hv, hb⟩; replace H := Lib.hid (H.out.call hb); clear hb; have V2 := Lib.hid hv; clear hv)
  | ((with_reducible apply lay_build_TO); (case hgd | ho | hx | hy => exact rfl); intro _ _; go_simp)
  | ((with_reducible apply own_store rowTO H); (case hgd | ho | hx | hy => exact rfl); (case hi => first|exact at0|exact at1|exact at2|exact at3|exact at4|exact at5|exact at6|exact at7|exact at8|exact at9); intro ws H' _ _; replace H := H'; clear H'; simp only [List.set_cons_zero] at H; go_simp))
 exact bodyPost_ret (own_result 0 rowTO rfl _ H rfl rfl) rfl ⟨_, rfl, (TwX.mk2 V1.out V2.out).eq (ax_zero.trans ax_zero_x.symm) (ax_one.trans ax_zero_y.symm), H.out.bel⟩
set_option maxRecDepth 8000 in
set_option maxHeartbeats 3200000 in
theorem twAffine_k {v1 : Nat → Int} {X1 Y1 : K} (w : World) (p1 : TwX v1 X1 Y1) :
  Calls Tryz.prog 11 #[TO v1] w fun e w' => ∃ r s, e = .returned (.tuple #[EV r, EV s]) ∧ EK r X1 ∧ EK s Y1 ∧ Below w.heap.size w w' := by
 obtain ⟨x1, y1, rfl, e1x, e1y⟩ := p1.is
 have E1x := Lib.hid e1x
 have E1y := Lib.hid e1y
 clear p1 e1x e1y
 have H := Lib.hid (Ow.start w)
 go_enter Tryz.func11, Tryz.ntmps11
 go_wp2_with (first
  | ((fail_if_success have := g1); (with_reducible apply own_box H); (case hgd | ho | hx => exact rfl); intro w1 g1 H' _ _; replace H := H'; clear H'; go_simp)
  | ((fail_if_success have := g2); (with_reducible apply own_alloc nilE H); (case hgd | ho => exact rfl); intro w2 g2 H' _ _; replace H := H'; clear H'; go_simp)
  | ((fail_if_success have := g3); (fail_if_success have := g3); (with_reducible apply own_alloc nilE H); (case hgd | ho => exact rfl); intro w3 g3 H' _ _; replace H := H'; clear H'; go_simp))
 refine wp_region_noPanic ?_
 refine wp_region_held_drew (S := fun W => W.heap[g1]? = some (Blk 46 .u64 16 ((t2 8 (NZ x1) (NZ y1))))) (by kernel_rfl) (H.out.drew.row 2 rfl) (fun hH => ?_)
 replace H := Lib.hid H.out.drew
 generalize World.drew _ = w8 at *
 refine held_value 0 4 (.pointer (some ⟨g1, 0, none⟩)) rfl rfl (by kernel_rfl) (by kernel_rfl) (by kernel_rfl) rfl hH (fun w hw => by go_simp) ?_
 try simp only [Act.put, List.setIfInBounds_toArray, List.set_cons_zero, List.set_cons_succ]
 refine held_part 1 5 rowE rfl rfl (by kernel_rfl) (by kernel_rfl) (by kernel_rfl) rfl hH rfl rfl part2_0 (fun _ h => h) ?_
 try simp only [Act.put, List.setIfInBounds_toArray, List.set_cons_zero, List.set_cons_succ]
 refine held_value 2 6 (.pointer (some ⟨g1, 8, none⟩)) rfl rfl (by kernel_rfl) (by kernel_rfl) (by kernel_rfl) rfl hH (fun w hw => by go_simp) ?_
 try simp only [Act.put, List.setIfInBounds_toArray, List.set_cons_zero, List.set_cons_succ]
 refine held_part 3 7 rowE rfl rfl (by kernel_rfl) (by kernel_rfl) (by kernel_rfl) rfl hH rfl rfl part2_1 (fun _ h => h) ?_
 try simp only [Act.put, List.setIfInBounds_toArray, List.set_cons_zero, List.set_cons_succ]
 refine wpAnyH_ready (rs := [4]) (by kernel_rfl) (by simp) ?_
 refine AllReadyH.cons (o := _) rfl (fun K hK => ?_) AllReadyH.nil
 refine own_st 1 rfl rowE H.out rfl rfl rfl rfl ?_
 intro ws HS
 simp only [List.set_cons_zero, List.set_cons_succ] at HS
 replace H := Lib.hid HS
 refine hK.out _ _ (H.out.row 2 rfl) (fun hN => ?_)
 clear hK K HS hH
 have hH := hN
 clear hN
 try simp only [List.setIfInBounds_toArray]
 refine wpAnyH_ready (rs := [5]) (by kernel_rfl) (by simp) ?_
 refine AllReadyH.cons (o := _) rfl (fun K hK => ?_) AllReadyH.nil
 refine own_st 0 rfl rowE H.out rfl rfl rfl rfl ?_
 intro ws HS
 simp only [List.set_cons_zero] at HS
 replace H := Lib.hid HS
 refine hK.out _ _ (H.out.row 2 rfl) (fun hN => ?_)
 clear hK K HS hH
 have hH := hN
 clear hN
 try simp only [List.setIfInBounds_toArray]
 try simp only [Act.put]
 refine wpAnyH_done (by kernel_rfl) ?_ _
 refine NoPanic.normal ?_
 clear hH
 go_wp2_with fail
 exact bodyPost_ret (own_result_two 1 0 rowE rowE rfl _ H rfl rfl rfl rfl) rfl ⟨_, _, rfl, E1x.out, E1y.out, H.out.bel⟩
end Go.Proofs.YtoeokhfhcpcjlaaGreatDoor
