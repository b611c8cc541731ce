/-
 The contracts of package point's Equal and Select. No statement is proved here: lemmas for the walks.
-/
import Derived.Test.YtoeokhfhcpcjlaaGreatDoorBuH
import Derived.Deep.CutRange
namespace Go.Proofs.YtoeokhfhcpcjlaaGreatDoor
open Go.RowKit
theorem zero_kb {f : Nat → Nat} {a : K} {b : Bool} (w : World) (hf : EK f a) (h : decide (a = 0) = b) :
  Calls Tryz.prog 71 #[EV f] w fun e w' => e = .returned (.bool b) ∧ Below w.heap.size w w' := h ▸ zero_k w hf
set_option maxRecDepth 8000 in
set_option maxHeartbeats 3200000 in
theorem apart_k {f g x1 y1 z1 x2 y2 z2 : Nat → Nat} {a b Z1 Z2 : K} (gp gq : Nat) (W w : World) (hT : Tp W) (h0 : Ow W w [(gq, Blk 38 .u64 24 (t3 8 (NZ x2) (NZ y2) (NZ z2))), (gp, Blk 38 .u64 24 (t3 8 (NZ x1) (NZ y1) (NZ z1)))]) (hf : EK f a) (hg : EK g b) (h1 : EK z1 Z1) (h2 : EK z2 Z2) :
  Calls Tryz.prog 72 #[EV f, EV g, .pointer (some ⟨gq, 0, none⟩), .pointer (some ⟨gp, 0, none⟩)] w fun e w' => ∃ h, e = .returned (EV h) ∧ EK h ((a * Z2 - b * Z1) * (a * Z2 - b * Z1)) ∧ Ow W w' [(gq, Blk 38 .u64 24 (t3 8 (NZ x2) (NZ y2) (NZ z2))), (gp, Blk 38 .u64 24 (t3 8 (NZ x1) (NZ y1) (NZ z1)))] := by
 have HF := Lib.hid hf
 have HG := Lib.hid hg
 have E1 := Lib.hid h1
 have E2 := Lib.hid h2
 have H := Lib.hid h0
 have HT := Lib.hid hT
 clear hf hg h0 h1 h2 hT
 go_enter Tryz.func72, Tryz.ntmps72
 go_wp2_with (first
  | ((fail_if_success have := g4); (with_reducible apply own_box H); (case hgd | ho | hx => exact rfl); intro w4 g4 H' _ _; replace H := H'; clear H'; go_simp)
  | ((fail_if_success have := g5); (fail_if_success have := g5); (with_reducible apply own_box H); (case hgd | ho | hx => exact rfl); intro w5 g5 H' _ _; replace H := H'; clear H'; go_simp)
  | ((fail_if_success have := g6); (with_reducible apply own_alloc nilE H); (case hgd | ho => exact rfl); intro w6 g6 H' _ _; replace H := H'; clear H'; go_simp))
 refine wp_region_noPanic ?_
 refine wp_region_held_drew (S := fun W => W.heap[g4]? = some (Blk 29 .u64 8 (NZ f)) ∧ W.heap[gq]? = some (Blk 38 .u64 24 ((t3 8 (NZ x2) (NZ y2) (NZ z2)))) ∧ W.heap[g5]? = some (Blk 29 .u64 8 (NZ g)) ∧ W.heap[gp]? = some (Blk 38 .u64 24 ((t3 8 (NZ x1) (NZ y1) (NZ z1))))) (by kernel_rfl) (⟨H.out.drew.row 2 rfl, H.out.drew.row 3 rfl, H.out.drew.row 1 rfl, H.out.drew.row 4 rfl⟩) (fun hH => ?_)
 replace H := Lib.hid H.out.drew
 generalize World.drew _ = w8 at *
 refine held_row 0 7 rowE rfl rfl (by kernel_rfl) (by kernel_rfl) (by kernel_rfl) rfl hH rfl rfl (fun _ h => h.1) ?_
 try simp only [Act.put, List.setIfInBounds_toArray, List.set_cons_zero, List.set_cons_succ]
 refine held_value 1 8 (.pointer (some ⟨gq, 16, none⟩)) rfl rfl (by kernel_rfl) (by kernel_rfl) (by kernel_rfl) rfl hH (fun w hw => by go_simp) ?_
 try simp only [Act.put, List.setIfInBounds_toArray, List.set_cons_zero, List.set_cons_succ]
 refine held_part 2 9 rowE rfl rfl (by kernel_rfl) (by kernel_rfl) (by kernel_rfl) rfl hH rfl rfl part_z8 (fun _ h => h.2.1) ?_
 try simp only [Act.put, List.setIfInBounds_toArray, List.set_cons_zero, List.set_cons_succ]
 refine held_row 4 11 rowE rfl rfl (by kernel_rfl) (by kernel_rfl) (by kernel_rfl) rfl hH rfl rfl (fun _ h => h.2.2.1) ?_
 try simp only [Act.put, List.setIfInBounds_toArray, List.set_cons_zero, List.set_cons_succ]
 refine held_value 5 12 (.pointer (some ⟨gp, 16, none⟩)) rfl rfl (by kernel_rfl) (by kernel_rfl) (by kernel_rfl) rfl hH (fun w hw => by go_simp) ?_
 try simp only [Act.put, List.setIfInBounds_toArray, List.set_cons_zero, List.set_cons_succ]
 refine held_part 6 13 rowE rfl rfl (by kernel_rfl) (by kernel_rfl) (by kernel_rfl) rfl hH rfl rfl part_z8 (fun _ h => h.2.2.2) ?_
 try simp only [Act.put, List.setIfInBounds_toArray, List.set_cons_zero, List.set_cons_succ]
 refine wpAnyH_ready (rs := [3]) (by kernel_rfl) (by simp) ?_
 refine AllReadyH.cons (o := _) rfl (fun K hK => ?_) AllReadyH.nil
 go_simp
 refine (mul_k _ HF.out E2.out).mono ?_
 rintro e wc ⟨h10, rfl, hv, hb⟩
 replace H := Lib.hid (H.out.call hb)
 have HV10 := Lib.hid hv
 refine hK.out _ _ (⟨H.out.row 2 rfl, H.out.row 3 rfl, H.out.row 1 rfl, H.out.row 4 rfl⟩) (fun hN => ?_)
 clear hK K hH hb hv
 have hH := hN
 clear hN
 try simp only [Act.put, List.setIfInBounds_toArray, List.set_cons_zero, List.set_cons_succ]
 refine wpAnyH_ready (rs := [7]) (by kernel_rfl) (by simp) ?_
 refine AllReadyH.cons (o := _) rfl (fun K hK => ?_) AllReadyH.nil
 go_simp
 refine (mul_k _ HG.out E1.out).mono ?_
 rintro e wc ⟨h14, rfl, hv, hb⟩
 replace H := Lib.hid (H.out.call hb)
 have HV14 := Lib.hid hv
 refine hK.out _ _ (⟨H.out.row 2 rfl, H.out.row 3 rfl, H.out.row 1 rfl, H.out.row 4 rfl⟩) (fun hN => ?_)
 clear hK K hH hb hv
 have hH := hN
 clear hN
 try simp only [Act.put, List.setIfInBounds_toArray, List.set_cons_zero, List.set_cons_succ]
 refine wpAnyH_ready (rs := [8]) (by kernel_rfl) (by simp) ?_
 refine AllReadyH.cons (o := _) rfl (fun K hK => ?_) AllReadyH.nil
 go_simp
 refine (sub_k _ (HT.out.below H.out.bel) HV10.out HV14.out).mono ?_
 rintro e wc ⟨h15, rfl, hv, hb⟩
 replace H := Lib.hid (H.out.call hb)
 have HV15 := Lib.hid hv
 refine hK.out _ _ (⟨H.out.row 2 rfl, H.out.row 3 rfl, H.out.row 1 rfl, H.out.row 4 rfl⟩) (fun hN => ?_)
 clear hK K hH hb hv
 have hH := hN
 clear hN
 try simp only [Act.put, List.setIfInBounds_toArray, List.set_cons_zero, List.set_cons_succ]
 refine wpAnyH_ready (rs := [9]) (by kernel_rfl) (by simp) ?_
 refine AllReadyH.cons (o := _) rfl (fun K hK => ?_) AllReadyH.nil
 go_simp
 refine (square_k _ HV15.out).mono ?_
 rintro e wc ⟨h16, rfl, hv, hb⟩
 replace H := Lib.hid (H.out.call hb)
 have HV16 := Lib.hid hv
 refine hK.out _ _ (⟨H.out.row 2 rfl, H.out.row 3 rfl, H.out.row 1 rfl, H.out.row 4 rfl⟩) (fun hN => ?_)
 clear hK K hH hb hv
 have hH := hN
 clear hN
 try simp only [Act.put, List.setIfInBounds_toArray, List.set_cons_zero, List.set_cons_succ]
 refine wpAnyH_ready (rs := [10]) (by kernel_rfl) (by simp) ?_
 refine AllReadyH.cons (o := _) rfl (fun K hK => ?_) AllReadyH.nil
 refine own_wp_store 0 rowE H.out rfl rfl rfl rfl ?_
 intro ws HS
 simp only [List.set_cons_zero] at HS
 replace H := Lib.hid HS
 refine hK.out _ _ (⟨H.out.row 2 rfl, H.out.row 3 rfl, H.out.row 1 rfl, H.out.row 4 rfl⟩) (fun hN => ?_)
 clear hK K HS hH
 have hH := hN
 clear hN
 try simp only [Act.put, List.setIfInBounds_toArray]
 try simp only [Act.put]
 refine wpAnyH_done (by kernel_rfl) ?_ _
 refine NoPanic.normal ?_
 clear hH
 go_wp2_with fail
 exact bodyPost_ret (own_result 0 rowE rfl _ H rfl rfl) rfl ⟨_, rfl, HV16.out, H.out.pop.pop.pop⟩
set_option maxRecDepth 8000 in
set_option maxHeartbeats 3200000 in
theorem ptEqual_k {v1 v2 : Nat → Int} {P1 P2 : Pt pN dK} (w : World) (hT : Tp w) (p1 : PtK v1 P1) (p2 : PtK v2 P2) {b : Bool} (hb : decide (P1 = P2) = b) :
  Calls Tryz.prog 29 #[PO v1, PO v2] w fun e w' => e = .returned (.bool b) ∧ Below w.heap.size w w' := by
 obtain ⟨x1, y1, z1, X1, Y1, Z1, rfl, e1x, e1y, e1z, r1⟩ := p1.is
 have E1x := Lib.hid e1x
 have E1y := Lib.hid e1y
 have E1z := Lib.hid e1z
 have R1 := Lib.hid r1
 clear p1 e1x e1y e1z r1
 obtain ⟨x2, y2, z2, X2, Y2, Z2, rfl, e2x, e2y, e2z, r2⟩ := p2.is
 have E2x := Lib.hid e2x
 have E2y := Lib.hid e2y
 have E2z := Lib.hid e2z
 have R2 := Lib.hid r2
 clear p2 e2x e2y e2z r2
 have HE : Hid (decide ((X1 * Z2 - X2 * Z1) * (X1 * Z2 - X2 * Z1) + (Y1 * Z2 - Y2 * Z1) * (Y1 * Z2 - Y2 * Z1) = 0) = b) := Lib.hid ((decide_eq_decide.2 (R1.out.equal R2.out)).trans hb)
 clear hb
 have HT := Lib.hid hT
 clear hT
 have H := Lib.hid (Ow.start w)
 go_enter Tryz.func29, Tryz.ntmps29
 go_wp2_with (first
  | ((fail_if_success have := g2); (with_reducible apply own_box H); (case hgd | ho | hx => exact rfl); intro w2 g2 H' _ _; replace H := H'; clear H'; go_simp)
  | ((fail_if_success have := g3); (fail_if_success have := g3); (with_reducible apply own_box H); (case hgd | ho | hx => exact rfl); intro w3 g3 H' _ _; replace H := H'; clear H'; go_simp))
 refine wp_region_noPanic ?_
 refine wp_region_held_drew (S := fun W => W.heap[g2]? = some (Blk 38 .u64 24 ((t3 8 (NZ x1) (NZ y1) (NZ z1)))) ∧ W.heap[g3]? = some (Blk 38 .u64 24 ((t3 8 (NZ x2) (NZ y2) (NZ z2))))) (by kernel_rfl) (⟨H.out.drew.row 1 rfl, H.out.drew.row 0 rfl⟩) (fun hH => ?_)
 replace H := Lib.hid H.out.drew
 generalize World.drew _ = w8 at *
 refine held_value 0 7 (.func (.func 72) #[] #[.pointer (some ⟨g3, 0, none⟩), .pointer (some ⟨g2, 0, none⟩)]) rfl rfl (by kernel_rfl) (by kernel_rfl) (by kernel_rfl) rfl hH (fun w hw => by go_simp) ?_
 try simp only [Act.put, List.setIfInBounds_toArray, List.set_cons_zero, List.set_cons_succ]
 refine held_value 1 8 (.pointer (some ⟨g2, 0, none⟩)) rfl rfl (by kernel_rfl) (by kernel_rfl) (by kernel_rfl) rfl hH (fun w hw => by go_simp) ?_
 try simp only [Act.put, List.setIfInBounds_toArray, List.set_cons_zero, List.set_cons_succ]
 refine held_part 2 9 rowE rfl rfl (by kernel_rfl) (by kernel_rfl) (by kernel_rfl) rfl hH rfl rfl part_x8 (fun _ h => h.1) ?_
 try simp only [Act.put, List.setIfInBounds_toArray, List.set_cons_zero, List.set_cons_succ]
 refine held_value 3 10 (.pointer (some ⟨g3, 0, none⟩)) rfl rfl (by kernel_rfl) (by kernel_rfl) (by kernel_rfl) rfl hH (fun w hw => by go_simp) ?_
 try simp only [Act.put, List.setIfInBounds_toArray, List.set_cons_zero, List.set_cons_succ]
 refine held_part 4 11 rowE rfl rfl (by kernel_rfl) (by kernel_rfl) (by kernel_rfl) rfl hH rfl rfl part_x8 (fun _ h => h.2) ?_
 try simp only [Act.put, List.setIfInBounds_toArray, List.set_cons_zero, List.set_cons_succ]
 refine held_value 6 13 (.func (.func 72) #[] #[.pointer (some ⟨g3, 0, none⟩), .pointer (some ⟨g2, 0, none⟩)]) rfl rfl (by kernel_rfl) (by kernel_rfl) (by kernel_rfl) rfl hH (fun w hw => by go_simp) ?_
 try simp only [Act.put, List.setIfInBounds_toArray, List.set_cons_zero, List.set_cons_succ]
 refine held_value 7 14 (.pointer (some ⟨g2, 8, none⟩)) rfl rfl (by kernel_rfl) (by kernel_rfl) (by kernel_rfl) rfl hH (fun w hw => by go_simp) ?_
 try simp only [Act.put, List.setIfInBounds_toArray, List.set_cons_zero, List.set_cons_succ]
 refine held_part 8 15 rowE rfl rfl (by kernel_rfl) (by kernel_rfl) (by kernel_rfl) rfl hH rfl rfl part_y8 (fun _ h => h.1) ?_
 try simp only [Act.put, List.setIfInBounds_toArray, List.set_cons_zero, List.set_cons_succ]
 refine held_value 9 16 (.pointer (some ⟨g3, 8, none⟩)) rfl rfl (by kernel_rfl) (by kernel_rfl) (by kernel_rfl) rfl hH (fun w hw => by go_simp) ?_
 try simp only [Act.put, List.setIfInBounds_toArray, List.set_cons_zero, List.set_cons_succ]
 refine held_part 10 17 rowE rfl rfl (by kernel_rfl) (by kernel_rfl) (by kernel_rfl) rfl hH rfl rfl part_y8 (fun _ h => h.2) ?_
 try simp only [Act.put, List.setIfInBounds_toArray, List.set_cons_zero, List.set_cons_succ]
 refine wpAnyH_ready (rs := [5]) (by kernel_rfl) (by simp) ?_
 refine AllReadyH.cons (o := _) rfl (fun K hK => ?_) AllReadyH.nil
 go_simp
 refine (apart_k _ _ _ _ HT.out H.out E1x.out E2x.out E1z.out E2z.out).mono ?_
 rintro e wc ⟨h12, rfl, hv, H2⟩
 replace H := Lib.hid (H2)
 have HV12 := Lib.hid hv
 refine hK.out _ _ (⟨H.out.row 1 rfl, H.out.row 0 rfl⟩) (fun hN => ?_)
 clear hK K hH H2 hv
 have hH := hN
 clear hN
 try simp only [Act.put, List.setIfInBounds_toArray, List.set_cons_zero, List.set_cons_succ]
 refine wpAnyH_ready (rs := [11]) (by kernel_rfl) (by simp) ?_
 refine AllReadyH.cons (o := _) rfl (fun K hK => ?_) AllReadyH.nil
 go_simp
 refine (apart_k _ _ _ _ HT.out H.out E1y.out E2y.out E1z.out E2z.out).mono ?_
 rintro e wc ⟨h18, rfl, hv, H2⟩
 replace H := Lib.hid (H2)
 have HV18 := Lib.hid hv
 refine hK.out _ _ (⟨H.out.row 1 rfl, H.out.row 0 rfl⟩) (fun hN => ?_)
 clear hK K hH H2 hv
 have hH := hN
 clear hN
 try simp only [Act.put, List.setIfInBounds_toArray, List.set_cons_zero, List.set_cons_succ]
 refine wpAnyH_ready (rs := [12]) (by kernel_rfl) (by simp) ?_
 refine AllReadyH.cons (o := _) rfl (fun K hK => ?_) AllReadyH.nil
 go_simp
 refine (add_k _ HV12.out HV18.out).mono ?_
 rintro e wc ⟨h19, rfl, hv, hb⟩
 replace H := Lib.hid (H.out.call hb)
 have HV19 := Lib.hid hv
 refine hK.out _ _ (⟨H.out.row 1 rfl, H.out.row 0 rfl⟩) (fun hN => ?_)
 clear hK K hH hb hv
 have hH := hN
 clear hN
 try simp only [Act.put, List.setIfInBounds_toArray, List.set_cons_zero, List.set_cons_succ]
 refine wpAnyH_ready (rs := [13]) (by kernel_rfl) (by simp) ?_
 refine AllReadyH.cons (o := _) rfl (fun K hK => ?_) AllReadyH.nil
 go_simp
 refine (zero_kb _ HV19.out HE.out).mono ?_
 rintro e wc ⟨rfl, hb⟩
 replace H := Lib.hid (H.out.call hb)
 refine hK.out _ _ (⟨H.out.row 1 rfl, H.out.row 0 rfl⟩) (fun hN => ?_)
 clear hK K hH hb
 have hH := hN
 clear hN
 try simp only [Act.put, List.setIfInBounds_toArray, List.set_cons_zero, List.set_cons_succ]
 refine held_value 14 4 (.bool b) rfl rfl (by kernel_rfl) (by kernel_rfl) (by kernel_rfl) rfl hH (fun w hw => by go_simp) ?_
 try simp only [Act.put, List.setIfInBounds_toArray, List.set_cons_zero, List.set_cons_succ]
 try simp only [Act.put]
 refine wpAnyH_done (by kernel_rfl) ?_ _
 refine NoPanic.normal ?_
 clear hH
 go_wp2_with fail
 go_ret
 exact ⟨rfl, H.out.bel⟩
end Go.Proofs.YtoeokhfhcpcjlaaGreatDoor
