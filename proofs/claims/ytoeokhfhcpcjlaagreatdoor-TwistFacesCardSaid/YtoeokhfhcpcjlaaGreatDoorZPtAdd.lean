/-
 The contracts of package point's Neg, Identity, Add, Double, Four. No statement is proved here: lemmas for the walks.
-/
import Derived.Test.YtoeokhfhcpcjlaaGreatDoorBuH
import Derived.Test.YtoeokhfhcpcjlaaGreatDoorZPtParts
import Derived.Deep.CutRange
set_option maxRecDepth 8000
set_option maxHeartbeats 3200000
namespace Go.Proofs.YtoeokhfhcpcjlaaGreatDoor
open Go.RowKit
theorem rp_negp {X1 Y1 Z1 : K} {P : Pt pN dK} (r1 : Rp X1 Y1 Z1 P) : Rp (-X1) Y1 Z1 (pneg P) := ⟨by have := r1.x; show -X1 = -P.x * Z1; grind, r1.y, r1.z⟩
theorem z77 {v1 : Nat → Int} {P1 : Pt pN dK} (w : World) (hT : Tp w) (p1 : PtK v1 P1) :
  Calls Tryz.prog 32 #[PO v1] w fun e w' => ∃ r, e = .returned (PO r) ∧ PtK r (pneg P1) ∧ Below w.heap.size w w' := by
 obtain ⟨x1, y1, z1, X1, Y1, Z1, rfl, e1x, e1y, e1z, r1⟩ := p1.is
 have E1x := Lib.hid e1x
 have E1y := Lib.hid e1y
 have E1z := Lib.hid e1z
 have R1 := Lib.hid r1
 clear p1 e1x e1y e1z r1
 have HT := Lib.hid hT
 clear hT
 have H := Lib.hid (Ow.start w)
 go_enter Tryz.func32, Tryz.ntmps32
 go_wp2_with (first
  | ((fail_if_success have := g1); (with_reducible apply z0h H); (case hgd | ho | hx => exact rfl); clear H; intro w1 g1 H _ _; go_simp)
  | ((fail_if_success have := g2); (with_reducible apply z0b nilPt H); (case hgd | ho => exact rfl); clear H; intro w2 g2 H _ _; go_simp))
 refine wp_region_noPanic ?_
 refine wp_region_held_drew (S := fun W => W.heap[g1]? = some (Blk 38 .u64 24 ((t3 8 (NZ x1) (NZ y1) (NZ z1))))) (by kernel_rfl) (H.out.drew.row 1 rfl) (fun hH => ?_)
 replace H := Lib.hid H.out.drew
 generalize World.drew _ = w8 at *
 refine z0a 0 3 (.pointer (some ⟨g1, 0, none⟩)) rfl rfl rfl hH (fun w hw => by go_simp) ?_
 try simp only [Act.put, qa, qb, qc]
 refine z0k 1 4 rowE rfl rfl rfl hH rfl rfl z11 (fun _ h => h) ?_
 try simp only [Act.put, qa, qb, qc]
 refine z0a 3 6 (.pointer (some ⟨g1, 8, none⟩)) rfl rfl rfl hH (fun w hw => by go_simp) ?_
 try simp only [Act.put, qa, qb, qc]
 refine z0k 4 7 rowE rfl rfl rfl hH rfl rfl z10 (fun _ h => h) ?_
 try simp only [Act.put, qa, qb, qc]
 refine z0a 5 8 (.pointer (some ⟨g1, 16, none⟩)) rfl rfl rfl hH (fun w hw => by go_simp) ?_
 try simp only [Act.put, qa, qb, qc]
 refine z0k 6 9 rowE rfl rfl rfl hH rfl rfl z2v (fun _ h => h) ?_
 try simp only [Act.put, qa, qb, qc]
 refine rd1 2 rfl fun K hK => ?_
 go_simp
 refine (neg_k _ (HT.out.below H.out.bel) E1x.out).mono ?_
 rintro e wc ⟨h5, rfl, hv, hb⟩
 replace H := hcall H hb
 have HV5 := Lib.hid hv
 clear hH
 refine hK.out _ _ (H.out.row 1 rfl) fun hH => ?_
 clear hK K hb hv
 try simp only [Act.put, qa, qb, qc]
 refine z6v 7 10 rfl rfl rfl hH rfl rfl rfl rfl ?_
 try simp only [Act.put, qa, qb, qc]
 refine rd1 8 rfl fun K hK => ?_
 refine z0d 0 rowPt H.out rfl rfl rfl rfl ?_
 intro ws HS
 simp only [qb] at HS
 replace H := Lib.hid HS
 clear hH
 refine hK.out _ _ (H.out.row 1 rfl) fun hH => ?_
 clear hK K HS
 try simp only [Act.put, qa]
 try simp only [Act.put]
 refine wpAnyH_done (by kernel_rfl) ?_ _
 refine NoPanic.normal ?_
 clear hH
 go_wp2_with fail
 exact bodyPost_ret (z0i 0 rowPt rfl _ H rfl rfl) rfl ⟨_, rfl, ⟨_, _, _, _, _, _, rfl, HV5.out, E1y.out, E1z.out, rp_negp R1.out⟩, H.out.bel⟩
theorem z1c (w : World) (hT : Tp w) :
  Calls Tryz.prog 39 #[] w fun e w' => ∃ r, e = .returned (PO r) ∧ PtK r pzero ∧ Below w.heap.size w w' := by
 have HT := Lib.hid hT
 clear hT
 have H := Lib.hid (Ow.start w)
 go_enter Tryz.func39, Tryz.ntmps39
 go_wp2_with (first
  | ((fail_if_success have := g1); (with_reducible apply z0b nilPt H); (case hgd | ho => exact rfl); clear H; intro w1 g1 H _ _; go_simp)
  | ((fail_if_success have := V1); (with_reducible refine (int_k 0 _ (HT.out.below H.out.bel) (by omega) (by omega)).mono ?_); rintro e wc ⟨k1, rfl, hv, hb⟩; replace H := hcall H hb; clear hb; have V1 := Lib.hid hv; clear hv)
  | ((fail_if_success have := V2); (with_reducible refine (int_k 1 _ (HT.out.below H.out.bel) (by omega) (by omega)).mono ?_); rintro e wc ⟨k2, rfl, hv, hb⟩; replace H := hcall H hb; clear hb; have V2 := Lib.hid hv; clear hv)
  | ((fail_if_success have := V3); (with_reducible refine (int_k 1 _ (HT.out.below H.out.bel) (by omega) (by omega)).mono ?_); rintro e wc ⟨k3, rfl, hv, hb⟩; replace H := hcall H hb; clear hb; have V3 := Lib.hid hv; clear hv)
  | ((with_reducible apply z4v); (case hgd | ho | hx | hy | hz => exact rfl); intro _ _; go_simp)
  | ((with_reducible apply z0e rowPt H); (case hgd | ho | hx | hy => exact rfl); (case hi => repeat first|exact at0|apply atS); clear H; intro ws H _ _; simp only [qb] at H; go_simp))
 exact bodyPost_ret (z0i 0 rowPt rfl _ H rfl rfl) rfl ⟨_, rfl, ⟨_, _, _, _, _, _, rfl, V1.out.eq z1v, V2.out.eq z0t, V3.out.eq z0t, Rp.zero edK⟩, H.out.bel⟩
theorem z3l {v1 v2 : Nat → Int} {P1 P2 : Pt pN dK} (w : World) (hT : Tp w) (p1 : PtK v1 P1) (p2 : PtK v2 P2) :
  Calls Tryz.prog 31 #[PO v1, PO v2] w fun e w' => ∃ r, e = .returned (PO r) ∧ PtK r (padd edK P1 P2) ∧ Below w.heap.size w w' := by
 obtain ⟨x1, y1, z1, X1, Y1, Z1, rfl, e1x, e1y, e1z, r1⟩ := p1.is
 have E1x := Lib.hid e1x
 have E1y := Lib.hid e1y
 have E1z := Lib.hid e1z
 have R1 := Lib.hid r1
 clear p1 e1x e1y e1z r1
 obtain ⟨x2, y2, z2, X2, Y2, Z2, rfl, e2x, e2y, e2z, r2⟩ := p2.is
 have E2x := Lib.hid e2x
 have E2y := Lib.hid e2y
 have E2z := Lib.hid e2z
 have R2 := Lib.hid r2
 clear p2 e2x e2y e2z r2
 have HT := Lib.hid hT
 clear hT
 have H := Lib.hid (Ow.start w)
 go_enter Tryz.func31, Tryz.ntmps31
 go_upto_region 2 with (first
  | ((fail_if_success have := g1); (with_reducible apply z0h H); (case hgd | ho | hx => exact rfl); clear H; intro w1 g1 H _ _; go_simp)
  | ((fail_if_success have := g2); (fail_if_success have := g2); (with_reducible apply z0h H); (case hgd | ho | hx => exact rfl); clear H; intro w2 g2 H _ _; go_simp)
  | ((fail_if_success have := g4); (with_reducible apply z0b nilPt H); (case hgd | ho => exact rfl); clear H; intro w4 g4 H _ _; go_simp)
  | ((with_reducible apply z0g rowPt H); (case hgd | ho | hx => exact rfl); (case hi => repeat first|exact at0|apply atS); intro _ _; go_simp)
  | ((fail_if_success have := V1); (with_reducible refine (y0l 68 (fun a b => a * b) (z18 Tryz.func68 (by kernel_rfl) rfl) (fun f g a b w ha hb => mul_k w ha hb) _ (HT.out.below H.out.bel) E1x.out E1y.out E1z.out E2x.out E2y.out E2z.out).mono ?_); rintro e wc ⟨f1, f2, f3, f4, rfl, hv1, hv2, hv3, hv4, hb⟩; replace H := hcall H hb; clear hb; have V1 := Lib.hid hv1; have V2 := Lib.hid hv2; have V3 := Lib.hid hv3; have V4 := Lib.hid hv4; clear hv1 hv2 hv3 hv4)
  | ((fail_if_success have := g5); (fail_if_success have := g5); (with_reducible apply z0b nilE H); (case hgd | ho => exact rfl); clear H; intro w5 g5 H _ _; go_simp)
  | ((fail_if_success have := g6); (fail_if_success have := g6); (with_reducible apply z0b nilE H); (case hgd | ho => exact rfl); clear H; intro w6 g6 H _ _; go_simp)
  | ((fail_if_success have := g7); (fail_if_success have := g7); (with_reducible apply z0b nilE H); (case hgd | ho => exact rfl); clear H; intro w7 g7 H _ _; go_simp)
  | ((fail_if_success have := g8); (fail_if_success have := g8); (with_reducible apply z0b nilE H); (case hgd | ho => exact rfl); clear H; intro w8 g8 H _ _; go_simp)
  | ((with_reducible apply z0e rowE H); (case hgd | ho | hx | hy => exact rfl); (case hi => repeat first|exact at0|apply atS); clear H; intro ws H _ _; simp only [qb, qc] at H; go_simp))
 go_cut [9, 10] from 19 to 23 (fun v9 v10 wx => ∃ g9 g10 h20 h23, v9 = .pointer (some ⟨g9, 0, none⟩) ∧ v10 = .pointer (some ⟨g10, 0, none⟩) ∧ EK h20 ((Z1 * Z2) * (Z1 * Z2)) ∧ EK h23 ((X1 * X2) * (Y1 * Y2) * dK) ∧ Ow w wx [(g9, Blk 29 .u64 8 (NZ h20)), (g10, Blk 29 .u64 8 (NZ h23)), (g8, Blk 29 .u64 8 (NZ f4)), (g7, Blk 29 .u64 8 (NZ f3)), (g6, Blk 29 .u64 8 (NZ f2)), (g5, Blk 29 .u64 8 (NZ f1)), (g4, Blk 38 .u64 24 fun _ => 0), (g2, Blk 38 .u64 24 ((t3 8 (NZ x2) (NZ y2) (NZ z2)))), (g1, Blk 38 .u64 24 ((t3 8 (NZ x1) (NZ y1) (NZ z1))))])
 case first =>
  go_wp2_with fail
  refine wp_region_noPanic ?_
  refine wp_region_held_drew (S := fun W => W.heap[g7]? = some (Blk 29 .u64 8 (NZ f3)) ∧ W.heap[g5]? = some (Blk 29 .u64 8 (NZ f1)) ∧ W.heap[g6]? = some (Blk 29 .u64 8 (NZ f2))) (by kernel_rfl) (⟨H.out.drew.row 1 rfl, H.out.drew.row 3 rfl, H.out.drew.row 2 rfl⟩) (fun hH => ?_)
  replace H := Lib.hid H.out.drew
  generalize World.drew _ = w8 at *
  refine z0f 0 19 rowE rfl rfl rfl hH rfl rfl (fun _ h => h.1) ?_
  try simp only [Act.put, qa, qb, qc]
  refine z0f 2 21 rowE rfl rfl rfl hH rfl rfl (fun _ h => h.2.1) ?_
  try simp only [Act.put, qa, qb, qc]
  refine z0f 3 22 rowE rfl rfl rfl hH rfl rfl (fun _ h => h.2.2) ?_
  try simp only [Act.put, qa, qb, qc]
  refine rdn [1, 5, 6] (rdc rfl (fun K hK => ?_) (rdc rfl (fun K hK => ?_) (rdc rfl (fun K hK => ?_) rdz)))
  ·skip
   go_simp
   refine (z0m _ V3.out).mono ?_
   rintro e wc ⟨h20, rfl, hv, hb⟩
   replace H := hcall H hb
   have HV20 := Lib.hid hv
   clear hH
   refine hK.out _ _ ⟨H.out.row 1 rfl, H.out.row 3 rfl, H.out.row 2 rfl⟩ fun hH => ?_
   clear hK K hb hv
   try simp only [Act.put, qa, qb, qc]
   refine rdn [4, 5, 6] (rdc rfl (fun K hK => ?_) (rdc rfl (fun K hK => ?_) (rdc rfl (fun K hK => ?_) rdz)))
   ·skip
    go_simp
    refine (z2p _ (HT.out.below H.out.bel) V1.out V2.out).mono ?_
    rintro e wc ⟨h23, rfl, hv, hb⟩
    replace H := hcall H hb
    have HV23 := Lib.hid hv
    clear hH
    refine hK.out _ _ ⟨H.out.row 1 rfl, H.out.row 3 rfl, H.out.row 2 rfl⟩ fun hH => ?_
    clear hK K hb hv
    try simp only [Act.put, qa, qb, qc]
    refine rdn [5, 6] (rdc rfl (fun K hK => ?_) (rdc rfl (fun K hK => ?_) rdz))
    ·skip
     refine z0c 9 rfl nilE H.out rfl ?_
     intro w9 g9 H3 hb
     replace H := Lib.hid H3
     clear hH
     refine hK.out _ _ ⟨H.out.row 2 rfl, H.out.row 4 rfl, H.out.row 3 rfl⟩ fun hH => ?_
     clear hK K H3 hb
     try simp only [Act.put, qa, qb, qc]
     refine rd1 6 rfl fun K hK => ?_
     refine z0c 10 rfl nilE H.out rfl ?_
     intro w10 g10 H3 hb
     replace H := Lib.hid H3
     clear hH
     refine hK.out _ _ ⟨H.out.row 3 rfl, H.out.row 5 rfl, H.out.row 4 rfl⟩ fun hH => ?_
     clear hK K H3 hb
     try simp only [Act.put, qa, qb, qc]
     refine rd1 7 rfl fun K hK => ?_
     refine z0d 1 rowE H.out rfl rfl rfl rfl ?_
     intro ws HS
     simp only [qb, qc] at HS
     replace H := Lib.hid HS
     clear hH
     refine hK.out _ _ ⟨H.out.row 3 rfl, H.out.row 5 rfl, H.out.row 4 rfl⟩ fun hH => ?_
     clear hK K HS
     try simp only [Act.put, qa]
     refine rd1 8 rfl fun K hK => ?_
     refine z0d 0 rowE H.out rfl rfl rfl rfl ?_
     intro ws HS
     simp only [qb] at HS
     replace H := Lib.hid HS
     clear hH
     refine hK.out _ _ ⟨H.out.row 3 rfl, H.out.row 5 rfl, H.out.row 4 rfl⟩ fun hH => ?_
     clear hK K HS
     try simp only [Act.put]
     try simp only [Act.put]
     refine wpAnyH_done (by kernel_rfl) ?_ _
     refine NoPanic.normal ?_
     clear hH
     replace H := Lib.hid (H.out.front (x := (g9, Blk 29 .u64 8 (NZ h20))) 1 rfl)
     go_wp2_with fail
     go_meet
     exact ⟨g9, g10, h20, h23, rfl, rfl, HV20.out, HV23.out, H.out⟩
    ·skip
     refine z0c 10 rfl nilE H.out rfl ?_
     intro w10 g10 H3 hb
     replace H := Lib.hid H3
     clear hH
     refine hK.out _ _ ⟨H.out.row 2 rfl, H.out.row 4 rfl, H.out.row 3 rfl⟩ fun hH => ?_
     clear hK K H3 hb
     try simp only [Act.put, qa, qb, qc]
     refine rd1 5 rfl fun K hK => ?_
     refine z0c 9 rfl nilE H.out rfl ?_
     intro w9 g9 H3 hb
     replace H := Lib.hid H3
     clear hH
     refine hK.out _ _ ⟨H.out.row 3 rfl, H.out.row 5 rfl, H.out.row 4 rfl⟩ fun hH => ?_
     clear hK K H3 hb
     try simp only [Act.put, qa, qb, qc]
     refine rd1 7 rfl fun K hK => ?_
     refine z0d 0 rowE H.out rfl rfl rfl rfl ?_
     intro ws HS
     simp only [qb] at HS
     replace H := Lib.hid HS
     clear hH
     refine hK.out _ _ ⟨H.out.row 3 rfl, H.out.row 5 rfl, H.out.row 4 rfl⟩ fun hH => ?_
     clear hK K HS
     try simp only [Act.put, qa]
     refine rd1 8 rfl fun K hK => ?_
     refine z0d 1 rowE H.out rfl rfl rfl rfl ?_
     intro ws HS
     simp only [qb, qc] at HS
     replace H := Lib.hid HS
     clear hH
     refine hK.out _ _ ⟨H.out.row 3 rfl, H.out.row 5 rfl, H.out.row 4 rfl⟩ fun hH => ?_
     clear hK K HS
     try simp only [Act.put]
     try simp only [Act.put]
     refine wpAnyH_done (by kernel_rfl) ?_ _
     refine NoPanic.normal ?_
     clear hH
     replace H := Lib.hid (H.out.front (x := (g10, Blk 29 .u64 8 (NZ h23))) 1 rfl)
     replace H := Lib.hid (H.out.front (x := (g9, Blk 29 .u64 8 (NZ h20))) 1 rfl)
     go_wp2_with fail
     go_meet
     exact ⟨g9, g10, h20, h23, rfl, rfl, HV20.out, HV23.out, H.out⟩
   ·skip
    refine z0c 9 rfl nilE H.out rfl ?_
    intro w9 g9 H3 hb
    replace H := Lib.hid H3
    clear hH
    refine hK.out _ _ ⟨H.out.row 2 rfl, H.out.row 4 rfl, H.out.row 3 rfl⟩ fun hH => ?_
    clear hK K H3 hb
    try simp only [Act.put, qa, qb, qc]
    refine rdn [4, 6] (rdc rfl (fun K hK => ?_) (rdc rfl (fun K hK => ?_) rdz))
    ·skip
     go_simp
     refine (z2p _ (HT.out.below H.out.bel) V1.out V2.out).mono ?_
     rintro e wc ⟨h23, rfl, hv, hb⟩
     replace H := hcall H hb
     have HV23 := Lib.hid hv
     clear hH
     refine hK.out _ _ ⟨H.out.row 2 rfl, H.out.row 4 rfl, H.out.row 3 rfl⟩ fun hH => ?_
     clear hK K hb hv
     try simp only [Act.put, qa, qb, qc]
     refine rd1 6 rfl fun K hK => ?_
     refine z0c 10 rfl nilE H.out rfl ?_
     intro w10 g10 H3 hb
     replace H := Lib.hid H3
     clear hH
     refine hK.out _ _ ⟨H.out.row 3 rfl, H.out.row 5 rfl, H.out.row 4 rfl⟩ fun hH => ?_
     clear hK K H3 hb
     try simp only [Act.put, qa, qb, qc]
     refine rd1 7 rfl fun K hK => ?_
     refine z0d 1 rowE H.out rfl rfl rfl rfl ?_
     intro ws HS
     simp only [qb, qc] at HS
     replace H := Lib.hid HS
     clear hH
     refine hK.out _ _ ⟨H.out.row 3 rfl, H.out.row 5 rfl, H.out.row 4 rfl⟩ fun hH => ?_
     clear hK K HS
     try simp only [Act.put, qa]
     refine rd1 8 rfl fun K hK => ?_
     refine z0d 0 rowE H.out rfl rfl rfl rfl ?_
     intro ws HS
     simp only [qb] at HS
     replace H := Lib.hid HS
     clear hH
     refine hK.out _ _ ⟨H.out.row 3 rfl, H.out.row 5 rfl, H.out.row 4 rfl⟩ fun hH => ?_
     clear hK K HS
     try simp only [Act.put]
     try simp only [Act.put]
     refine wpAnyH_done (by kernel_rfl) ?_ _
     refine NoPanic.normal ?_
     clear hH
     replace H := Lib.hid (H.out.front (x := (g9, Blk 29 .u64 8 (NZ h20))) 1 rfl)
     go_wp2_with fail
     go_meet
     exact ⟨g9, g10, h20, h23, rfl, rfl, HV20.out, HV23.out, H.out⟩
    ·skip
     refine z0c 10 rfl nilE H.out rfl ?_
     intro w10 g10 H3 hb
     replace H := Lib.hid H3
     clear hH
     refine hK.out _ _ ⟨H.out.row 3 rfl, H.out.row 5 rfl, H.out.row 4 rfl⟩ fun hH => ?_
     clear hK K H3 hb
     try simp only [Act.put, qa, qb, qc]
     refine rd1 4 rfl fun K hK => ?_
     go_simp
     refine (z2p _ (HT.out.below H.out.bel) V1.out V2.out).mono ?_
     rintro e wc ⟨h23, rfl, hv, hb⟩
     replace H := hcall H hb
     have HV23 := Lib.hid hv
     clear hH
     refine hK.out _ _ ⟨H.out.row 3 rfl, H.out.row 5 rfl, H.out.row 4 rfl⟩ fun hH => ?_
     clear hK K hb hv
     try simp only [Act.put, qa, qb, qc]
     refine rd1 7 rfl fun K hK => ?_
     refine z0d 1 rowE H.out rfl rfl rfl rfl ?_
     intro ws HS
     simp only [qb, qc] at HS
     replace H := Lib.hid HS
     clear hH
     refine hK.out _ _ ⟨H.out.row 3 rfl, H.out.row 5 rfl, H.out.row 4 rfl⟩ fun hH => ?_
     clear hK K HS
     try simp only [Act.put, qa]
     refine rd1 8 rfl fun K hK => ?_
     refine z0d 0 rowE H.out rfl rfl rfl rfl ?_
     intro ws HS
     simp only [qb] at HS
     replace H := Lib.hid HS
     clear hH
     refine hK.out _ _ ⟨H.out.row 3 rfl, H.out.row 5 rfl, H.out.row 4 rfl⟩ fun hH => ?_
     clear hK K HS
     try simp only [Act.put]
     try simp only [Act.put]
     refine wpAnyH_done (by kernel_rfl) ?_ _
     refine NoPanic.normal ?_
     clear hH
     replace H := Lib.hid (H.out.front (x := (g9, Blk 29 .u64 8 (NZ h20))) 1 rfl)
     go_wp2_with fail
     go_meet
     exact ⟨g9, g10, h20, h23, rfl, rfl, HV20.out, HV23.out, H.out⟩
   ·skip
    refine z0c 10 rfl nilE H.out rfl ?_
    intro w10 g10 H3 hb
    replace H := Lib.hid H3
    clear hH
    refine hK.out _ _ ⟨H.out.row 2 rfl, H.out.row 4 rfl, H.out.row 3 rfl⟩ fun hH => ?_
    clear hK K H3 hb
    try simp only [Act.put, qa, qb, qc]
    refine rdn [4, 5] (rdc rfl (fun K hK => ?_) (rdc rfl (fun K hK => ?_) rdz))
    ·skip
     go_simp
     refine (z2p _ (HT.out.below H.out.bel) V1.out V2.out).mono ?_
     rintro e wc ⟨h23, rfl, hv, hb⟩
     replace H := hcall H hb
     have HV23 := Lib.hid hv
     clear hH
     refine hK.out _ _ ⟨H.out.row 2 rfl, H.out.row 4 rfl, H.out.row 3 rfl⟩ fun hH => ?_
     clear hK K hb hv
     try simp only [Act.put, qa, qb, qc]
     refine rd1 5 rfl fun K hK => ?_
     refine z0c 9 rfl nilE H.out rfl ?_
     intro w9 g9 H3 hb
     replace H := Lib.hid H3
     clear hH
     refine hK.out _ _ ⟨H.out.row 3 rfl, H.out.row 5 rfl, H.out.row 4 rfl⟩ fun hH => ?_
     clear hK K H3 hb
     try simp only [Act.put, qa, qb, qc]
     refine rd1 7 rfl fun K hK => ?_
     refine z0d 0 rowE H.out rfl rfl rfl rfl ?_
     intro ws HS
     simp only [qb] at HS
     replace H := Lib.hid HS
     clear hH
     refine hK.out _ _ ⟨H.out.row 3 rfl, H.out.row 5 rfl, H.out.row 4 rfl⟩ fun hH => ?_
     clear hK K HS
     try simp only [Act.put, qa]
     refine rd1 8 rfl fun K hK => ?_
     refine z0d 1 rowE H.out rfl rfl rfl rfl ?_
     intro ws HS
     simp only [qb, qc] at HS
     replace H := Lib.hid HS
     clear hH
     refine hK.out _ _ ⟨H.out.row 3 rfl, H.out.row 5 rfl, H.out.row 4 rfl⟩ fun hH => ?_
     clear hK K HS
     try simp only [Act.put]
     try simp only [Act.put]
     refine wpAnyH_done (by kernel_rfl) ?_ _
     refine NoPanic.normal ?_
     clear hH
     replace H := Lib.hid (H.out.front (x := (g10, Blk 29 .u64 8 (NZ h23))) 1 rfl)
     replace H := Lib.hid (H.out.front (x := (g9, Blk 29 .u64 8 (NZ h20))) 1 rfl)
     go_wp2_with fail
     go_meet
     exact ⟨g9, g10, h20, h23, rfl, rfl, HV20.out, HV23.out, H.out⟩
    ·skip
     refine z0c 9 rfl nilE H.out rfl ?_
     intro w9 g9 H3 hb
     replace H := Lib.hid H3
     clear hH
     refine hK.out _ _ ⟨H.out.row 3 rfl, H.out.row 5 rfl, H.out.row 4 rfl⟩ fun hH => ?_
     clear hK K H3 hb
     try simp only [Act.put, qa, qb, qc]
     refine rd1 4 rfl fun K hK => ?_
     go_simp
     refine (z2p _ (HT.out.below H.out.bel) V1.out V2.out).mono ?_
     rintro e wc ⟨h23, rfl, hv, hb⟩
     replace H := hcall H hb
     have HV23 := Lib.hid hv
     clear hH
     refine hK.out _ _ ⟨H.out.row 3 rfl, H.out.row 5 rfl, H.out.row 4 rfl⟩ fun hH => ?_
     clear hK K hb hv
     try simp only [Act.put, qa, qb, qc]
     refine rd1 7 rfl fun K hK => ?_
     refine z0d 0 rowE H.out rfl rfl rfl rfl ?_
     intro ws HS
     simp only [qb] at HS
     replace H := Lib.hid HS
     clear hH
     refine hK.out _ _ ⟨H.out.row 3 rfl, H.out.row 5 rfl, H.out.row 4 rfl⟩ fun hH => ?_
     clear hK K HS
     try simp only [Act.put, qa]
     refine rd1 8 rfl fun K hK => ?_
     refine z0d 1 rowE H.out rfl rfl rfl rfl ?_
     intro ws HS
     simp only [qb, qc] at HS
     replace H := Lib.hid HS
     clear hH
     refine hK.out _ _ ⟨H.out.row 3 rfl, H.out.row 5 rfl, H.out.row 4 rfl⟩ fun hH => ?_
     clear hK K HS
     try simp only [Act.put]
     try simp only [Act.put]
     refine wpAnyH_done (by kernel_rfl) ?_ _
     refine NoPanic.normal ?_
     clear hH
     replace H := Lib.hid (H.out.front (x := (g10, Blk 29 .u64 8 (NZ h23))) 1 rfl)
     replace H := Lib.hid (H.out.front (x := (g9, Blk 29 .u64 8 (NZ h20))) 1 rfl)
     go_wp2_with fail
     go_meet
     exact ⟨g9, g10, h20, h23, rfl, rfl, HV20.out, HV23.out, H.out⟩
  ·skip
   refine z0c 9 rfl nilE H.out rfl ?_
   intro w9 g9 H3 hb
   replace H := Lib.hid H3
   clear hH
   refine hK.out _ _ ⟨H.out.row 2 rfl, H.out.row 4 rfl, H.out.row 3 rfl⟩ fun hH => ?_
   clear hK K H3 hb
   try simp only [Act.put, qa, qb, qc]
   refine rdn [1, 6] (rdc rfl (fun K hK => ?_) (rdc rfl (fun K hK => ?_) rdz))
   ·skip
    go_simp
    refine (z0m _ V3.out).mono ?_
    rintro e wc ⟨h20, rfl, hv, hb⟩
    replace H := hcall H hb
    have HV20 := Lib.hid hv
    clear hH
    refine hK.out _ _ ⟨H.out.row 2 rfl, H.out.row 4 rfl, H.out.row 3 rfl⟩ fun hH => ?_
    clear hK K hb hv
    try simp only [Act.put, qa, qb, qc]
    refine rdn [4, 6] (rdc rfl (fun K hK => ?_) (rdc rfl (fun K hK => ?_) rdz))
    ·skip
     go_simp
     refine (z2p _ (HT.out.below H.out.bel) V1.out V2.out).mono ?_
     rintro e wc ⟨h23, rfl, hv, hb⟩
     replace H := hcall H hb
     have HV23 := Lib.hid hv
     clear hH
     refine hK.out _ _ ⟨H.out.row 2 rfl, H.out.row 4 rfl, H.out.row 3 rfl⟩ fun hH => ?_
     clear hK K hb hv
     try simp only [Act.put, qa, qb, qc]
     refine rd1 6 rfl fun K hK => ?_
     refine z0c 10 rfl nilE H.out rfl ?_
     intro w10 g10 H3 hb
     replace H := Lib.hid H3
     clear hH
     refine hK.out _ _ ⟨H.out.row 3 rfl, H.out.row 5 rfl, H.out.row 4 rfl⟩ fun hH => ?_
     clear hK K H3 hb
     try simp only [Act.put, qa, qb, qc]
     refine rd1 7 rfl fun K hK => ?_
     refine z0d 1 rowE H.out rfl rfl rfl rfl ?_
     intro ws HS
     simp only [qb, qc] at HS
     replace H := Lib.hid HS
     clear hH
     refine hK.out _ _ ⟨H.out.row 3 rfl, H.out.row 5 rfl, H.out.row 4 rfl⟩ fun hH => ?_
     clear hK K HS
     try simp only [Act.put, qa]
     refine rd1 8 rfl fun K hK => ?_
     refine z0d 0 rowE H.out rfl rfl rfl rfl ?_
     intro ws HS
     simp only [qb] at HS
     replace H := Lib.hid HS
     clear hH
     refine hK.out _ _ ⟨H.out.row 3 rfl, H.out.row 5 rfl, H.out.row 4 rfl⟩ fun hH => ?_
     clear hK K HS
     try simp only [Act.put]
     try simp only [Act.put]
     refine wpAnyH_done (by kernel_rfl) ?_ _
     refine NoPanic.normal ?_
     clear hH
     replace H := Lib.hid (H.out.front (x := (g9, Blk 29 .u64 8 (NZ h20))) 1 rfl)
     go_wp2_with fail
     go_meet
     exact ⟨g9, g10, h20, h23, rfl, rfl, HV20.out, HV23.out, H.out⟩
    ·skip
     refine z0c 10 rfl nilE H.out rfl ?_
     intro w10 g10 H3 hb
     replace H := Lib.hid H3
     clear hH
     refine hK.out _ _ ⟨H.out.row 3 rfl, H.out.row 5 rfl, H.out.row 4 rfl⟩ fun hH => ?_
     clear hK K H3 hb
     try simp only [Act.put, qa, qb, qc]
     refine rd1 4 rfl fun K hK => ?_
     go_simp
     refine (z2p _ (HT.out.below H.out.bel) V1.out V2.out).mono ?_
     rintro e wc ⟨h23, rfl, hv, hb⟩
     replace H := hcall H hb
     have HV23 := Lib.hid hv
     clear hH
     refine hK.out _ _ ⟨H.out.row 3 rfl, H.out.row 5 rfl, H.out.row 4 rfl⟩ fun hH => ?_
     clear hK K hb hv
     try simp only [Act.put, qa, qb, qc]
     refine rd1 7 rfl fun K hK => ?_
     refine z0d 1 rowE H.out rfl rfl rfl rfl ?_
     intro ws HS
     simp only [qb, qc] at HS
     replace H := Lib.hid HS
     clear hH
     refine hK.out _ _ ⟨H.out.row 3 rfl, H.out.row 5 rfl, H.out.row 4 rfl⟩ fun hH => ?_
     clear hK K HS
     try simp only [Act.put, qa]
     refine rd1 8 rfl fun K hK => ?_
     refine z0d 0 rowE H.out rfl rfl rfl rfl ?_
     intro ws HS
     simp only [qb] at HS
     replace H := Lib.hid HS
     clear hH
     refine hK.out _ _ ⟨H.out.row 3 rfl, H.out.row 5 rfl, H.out.row 4 rfl⟩ fun hH => ?_
     clear hK K HS
     try simp only [Act.put]
     try simp only [Act.put]
     refine wpAnyH_done (by kernel_rfl) ?_ _
     refine NoPanic.normal ?_
     clear hH
     replace H := Lib.hid (H.out.front (x := (g9, Blk 29 .u64 8 (NZ h20))) 1 rfl)
     go_wp2_with fail
     go_meet
     exact ⟨g9, g10, h20, h23, rfl, rfl, HV20.out, HV23.out, H.out⟩
   ·skip
    refine z0c 10 rfl nilE H.out rfl ?_
    intro w10 g10 H3 hb
    replace H := Lib.hid H3
    clear hH
    refine hK.out _ _ ⟨H.out.row 3 rfl, H.out.row 5 rfl, H.out.row 4 rfl⟩ fun hH => ?_
    clear hK K H3 hb
    try simp only [Act.put, qa, qb, qc]
    refine rd1 1 rfl fun K hK => ?_
    go_simp
    refine (z0m _ V3.out).mono ?_
    rintro e wc ⟨h20, rfl, hv, hb⟩
    replace H := hcall H hb
    have HV20 := Lib.hid hv
    clear hH
    refine hK.out _ _ ⟨H.out.row 3 rfl, H.out.row 5 rfl, H.out.row 4 rfl⟩ fun hH => ?_
    clear hK K hb hv
    try simp only [Act.put, qa, qb, qc]
    refine rd1 4 rfl fun K hK => ?_
    go_simp
    refine (z2p _ (HT.out.below H.out.bel) V1.out V2.out).mono ?_
    rintro e wc ⟨h23, rfl, hv, hb⟩
    replace H := hcall H hb
    have HV23 := Lib.hid hv
    clear hH
    refine hK.out _ _ ⟨H.out.row 3 rfl, H.out.row 5 rfl, H.out.row 4 rfl⟩ fun hH => ?_
    clear hK K hb hv
    try simp only [Act.put, qa, qb, qc]
    refine rd1 7 rfl fun K hK => ?_
    refine z0d 1 rowE H.out rfl rfl rfl rfl ?_
    intro ws HS
    simp only [qb, qc] at HS
    replace H := Lib.hid HS
    clear hH
    refine hK.out _ _ ⟨H.out.row 3 rfl, H.out.row 5 rfl, H.out.row 4 rfl⟩ fun hH => ?_
    clear hK K HS
    try simp only [Act.put, qa]
    refine rd1 8 rfl fun K hK => ?_
    refine z0d 0 rowE H.out rfl rfl rfl rfl ?_
    intro ws HS
    simp only [qb] at HS
    replace H := Lib.hid HS
    clear hH
    refine hK.out _ _ ⟨H.out.row 3 rfl, H.out.row 5 rfl, H.out.row 4 rfl⟩ fun hH => ?_
    clear hK K HS
    try simp only [Act.put]
    try simp only [Act.put]
    refine wpAnyH_done (by kernel_rfl) ?_ _
    refine NoPanic.normal ?_
    clear hH
    replace H := Lib.hid (H.out.front (x := (g9, Blk 29 .u64 8 (NZ h20))) 1 rfl)
    go_wp2_with fail
    go_meet
    exact ⟨g9, g10, h20, h23, rfl, rfl, HV20.out, HV23.out, H.out⟩
  ·skip
   refine z0c 10 rfl nilE H.out rfl ?_
   intro w10 g10 H3 hb
   replace H := Lib.hid H3
   clear hH
   refine hK.out _ _ ⟨H.out.row 2 rfl, H.out.row 4 rfl, H.out.row 3 rfl⟩ fun hH => ?_
   clear hK K H3 hb
   try simp only [Act.put, qa, qb, qc]
   refine rdn [1, 5] (rdc rfl (fun K hK => ?_) (rdc rfl (fun K hK => ?_) rdz))
   ·skip
    go_simp
    refine (z0m _ V3.out).mono ?_
    rintro e wc ⟨h20, rfl, hv, hb⟩
    replace H := hcall H hb
    have HV20 := Lib.hid hv
    clear hH
    refine hK.out _ _ ⟨H.out.row 2 rfl, H.out.row 4 rfl, H.out.row 3 rfl⟩ fun hH => ?_
    clear hK K hb hv
    try simp only [Act.put, qa, qb, qc]
    refine rdn [4, 5] (rdc rfl (fun K hK => ?_) (rdc rfl (fun K hK => ?_) rdz))
    ·skip
     go_simp
     refine (z2p _ (HT.out.below H.out.bel) V1.out V2.out).mono ?_
     rintro e wc ⟨h23, rfl, hv, hb⟩
     replace H := hcall H hb
     have HV23 := Lib.hid hv
     clear hH
     refine hK.out _ _ ⟨H.out.row 2 rfl, H.out.row 4 rfl, H.out.row 3 rfl⟩ fun hH => ?_
     clear hK K hb hv
     try simp only [Act.put, qa, qb, qc]
     refine rd1 5 rfl fun K hK => ?_
     refine z0c 9 rfl nilE H.out rfl ?_
     intro w9 g9 H3 hb
     replace H := Lib.hid H3
     clear hH
     refine hK.out _ _ ⟨H.out.row 3 rfl, H.out.row 5 rfl, H.out.row 4 rfl⟩ fun hH => ?_
     clear hK K H3 hb
     try simp only [Act.put, qa, qb, qc]
     refine rd1 7 rfl fun K hK => ?_
     refine z0d 0 rowE H.out rfl rfl rfl rfl ?_
     intro ws HS
     simp only [qb] at HS
     replace H := Lib.hid HS
     clear hH
     refine hK.out _ _ ⟨H.out.row 3 rfl, H.out.row 5 rfl, H.out.row 4 rfl⟩ fun hH => ?_
     clear hK K HS
     try simp only [Act.put, qa]
     refine rd1 8 rfl fun K hK => ?_
     refine z0d 1 rowE H.out rfl rfl rfl rfl ?_
     intro ws HS
     simp only [qb, qc] at HS
     replace H := Lib.hid HS
     clear hH
     refine hK.out _ _ ⟨H.out.row 3 rfl, H.out.row 5 rfl, H.out.row 4 rfl⟩ fun hH => ?_
     clear hK K HS
     try simp only [Act.put]
     try simp only [Act.put]
     refine wpAnyH_done (by kernel_rfl) ?_ _
     refine NoPanic.normal ?_
     clear hH
     replace H := Lib.hid (H.out.front (x := (g10, Blk 29 .u64 8 (NZ h23))) 1 rfl)
     replace H := Lib.hid (H.out.front (x := (g9, Blk 29 .u64 8 (NZ h20))) 1 rfl)
     go_wp2_with fail
     go_meet
     exact ⟨g9, g10, h20, h23, rfl, rfl, HV20.out, HV23.out, H.out⟩
    ·skip
     refine z0c 9 rfl nilE H.out rfl ?_
     intro w9 g9 H3 hb
     replace H := Lib.hid H3
     clear hH
     refine hK.out _ _ ⟨H.out.row 3 rfl, H.out.row 5 rfl, H.out.row 4 rfl⟩ fun hH => ?_
     clear hK K H3 hb
     try simp only [Act.put, qa, qb, qc]
     refine rd1 4 rfl fun K hK => ?_
     go_simp
     refine (z2p _ (HT.out.below H.out.bel) V1.out V2.out).mono ?_
     rintro e wc ⟨h23, rfl, hv, hb⟩
     replace H := hcall H hb
     have HV23 := Lib.hid hv
     clear hH
     refine hK.out _ _ ⟨H.out.row 3 rfl, H.out.row 5 rfl, H.out.row 4 rfl⟩ fun hH => ?_
     clear hK K hb hv
     try simp only [Act.put, qa, qb, qc]
     refine rd1 7 rfl fun K hK => ?_
     refine z0d 0 rowE H.out rfl rfl rfl rfl ?_
     intro ws HS
     simp only [qb] at HS
     replace H := Lib.hid HS
     clear hH
     refine hK.out _ _ ⟨H.out.row 3 rfl, H.out.row 5 rfl, H.out.row 4 rfl⟩ fun hH => ?_
     clear hK K HS
     try simp only [Act.put, qa]
     refine rd1 8 rfl fun K hK => ?_
     refine z0d 1 rowE H.out rfl rfl rfl rfl ?_
     intro ws HS
     simp only [qb, qc] at HS
     replace H := Lib.hid HS
     clear hH
     refine hK.out _ _ ⟨H.out.row 3 rfl, H.out.row 5 rfl, H.out.row 4 rfl⟩ fun hH => ?_
     clear hK K HS
     try simp only [Act.put]
     try simp only [Act.put]
     refine wpAnyH_done (by kernel_rfl) ?_ _
     refine NoPanic.normal ?_
     clear hH
     replace H := Lib.hid (H.out.front (x := (g10, Blk 29 .u64 8 (NZ h23))) 1 rfl)
     replace H := Lib.hid (H.out.front (x := (g9, Blk 29 .u64 8 (NZ h20))) 1 rfl)
     go_wp2_with fail
     go_meet
     exact ⟨g9, g10, h20, h23, rfl, rfl, HV20.out, HV23.out, H.out⟩
   ·skip
    refine z0c 9 rfl nilE H.out rfl ?_
    intro w9 g9 H3 hb
    replace H := Lib.hid H3
    clear hH
    refine hK.out _ _ ⟨H.out.row 3 rfl, H.out.row 5 rfl, H.out.row 4 rfl⟩ fun hH => ?_
    clear hK K H3 hb
    try simp only [Act.put, qa, qb, qc]
    refine rd1 1 rfl fun K hK => ?_
    go_simp
    refine (z0m _ V3.out).mono ?_
    rintro e wc ⟨h20, rfl, hv, hb⟩
    replace H := hcall H hb
    have HV20 := Lib.hid hv
    clear hH
    refine hK.out _ _ ⟨H.out.row 3 rfl, H.out.row 5 rfl, H.out.row 4 rfl⟩ fun hH => ?_
    clear hK K hb hv
    try simp only [Act.put, qa, qb, qc]
    refine rd1 4 rfl fun K hK => ?_
    go_simp
    refine (z2p _ (HT.out.below H.out.bel) V1.out V2.out).mono ?_
    rintro e wc ⟨h23, rfl, hv, hb⟩
    replace H := hcall H hb
    have HV23 := Lib.hid hv
    clear hH
    refine hK.out _ _ ⟨H.out.row 3 rfl, H.out.row 5 rfl, H.out.row 4 rfl⟩ fun hH => ?_
    clear hK K hb hv
    try simp only [Act.put, qa, qb, qc]
    refine rd1 7 rfl fun K hK => ?_
    refine z0d 0 rowE H.out rfl rfl rfl rfl ?_
    intro ws HS
    simp only [qb] at HS
    replace H := Lib.hid HS
    clear hH
    refine hK.out _ _ ⟨H.out.row 3 rfl, H.out.row 5 rfl, H.out.row 4 rfl⟩ fun hH => ?_
    clear hK K HS
    try simp only [Act.put, qa]
    refine rd1 8 rfl fun K hK => ?_
    refine z0d 1 rowE H.out rfl rfl rfl rfl ?_
    intro ws HS
    simp only [qb, qc] at HS
    replace H := Lib.hid HS
    clear hH
    refine hK.out _ _ ⟨H.out.row 3 rfl, H.out.row 5 rfl, H.out.row 4 rfl⟩ fun hH => ?_
    clear hK K HS
    try simp only [Act.put]
    try simp only [Act.put]
    refine wpAnyH_done (by kernel_rfl) ?_ _
    refine NoPanic.normal ?_
    clear hH
    replace H := Lib.hid (H.out.front (x := (g10, Blk 29 .u64 8 (NZ h23))) 1 rfl)
    replace H := Lib.hid (H.out.front (x := (g9, Blk 29 .u64 8 (NZ h20))) 1 rfl)
    go_wp2_with fail
    go_meet
    exact ⟨g9, g10, h20, h23, rfl, rfl, HV20.out, HV23.out, H.out⟩
 clear H
 obtain ⟨g9, g10, h20, h23, rfl, rfl, hv20, hv23, HRR⟩ := hcut
 have HV20 := Lib.hid hv20
 have HV23 := Lib.hid hv23
 have H := Lib.hid HRR
 clear HRR hv20 hv23
 go_upto_region 3 with fail
 refine wp_region_noPanic ?_
 refine wp_region_held_drew (S := fun W => W.heap[g8]? = some (Blk 29 .u64 8 (NZ f4)) ∧ W.heap[g7]? = some (Blk 29 .u64 8 (NZ f3)) ∧ W.heap[g9]? = some (Blk 29 .u64 8 (NZ h20)) ∧ W.heap[g10]? = some (Blk 29 .u64 8 (NZ h23)) ∧ W.heap[g6]? = some (Blk 29 .u64 8 (NZ f2)) ∧ W.heap[g5]? = some (Blk 29 .u64 8 (NZ f1))) (by kernel_rfl) (⟨H.out.drew.row 2 rfl, H.out.drew.row 3 rfl, H.out.drew.row 0 rfl, H.out.drew.row 1 rfl, H.out.drew.row 4 rfl, H.out.drew.row 5 rfl⟩) (fun hH => ?_)
 replace H := Lib.hid H.out.drew
 generalize World.drew _ = w8 at *
 refine z0f 0 24 rowE rfl rfl rfl hH rfl rfl (fun _ h => h.1) ?_
 try simp only [Act.put, qa, qb, qc]
 refine z0f 1 25 rowE rfl rfl rfl hH rfl rfl (fun _ h => h.2.1) ?_
 try simp only [Act.put, qa, qb, qc]
 refine z0f 3 27 rowE rfl rfl rfl hH rfl rfl (fun _ h => h.2.2.1) ?_
 try simp only [Act.put, qa, qb, qc]
 refine z0f 4 28 rowE rfl rfl rfl hH rfl rfl (fun _ h => h.2.2.2.1) ?_
 try simp only [Act.put, qa, qb, qc]
 refine z0f 6 30 rowE rfl rfl rfl hH rfl rfl (fun _ h => h.2.2.2.2.1) ?_
 try simp only [Act.put, qa, qb, qc]
 refine z0f 7 31 rowE rfl rfl rfl hH rfl rfl (fun _ h => h.2.2.2.2.2) ?_
 try simp only [Act.put, qa, qb, qc]
 refine z0f 9 33 rowE rfl rfl rfl hH rfl rfl (fun _ h => h.2.1) ?_
 try simp only [Act.put, qa, qb, qc]
 refine z0f 11 35 rowE rfl rfl rfl hH rfl rfl (fun _ h => h.2.2.1) ?_
 try simp only [Act.put, qa, qb, qc]
 refine z0f 12 36 rowE rfl rfl rfl hH rfl rfl (fun _ h => h.2.2.2.1) ?_
 try simp only [Act.put, qa, qb, qc]
 refine rd1 2 rfl fun K hK => ?_
 go_simp
 refine (mul_k _ V4.out V3.out).mono ?_
 rintro e wc ⟨h26, rfl, hv, hb⟩
 replace H := hcall H hb
 have HV26 := Lib.hid hv
 clear hH
 refine hK.out _ _ ⟨H.out.row 2 rfl, H.out.row 3 rfl, H.out.row 0 rfl, H.out.row 1 rfl, H.out.row 4 rfl, H.out.row 5 rfl⟩ fun hH => ?_
 clear hK K hb hv
 try simp only [Act.put, qa, qb, qc]
 refine rd1 5 rfl fun K hK => ?_
 go_simp
 refine (add_k _ HV20.out HV23.out).mono ?_
 rintro e wc ⟨h29, rfl, hv, hb⟩
 replace H := hcall H hb
 have HV29 := Lib.hid hv
 clear hH
 refine hK.out _ _ ⟨H.out.row 2 rfl, H.out.row 3 rfl, H.out.row 0 rfl, H.out.row 1 rfl, H.out.row 4 rfl, H.out.row 5 rfl⟩ fun hH => ?_
 clear hK K hb hv
 try simp only [Act.put, qa, qb, qc]
 refine rd1 8 rfl fun K hK => ?_
 go_simp
 refine (sub_k _ (HT.out.below H.out.bel) V2.out V1.out).mono ?_
 rintro e wc ⟨h32, rfl, hv, hb⟩
 replace H := hcall H hb
 have HV32 := Lib.hid hv
 clear hH
 refine hK.out _ _ ⟨H.out.row 2 rfl, H.out.row 3 rfl, H.out.row 0 rfl, H.out.row 1 rfl, H.out.row 4 rfl, H.out.row 5 rfl⟩ fun hH => ?_
 clear hK K hb hv
 try simp only [Act.put, qa, qb, qc]
 refine rd1 10 rfl fun K hK => ?_
 go_simp
 refine (mul_k _ HV32.out V3.out).mono ?_
 rintro e wc ⟨h34, rfl, hv, hb⟩
 replace H := hcall H hb
 have HV34 := Lib.hid hv
 clear hH
 refine hK.out _ _ ⟨H.out.row 2 rfl, H.out.row 3 rfl, H.out.row 0 rfl, H.out.row 1 rfl, H.out.row 4 rfl, H.out.row 5 rfl⟩ fun hH => ?_
 clear hK K hb hv
 try simp only [Act.put, qa, qb, qc]
 refine rd1 13 rfl fun K hK => ?_
 go_simp
 refine (sub_k _ (HT.out.below H.out.bel) HV20.out HV23.out).mono ?_
 rintro e wc ⟨h37, rfl, hv, hb⟩
 replace H := hcall H hb
 have HV37 := Lib.hid hv
 clear hH
 refine hK.out _ _ ⟨H.out.row 2 rfl, H.out.row 3 rfl, H.out.row 0 rfl, H.out.row 1 rfl, H.out.row 4 rfl, H.out.row 5 rfl⟩ fun hH => ?_
 clear hK K hb hv
 try simp only [Act.put, qa, qb, qc]
 refine rd1 14 rfl fun K hK => ?_
 go_simp
 refine (z81 _ HV26.out HV29.out HV34.out HV37.out).mono ?_
 rintro e wc ⟨x38, y38, z38, rfl, hx, hy, hz, hb⟩
 replace H := hcall H hb
 have HV38x := Lib.hid hx
 have HV38y := Lib.hid hy
 have HV38z := Lib.hid hz
 clear hH
 refine hK.out _ _ ⟨H.out.row 2 rfl, H.out.row 3 rfl, H.out.row 0 rfl, H.out.row 1 rfl, H.out.row 4 rfl, H.out.row 5 rfl⟩ fun hH => ?_
 clear hK K hb hx hy hz
 try simp only [Act.put, qa, qb, qc]
 refine rd1 15 rfl fun K hK => ?_
 refine z0d 6 rowPt H.out rfl rfl rfl rfl ?_
 intro ws HS
 simp only [qb, qc] at HS
 replace H := Lib.hid HS
 clear hH
 refine hK.out _ _ ⟨H.out.row 2 rfl, H.out.row 3 rfl, H.out.row 0 rfl, H.out.row 1 rfl, H.out.row 4 rfl, H.out.row 5 rfl⟩ fun hH => ?_
 clear hK K HS
 try simp only [Act.put, qa]
 try simp only [Act.put]
 refine wpAnyH_done (by kernel_rfl) ?_ _
 refine NoPanic.normal ?_
 clear hH
 go_wp2_with fail
 exact bodyPost_ret (z0i 6 rowPt rfl _ H rfl rfl) rfl ⟨_, rfl, ⟨_, _, _, _, _, _, rfl, HV38x.out, HV38y.out, HV38z.out, R1.out.sum R2.out⟩, H.out.bel⟩
theorem ptDouble_k {v1 : Nat → Int} {P1 : Pt pN dK} (w : World) (hT : Tp w) (p1 : PtK v1 P1) :
  Calls Tryz.prog 74 #[PO v1] w fun e w' => ∃ r, e = .returned (PO r) ∧ PtK r (padd edK P1 P1) ∧ Below w.heap.size w w' := by
 obtain ⟨x1, y1, z1, X1, Y1, Z1, rfl, e1x, e1y, e1z, r1⟩ := p1.is
 have E1x := Lib.hid e1x
 have E1y := Lib.hid e1y
 have E1z := Lib.hid e1z
 have R1 := Lib.hid r1
 clear p1 e1x e1y e1z r1
 have HT := Lib.hid hT
 clear hT
 have H := Lib.hid (Ow.start w)
 go_enter Tryz.func74, Tryz.ntmps74
 go_upto_region 3 with (first
  | ((fail_if_success have := g1); (with_reducible apply z0h H); (case hgd | ho | hx => exact rfl); clear H; intro w1 g1 H _ _; go_simp)
  | ((fail_if_success have := g2); (with_reducible apply z0b nilPt H); (case hgd | ho => exact rfl); clear H; intro w2 g2 H _ _; go_simp)
  | ((with_reducible apply z0g rowPt H); (case hgd | ho | hx => exact rfl); (case hi => repeat first|exact at0|apply atS); intro _ _; go_simp)
  | ((fail_if_success have := V1); (with_reducible refine (y0l 109 (fun a _ => a * a) (z18 Tryz.func109 (by kernel_rfl) rfl) (fun f g a b w ha _ => dbl_k w ha) _ (HT.out.below H.out.bel) E1x.out E1y.out E1z.out E1x.out E1y.out E1z.out).mono ?_); rintro e wc ⟨f1, f2, f3, f4, rfl, hv1, hv2, hv3, hv4, hb⟩; replace H := hcall H hb; clear hb; have V1 := Lib.hid hv1; have V2 := Lib.hid hv2; have V3 := Lib.hid hv3; have V4 := Lib.hid hv4; clear hv1 hv2 hv3 hv4)
  | ((fail_if_success have := g3); (fail_if_success have := g3); (with_reducible apply z0b nilE H); (case hgd | ho => exact rfl); clear H; intro w3 g3 H _ _; go_simp)
  | ((fail_if_success have := g4); (fail_if_success have := g4); (with_reducible apply z0b nilE H); (case hgd | ho => exact rfl); clear H; intro w4 g4 H _ _; go_simp)
  | ((fail_if_success have := g5); (fail_if_success have := g5); (with_reducible apply z0b nilE H); (case hgd | ho => exact rfl); clear H; intro w5 g5 H _ _; go_simp)
  | ((fail_if_success have := g6); (fail_if_success have := g6); (with_reducible apply z0b nilE H); (case hgd | ho => exact rfl); clear H; intro w6 g6 H _ _; go_simp)
  | ((with_reducible apply z0e rowE H); (case hgd | ho | hx | hy => exact rfl); (case hi => repeat first|exact at0|apply atS); clear H; intro ws H _ _; simp only [qb, qc] at H; go_simp)
  | ((with_reducible apply z0g rowE H); (case hgd | ho | hx => exact rfl); (case hi => repeat first|exact at0|apply atS); intro _ _; go_simp)
  | ((fail_if_success have := V5); (with_reducible refine (add_k _ V1.out V2.out).mono ?_); rintro e wc ⟨f5, rfl, hv, hb⟩; replace H := hcall H hb; clear hb; have V5 := Lib.hid hv; clear hv)
  | ((fail_if_success have := g7); (fail_if_success have := g7); (with_reducible apply z0b nilE H); (case hgd | ho => exact rfl); clear H; intro w7 g7 H _ _; go_simp))
 refine wp_region_noPanic ?_
 refine wp_region_held_drew (S := fun W => W.heap[g6]? = some (Blk 29 .u64 8 (NZ f4)) ∧ W.heap[g7]? = some (Blk 29 .u64 8 (NZ f5)) ∧ W.heap[g4]? = some (Blk 29 .u64 8 (NZ f2)) ∧ W.heap[g3]? = some (Blk 29 .u64 8 (NZ f1)) ∧ W.heap[g5]? = some (Blk 29 .u64 8 (NZ f3))) (by kernel_rfl) (⟨H.out.drew.row 1 rfl, H.out.drew.row 0 rfl, H.out.drew.row 3 rfl, H.out.drew.row 4 rfl, H.out.drew.row 2 rfl⟩) (fun hH => ?_)
 replace H := Lib.hid H.out.drew
 generalize World.drew _ = w8 at *
 refine z0f 0 19 rowE rfl rfl rfl hH rfl rfl (fun _ h => h.1) ?_
 try simp only [Act.put, qa, qb, qc]
 refine z0f 1 20 rowE rfl rfl rfl hH rfl rfl (fun _ h => h.2.1) ?_
 try simp only [Act.put, qa, qb, qc]
 refine z0f 2 21 rowE rfl rfl rfl hH rfl rfl (fun _ h => h.2.2.1) ?_
 try simp only [Act.put, qa, qb, qc]
 refine z0f 3 22 rowE rfl rfl rfl hH rfl rfl (fun _ h => h.2.2.2.1) ?_
 try simp only [Act.put, qa, qb, qc]
 refine z0f 5 24 rowE rfl rfl rfl hH rfl rfl (fun _ h => h.2.2.2.2) ?_
 try simp only [Act.put, qa, qb, qc]
 refine z0f 7 26 rowE rfl rfl rfl hH rfl rfl (fun _ h => h.2.1) ?_
 try simp only [Act.put, qa, qb, qc]
 refine rd1 4 rfl fun K hK => ?_
 go_simp
 refine (sub_k _ (HT.out.below H.out.bel) V2.out V1.out).mono ?_
 rintro e wc ⟨h23, rfl, hv, hb⟩
 replace H := hcall H hb
 have HV23 := Lib.hid hv
 clear hH
 refine hK.out _ _ ⟨H.out.row 1 rfl, H.out.row 0 rfl, H.out.row 3 rfl, H.out.row 4 rfl, H.out.row 2 rfl⟩ fun hH => ?_
 clear hK K hb hv
 try simp only [Act.put, qa, qb, qc]
 refine rd1 6 rfl fun K hK => ?_
 go_simp
 refine (z3k (2) _ (HT.out.below H.out.bel) V3.out (by omega) (by omega)).mono ?_
 rintro e wc ⟨h25, rfl, hv, hb⟩
 replace H := hcall H hb
 have HV25 := Lib.hid hv
 clear hH
 refine hK.out _ _ ⟨H.out.row 1 rfl, H.out.row 0 rfl, H.out.row 3 rfl, H.out.row 4 rfl, H.out.row 2 rfl⟩ fun hH => ?_
 clear hK K hb hv
 try simp only [Act.put, qa, qb, qc]
 refine rd1 8 rfl fun K hK => ?_
 go_simp
 refine (sub_k _ (HT.out.below H.out.bel) HV25.out V5.out).mono ?_
 rintro e wc ⟨h27, rfl, hv, hb⟩
 replace H := hcall H hb
 have HV27 := Lib.hid hv
 clear hH
 refine hK.out _ _ ⟨H.out.row 1 rfl, H.out.row 0 rfl, H.out.row 3 rfl, H.out.row 4 rfl, H.out.row 2 rfl⟩ fun hH => ?_
 clear hK K hb hv
 try simp only [Act.put, qa, qb, qc]
 refine rd1 9 rfl fun K hK => ?_
 go_simp
 refine (z81 _ V4.out V5.out HV23.out HV27.out).mono ?_
 rintro e wc ⟨x28, y28, z28, rfl, hx, hy, hz, hb⟩
 replace H := hcall H hb
 have HV28x := Lib.hid hx
 have HV28y := Lib.hid hy
 have HV28z := Lib.hid hz
 clear hH
 refine hK.out _ _ ⟨H.out.row 1 rfl, H.out.row 0 rfl, H.out.row 3 rfl, H.out.row 4 rfl, H.out.row 2 rfl⟩ fun hH => ?_
 clear hK K hb hx hy hz
 try simp only [Act.put, qa, qb, qc]
 refine rd1 10 rfl fun K hK => ?_
 refine z0d 5 rowPt H.out rfl rfl rfl rfl ?_
 intro ws HS
 simp only [qb, qc] at HS
 replace H := Lib.hid HS
 clear hH
 refine hK.out _ _ ⟨H.out.row 1 rfl, H.out.row 0 rfl, H.out.row 3 rfl, H.out.row 4 rfl, H.out.row 2 rfl⟩ fun hH => ?_
 clear hK K HS
 try simp only [Act.put, qa]
 try simp only [Act.put]
 refine wpAnyH_done (by kernel_rfl) ?_ _
 refine NoPanic.normal ?_
 clear hH
 go_wp2_with fail
 exact bodyPost_ret (z0i 5 rowPt rfl _ H rfl rfl) rfl ⟨_, rfl, ⟨_, _, _, _, _, _, rfl, HV28x.out, HV28y.out, HV28z.out, by rw [ofZ_two]; exact R1.out.double⟩, H.out.bel⟩
end Go.Proofs.YtoeokhfhcpcjlaaGreatDoor
