/- Lemmas; no statement is proved here. -/
import Derived.Test.YtgjbonikbmgfmaaGreatDoorZPtParts
set_option maxRecDepth 8000
set_option maxHeartbeats 3200000
namespace Go.Proofs.YtgjbonikbmgfmaaGreatDoor
open Go.RowKit
theorem rp_negp {X1 Y1 Z1 : K} {P : Pt pN dK} (r1 : Rp X1 Y1 Z1 P) : Rp (-X1) Y1 Z1 (pneg P) := ⟨by have := r1.x; show -X1 = -P.x * Z1; grind, r1.y, r1.z⟩
theorem y1m {v1 : Nat → Int} {P1 : Pt pN dK} (w : World) (hT : Tp w) (p1 : PtK v1 P1) :
  Calls Tryz.prog 42 #[PO v1] w fun e w' => ∃ r, e = .returned (PO r) ∧ PtK r (pneg P1) ∧ Below w.heap.size w w' := by
 obtain ⟨x1, y1, z1, X1, Y1, Z1, rfl, e1x, e1y, e1z, r1⟩ := p1.is
 have E1x := za e1x
 have E1y := za e1y
 have E1z := za e1z
 have R1 := za r1
 clear p1 e1x e1y e1z r1
 have HT := za hT
 clear hT
 have H := za (Ow.start w)
 go_enter Tryz.func42, Tryz.ntmps42
 go_wp2_with (first
  | ((fail_if_success have := g1); (with_reducible apply zw H); (case hgd | ho | hx => exact rfl); clear H; intro w1 g1 H _ _; go_simp)
  | ((with_reducible apply ze z1d H); (case hgd | ho => exact rfl); clear H; intro _ _ H _ _; go_simp))
 refine wp_region_noPanic ?_
 refine wp_region_held_drew (S := fun W => W.heap[g1]? = some (zv 32 .u64 24 ((t3 8 (NZ x1) (NZ y1) (NZ z1))))) (by kernel_rfl) (H.out.drew.row 1 rfl) (fun hH => ?_)
 replace H := za H.out.drew
 generalize World.drew _ = w8 at *
 refine zh 0 3 (.pointer (some ⟨g1, 0, none⟩)) hH ?_
 refine z0i 1 4 zt rfl rfl rfl hH rfl rfl z39 (fun _ h => h) ?_
 refine zh 3 6 (.pointer (some ⟨g1, 8, none⟩)) hH ?_
 refine z0i 4 7 zt rfl rfl rfl hH rfl rfl z37 (fun _ h => h) ?_
 refine zh 5 8 (.pointer (some ⟨g1, 16, none⟩)) hH ?_
 refine z0i 6 9 zt rfl rfl rfl hH rfl rfl z5u (fun _ h => h) ?_
 refine zn 2 rfl fun K hK => ?_
 go_simp
 refine (neg_k _ (HT.out.below H.out.bel) E1x.out).mono ?_
 rintro e wc ⟨h5, rfl, hv, hb⟩
 replace H := zd H hb
 have HV5 := za hv
 refine zc hK (zb H 1) fun hH => ?_
 refine y10 7 10 rfl rfl rfl hH rfl rfl rfl rfl ?_
 try simp only [Act.put, qa, qb, qc]
 refine zn 8 rfl fun K hK => ?_
 refine zl 0 zH H.out rfl rfl rfl rfl ?_
 intro ws HS
 simp only [qb] at HS
 replace H := za HS
 refine zc hK (zb H 1) fun hH => ?_
 try simp only [Act.put, qa]
 refine zm ?_
 go_wp2_with fail
 exact bodyPost_ret (zy 0 zH rfl _ H rfl rfl) rfl ⟨_, rfl, ⟨_, _, _, _, _, _, rfl, HV5.out, E1y.out, E1z.out, rp_negp R1.out⟩, H.out.bel⟩
theorem z2k (w : World) (hT : Tp w) :
  Calls Tryz.prog 45 #[] w fun e w' => ∃ r, e = .returned (PO r) ∧ PtK r z0v ∧ Below w.heap.size w w' := by
 have HT := za hT
 clear hT
 have H := za (Ow.start w)
 go_enter Tryz.func45, Tryz.ntmps45
 go_wp2_with (first
  | ((with_reducible apply ze z1d H); (case hgd | ho => exact rfl); clear H; intro _ _ H _ _; go_simp)
  | ((fail_if_success have := V1); (with_reducible refine (z3w 0 _ (HT.out.below H.out.bel) (by omega) (by omega)).mono ?_); rintro e wc ⟨k1, rfl, hv, hb⟩; replace H := zd H hb; clear hb; have V1 := za hv; clear hv)
  | ((fail_if_success have := V2); (with_reducible refine (z3w 1 _ (HT.out.below H.out.bel) (by omega) (by omega)).mono ?_); rintro e wc ⟨k2, rfl, hv, hb⟩; replace H := zd H hb; clear hb; have V2 := za hv; clear hv)
  | ((fail_if_success have := V3); (with_reducible refine (z3w 1 _ (HT.out.below H.out.bel) (by omega) (by omega)).mono ?_); rintro e wc ⟨k3, rfl, hv, hb⟩; replace H := zd H hb; clear hb; have V3 := za hv; clear hv)
  | ((with_reducible apply z8q); (case hgd | ho | hx | hy | hz => exact rfl); intro _ _; go_simp)
  | ((with_reducible apply zj zH H); (case hgd | ho | hx | hy => exact rfl); (case hi => repeat first|exact z5|apply z8); clear H; intro ws H _ _; simp only [qb] at H; go_simp))
 exact bodyPost_ret (zy 0 zH rfl _ H rfl rfl) rfl ⟨_, rfl, ⟨_, _, _, _, _, _, rfl, V1.out.eq z21, V2.out.eq z00, V3.out.eq z00, Rp.zero zB⟩, H.out.bel⟩
theorem z6w {v1 v2 : Nat → Int} {P1 P2 : Pt pN dK} (w : World) (hT : Tp w) (p1 : PtK v1 P1) (p2 : PtK v2 P2) :
  Calls Tryz.prog 41 #[PO v1, PO v2] w fun e w' => ∃ r, e = .returned (PO r) ∧ PtK r (z6 zB P1 P2) ∧ Below w.heap.size w w' := by
 obtain ⟨x1, y1, z1, X1, Y1, Z1, rfl, e1x, e1y, e1z, r1⟩ := p1.is
 have E1x := za e1x
 have E1y := za e1y
 have E1z := za e1z
 have R1 := za r1
 clear p1 e1x e1y e1z r1
 obtain ⟨x2, y2, z2, X2, Y2, Z2, rfl, e2x, e2y, e2z, r2⟩ := p2.is
 have E2x := za e2x
 have E2y := za e2y
 have E2z := za e2z
 have R2 := za r2
 clear p2 e2x e2y e2z r2
 have HT := za hT
 clear hT
 have H := za (Ow.start w)
 go_enter Tryz.func41, Tryz.ntmps41
 go_upto_region 2 with (first
  | ((fail_if_success have := g1); (with_reducible apply zw H); (case hgd | ho | hx => exact rfl); clear H; intro w1 g1 H _ _; go_simp)
  | ((fail_if_success have := g2); (with_reducible apply zw H); (case hgd | ho | hx => exact rfl); clear H; intro w2 g2 H _ _; go_simp)
  | ((fail_if_success have := g4); (with_reducible apply ze z1d H); (case hgd | ho => exact rfl); clear H; intro w4 g4 H _ _; go_simp)
  | ((with_reducible apply zr zH H); (case hgd | ho | hx => exact rfl); (case hi => repeat first|exact z5|apply z8); intro _ _; go_simp)
  | ((fail_if_success have := V1); (with_reducible refine (y8c 71 (fun a b => a * b) (z3g Tryz.func71 (by kernel_rfl) rfl) (fun f g a b w ha hb => z16 w ha hb) _ (HT.out.below H.out.bel) E1x.out E1y.out E1z.out E2x.out E2y.out E2z.out).mono ?_); rintro e wc ⟨f1, f2, f3, f4, rfl, hv1, hv2, hv3, hv4, hb⟩; replace H := zd H hb; clear hb; have V1 := za hv1; have V2 := za hv2; have V3 := za hv3; have V4 := za hv4; clear hv1 hv2 hv3 hv4)
  | ((fail_if_success have := g5); (with_reducible apply ze z9 H); (case hgd | ho => exact rfl); clear H; intro w5 g5 H _ _; go_simp)
  | ((fail_if_success have := g6); (with_reducible apply ze z9 H); (case hgd | ho => exact rfl); clear H; intro w6 g6 H _ _; go_simp)
  | ((fail_if_success have := g7); (with_reducible apply ze z9 H); (case hgd | ho => exact rfl); clear H; intro w7 g7 H _ _; go_simp)
  | ((fail_if_success have := g8); (with_reducible apply ze z9 H); (case hgd | ho => exact rfl); clear H; intro w8 g8 H _ _; go_simp)
  | ((with_reducible apply zj zt H); (case hgd | ho | hx | hy => exact rfl); (case hi => repeat first|exact z5|apply z8); clear H; intro ws H _ _; simp only [qb, qc] at H; go_simp))
 go_cut [9, 10] from 19 to 23 (fun v9 v10 wx => ∃ g9 g10 h20 h23, v9 = .pointer (some ⟨g9, 0, none⟩) ∧ v10 = .pointer (some ⟨g10, 0, none⟩) ∧ EK h20 ((Z1 * Z2) * (Z1 * Z2)) ∧ EK h23 ((X1 * X2) * (Y1 * Y2) * dK) ∧ Ow w wx [(g9, zv 30 .u64 8 (NZ h20)), (g10, zv 30 .u64 8 (NZ h23)), (g8, zv 30 .u64 8 (NZ f4)), (g7, zv 30 .u64 8 (NZ f3)), (g6, zv 30 .u64 8 (NZ f2)), (g5, zv 30 .u64 8 (NZ f1)), (g4, zv 32 .u64 24 fun _ => 0), (g2, zv 32 .u64 24 ((t3 8 (NZ x2) (NZ y2) (NZ z2)))), (g1, zv 32 .u64 24 ((t3 8 (NZ x1) (NZ y1) (NZ z1))))])
 case first =>
  go_wp2_with fail
  refine wp_region_noPanic ?_
  refine wp_region_held_drew (S := fun W => W.heap[g7]? = some (zv 30 .u64 8 (NZ f3)) ∧ W.heap[g5]? = some (zv 30 .u64 8 (NZ f1)) ∧ W.heap[g6]? = some (zv 30 .u64 8 (NZ f2))) (by kernel_rfl) (⟨H.out.drew.row 1 rfl, H.out.drew.row 3 rfl, H.out.drew.row 2 rfl⟩) (fun hH => ?_)
  replace H := za H.out.drew
  generalize World.drew _ = w8 at *
  refine zk 0 19 zt rfl rfl rfl hH rfl rfl (fun _ h => h.1) ?_
  refine zk 2 21 zt rfl rfl rfl hH rfl rfl (fun _ h => h.2.1) ?_
  refine zk 3 22 zt rfl rfl rfl hH rfl rfl (fun _ h => h.2.2) ?_
  try simp only [Act.put, qa, qb, qc]
  refine zK [1, 5, 6] (zG rfl (fun K hK => ?_) (zG rfl (fun K hK => ?_) (zG rfl (fun K hK => ?_) zJ)))
  ·skip
   go_simp
   refine (z0f _ V3.out).mono ?_
   rintro e wc ⟨h20, rfl, hv, hb⟩
   replace H := zd H hb
   have HV20 := za hv
   refine zc hK ⟨zb H 1, zb H 3, zb H 2⟩ fun hH => zK [4, 5, 6] (zG rfl (fun K hK => ?_) (zG rfl (fun K hK => ?_) (zG rfl (fun K hK => ?_) zJ)))
   ·skip
    go_simp
    refine (z42 _ (HT.out.below H.out.bel) V1.out V2.out).mono ?_
    rintro e wc ⟨h23, rfl, hv, hb⟩
    replace H := zd H hb
    have HV23 := za hv
    refine zc hK ⟨zb H 1, zb H 3, zb H 2⟩ fun hH => zK [5, 6] (zG rfl (fun K hK => ?_) (zG rfl (fun K hK => ?_) zJ))
    ·skip
     refine zg 9 rfl z9 H.out rfl ?_
     intro w9 g9 H3 hb
     replace H := za H3
     refine zc hK ⟨zb H 2, zb H 4, zb H 3⟩ fun hH => ?_
     try simp only [Act.put, qa, qb, qc]
     refine zn 6 rfl fun K hK => ?_
     refine zg 10 rfl z9 H.out rfl ?_
     intro w10 g10 H3 hb
     replace H := za H3
     refine zc hK ⟨zb H 3, zb H 5, zb H 4⟩ fun hH => zn 7 rfl fun K hK => ?_
     refine zl 1 zt H.out rfl rfl rfl rfl ?_
     intro ws HS
     simp only [qb, qc] at HS
     replace H := za HS
     refine zc hK ⟨zb H 3, zb H 5, zb H 4⟩ fun hH => ?_
     try simp only [Act.put, qa]
     refine zn 8 rfl fun K hK => ?_
     refine zl 0 zt H.out rfl rfl rfl rfl ?_
     intro ws HS
     simp only [qb] at HS
     replace H := za HS
     refine zc hK ⟨zb H 3, zb H 5, zb H 4⟩ fun hH => ?_
     try simp only [Act.put]
     refine zm ?_
     replace H := za (H.out.front (x := (g9, zv 30 .u64 8 (NZ h20))) 1 rfl)
     go_wp2_with fail
     go_meet
     exact ⟨g9, g10, h20, h23, rfl, rfl, HV20.out, HV23.out, H.out⟩
    ·skip
     refine zg 10 rfl z9 H.out rfl ?_
     intro w10 g10 H3 hb
     replace H := za H3
     refine zc hK ⟨zb H 2, zb H 4, zb H 3⟩ fun hH => zn 5 rfl fun K hK => ?_
     refine zg 9 rfl z9 H.out rfl ?_
     intro w9 g9 H3 hb
     replace H := za H3
     refine zc hK ⟨zb H 3, zb H 5, zb H 4⟩ fun hH => ?_
     try simp only [Act.put, qa, qb, qc]
     refine zn 7 rfl fun K hK => ?_
     refine zl 0 zt H.out rfl rfl rfl rfl ?_
     intro ws HS
     simp only [qb] at HS
     replace H := za HS
     refine zc hK ⟨zb H 3, zb H 5, zb H 4⟩ fun hH => ?_
     try simp only [Act.put, qa]
     refine zn 8 rfl fun K hK => ?_
     refine zl 1 zt H.out rfl rfl rfl rfl ?_
     intro ws HS
     simp only [qb, qc] at HS
     replace H := za HS
     refine zc hK ⟨zb H 3, zb H 5, zb H 4⟩ fun hH => ?_
     try simp only [Act.put]
     refine zm ?_
     replace H := za (H.out.front (x := (g10, zv 30 .u64 8 (NZ h23))) 1 rfl)
     replace H := za (H.out.front (x := (g9, zv 30 .u64 8 (NZ h20))) 1 rfl)
     go_wp2_with fail
     go_meet
     exact ⟨g9, g10, h20, h23, rfl, rfl, HV20.out, HV23.out, H.out⟩
   ·skip
    refine zg 9 rfl z9 H.out rfl ?_
    intro w9 g9 H3 hb
    replace H := za H3
    refine zc hK ⟨zb H 2, zb H 4, zb H 3⟩ fun hH => zK [4, 6] (zG rfl (fun K hK => ?_) (zG rfl (fun K hK => ?_) zJ))
    ·skip
     go_simp
     refine (z42 _ (HT.out.below H.out.bel) V1.out V2.out).mono ?_
     rintro e wc ⟨h23, rfl, hv, hb⟩
     replace H := zd H hb
     have HV23 := za hv
     refine zc hK ⟨zb H 2, zb H 4, zb H 3⟩ fun hH => zn 6 rfl fun K hK => ?_
     refine zg 10 rfl z9 H.out rfl ?_
     intro w10 g10 H3 hb
     replace H := za H3
     refine zc hK ⟨zb H 3, zb H 5, zb H 4⟩ fun hH => ?_
     try simp only [Act.put, qa, qb, qc]
     refine zn 7 rfl fun K hK => ?_
     refine zl 1 zt H.out rfl rfl rfl rfl ?_
     intro ws HS
     simp only [qb, qc] at HS
     replace H := za HS
     refine zc hK ⟨zb H 3, zb H 5, zb H 4⟩ fun hH => ?_
     try simp only [Act.put, qa]
     refine zn 8 rfl fun K hK => ?_
     refine zl 0 zt H.out rfl rfl rfl rfl ?_
     intro ws HS
     simp only [qb] at HS
     replace H := za HS
     refine zc hK ⟨zb H 3, zb H 5, zb H 4⟩ fun hH => ?_
     try simp only [Act.put]
     refine zm ?_
     replace H := za (H.out.front (x := (g9, zv 30 .u64 8 (NZ h20))) 1 rfl)
     go_wp2_with fail
     go_meet
     exact ⟨g9, g10, h20, h23, rfl, rfl, HV20.out, HV23.out, H.out⟩
    ·skip
     refine zg 10 rfl z9 H.out rfl ?_
     intro w10 g10 H3 hb
     replace H := za H3
     refine zc hK ⟨zb H 3, zb H 5, zb H 4⟩ fun hH => zn 4 rfl fun K hK => ?_
     go_simp
     refine (z42 _ (HT.out.below H.out.bel) V1.out V2.out).mono ?_
     rintro e wc ⟨h23, rfl, hv, hb⟩
     replace H := zd H hb
     have HV23 := za hv
     refine zc hK ⟨zb H 3, zb H 5, zb H 4⟩ fun hH => zn 7 rfl fun K hK => ?_
     refine zl 1 zt H.out rfl rfl rfl rfl ?_
     intro ws HS
     simp only [qb, qc] at HS
     replace H := za HS
     refine zc hK ⟨zb H 3, zb H 5, zb H 4⟩ fun hH => ?_
     try simp only [Act.put, qa]
     refine zn 8 rfl fun K hK => ?_
     refine zl 0 zt H.out rfl rfl rfl rfl ?_
     intro ws HS
     simp only [qb] at HS
     replace H := za HS
     refine zc hK ⟨zb H 3, zb H 5, zb H 4⟩ fun hH => ?_
     try simp only [Act.put]
     refine zm ?_
     replace H := za (H.out.front (x := (g9, zv 30 .u64 8 (NZ h20))) 1 rfl)
     go_wp2_with fail
     go_meet
     exact ⟨g9, g10, h20, h23, rfl, rfl, HV20.out, HV23.out, H.out⟩
   ·skip
    refine zg 10 rfl z9 H.out rfl ?_
    intro w10 g10 H3 hb
    replace H := za H3
    refine zc hK ⟨zb H 2, zb H 4, zb H 3⟩ fun hH => ?_
    try simp only [Act.put, qa, qb, qc]
    refine zK [4, 5] (zG rfl (fun K hK => ?_) (zG rfl (fun K hK => ?_) zJ))
    ·skip
     go_simp
     refine (z42 _ (HT.out.below H.out.bel) V1.out V2.out).mono ?_
     rintro e wc ⟨h23, rfl, hv, hb⟩
     replace H := zd H hb
     have HV23 := za hv
     refine zc hK ⟨zb H 2, zb H 4, zb H 3⟩ fun hH => zn 5 rfl fun K hK => ?_
     refine zg 9 rfl z9 H.out rfl ?_
     intro w9 g9 H3 hb
     replace H := za H3
     refine zc hK ⟨zb H 3, zb H 5, zb H 4⟩ fun hH => zn 7 rfl fun K hK => ?_
     refine zl 0 zt H.out rfl rfl rfl rfl ?_
     intro ws HS
     simp only [qb] at HS
     replace H := za HS
     refine zc hK ⟨zb H 3, zb H 5, zb H 4⟩ fun hH => ?_
     try simp only [Act.put, qa]
     refine zn 8 rfl fun K hK => ?_
     refine zl 1 zt H.out rfl rfl rfl rfl ?_
     intro ws HS
     simp only [qb, qc] at HS
     replace H := za HS
     refine zc hK ⟨zb H 3, zb H 5, zb H 4⟩ fun hH => ?_
     try simp only [Act.put]
     refine zm ?_
     replace H := za (H.out.front (x := (g10, zv 30 .u64 8 (NZ h23))) 1 rfl)
     replace H := za (H.out.front (x := (g9, zv 30 .u64 8 (NZ h20))) 1 rfl)
     go_wp2_with fail
     go_meet
     exact ⟨g9, g10, h20, h23, rfl, rfl, HV20.out, HV23.out, H.out⟩
    ·skip
     refine zg 9 rfl z9 H.out rfl ?_
     intro w9 g9 H3 hb
     replace H := za H3
     refine zc hK ⟨zb H 3, zb H 5, zb H 4⟩ fun hH => ?_
     try simp only [Act.put, qa, qb, qc]
     refine zn 4 rfl fun K hK => ?_
     go_simp
     refine (z42 _ (HT.out.below H.out.bel) V1.out V2.out).mono ?_
     rintro e wc ⟨h23, rfl, hv, hb⟩
     replace H := zd H hb
     have HV23 := za hv
     refine zc hK ⟨zb H 3, zb H 5, zb H 4⟩ fun hH => zn 7 rfl fun K hK => ?_
     refine zl 0 zt H.out rfl rfl rfl rfl ?_
     intro ws HS
     simp only [qb] at HS
     replace H := za HS
     refine zc hK ⟨zb H 3, zb H 5, zb H 4⟩ fun hH => ?_
     try simp only [Act.put, qa]
     refine zn 8 rfl fun K hK => ?_
     refine zl 1 zt H.out rfl rfl rfl rfl ?_
     intro ws HS
     simp only [qb, qc] at HS
     replace H := za HS
     refine zc hK ⟨zb H 3, zb H 5, zb H 4⟩ fun hH => ?_
     try simp only [Act.put]
     refine zm ?_
     replace H := za (H.out.front (x := (g10, zv 30 .u64 8 (NZ h23))) 1 rfl)
     replace H := za (H.out.front (x := (g9, zv 30 .u64 8 (NZ h20))) 1 rfl)
     go_wp2_with fail
     go_meet
     exact ⟨g9, g10, h20, h23, rfl, rfl, HV20.out, HV23.out, H.out⟩
  ·skip
   refine zg 9 rfl z9 H.out rfl ?_
   intro w9 g9 H3 hb
   replace H := za H3
   refine zc hK ⟨zb H 2, zb H 4, zb H 3⟩ fun hH => zK [1, 6] (zG rfl (fun K hK => ?_) (zG rfl (fun K hK => ?_) zJ))
   ·skip
    go_simp
    refine (z0f _ V3.out).mono ?_
    rintro e wc ⟨h20, rfl, hv, hb⟩
    replace H := zd H hb
    have HV20 := za hv
    refine zc hK ⟨zb H 2, zb H 4, zb H 3⟩ fun hH => ?_
    try simp only [Act.put, qa, qb, qc]
    refine zK [4, 6] (zG rfl (fun K hK => ?_) (zG rfl (fun K hK => ?_) zJ))
    ·skip
     go_simp
     refine (z42 _ (HT.out.below H.out.bel) V1.out V2.out).mono ?_
     rintro e wc ⟨h23, rfl, hv, hb⟩
     replace H := zd H hb
     have HV23 := za hv
     refine zc hK ⟨zb H 2, zb H 4, zb H 3⟩ fun hH => zn 6 rfl fun K hK => ?_
     refine zg 10 rfl z9 H.out rfl ?_
     intro w10 g10 H3 hb
     replace H := za H3
     refine zc hK ⟨zb H 3, zb H 5, zb H 4⟩ fun hH => zn 7 rfl fun K hK => ?_
     refine zl 1 zt H.out rfl rfl rfl rfl ?_
     intro ws HS
     simp only [qb, qc] at HS
     replace H := za HS
     refine zc hK ⟨zb H 3, zb H 5, zb H 4⟩ fun hH => ?_
     try simp only [Act.put, qa]
     refine zn 8 rfl fun K hK => ?_
     refine zl 0 zt H.out rfl rfl rfl rfl ?_
     intro ws HS
     simp only [qb] at HS
     replace H := za HS
     refine zc hK ⟨zb H 3, zb H 5, zb H 4⟩ fun hH => ?_
     try simp only [Act.put]
     refine zm ?_
     replace H := za (H.out.front (x := (g9, zv 30 .u64 8 (NZ h20))) 1 rfl)
     go_wp2_with fail
     go_meet
     exact ⟨g9, g10, h20, h23, rfl, rfl, HV20.out, HV23.out, H.out⟩
    ·skip
     refine zg 10 rfl z9 H.out rfl ?_
     intro w10 g10 H3 hb
     replace H := za H3
     refine zc hK ⟨zb H 3, zb H 5, zb H 4⟩ fun hH => ?_
     try simp only [Act.put, qa, qb, qc]
     refine zn 4 rfl fun K hK => ?_
     go_simp
     refine (z42 _ (HT.out.below H.out.bel) V1.out V2.out).mono ?_
     rintro e wc ⟨h23, rfl, hv, hb⟩
     replace H := zd H hb
     have HV23 := za hv
     refine zc hK ⟨zb H 3, zb H 5, zb H 4⟩ fun hH => zn 7 rfl fun K hK => ?_
     refine zl 1 zt H.out rfl rfl rfl rfl ?_
     intro ws HS
     simp only [qb, qc] at HS
     replace H := za HS
     refine zc hK ⟨zb H 3, zb H 5, zb H 4⟩ fun hH => ?_
     try simp only [Act.put, qa]
     refine zn 8 rfl fun K hK => ?_
     refine zl 0 zt H.out rfl rfl rfl rfl ?_
     intro ws HS
     simp only [qb] at HS
     replace H := za HS
     refine zc hK ⟨zb H 3, zb H 5, zb H 4⟩ fun hH => ?_
     try simp only [Act.put]
     refine zm ?_
     replace H := za (H.out.front (x := (g9, zv 30 .u64 8 (NZ h20))) 1 rfl)
     go_wp2_with fail
     go_meet
     exact ⟨g9, g10, h20, h23, rfl, rfl, HV20.out, HV23.out, H.out⟩
   ·skip
    refine zg 10 rfl z9 H.out rfl ?_
    intro w10 g10 H3 hb
    replace H := za H3
    refine zc hK ⟨zb H 3, zb H 5, zb H 4⟩ fun hH => zn 1 rfl fun K hK => ?_
    go_simp
    refine (z0f _ V3.out).mono ?_
    rintro e wc ⟨h20, rfl, hv, hb⟩
    replace H := zd H hb
    have HV20 := za hv
    refine zc hK ⟨zb H 3, zb H 5, zb H 4⟩ fun hH => ?_
    try simp only [Act.put, qa, qb, qc]
    refine zn 4 rfl fun K hK => ?_
    go_simp
    refine (z42 _ (HT.out.below H.out.bel) V1.out V2.out).mono ?_
    rintro e wc ⟨h23, rfl, hv, hb⟩
    replace H := zd H hb
    have HV23 := za hv
    refine zc hK ⟨zb H 3, zb H 5, zb H 4⟩ fun hH => zn 7 rfl fun K hK => ?_
    refine zl 1 zt H.out rfl rfl rfl rfl ?_
    intro ws HS
    simp only [qb, qc] at HS
    replace H := za HS
    refine zc hK ⟨zb H 3, zb H 5, zb H 4⟩ fun hH => ?_
    try simp only [Act.put, qa]
    refine zn 8 rfl fun K hK => ?_
    refine zl 0 zt H.out rfl rfl rfl rfl ?_
    intro ws HS
    simp only [qb] at HS
    replace H := za HS
    refine zc hK ⟨zb H 3, zb H 5, zb H 4⟩ fun hH => ?_
    try simp only [Act.put]
    refine zm ?_
    replace H := za (H.out.front (x := (g9, zv 30 .u64 8 (NZ h20))) 1 rfl)
    go_wp2_with fail
    go_meet
    exact ⟨g9, g10, h20, h23, rfl, rfl, HV20.out, HV23.out, H.out⟩
  ·skip
   refine zg 10 rfl z9 H.out rfl ?_
   intro w10 g10 H3 hb
   replace H := za H3
   refine zc hK ⟨zb H 2, zb H 4, zb H 3⟩ fun hH => zK [1, 5] (zG rfl (fun K hK => ?_) (zG rfl (fun K hK => ?_) zJ))
   ·skip
    go_simp
    refine (z0f _ V3.out).mono ?_
    rintro e wc ⟨h20, rfl, hv, hb⟩
    replace H := zd H hb
    have HV20 := za hv
    refine zc hK ⟨zb H 2, zb H 4, zb H 3⟩ fun hH => ?_
    try simp only [Act.put, qa, qb, qc]
    refine zK [4, 5] (zG rfl (fun K hK => ?_) (zG rfl (fun K hK => ?_) zJ))
    ·skip
     go_simp
     refine (z42 _ (HT.out.below H.out.bel) V1.out V2.out).mono ?_
     rintro e wc ⟨h23, rfl, hv, hb⟩
     replace H := zd H hb
     have HV23 := za hv
     refine zc hK ⟨zb H 2, zb H 4, zb H 3⟩ fun hH => zn 5 rfl fun K hK => ?_
     refine zg 9 rfl z9 H.out rfl ?_
     intro w9 g9 H3 hb
     replace H := za H3
     refine zc hK ⟨zb H 3, zb H 5, zb H 4⟩ fun hH => zn 7 rfl fun K hK => ?_
     refine zl 0 zt H.out rfl rfl rfl rfl ?_
     intro ws HS
     simp only [qb] at HS
     replace H := za HS
     refine zc hK ⟨zb H 3, zb H 5, zb H 4⟩ fun hH => ?_
     try simp only [Act.put, qa]
     refine zn 8 rfl fun K hK => ?_
     refine zl 1 zt H.out rfl rfl rfl rfl ?_
     intro ws HS
     simp only [qb, qc] at HS
     replace H := za HS
     refine zc hK ⟨zb H 3, zb H 5, zb H 4⟩ fun hH => ?_
     try simp only [Act.put]
     refine zm ?_
     replace H := za (H.out.front (x := (g10, zv 30 .u64 8 (NZ h23))) 1 rfl)
     replace H := za (H.out.front (x := (g9, zv 30 .u64 8 (NZ h20))) 1 rfl)
     go_wp2_with fail
     go_meet
     exact ⟨g9, g10, h20, h23, rfl, rfl, HV20.out, HV23.out, H.out⟩
    ·skip
     refine zg 9 rfl z9 H.out rfl ?_
     intro w9 g9 H3 hb
     replace H := za H3
     refine zc hK ⟨zb H 3, zb H 5, zb H 4⟩ fun hH => ?_
     try simp only [Act.put, qa, qb, qc]
     refine zn 4 rfl fun K hK => ?_
     go_simp
     refine (z42 _ (HT.out.below H.out.bel) V1.out V2.out).mono ?_
     rintro e wc ⟨h23, rfl, hv, hb⟩
     replace H := zd H hb
     have HV23 := za hv
     refine zc hK ⟨zb H 3, zb H 5, zb H 4⟩ fun hH => zn 7 rfl fun K hK => ?_
     refine zl 0 zt H.out rfl rfl rfl rfl ?_
     intro ws HS
     simp only [qb] at HS
     replace H := za HS
     refine zc hK ⟨zb H 3, zb H 5, zb H 4⟩ fun hH => ?_
     try simp only [Act.put, qa]
     refine zn 8 rfl fun K hK => ?_
     refine zl 1 zt H.out rfl rfl rfl rfl ?_
     intro ws HS
     simp only [qb, qc] at HS
     replace H := za HS
     refine zc hK ⟨zb H 3, zb H 5, zb H 4⟩ fun hH => ?_
     try simp only [Act.put]
     refine zm ?_
     replace H := za (H.out.front (x := (g10, zv 30 .u64 8 (NZ h23))) 1 rfl)
     replace H := za (H.out.front (x := (g9, zv 30 .u64 8 (NZ h20))) 1 rfl)
     go_wp2_with fail
     go_meet
     exact ⟨g9, g10, h20, h23, rfl, rfl, HV20.out, HV23.out, H.out⟩
   ·skip
    refine zg 9 rfl z9 H.out rfl ?_
    intro w9 g9 H3 hb
    replace H := za H3
    refine zc hK ⟨zb H 3, zb H 5, zb H 4⟩ fun hH => zn 1 rfl fun K hK => ?_
    go_simp
    refine (z0f _ V3.out).mono ?_
    rintro e wc ⟨h20, rfl, hv, hb⟩
    replace H := zd H hb
    have HV20 := za hv
    refine zc hK ⟨zb H 3, zb H 5, zb H 4⟩ fun hH => ?_
    try simp only [Act.put, qa, qb, qc]
    refine zn 4 rfl fun K hK => ?_
    go_simp
    refine (z42 _ (HT.out.below H.out.bel) V1.out V2.out).mono ?_
    rintro e wc ⟨h23, rfl, hv, hb⟩
    replace H := zd H hb
    have HV23 := za hv
    refine zc hK ⟨zb H 3, zb H 5, zb H 4⟩ fun hH => zn 7 rfl fun K hK => ?_
    refine zl 0 zt H.out rfl rfl rfl rfl ?_
    intro ws HS
    simp only [qb] at HS
    replace H := za HS
    refine zc hK ⟨zb H 3, zb H 5, zb H 4⟩ fun hH => ?_
    try simp only [Act.put, qa]
    refine zn 8 rfl fun K hK => ?_
    refine zl 1 zt H.out rfl rfl rfl rfl ?_
    intro ws HS
    simp only [qb, qc] at HS
    replace H := za HS
    refine zc hK ⟨zb H 3, zb H 5, zb H 4⟩ fun hH => ?_
    try simp only [Act.put]
    refine zm ?_
    replace H := za (H.out.front (x := (g10, zv 30 .u64 8 (NZ h23))) 1 rfl)
    replace H := za (H.out.front (x := (g9, zv 30 .u64 8 (NZ h20))) 1 rfl)
    go_wp2_with fail
    go_meet
    exact ⟨g9, g10, h20, h23, rfl, rfl, HV20.out, HV23.out, H.out⟩
 clear H
 obtain ⟨g9, g10, h20, h23, rfl, rfl, hv20, hv23, HRR⟩ := hcut
 have HV20 := za hv20
 have HV23 := za hv23
 have H := za HRR
 clear HRR hv20 hv23
 go_upto_region 3 with fail
 refine wp_region_noPanic ?_
 refine wp_region_held_drew (S := fun W => W.heap[g8]? = some (zv 30 .u64 8 (NZ f4)) ∧ W.heap[g7]? = some (zv 30 .u64 8 (NZ f3)) ∧ W.heap[g9]? = some (zv 30 .u64 8 (NZ h20)) ∧ W.heap[g10]? = some (zv 30 .u64 8 (NZ h23)) ∧ W.heap[g6]? = some (zv 30 .u64 8 (NZ f2)) ∧ W.heap[g5]? = some (zv 30 .u64 8 (NZ f1))) (by kernel_rfl) (⟨H.out.drew.row 2 rfl, H.out.drew.row 3 rfl, H.out.drew.row 0 rfl, H.out.drew.row 1 rfl, H.out.drew.row 4 rfl, H.out.drew.row 5 rfl⟩) (fun hH => ?_)
 replace H := za H.out.drew
 generalize World.drew _ = w8 at *
 refine zk 0 24 zt rfl rfl rfl hH rfl rfl (fun _ h => h.1) ?_
 refine zk 1 25 zt rfl rfl rfl hH rfl rfl (fun _ h => h.2.1) ?_
 try simp only [Act.put, qa, qb, qc]
 refine zk 3 27 zt rfl rfl rfl hH rfl rfl (fun _ h => h.2.2.1) ?_
 refine zk 4 28 zt rfl rfl rfl hH rfl rfl (fun _ h => h.2.2.2.1) ?_
 refine zk 6 30 zt rfl rfl rfl hH rfl rfl (fun _ h => h.2.2.2.2.1) ?_
 try simp only [Act.put, qa, qb, qc]
 refine zk 7 31 zt rfl rfl rfl hH rfl rfl (fun _ h => h.2.2.2.2.2) ?_
 refine zk 9 33 zt rfl rfl rfl hH rfl rfl (fun _ h => h.2.1) ?_
 refine zk 11 35 zt rfl rfl rfl hH rfl rfl (fun _ h => h.2.2.1) ?_
 try simp only [Act.put, qa, qb, qc]
 refine zk 12 36 zt rfl rfl rfl hH rfl rfl (fun _ h => h.2.2.2.1) ?_
 refine zn 2 rfl fun K hK => ?_
 go_simp
 refine (z16 _ V4.out V3.out).mono ?_
 rintro e wc ⟨h26, rfl, hv, hb⟩
 replace H := zd H hb
 have HV26 := za hv
 refine zc hK ⟨zb H 2, zb H 3, zb H 0, zb H 1, zb H 4, zb H 5⟩ fun hH => zn 5 rfl fun K hK => ?_
 go_simp
 refine (z6o _ HV20.out HV23.out).mono ?_
 rintro e wc ⟨h29, rfl, hv, hb⟩
 replace H := zd H hb
 have HV29 := za hv
 refine zc hK ⟨zb H 2, zb H 3, zb H 0, zb H 1, zb H 4, zb H 5⟩ fun hH => ?_
 try simp only [Act.put, qa, qb, qc]
 refine zn 8 rfl fun K hK => ?_
 go_simp
 refine (z1t _ (HT.out.below H.out.bel) V2.out V1.out).mono ?_
 rintro e wc ⟨h32, rfl, hv, hb⟩
 replace H := zd H hb
 have HV32 := za hv
 refine zc hK ⟨zb H 2, zb H 3, zb H 0, zb H 1, zb H 4, zb H 5⟩ fun hH => zn 10 rfl fun K hK => ?_
 go_simp
 refine (z16 _ HV32.out V3.out).mono ?_
 rintro e wc ⟨h34, rfl, hv, hb⟩
 replace H := zd H hb
 have HV34 := za hv
 refine zc hK ⟨zb H 2, zb H 3, zb H 0, zb H 1, zb H 4, zb H 5⟩ fun hH => zn 13 rfl fun K hK => ?_
 go_simp
 refine (z1t _ (HT.out.below H.out.bel) HV20.out HV23.out).mono ?_
 rintro e wc ⟨h37, rfl, hv, hb⟩
 replace H := zd H hb
 have HV37 := za hv
 refine zc hK ⟨zb H 2, zb H 3, zb H 0, zb H 1, zb H 4, zb H 5⟩ fun hH => ?_
 try simp only [Act.put, qa, qb, qc]
 refine zn 14 rfl fun K hK => ?_
 go_simp
 refine (y5e _ HV26.out HV29.out HV34.out HV37.out).mono ?_
 rintro e wc ⟨x38, y38, z38, rfl, hx, hy, hz, hb⟩
 replace H := zd H hb
 have HV38x := za hx
 have HV38y := za hy
 have HV38z := za hz
 refine zc hK ⟨zb H 2, zb H 3, zb H 0, zb H 1, zb H 4, zb H 5⟩ fun hH => zn 15 rfl fun K hK => ?_
 refine zl 6 zH H.out rfl rfl rfl rfl ?_
 intro ws HS
 simp only [qb, qc] at HS
 replace H := za HS
 refine zc hK ⟨zb H 2, zb H 3, zb H 0, zb H 1, zb H 4, zb H 5⟩ fun hH => ?_
 try simp only [Act.put, qa]
 refine zm ?_
 go_wp2_with fail
 exact bodyPost_ret (zy 6 zH rfl _ H rfl rfl) rfl ⟨_, rfl, ⟨_, _, _, _, _, _, rfl, HV38x.out, HV38y.out, HV38z.out, R1.out.sum R2.out⟩, H.out.bel⟩
theorem z31 {v1 : Nat → Int} {P1 : Pt pN dK} (w : World) (hT : Tp w) (p1 : PtK v1 P1) :
  Calls Tryz.prog 86 #[PO v1] w fun e w' => ∃ r, e = .returned (PO r) ∧ PtK r (z6 zB P1 P1) ∧ Below w.heap.size w w' := by
 obtain ⟨x1, y1, z1, X1, Y1, Z1, rfl, e1x, e1y, e1z, r1⟩ := p1.is
 have E1x := za e1x
 have E1y := za e1y
 have E1z := za e1z
 have R1 := za r1
 clear p1 e1x e1y e1z r1
 have HT := za hT
 clear hT
 have H := za (Ow.start w)
 go_enter Tryz.func86, Tryz.ntmps86
 go_upto_region 3 with (first
  | ((with_reducible apply zw H); (case hgd | ho | hx => exact rfl); clear H; intro _ _ H _ _; go_simp)
  | ((with_reducible apply ze z1d H); (case hgd | ho => exact rfl); clear H; intro _ _ H _ _; go_simp)
  | ((with_reducible apply zr zH H); (case hgd | ho | hx => exact rfl); (case hi => repeat first|exact z5|apply z8); intro _ _; go_simp)
  | ((fail_if_success have := V1); (with_reducible refine (y8c 147 (fun a _ => a * a) (z3g Tryz.func147 (by kernel_rfl) rfl) (fun f g a b w ha _ => dbl_k w ha) _ (HT.out.below H.out.bel) E1x.out E1y.out E1z.out E1x.out E1y.out E1z.out).mono ?_); rintro e wc ⟨f1, f2, f3, f4, rfl, hv1, hv2, hv3, hv4, hb⟩; replace H := zd H hb; clear hb; have V1 := za hv1; have V2 := za hv2; have V3 := za hv3; have V4 := za hv4; clear hv1 hv2 hv3 hv4)
  | ((fail_if_success have := g3); (with_reducible apply ze z9 H); (case hgd | ho => exact rfl); clear H; intro w3 g3 H _ _; go_simp)
  | ((fail_if_success have := g4); (with_reducible apply ze z9 H); (case hgd | ho => exact rfl); clear H; intro w4 g4 H _ _; go_simp)
  | ((fail_if_success have := g5); (with_reducible apply ze z9 H); (case hgd | ho => exact rfl); clear H; intro w5 g5 H _ _; go_simp)
  | ((fail_if_success have := g6); (with_reducible apply ze z9 H); (case hgd | ho => exact rfl); clear H; intro w6 g6 H _ _; go_simp)
  | ((with_reducible apply zj zt H); (case hgd | ho | hx | hy => exact rfl); (case hi => repeat first|exact z5|apply z8); clear H; intro ws H _ _; simp only [qb, qc] at H; go_simp)
  | ((with_reducible apply zr zt H); (case hgd | ho | hx => exact rfl); (case hi => repeat first|exact z5|apply z8); intro _ _; go_simp)
  | ((fail_if_success have := V5); (with_reducible refine (z6o _ V1.out V2.out).mono ?_); rintro e wc ⟨f5, rfl, hv, hb⟩; replace H := zd H hb; clear hb; have V5 := za hv; clear hv)
  | ((fail_if_success have := g7); (with_reducible apply ze z9 H); (case hgd | ho => exact rfl); clear H; intro w7 g7 H _ _; go_simp))
 refine wp_region_noPanic ?_
 refine wp_region_held_drew (S := fun W => W.heap[g6]? = some (zv 30 .u64 8 (NZ f4)) ∧ W.heap[g7]? = some (zv 30 .u64 8 (NZ f5)) ∧ W.heap[g4]? = some (zv 30 .u64 8 (NZ f2)) ∧ W.heap[g3]? = some (zv 30 .u64 8 (NZ f1)) ∧ W.heap[g5]? = some (zv 30 .u64 8 (NZ f3))) (by kernel_rfl) (⟨H.out.drew.row 1 rfl, H.out.drew.row 0 rfl, H.out.drew.row 3 rfl, H.out.drew.row 4 rfl, H.out.drew.row 2 rfl⟩) (fun hH => ?_)
 replace H := za H.out.drew
 generalize World.drew _ = w8 at *
 refine zk 0 19 zt rfl rfl rfl hH rfl rfl (fun _ h => h.1) ?_
 refine zk 1 20 zt rfl rfl rfl hH rfl rfl (fun _ h => h.2.1) ?_
 refine zk 2 21 zt rfl rfl rfl hH rfl rfl (fun _ h => h.2.2.1) ?_
 try simp only [Act.put, qa, qb, qc]
 refine zk 3 22 zt rfl rfl rfl hH rfl rfl (fun _ h => h.2.2.2.1) ?_
 refine zk 5 24 zt rfl rfl rfl hH rfl rfl (fun _ h => h.2.2.2.2) ?_
 refine zk 7 26 zt rfl rfl rfl hH rfl rfl (fun _ h => h.2.1) ?_
 try simp only [Act.put, qa, qb, qc]
 refine zn 4 rfl fun K hK => ?_
 go_simp
 refine (z1t _ (HT.out.below H.out.bel) V2.out V1.out).mono ?_
 rintro e wc ⟨h23, rfl, hv, hb⟩
 replace H := zd H hb
 have HV23 := za hv
 refine zc hK ⟨zb H 1, zb H 0, zb H 3, zb H 4, zb H 2⟩ fun hH => zn 6 rfl fun K hK => ?_
 go_simp
 refine (z07 (2) _ (HT.out.below H.out.bel) V3.out (by omega) (by omega)).mono ?_
 rintro e wc ⟨h25, rfl, hv, hb⟩
 replace H := zd H hb
 have HV25 := za hv
 refine zc hK ⟨zb H 1, zb H 0, zb H 3, zb H 4, zb H 2⟩ fun hH => zn 8 rfl fun K hK => ?_
 go_simp
 refine (z1t _ (HT.out.below H.out.bel) HV25.out V5.out).mono ?_
 rintro e wc ⟨h27, rfl, hv, hb⟩
 replace H := zd H hb
 have HV27 := za hv
 refine zc hK ⟨zb H 1, zb H 0, zb H 3, zb H 4, zb H 2⟩ fun hH => ?_
 try simp only [Act.put, qa, qb, qc]
 refine zn 9 rfl fun K hK => ?_
 go_simp
 refine (y5e _ V4.out V5.out HV23.out HV27.out).mono ?_
 rintro e wc ⟨x28, y28, z28, rfl, hx, hy, hz, hb⟩
 replace H := zd H hb
 have HV28x := za hx
 have HV28y := za hy
 have HV28z := za hz
 refine zc hK ⟨zb H 1, zb H 0, zb H 3, zb H 4, zb H 2⟩ fun hH => zn 10 rfl fun K hK => ?_
 refine zl 5 zH H.out rfl rfl rfl rfl ?_
 intro ws HS
 simp only [qb, qc] at HS
 replace H := za HS
 refine zc hK ⟨zb H 1, zb H 0, zb H 3, zb H 4, zb H 2⟩ fun hH => ?_
 try simp only [Act.put, qa]
 refine zm ?_
 go_wp2_with fail
 exact bodyPost_ret (zy 5 zH rfl _ H rfl rfl) rfl ⟨_, rfl, ⟨_, _, _, _, _, _, rfl, HV28x.out, HV28y.out, HV28z.out, by rw [ofZ_two]; exact R1.out.double⟩, H.out.bel⟩
end Go.Proofs.YtgjbonikbmgfmaaGreatDoor
