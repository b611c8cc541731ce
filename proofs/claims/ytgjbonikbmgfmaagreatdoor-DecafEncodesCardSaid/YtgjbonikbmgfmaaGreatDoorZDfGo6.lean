/- Lemmas; no statement is proved here. -/
import Derived.Test.YtgjbonikbmgfmaaGreatDoorZElB
import Derived.Test.YtgjbonikbmgfmaaGreatDoorZDfGo2
import Derived.Test.YtgjbonikbmgfmaaGreatDoorZDfGo1
set_option maxRecDepth 8000
set_option maxHeartbeats 12800000
namespace Go.Proofs.YtgjbonikbmgfmaaGreatDoor
open Go.RowKit
theorem z19 {g h : Nat → Nat} {u y s : K} {q c : Nat} (hs : ab (fR * u * y * zC (39081)) = s) (w : World) (hT : Tp w) (hr : w.heap[q]? = some (Fl2 (NZ g) (NZ h))) (hg : EK g u) (hh : EK h y) :
  Calls Tryz.prog 79 #[.slice (some ⟨q, 0, none⟩) 2 c] w fun e w' => ∃ r, e = .returned (EV r) ∧ EK r s ∧ Below w.heap.size w w' :=
 hs ▸ rooted14_2 w hT hr hg hh
theorem z4f {F : Nat → Value} {P : Pt pN dK} (w : World) (hT : Tp w) (hF : DeK F P) :
  Calls Tryz.prog 17 #[DO F] w fun e w' => ∃ g c, e = .returned (.slice (some ⟨g, 0, none⟩) 56 c) ∧ Sb w' w'.heap.size (some ⟨g, 0, none⟩) 56 c (encK P).val ∧ Below w.heap.size w w' := by
 obtain ⟨b, hb0⟩ : ∃ b, decide (((((P.x + (P.x * P.y)) * (P.x - (P.x * P.y))) * P.x * P.x) * zC (39082)) * (zL eC (zC (1)) ((((P.x + (P.x * P.y)) * (P.x - (P.x * P.y))) * P.x * P.x) * zC (39082)) * zL eC (zC (1)) ((((P.x + (P.x * P.y)) * (P.x - (P.x * P.y))) * P.x * P.x) * zC (39082))) = zC (1)) = b := ⟨_, rfl⟩
 obtain ⟨R, hR⟩ : ∃ R, ab (zL eC (zC (1)) ((((P.x + (P.x * P.y)) * (P.x - (P.x * P.y))) * P.x * P.x) * zC (39082))) = R := ⟨_, rfl⟩
 obtain ⟨q, hq⟩ : ∃ q, ab (fR * R * ((P.x + (P.x * P.y)) * (P.x - (P.x * P.y))) * zC (39081)) = q := ⟨_, rfl⟩
 have HE := za (dfg_enc P R q hR.symm hq.symm)
 have HOK := za hb0
 have HR := za hR
 have HQ := za hq
 clear hb0 hR hq
 have V0 := za hF
 clear hF
 have HT := za hT
 clear hT
 have H := za (Ow.start w)
 go_enter Tryz.func17, Tryz.ntmps17
 go_upto_region 3 with (first
  | ((fail_if_success have := g1); (with_reducible apply z0g H); (case hgd | ho | hx => exact rfl); clear H; intro w1 g1 H _ _; go_simp)
  | ((with_reducible apply z1i H); (case hgd | ho | hx => exact rfl); (case hi => repeat first|exact z5|apply z8); intro _ _; go_simp)
  | ((fail_if_success have := VP); (with_reducible refine (z1j _ (HT.out.below H.out.bel) V0.out).mono ?_); rintro e wc ⟨kVP, rfl, hv, hb⟩; replace H := zd H hb; clear hb; have VP := za hv; clear hv)
  | ((fail_if_success have := VX); (with_reducible refine (z75 _ VP.out).mono ?_); rintro e wc ⟨hx, hy, rfl, hv, hu, hb⟩; replace H := zd H hb; clear hb; have VX := za hv; have VY := za hu; clear hv hu)
  | ((fail_if_success have := g3); (with_reducible apply ze z9 H); (case hgd | ho => exact rfl); clear H; intro w3 g3 H _ _; go_simp)
  | ((fail_if_success have := g4); (with_reducible apply ze z9 H); (case hgd | ho => exact rfl); clear H; intro w4 g4 H _ _; go_simp)
  | ((with_reducible apply zj zt H); (case hgd | ho | hx | hy => exact rfl); (case hi => repeat first|exact z5|apply z8); clear H; intro ws H _ _; simp only [qb, qc] at H; go_simp)
  | ((with_reducible apply zr zt H); (case hgd | ho | hx => exact rfl); (case hi => repeat first|exact z5|apply z8); intro _ _; go_simp)
  | ((fail_if_success have := VZ); (with_reducible refine (z16 _ VX.out VY.out).mono ?_); rintro e wc ⟨hz, rfl, hv, hb⟩; replace H := zd H hb; clear hb; have VZ := za hv; clear hv)
  | ((fail_if_success have := g5); (with_reducible apply ze z9 H); (case hgd | ho => exact rfl); clear H; intro w5 g5 H _ _; go_simp))
 go_cut [6] from 19 to 25 (fun v6 wx => ∃ g6 h25, v6 = .pointer (some ⟨g6, 0, none⟩) ∧ EK h25 ((P.x + (P.x * P.y)) * (P.x - (P.x * P.y))) ∧ Ow w wx [(g6, zv 30 .u64 8 (NZ h25)), (g5, zv 30 .u64 8 (NZ hz)), (g4, zv 30 .u64 8 (NZ hy)), (g3, zv 30 .u64 8 (NZ hx)), (g1, Cs 34 (AV 25 F))])
 case first =>
  go_wp2_with fail
  refine wp_region_noPanic ?_
  refine wp_region_held_drew (S := fun W => W.heap[g3]? = some (zv 30 .u64 8 (NZ hx)) ∧ W.heap[g5]? = some (zv 30 .u64 8 (NZ hz))) (by kernel_rfl) (⟨H.out.drew.row 2 rfl, H.out.drew.row 0 rfl⟩) (fun hH => ?_)
  replace H := za H.out.drew
  generalize World.drew _ = w8 at *
  refine zk 0 19 zt rfl rfl rfl hH rfl rfl (fun _ h => h.1) ?_
  refine zk 1 20 zt rfl rfl rfl hH rfl rfl (fun _ h => h.2) ?_
  refine zk 3 22 zt rfl rfl rfl hH rfl rfl (fun _ h => h.1) ?_
  try simp only [Act.put, qa, qb, qc]
  refine zk 4 23 zt rfl rfl rfl hH rfl rfl (fun _ h => h.2) ?_
  refine zK [2, 7] (zG rfl (fun K hK => ?_) (zG rfl (fun K hK => ?_) zJ))
  ·skip
   go_simp
   refine (z6o _ VX.out VZ.out).mono ?_
   rintro e wc ⟨h21, rfl, hv, hb⟩
   replace H := zd H hb
   have HV21 := za hv
   refine zc hK ⟨zb H 2, zb H 0⟩ fun hH => zK [5, 7] (zG rfl (fun K hK => ?_) (zG rfl (fun K hK => ?_) zJ))
   ·skip
    go_simp
    refine (z1t _ (HT.out.below H.out.bel) VX.out VZ.out).mono ?_
    rintro e wc ⟨h24, rfl, hv, hb⟩
    replace H := zd H hb
    have HV24 := za hv
    refine zc hK ⟨zb H 2, zb H 0⟩ fun hH => ?_
    try simp only [Act.put, qa, qb, qc]
    refine zK [6, 7] (zG rfl (fun K hK => ?_) (zG rfl (fun K hK => ?_) zJ))
    ·skip
     go_simp
     refine (z16 _ HV21.out HV24.out).mono ?_
     rintro e wc ⟨h25, rfl, hv, hb⟩
     replace H := zd H hb
     have HV25 := za hv
     refine zc hK ⟨zb H 2, zb H 0⟩ fun hH => zn 7 rfl fun K hK => ?_
     refine zg 6 rfl z9 H.out rfl ?_
     intro w6 g6 H3 hb
     replace H := za H3
     refine zc hK ⟨zb H 3, zb H 1⟩ fun hH => zn 8 rfl fun K hK => ?_
     refine zu 0 rfl zt H.out rfl rfl rfl rfl ?_
     intro ws HS
     simp only [qb] at HS
     replace H := za HS
     refine zc hK ⟨zb H 3, zb H 1⟩ fun hH => ?_
     try simp only [qa]
     try simp only [Act.put]
     refine zm ?_
     go_wp2_with fail
     go_meet
     exact ⟨g6, h25, rfl, HV25.out, H.out⟩
    ·skip
     refine zg 6 rfl z9 H.out rfl ?_
     intro w6 g6 H3 hb
     replace H := za H3
     refine zc hK ⟨zb H 3, zb H 1⟩ fun hH => ?_
     try simp only [Act.put, qa, qb, qc]
     refine zn 6 rfl fun K hK => ?_
     go_simp
     refine (z16 _ HV21.out HV24.out).mono ?_
     rintro e wc ⟨h25, rfl, hv, hb⟩
     replace H := zd H hb
     have HV25 := za hv
     refine zc hK ⟨zb H 3, zb H 1⟩ fun hH => zn 8 rfl fun K hK => ?_
     refine zu 0 rfl zt H.out rfl rfl rfl rfl ?_
     intro ws HS
     simp only [qb] at HS
     replace H := za HS
     refine zc hK ⟨zb H 3, zb H 1⟩ fun hH => ?_
     try simp only [qa]
     try simp only [Act.put]
     refine zm ?_
     go_wp2_with fail
     go_meet
     exact ⟨g6, h25, rfl, HV25.out, H.out⟩
   ·skip
    refine zg 6 rfl z9 H.out rfl ?_
    intro w6 g6 H3 hb
    replace H := za H3
    refine zc hK ⟨zb H 3, zb H 1⟩ fun hH => zn 5 rfl fun K hK => ?_
    go_simp
    refine (z1t _ (HT.out.below H.out.bel) VX.out VZ.out).mono ?_
    rintro e wc ⟨h24, rfl, hv, hb⟩
    replace H := zd H hb
    have HV24 := za hv
    refine zc hK ⟨zb H 3, zb H 1⟩ fun hH => ?_
    try simp only [Act.put, qa, qb, qc]
    refine zn 6 rfl fun K hK => ?_
    go_simp
    refine (z16 _ HV21.out HV24.out).mono ?_
    rintro e wc ⟨h25, rfl, hv, hb⟩
    replace H := zd H hb
    have HV25 := za hv
    refine zc hK ⟨zb H 3, zb H 1⟩ fun hH => zn 8 rfl fun K hK => ?_
    refine zu 0 rfl zt H.out rfl rfl rfl rfl ?_
    intro ws HS
    simp only [qb] at HS
    replace H := za HS
    refine zc hK ⟨zb H 3, zb H 1⟩ fun hH => ?_
    try simp only [qa]
    try simp only [Act.put]
    refine zm ?_
    go_wp2_with fail
    go_meet
    exact ⟨g6, h25, rfl, HV25.out, H.out⟩
  ·skip
   refine zg 6 rfl z9 H.out rfl ?_
   intro w6 g6 H3 hb
   replace H := za H3
   refine zc hK ⟨zb H 3, zb H 1⟩ fun hH => zn 2 rfl fun K hK => ?_
   go_simp
   refine (z6o _ VX.out VZ.out).mono ?_
   rintro e wc ⟨h21, rfl, hv, hb⟩
   replace H := zd H hb
   have HV21 := za hv
   refine zc hK ⟨zb H 3, zb H 1⟩ fun hH => ?_
   try simp only [Act.put, qa, qb, qc]
   refine zn 5 rfl fun K hK => ?_
   go_simp
   refine (z1t _ (HT.out.below H.out.bel) VX.out VZ.out).mono ?_
   rintro e wc ⟨h24, rfl, hv, hb⟩
   replace H := zd H hb
   have HV24 := za hv
   refine zc hK ⟨zb H 3, zb H 1⟩ fun hH => zn 6 rfl fun K hK => ?_
   go_simp
   refine (z16 _ HV21.out HV24.out).mono ?_
   rintro e wc ⟨h25, rfl, hv, hb⟩
   replace H := zd H hb
   have HV25 := za hv
   refine zc hK ⟨zb H 3, zb H 1⟩ fun hH => zn 8 rfl fun K hK => ?_
   refine zu 0 rfl zt H.out rfl rfl rfl rfl ?_
   intro ws HS
   simp only [qb] at HS
   replace H := za HS
   refine zc hK ⟨zb H 3, zb H 1⟩ fun hH => ?_
   try simp only [qa]
   try simp only [Act.put]
   refine zm ?_
   go_wp2_with fail
   go_meet
   exact ⟨g6, h25, rfl, HV25.out, H.out⟩
 clear H
 obtain ⟨g6, h25, rfl, hv25, HRR⟩ := hcut
 have HV25 := za hv25
 have H := za HRR
 clear HRR hv25
 go_upto_region 4 with fail
 go_cut [7, 8] from 26 to 36 (fun v7 v8 wx => ∃ g7 h34, v7 = .pointer (some ⟨g7, 0, none⟩) ∧ v8 = .bool b ∧ EK h34 R ∧ Ow w wx [(g7, zv 30 .u64 8 (NZ h34)), (g6, zv 30 .u64 8 (NZ h25)), (g5, zv 30 .u64 8 (NZ hz)), (g4, zv 30 .u64 8 (NZ hy)), (g3, zv 30 .u64 8 (NZ hx)), (g1, Cs 34 (AV 25 F))])
 case first =>
  go_wp2_with fail
  refine wp_region_noPanic ?_
  refine wp_region_held_drew (S := fun W => W.heap[g6]? = some (zv 30 .u64 8 (NZ h25)) ∧ W.heap[g3]? = some (zv 30 .u64 8 (NZ hx))) (by kernel_rfl) (⟨H.out.drew.row 0 rfl, H.out.drew.row 3 rfl⟩) (fun hH => ?_)
  replace H := za H.out.drew
  generalize World.drew _ = w8 at *
  refine zk 1 28 zt rfl rfl rfl hH rfl rfl (fun _ h => h.1) ?_
  try simp only [Act.put, qa, qb, qc]
  refine zk 2 29 zt rfl rfl rfl hH rfl rfl (fun _ h => h.2) ?_
  refine zk 3 30 zt rfl rfl rfl hH rfl rfl (fun _ h => h.2) ?_
  refine zK [0, 4, 11] (zG rfl (fun K hK => ?_) (zG rfl (fun K hK => ?_) (zG rfl (fun K hK => ?_) zJ)))
  ·skip
   go_simp
   refine (z3w (1) _ (HT.out.below H.out.bel) (by omega) (by omega)).mono ?_
   rintro e wc ⟨h27, rfl, hv, hb⟩
   replace H := zd H hb
   have HV27 := za hv
   refine zc hK ⟨zb H 0, zb H 3⟩ fun hH => ?_
   try simp only [Act.put, qa, qb, qc]
   refine zK [4, 11] (zG rfl (fun K hK => ?_) (zG rfl (fun K hK => ?_) zJ))
   ·skip
    refine z0l 31 rfl H.out rfl rfl rfl ?_
    intro w31 g31 H3 hb
    replace H := za H3
    refine zc hK ⟨zb H 1, zb H 4⟩ fun hH => zK [5, 11] (zG rfl (fun K hK => ?_) (zG rfl (fun K hK => ?_) zJ))
    ·skip
     go_simp
     refine (z0x _ HV25.out (H.out.row 0 rfl) VX.out VX.out).mono ?_
     rintro e wc ⟨h32, rfl, hv, hb⟩
     replace H := zd H hb
     have HV32 := za hv
     refine zc hK ⟨zb H 1, zb H 4⟩ fun hH => zK [6, 11] (zG rfl (fun K hK => ?_) (zG rfl (fun K hK => ?_) zJ))
     ·skip
      go_simp
      refine (z07 (39082) _ (HT.out.below H.out.bel) HV32.out (by omega) (by omega)).mono ?_
      rintro e wc ⟨h33, rfl, hv, hb⟩
      replace H := zd H hb
      have HV33 := za hv
      refine zc hK ⟨zb H 1, zb H 4⟩ fun hH => ?_
      try simp only [Act.put, qa, qb, qc]
      refine zK [7, 11] (zG rfl (fun K hK => ?_) (zG rfl (fun K hK => ?_) zJ))
      ·skip
       go_simp
       refine (z1k HR.out HOK.out _ (HT.out.below H.out.bel) HV27.out HV33.out).mono ?_
       rintro e wc ⟨h34, rfl, hv, hb⟩
       replace H := zd H hb
       have HV34 := za hv
       refine zc hK ⟨zb H 1, zb H 4⟩ fun hH => ?_
       refine zh 8 26 (.tuple #[EV h34, .bool b]) hH ?_
       refine zh 9 35 (EV h34) hH ?_
       refine zh 10 36 (.bool b) hH ?_
       refine zn 11 rfl fun K hK => ?_
       refine zg 7 rfl z9 H.out rfl ?_
       intro w7 g7 H3 hb
       replace H := za H3
       refine zc hK ⟨zb H 2, zb H 5⟩ fun hH => zn 12 rfl fun K hK => ?_
       refine zu 0 rfl zt H.out rfl rfl rfl rfl ?_
       intro ws HS
       simp only [qb] at HS
       replace H := za HS
       refine zc hK ⟨zb H 2, zb H 5⟩ fun hH => ?_
       try simp only [qa]
       refine zh 13 8 (.bool b) hH ?_
       refine zm ?_
       replace H := za (H.out.erase 1)
       go_wp2_with fail
       go_meet
       exact ⟨g7, h34, rfl, rfl, HV34.out, H.out⟩
      ·skip
       refine zg 7 rfl z9 H.out rfl ?_
       intro w7 g7 H3 hb
       replace H := za H3
       refine zc hK ⟨zb H 2, zb H 5⟩ fun hH => zn 7 rfl fun K hK => ?_
       go_simp
       refine (z1k HR.out HOK.out _ (HT.out.below H.out.bel) HV27.out HV33.out).mono ?_
       rintro e wc ⟨h34, rfl, hv, hb⟩
       replace H := zd H hb
       have HV34 := za hv
       refine zc hK ⟨zb H 2, zb H 5⟩ fun hH => ?_
       refine zh 8 26 (.tuple #[EV h34, .bool b]) hH ?_
       refine zh 9 35 (EV h34) hH ?_
       refine zh 10 36 (.bool b) hH ?_
       refine zn 12 rfl fun K hK => ?_
       refine zu 0 rfl zt H.out rfl rfl rfl rfl ?_
       intro ws HS
       simp only [qb] at HS
       replace H := za HS
       refine zc hK ⟨zb H 2, zb H 5⟩ fun hH => ?_
       try simp only [qa]
       refine zh 13 8 (.bool b) hH ?_
       refine zm ?_
       replace H := za (H.out.erase 1)
       go_wp2_with fail
       go_meet
       exact ⟨g7, h34, rfl, rfl, HV34.out, H.out⟩
     ·skip
      refine zg 7 rfl z9 H.out rfl ?_
      intro w7 g7 H3 hb
      replace H := za H3
      refine zc hK ⟨zb H 2, zb H 5⟩ fun hH => zn 6 rfl fun K hK => ?_
      go_simp
      refine (z07 (39082) _ (HT.out.below H.out.bel) HV32.out (by omega) (by omega)).mono ?_
      rintro e wc ⟨h33, rfl, hv, hb⟩
      replace H := zd H hb
      have HV33 := za hv
      refine zc hK ⟨zb H 2, zb H 5⟩ fun hH => zn 7 rfl fun K hK => ?_
      go_simp
      refine (z1k HR.out HOK.out _ (HT.out.below H.out.bel) HV27.out HV33.out).mono ?_
      rintro e wc ⟨h34, rfl, hv, hb⟩
      replace H := zd H hb
      have HV34 := za hv
      refine zc hK ⟨zb H 2, zb H 5⟩ fun hH => ?_
      try simp only [Act.put, qa, qb, qc]
      refine zh 8 26 (.tuple #[EV h34, .bool b]) hH ?_
      refine zh 9 35 (EV h34) hH ?_
      refine zh 10 36 (.bool b) hH ?_
      refine zn 12 rfl fun K hK => ?_
      refine zu 0 rfl zt H.out rfl rfl rfl rfl ?_
      intro ws HS
      simp only [qb] at HS
      replace H := za HS
      refine zc hK ⟨zb H 2, zb H 5⟩ fun hH => ?_
      try simp only [qa]
      refine zh 13 8 (.bool b) hH ?_
      refine zm ?_
      replace H := za (H.out.erase 1)
      go_wp2_with fail
      go_meet
      exact ⟨g7, h34, rfl, rfl, HV34.out, H.out⟩
    ·skip
     refine zg 7 rfl z9 H.out rfl ?_
     intro w7 g7 H3 hb
     replace H := za H3
     refine zc hK ⟨zb H 2, zb H 5⟩ fun hH => zn 5 rfl fun K hK => ?_
     go_simp
     refine (z0x _ HV25.out (H.out.row 1 rfl) VX.out VX.out).mono ?_
     rintro e wc ⟨h32, rfl, hv, hb⟩
     replace H := zd H hb
     have HV32 := za hv
     refine zc hK ⟨zb H 2, zb H 5⟩ fun hH => zn 6 rfl fun K hK => ?_
     go_simp
     refine (z07 (39082) _ (HT.out.below H.out.bel) HV32.out (by omega) (by omega)).mono ?_
     rintro e wc ⟨h33, rfl, hv, hb⟩
     replace H := zd H hb
     have HV33 := za hv
     refine zc hK ⟨zb H 2, zb H 5⟩ fun hH => ?_
     try simp only [Act.put, qa, qb, qc]
     refine zn 7 rfl fun K hK => ?_
     go_simp
     refine (z1k HR.out HOK.out _ (HT.out.below H.out.bel) HV27.out HV33.out).mono ?_
     rintro e wc ⟨h34, rfl, hv, hb⟩
     replace H := zd H hb
     have HV34 := za hv
     refine zc hK ⟨zb H 2, zb H 5⟩ fun hH => ?_
     refine zh 8 26 (.tuple #[EV h34, .bool b]) hH ?_
     refine zh 9 35 (EV h34) hH ?_
     refine zh 10 36 (.bool b) hH ?_
     refine zn 12 rfl fun K hK => ?_
     refine zu 0 rfl zt H.out rfl rfl rfl rfl ?_
     intro ws HS
     simp only [qb] at HS
     replace H := za HS
     refine zc hK ⟨zb H 2, zb H 5⟩ fun hH => ?_
     try simp only [qa]
     refine zh 13 8 (.bool b) hH ?_
     refine zm ?_
     replace H := za (H.out.erase 1)
     go_wp2_with fail
     go_meet
     exact ⟨g7, h34, rfl, rfl, HV34.out, H.out⟩
   ·skip
    refine zg 7 rfl z9 H.out rfl ?_
    intro w7 g7 H3 hb
    replace H := za H3
    refine zc hK ⟨zb H 1, zb H 4⟩ fun hH => zn 4 rfl fun K hK => ?_
    refine z0l 31 rfl H.out rfl rfl rfl ?_
    intro w31 g31 H3 hb
    replace H := za H3
    refine zc hK ⟨zb H 2, zb H 5⟩ fun hH => zn 5 rfl fun K hK => ?_
    go_simp
    refine (z0x _ HV25.out (H.out.row 0 rfl) VX.out VX.out).mono ?_
    rintro e wc ⟨h32, rfl, hv, hb⟩
    replace H := zd H hb
    have HV32 := za hv
    refine zc hK ⟨zb H 2, zb H 5⟩ fun hH => ?_
    try simp only [Act.put, qa, qb, qc]
    refine zn 6 rfl fun K hK => ?_
    go_simp
    refine (z07 (39082) _ (HT.out.below H.out.bel) HV32.out (by omega) (by omega)).mono ?_
    rintro e wc ⟨h33, rfl, hv, hb⟩
    replace H := zd H hb
    have HV33 := za hv
    refine zc hK ⟨zb H 2, zb H 5⟩ fun hH => zn 7 rfl fun K hK => ?_
    go_simp
    refine (z1k HR.out HOK.out _ (HT.out.below H.out.bel) HV27.out HV33.out).mono ?_
    rintro e wc ⟨h34, rfl, hv, hb⟩
    replace H := zd H hb
    have HV34 := za hv
    refine zc hK ⟨zb H 2, zb H 5⟩ fun hH => ?_
    refine zh 8 26 (.tuple #[EV h34, .bool b]) hH ?_
    refine zh 9 35 (EV h34) hH ?_
    refine zh 10 36 (.bool b) hH ?_
    refine zn 12 rfl fun K hK => ?_
    refine zu 1 rfl zt H.out rfl rfl rfl rfl ?_
    intro ws HS
    simp only [qb, qc] at HS
    replace H := za HS
    refine zc hK ⟨zb H 2, zb H 5⟩ fun hH => ?_
    try simp only [qa]
    refine zh 13 8 (.bool b) hH ?_
    refine zm ?_
    replace H := za (H.out.erase 0)
    go_wp2_with fail
    go_meet
    exact ⟨g7, h34, rfl, rfl, HV34.out, H.out⟩
  ·skip
   refine z0l 31 rfl H.out rfl rfl rfl ?_
   intro w31 g31 H3 hb
   replace H := za H3
   refine zc hK ⟨zb H 1, zb H 4⟩ fun hH => zK [0, 11] (zG rfl (fun K hK => ?_) (zG rfl (fun K hK => ?_) zJ))
   ·skip
    go_simp
    refine (z3w (1) _ (HT.out.below H.out.bel) (by omega) (by omega)).mono ?_
    rintro e wc ⟨h27, rfl, hv, hb⟩
    replace H := zd H hb
    have HV27 := za hv
    refine zc hK ⟨zb H 1, zb H 4⟩ fun hH => zK [5, 11] (zG rfl (fun K hK => ?_) (zG rfl (fun K hK => ?_) zJ))
    ·skip
     go_simp
     refine (z0x _ HV25.out (H.out.row 0 rfl) VX.out VX.out).mono ?_
     rintro e wc ⟨h32, rfl, hv, hb⟩
     replace H := zd H hb
     have HV32 := za hv
     refine zc hK ⟨zb H 1, zb H 4⟩ fun hH => ?_
     try simp only [Act.put, qa, qb, qc]
     refine zK [6, 11] (zG rfl (fun K hK => ?_) (zG rfl (fun K hK => ?_) zJ))
     ·skip
      go_simp
      refine (z07 (39082) _ (HT.out.below H.out.bel) HV32.out (by omega) (by omega)).mono ?_
      rintro e wc ⟨h33, rfl, hv, hb⟩
      replace H := zd H hb
      have HV33 := za hv
      refine zc hK ⟨zb H 1, zb H 4⟩ fun hH => zK [7, 11] (zG rfl (fun K hK => ?_) (zG rfl (fun K hK => ?_) zJ))
      ·skip
       go_simp
       refine (z1k HR.out HOK.out _ (HT.out.below H.out.bel) HV27.out HV33.out).mono ?_
       rintro e wc ⟨h34, rfl, hv, hb⟩
       replace H := zd H hb
       have HV34 := za hv
       refine zc hK ⟨zb H 1, zb H 4⟩ fun hH => ?_
       refine zh 8 26 (.tuple #[EV h34, .bool b]) hH ?_
       refine zh 9 35 (EV h34) hH ?_
       refine zh 10 36 (.bool b) hH ?_
       refine zn 11 rfl fun K hK => ?_
       refine zg 7 rfl z9 H.out rfl ?_
       intro w7 g7 H3 hb
       replace H := za H3
       refine zc hK ⟨zb H 2, zb H 5⟩ fun hH => zn 12 rfl fun K hK => ?_
       refine zu 0 rfl zt H.out rfl rfl rfl rfl ?_
       intro ws HS
       simp only [qb] at HS
       replace H := za HS
       refine zc hK ⟨zb H 2, zb H 5⟩ fun hH => ?_
       try simp only [qa]
       refine zh 13 8 (.bool b) hH ?_
       refine zm ?_
       replace H := za (H.out.erase 1)
       go_wp2_with fail
       go_meet
       exact ⟨g7, h34, rfl, rfl, HV34.out, H.out⟩
      ·skip
       refine zg 7 rfl z9 H.out rfl ?_
       intro w7 g7 H3 hb
       replace H := za H3
       refine zc hK ⟨zb H 2, zb H 5⟩ fun hH => zn 7 rfl fun K hK => ?_
       go_simp
       refine (z1k HR.out HOK.out _ (HT.out.below H.out.bel) HV27.out HV33.out).mono ?_
       rintro e wc ⟨h34, rfl, hv, hb⟩
       replace H := zd H hb
       have HV34 := za hv
       refine zc hK ⟨zb H 2, zb H 5⟩ fun hH => ?_
       refine zh 8 26 (.tuple #[EV h34, .bool b]) hH ?_
       refine zh 9 35 (EV h34) hH ?_
       refine zh 10 36 (.bool b) hH ?_
       refine zn 12 rfl fun K hK => ?_
       refine zu 0 rfl zt H.out rfl rfl rfl rfl ?_
       intro ws HS
       simp only [qb] at HS
       replace H := za HS
       refine zc hK ⟨zb H 2, zb H 5⟩ fun hH => ?_
       try simp only [qa]
       refine zh 13 8 (.bool b) hH ?_
       refine zm ?_
       replace H := za (H.out.erase 1)
       go_wp2_with fail
       go_meet
       exact ⟨g7, h34, rfl, rfl, HV34.out, H.out⟩
     ·skip
      refine zg 7 rfl z9 H.out rfl ?_
      intro w7 g7 H3 hb
      replace H := za H3
      refine zc hK ⟨zb H 2, zb H 5⟩ fun hH => zn 6 rfl fun K hK => ?_
      go_simp
      refine (z07 (39082) _ (HT.out.below H.out.bel) HV32.out (by omega) (by omega)).mono ?_
      rintro e wc ⟨h33, rfl, hv, hb⟩
      replace H := zd H hb
      have HV33 := za hv
      refine zc hK ⟨zb H 2, zb H 5⟩ fun hH => zn 7 rfl fun K hK => ?_
      go_simp
      refine (z1k HR.out HOK.out _ (HT.out.below H.out.bel) HV27.out HV33.out).mono ?_
      rintro e wc ⟨h34, rfl, hv, hb⟩
      replace H := zd H hb
      have HV34 := za hv
      refine zc hK ⟨zb H 2, zb H 5⟩ fun hH => ?_
      try simp only [Act.put, qa, qb, qc]
      refine zh 8 26 (.tuple #[EV h34, .bool b]) hH ?_
      refine zh 9 35 (EV h34) hH ?_
      refine zh 10 36 (.bool b) hH ?_
      refine zn 12 rfl fun K hK => ?_
      refine zu 0 rfl zt H.out rfl rfl rfl rfl ?_
      intro ws HS
      simp only [qb] at HS
      replace H := za HS
      refine zc hK ⟨zb H 2, zb H 5⟩ fun hH => ?_
      try simp only [qa]
      refine zh 13 8 (.bool b) hH ?_
      refine zm ?_
      replace H := za (H.out.erase 1)
      go_wp2_with fail
      go_meet
      exact ⟨g7, h34, rfl, rfl, HV34.out, H.out⟩
    ·skip
     refine zg 7 rfl z9 H.out rfl ?_
     intro w7 g7 H3 hb
     replace H := za H3
     refine zc hK ⟨zb H 2, zb H 5⟩ fun hH => zn 5 rfl fun K hK => ?_
     go_simp
     refine (z0x _ HV25.out (H.out.row 1 rfl) VX.out VX.out).mono ?_
     rintro e wc ⟨h32, rfl, hv, hb⟩
     replace H := zd H hb
     have HV32 := za hv
     refine zc hK ⟨zb H 2, zb H 5⟩ fun hH => zn 6 rfl fun K hK => ?_
     go_simp
     refine (z07 (39082) _ (HT.out.below H.out.bel) HV32.out (by omega) (by omega)).mono ?_
     rintro e wc ⟨h33, rfl, hv, hb⟩
     replace H := zd H hb
     have HV33 := za hv
     refine zc hK ⟨zb H 2, zb H 5⟩ fun hH => ?_
     try simp only [Act.put, qa, qb, qc]
     refine zn 7 rfl fun K hK => ?_
     go_simp
     refine (z1k HR.out HOK.out _ (HT.out.below H.out.bel) HV27.out HV33.out).mono ?_
     rintro e wc ⟨h34, rfl, hv, hb⟩
     replace H := zd H hb
     have HV34 := za hv
     refine zc hK ⟨zb H 2, zb H 5⟩ fun hH => ?_
     refine zh 8 26 (.tuple #[EV h34, .bool b]) hH ?_
     refine zh 9 35 (EV h34) hH ?_
     refine zh 10 36 (.bool b) hH ?_
     refine zn 12 rfl fun K hK => ?_
     refine zu 0 rfl zt H.out rfl rfl rfl rfl ?_
     intro ws HS
     simp only [qb] at HS
     replace H := za HS
     refine zc hK ⟨zb H 2, zb H 5⟩ fun hH => ?_
     try simp only [qa]
     refine zh 13 8 (.bool b) hH ?_
     refine zm ?_
     replace H := za (H.out.erase 1)
     go_wp2_with fail
     go_meet
     exact ⟨g7, h34, rfl, rfl, HV34.out, H.out⟩
   ·skip
    refine zg 7 rfl z9 H.out rfl ?_
    intro w7 g7 H3 hb
    replace H := za H3
    refine zc hK ⟨zb H 2, zb H 5⟩ fun hH => zn 0 rfl fun K hK => ?_
    go_simp
    refine (z3w (1) _ (HT.out.below H.out.bel) (by omega) (by omega)).mono ?_
    rintro e wc ⟨h27, rfl, hv, hb⟩
    replace H := zd H hb
    have HV27 := za hv
    refine zc hK ⟨zb H 2, zb H 5⟩ fun hH => zn 5 rfl fun K hK => ?_
    go_simp
    refine (z0x _ HV25.out (H.out.row 1 rfl) VX.out VX.out).mono ?_
    rintro e wc ⟨h32, rfl, hv, hb⟩
    replace H := zd H hb
    have HV32 := za hv
    refine zc hK ⟨zb H 2, zb H 5⟩ fun hH => ?_
    try simp only [Act.put, qa, qb, qc]
    refine zn 6 rfl fun K hK => ?_
    go_simp
    refine (z07 (39082) _ (HT.out.below H.out.bel) HV32.out (by omega) (by omega)).mono ?_
    rintro e wc ⟨h33, rfl, hv, hb⟩
    replace H := zd H hb
    have HV33 := za hv
    refine zc hK ⟨zb H 2, zb H 5⟩ fun hH => zn 7 rfl fun K hK => ?_
    go_simp
    refine (z1k HR.out HOK.out _ (HT.out.below H.out.bel) HV27.out HV33.out).mono ?_
    rintro e wc ⟨h34, rfl, hv, hb⟩
    replace H := zd H hb
    have HV34 := za hv
    refine zc hK ⟨zb H 2, zb H 5⟩ fun hH => ?_
    refine zh 8 26 (.tuple #[EV h34, .bool b]) hH ?_
    refine zh 9 35 (EV h34) hH ?_
    refine zh 10 36 (.bool b) hH ?_
    refine zn 12 rfl fun K hK => ?_
    refine zu 0 rfl zt H.out rfl rfl rfl rfl ?_
    intro ws HS
    simp only [qb] at HS
    replace H := za HS
    refine zc hK ⟨zb H 2, zb H 5⟩ fun hH => ?_
    try simp only [qa]
    refine zh 13 8 (.bool b) hH ?_
    refine zm ?_
    replace H := za (H.out.erase 1)
    go_wp2_with fail
    go_meet
    exact ⟨g7, h34, rfl, rfl, HV34.out, H.out⟩
  ·skip
   refine zg 7 rfl z9 H.out rfl ?_
   intro w7 g7 H3 hb
   replace H := za H3
   refine zc hK ⟨zb H 1, zb H 4⟩ fun hH => zK [0, 4] (zG rfl (fun K hK => ?_) (zG rfl (fun K hK => ?_) zJ))
   ·skip
    go_simp
    refine (z3w (1) _ (HT.out.below H.out.bel) (by omega) (by omega)).mono ?_
    rintro e wc ⟨h27, rfl, hv, hb⟩
    replace H := zd H hb
    have HV27 := za hv
    refine zc hK ⟨zb H 1, zb H 4⟩ fun hH => zn 4 rfl fun K hK => ?_
    refine z0l 31 rfl H.out rfl rfl rfl ?_
    intro w31 g31 H3 hb
    replace H := za H3
    refine zc hK ⟨zb H 2, zb H 5⟩ fun hH => ?_
    try simp only [Act.put, qa, qb, qc]
    refine zn 5 rfl fun K hK => ?_
    go_simp
    refine (z0x _ HV25.out (H.out.row 0 rfl) VX.out VX.out).mono ?_
    rintro e wc ⟨h32, rfl, hv, hb⟩
    replace H := zd H hb
    have HV32 := za hv
    refine zc hK ⟨zb H 2, zb H 5⟩ fun hH => zn 6 rfl fun K hK => ?_
    go_simp
    refine (z07 (39082) _ (HT.out.below H.out.bel) HV32.out (by omega) (by omega)).mono ?_
    rintro e wc ⟨h33, rfl, hv, hb⟩
    replace H := zd H hb
    have HV33 := za hv
    refine zc hK ⟨zb H 2, zb H 5⟩ fun hH => zn 7 rfl fun K hK => ?_
    go_simp
    refine (z1k HR.out HOK.out _ (HT.out.below H.out.bel) HV27.out HV33.out).mono ?_
    rintro e wc ⟨h34, rfl, hv, hb⟩
    replace H := zd H hb
    have HV34 := za hv
    refine zc hK ⟨zb H 2, zb H 5⟩ fun hH => ?_
    try simp only [Act.put, qa, qb, qc]
    refine zh 8 26 (.tuple #[EV h34, .bool b]) hH ?_
    refine zh 9 35 (EV h34) hH ?_
    refine zh 10 36 (.bool b) hH ?_
    refine zn 12 rfl fun K hK => ?_
    refine zu 1 rfl zt H.out rfl rfl rfl rfl ?_
    intro ws HS
    simp only [qb, qc] at HS
    replace H := za HS
    refine zc hK ⟨zb H 2, zb H 5⟩ fun hH => ?_
    try simp only [qa]
    refine zh 13 8 (.bool b) hH ?_
    refine zm ?_
    replace H := za (H.out.erase 0)
    go_wp2_with fail
    go_meet
    exact ⟨g7, h34, rfl, rfl, HV34.out, H.out⟩
   ·skip
    refine z0l 31 rfl H.out rfl rfl rfl ?_
    intro w31 g31 H3 hb
    replace H := za H3
    refine zc hK ⟨zb H 2, zb H 5⟩ fun hH => zn 0 rfl fun K hK => ?_
    go_simp
    refine (z3w (1) _ (HT.out.below H.out.bel) (by omega) (by omega)).mono ?_
    rintro e wc ⟨h27, rfl, hv, hb⟩
    replace H := zd H hb
    have HV27 := za hv
    refine zc hK ⟨zb H 2, zb H 5⟩ fun hH => zn 5 rfl fun K hK => ?_
    go_simp
    refine (z0x _ HV25.out (H.out.row 0 rfl) VX.out VX.out).mono ?_
    rintro e wc ⟨h32, rfl, hv, hb⟩
    replace H := zd H hb
    have HV32 := za hv
    refine zc hK ⟨zb H 2, zb H 5⟩ fun hH => ?_
    try simp only [Act.put, qa, qb, qc]
    refine zn 6 rfl fun K hK => ?_
    go_simp
    refine (z07 (39082) _ (HT.out.below H.out.bel) HV32.out (by omega) (by omega)).mono ?_
    rintro e wc ⟨h33, rfl, hv, hb⟩
    replace H := zd H hb
    have HV33 := za hv
    refine zc hK ⟨zb H 2, zb H 5⟩ fun hH => zn 7 rfl fun K hK => ?_
    go_simp
    refine (z1k HR.out HOK.out _ (HT.out.below H.out.bel) HV27.out HV33.out).mono ?_
    rintro e wc ⟨h34, rfl, hv, hb⟩
    replace H := zd H hb
    have HV34 := za hv
    refine zc hK ⟨zb H 2, zb H 5⟩ fun hH => ?_
    refine zh 8 26 (.tuple #[EV h34, .bool b]) hH ?_
    refine zh 9 35 (EV h34) hH ?_
    refine zh 10 36 (.bool b) hH ?_
    refine zn 12 rfl fun K hK => ?_
    refine zu 1 rfl zt H.out rfl rfl rfl rfl ?_
    intro ws HS
    simp only [qb, qc] at HS
    replace H := za HS
    refine zc hK ⟨zb H 2, zb H 5⟩ fun hH => ?_
    try simp only [qa]
    refine zh 13 8 (.bool b) hH ?_
    refine zm ?_
    replace H := za (H.out.erase 0)
    go_wp2_with fail
    go_meet
    exact ⟨g7, h34, rfl, rfl, HV34.out, H.out⟩
 clear H
 obtain ⟨g7, h34, rfl, rfl, hv34, HRR⟩ := hcut
 have HV34 := za hv34
 have H := za HRR
 clear HRR hv34
 go_upto_region 5 with fail
 go_cut [9] from 37 to 44 (fun v9 wx => ∃ g9 h44, v9 = .pointer (some ⟨g9, 0, none⟩) ∧ EK h44 ((fR * q) - (P.x * P.y)) ∧ Ow w wx [(g9, zv 30 .u64 8 (NZ h44)), (g7, zv 30 .u64 8 (NZ h34)), (g6, zv 30 .u64 8 (NZ h25)), (g5, zv 30 .u64 8 (NZ hz)), (g4, zv 30 .u64 8 (NZ hy)), (g3, zv 30 .u64 8 (NZ hx)), (g1, Cs 34 (AV 25 F))])
 case first =>
  go_wp2_with fail
  refine wp_region_noPanic ?_
  refine wp_region_held_drew (S := fun W => W.heap[g7]? = some (zv 30 .u64 8 (NZ h34)) ∧ W.heap[g6]? = some (zv 30 .u64 8 (NZ h25)) ∧ W.heap[g5]? = some (zv 30 .u64 8 (NZ hz))) (by kernel_rfl) (⟨H.out.drew.row 0 rfl, H.out.drew.row 1 rfl, H.out.drew.row 2 rfl⟩) (fun hH => ?_)
  replace H := za H.out.drew
  generalize World.drew _ = w8 at *
  refine zk 1 38 zt rfl rfl rfl hH rfl rfl (fun _ h => h.1) ?_
  refine zk 2 39 zt rfl rfl rfl hH rfl rfl (fun _ h => h.2.1) ?_
  refine zk 6 43 zt rfl rfl rfl hH rfl rfl (fun _ h => h.2.2) ?_
  try simp only [Act.put, qa, qb, qc]
  refine zK [0, 3, 8] (zG rfl (fun K hK => ?_) (zG rfl (fun K hK => ?_) (zG rfl (fun K hK => ?_) zJ)))
  ·skip
   go_simp
   refine (z2s _).mono ?_
   rintro e wc ⟨h37, rfl, hv, hb⟩
   replace H := zd H hb
   have HV37 := za hv
   refine zc hK ⟨zb H 0, zb H 1, zb H 2⟩ fun hH => zK [3, 8] (zG rfl (fun K hK => ?_) (zG rfl (fun K hK => ?_) zJ))
   ·skip
    refine z0l 40 rfl H.out rfl rfl rfl ?_
    intro w40 g40 H3 hb
    replace H := za H3
    refine zc hK ⟨zb H 1, zb H 2, zb H 3⟩ fun hH => zK [4, 8] (zG rfl (fun K hK => ?_) (zG rfl (fun K hK => ?_) zJ))
    ·skip
     go_simp
     refine (z19 HQ.out _ (HT.out.below H.out.bel) (H.out.row 0 rfl) HV34.out HV25.out).mono ?_
     rintro e wc ⟨h41, rfl, hv, hb⟩
     replace H := zd H hb
     have HV41 := za hv
     refine zc hK ⟨zb H 1, zb H 2, zb H 3⟩ fun hH => ?_
     try simp only [Act.put, qa, qb, qc]
     refine zK [5, 8] (zG rfl (fun K hK => ?_) (zG rfl (fun K hK => ?_) zJ))
     ·skip
      go_simp
      refine (z16 _ HV37.out HV41.out).mono ?_
      rintro e wc ⟨h42, rfl, hv, hb⟩
      replace H := zd H hb
      have HV42 := za hv
      refine zc hK ⟨zb H 1, zb H 2, zb H 3⟩ fun hH => zK [7, 8] (zG rfl (fun K hK => ?_) (zG rfl (fun K hK => ?_) zJ))
      ·skip
       go_simp
       refine (z1t _ (HT.out.below H.out.bel) HV42.out VZ.out).mono ?_
       rintro e wc ⟨h44, rfl, hv, hb⟩
       replace H := zd H hb
       have HV44 := za hv
       refine zc hK ⟨zb H 1, zb H 2, zb H 3⟩ fun hH => zn 8 rfl fun K hK => ?_
       refine zg 9 rfl z9 H.out rfl ?_
       intro w9 g9 H3 hb
       replace H := za H3
       refine zc hK ⟨zb H 2, zb H 3, zb H 4⟩ fun hH => ?_
       try simp only [Act.put, qa, qb, qc]
       refine zn 9 rfl fun K hK => ?_
       refine zu 0 rfl zt H.out rfl rfl rfl rfl ?_
       intro ws HS
       simp only [qb] at HS
       replace H := za HS
       refine zc hK ⟨zb H 2, zb H 3, zb H 4⟩ fun hH => ?_
       try simp only [qa]
       try simp only [Act.put]
       refine zm ?_
       replace H := za (H.out.erase 1)
       go_wp2_with fail
       go_meet
       exact ⟨g9, h44, rfl, HV44.out, H.out⟩
      ·skip
       refine zg 9 rfl z9 H.out rfl ?_
       intro w9 g9 H3 hb
       replace H := za H3
       refine zc hK ⟨zb H 2, zb H 3, zb H 4⟩ fun hH => zn 7 rfl fun K hK => ?_
       go_simp
       refine (z1t _ (HT.out.below H.out.bel) HV42.out VZ.out).mono ?_
       rintro e wc ⟨h44, rfl, hv, hb⟩
       replace H := zd H hb
       have HV44 := za hv
       refine zc hK ⟨zb H 2, zb H 3, zb H 4⟩ fun hH => zn 9 rfl fun K hK => ?_
       refine zu 0 rfl zt H.out rfl rfl rfl rfl ?_
       intro ws HS
       simp only [qb] at HS
       replace H := za HS
       refine zc hK ⟨zb H 2, zb H 3, zb H 4⟩ fun hH => ?_
       try simp only [qa]
       try simp only [Act.put]
       refine zm ?_
       replace H := za (H.out.erase 1)
       go_wp2_with fail
       go_meet
       exact ⟨g9, h44, rfl, HV44.out, H.out⟩
     ·skip
      refine zg 9 rfl z9 H.out rfl ?_
      intro w9 g9 H3 hb
      replace H := za H3
      refine zc hK ⟨zb H 2, zb H 3, zb H 4⟩ fun hH => ?_
      try simp only [Act.put, qa, qb, qc]
      refine zn 5 rfl fun K hK => ?_
      go_simp
      refine (z16 _ HV37.out HV41.out).mono ?_
      rintro e wc ⟨h42, rfl, hv, hb⟩
      replace H := zd H hb
      have HV42 := za hv
      refine zc hK ⟨zb H 2, zb H 3, zb H 4⟩ fun hH => zn 7 rfl fun K hK => ?_
      go_simp
      refine (z1t _ (HT.out.below H.out.bel) HV42.out VZ.out).mono ?_
      rintro e wc ⟨h44, rfl, hv, hb⟩
      replace H := zd H hb
      have HV44 := za hv
      refine zc hK ⟨zb H 2, zb H 3, zb H 4⟩ fun hH => zn 9 rfl fun K hK => ?_
      refine zu 0 rfl zt H.out rfl rfl rfl rfl ?_
      intro ws HS
      simp only [qb] at HS
      replace H := za HS
      refine zc hK ⟨zb H 2, zb H 3, zb H 4⟩ fun hH => ?_
      try simp only [qa]
      try simp only [Act.put]
      refine zm ?_
      replace H := za (H.out.erase 1)
      go_wp2_with fail
      go_meet
      exact ⟨g9, h44, rfl, HV44.out, H.out⟩
    ·skip
     refine zg 9 rfl z9 H.out rfl ?_
     intro w9 g9 H3 hb
     replace H := za H3
     refine zc hK ⟨zb H 2, zb H 3, zb H 4⟩ fun hH => ?_
     try simp only [Act.put, qa, qb, qc]
     refine zn 4 rfl fun K hK => ?_
     go_simp
     refine (z19 HQ.out _ (HT.out.below H.out.bel) (H.out.row 1 rfl) HV34.out HV25.out).mono ?_
     rintro e wc ⟨h41, rfl, hv, hb⟩
     replace H := zd H hb
     have HV41 := za hv
     refine zc hK ⟨zb H 2, zb H 3, zb H 4⟩ fun hH => zn 5 rfl fun K hK => ?_
     go_simp
     refine (z16 _ HV37.out HV41.out).mono ?_
     rintro e wc ⟨h42, rfl, hv, hb⟩
     replace H := zd H hb
     have HV42 := za hv
     refine zc hK ⟨zb H 2, zb H 3, zb H 4⟩ fun hH => zn 7 rfl fun K hK => ?_
     go_simp
     refine (z1t _ (HT.out.below H.out.bel) HV42.out VZ.out).mono ?_
     rintro e wc ⟨h44, rfl, hv, hb⟩
     replace H := zd H hb
     have HV44 := za hv
     refine zc hK ⟨zb H 2, zb H 3, zb H 4⟩ fun hH => ?_
     try simp only [Act.put, qa, qb, qc]
     refine zn 9 rfl fun K hK => ?_
     refine zu 0 rfl zt H.out rfl rfl rfl rfl ?_
     intro ws HS
     simp only [qb] at HS
     replace H := za HS
     refine zc hK ⟨zb H 2, zb H 3, zb H 4⟩ fun hH => ?_
     try simp only [qa]
     try simp only [Act.put]
     refine zm ?_
     replace H := za (H.out.erase 1)
     go_wp2_with fail
     go_meet
     exact ⟨g9, h44, rfl, HV44.out, H.out⟩
   ·skip
    refine zg 9 rfl z9 H.out rfl ?_
    intro w9 g9 H3 hb
    replace H := za H3
    refine zc hK ⟨zb H 1, zb H 2, zb H 3⟩ fun hH => zn 3 rfl fun K hK => ?_
    refine z0l 40 rfl H.out rfl rfl rfl ?_
    intro w40 g40 H3 hb
    replace H := za H3
    refine zc hK ⟨zb H 2, zb H 3, zb H 4⟩ fun hH => zn 4 rfl fun K hK => ?_
    go_simp
    refine (z19 HQ.out _ (HT.out.below H.out.bel) (H.out.row 0 rfl) HV34.out HV25.out).mono ?_
    rintro e wc ⟨h41, rfl, hv, hb⟩
    replace H := zd H hb
    have HV41 := za hv
    refine zc hK ⟨zb H 2, zb H 3, zb H 4⟩ fun hH => ?_
    try simp only [Act.put, qa, qb, qc]
    refine zn 5 rfl fun K hK => ?_
    go_simp
    refine (z16 _ HV37.out HV41.out).mono ?_
    rintro e wc ⟨h42, rfl, hv, hb⟩
    replace H := zd H hb
    have HV42 := za hv
    refine zc hK ⟨zb H 2, zb H 3, zb H 4⟩ fun hH => zn 7 rfl fun K hK => ?_
    go_simp
    refine (z1t _ (HT.out.below H.out.bel) HV42.out VZ.out).mono ?_
    rintro e wc ⟨h44, rfl, hv, hb⟩
    replace H := zd H hb
    have HV44 := za hv
    refine zc hK ⟨zb H 2, zb H 3, zb H 4⟩ fun hH => zn 9 rfl fun K hK => ?_
    refine zu 1 rfl zt H.out rfl rfl rfl rfl ?_
    intro ws HS
    simp only [qb, qc] at HS
    replace H := za HS
    refine zc hK ⟨zb H 2, zb H 3, zb H 4⟩ fun hH => ?_
    try simp only [qa]
    try simp only [Act.put]
    refine zm ?_
    replace H := za (H.out.erase 0)
    go_wp2_with fail
    go_meet
    exact ⟨g9, h44, rfl, HV44.out, H.out⟩
  ·skip
   refine z0l 40 rfl H.out rfl rfl rfl ?_
   intro w40 g40 H3 hb
   replace H := za H3
   refine zc hK ⟨zb H 1, zb H 2, zb H 3⟩ fun hH => ?_
   try simp only [Act.put, qa, qb, qc]
   refine zK [0, 8] (zG rfl (fun K hK => ?_) (zG rfl (fun K hK => ?_) zJ))
   ·skip
    go_simp
    refine (z2s _).mono ?_
    rintro e wc ⟨h37, rfl, hv, hb⟩
    replace H := zd H hb
    have HV37 := za hv
    refine zc hK ⟨zb H 1, zb H 2, zb H 3⟩ fun hH => zK [4, 8] (zG rfl (fun K hK => ?_) (zG rfl (fun K hK => ?_) zJ))
    ·skip
     go_simp
     refine (z19 HQ.out _ (HT.out.below H.out.bel) (H.out.row 0 rfl) HV34.out HV25.out).mono ?_
     rintro e wc ⟨h41, rfl, hv, hb⟩
     replace H := zd H hb
     have HV41 := za hv
     refine zc hK ⟨zb H 1, zb H 2, zb H 3⟩ fun hH => zK [5, 8] (zG rfl (fun K hK => ?_) (zG rfl (fun K hK => ?_) zJ))
     ·skip
      go_simp
      refine (z16 _ HV37.out HV41.out).mono ?_
      rintro e wc ⟨h42, rfl, hv, hb⟩
      replace H := zd H hb
      have HV42 := za hv
      refine zc hK ⟨zb H 1, zb H 2, zb H 3⟩ fun hH => ?_
      try simp only [Act.put, qa, qb, qc]
      refine zK [7, 8] (zG rfl (fun K hK => ?_) (zG rfl (fun K hK => ?_) zJ))
      ·skip
       go_simp
       refine (z1t _ (HT.out.below H.out.bel) HV42.out VZ.out).mono ?_
       rintro e wc ⟨h44, rfl, hv, hb⟩
       replace H := zd H hb
       have HV44 := za hv
       refine zc hK ⟨zb H 1, zb H 2, zb H 3⟩ fun hH => zn 8 rfl fun K hK => ?_
       refine zg 9 rfl z9 H.out rfl ?_
       intro w9 g9 H3 hb
       replace H := za H3
       refine zc hK ⟨zb H 2, zb H 3, zb H 4⟩ fun hH => zn 9 rfl fun K hK => ?_
       refine zu 0 rfl zt H.out rfl rfl rfl rfl ?_
       intro ws HS
       simp only [qb] at HS
       replace H := za HS
       refine zc hK ⟨zb H 2, zb H 3, zb H 4⟩ fun hH => ?_
       try simp only [qa]
       try simp only [Act.put]
       refine zm ?_
       replace H := za (H.out.erase 1)
       go_wp2_with fail
       go_meet
       exact ⟨g9, h44, rfl, HV44.out, H.out⟩
      ·skip
       refine zg 9 rfl z9 H.out rfl ?_
       intro w9 g9 H3 hb
       replace H := za H3
       refine zc hK ⟨zb H 2, zb H 3, zb H 4⟩ fun hH => ?_
       try simp only [Act.put, qa, qb, qc]
       refine zn 7 rfl fun K hK => ?_
       go_simp
       refine (z1t _ (HT.out.below H.out.bel) HV42.out VZ.out).mono ?_
       rintro e wc ⟨h44, rfl, hv, hb⟩
       replace H := zd H hb
       have HV44 := za hv
       refine zc hK ⟨zb H 2, zb H 3, zb H 4⟩ fun hH => zn 9 rfl fun K hK => ?_
       refine zu 0 rfl zt H.out rfl rfl rfl rfl ?_
       intro ws HS
       simp only [qb] at HS
       replace H := za HS
       refine zc hK ⟨zb H 2, zb H 3, zb H 4⟩ fun hH => ?_
       try simp only [qa]
       try simp only [Act.put]
       refine zm ?_
       replace H := za (H.out.erase 1)
       go_wp2_with fail
       go_meet
       exact ⟨g9, h44, rfl, HV44.out, H.out⟩
     ·skip
      refine zg 9 rfl z9 H.out rfl ?_
      intro w9 g9 H3 hb
      replace H := za H3
      refine zc hK ⟨zb H 2, zb H 3, zb H 4⟩ fun hH => zn 5 rfl fun K hK => ?_
      go_simp
      refine (z16 _ HV37.out HV41.out).mono ?_
      rintro e wc ⟨h42, rfl, hv, hb⟩
      replace H := zd H hb
      have HV42 := za hv
      refine zc hK ⟨zb H 2, zb H 3, zb H 4⟩ fun hH => ?_
      try simp only [Act.put, qa, qb, qc]
      refine zn 7 rfl fun K hK => ?_
      go_simp
      refine (z1t _ (HT.out.below H.out.bel) HV42.out VZ.out).mono ?_
      rintro e wc ⟨h44, rfl, hv, hb⟩
      replace H := zd H hb
      have HV44 := za hv
      refine zc hK ⟨zb H 2, zb H 3, zb H 4⟩ fun hH => zn 9 rfl fun K hK => ?_
      refine zu 0 rfl zt H.out rfl rfl rfl rfl ?_
      intro ws HS
      simp only [qb] at HS
      replace H := za HS
      refine zc hK ⟨zb H 2, zb H 3, zb H 4⟩ fun hH => ?_
      try simp only [qa]
      try simp only [Act.put]
      refine zm ?_
      replace H := za (H.out.erase 1)
      go_wp2_with fail
      go_meet
      exact ⟨g9, h44, rfl, HV44.out, H.out⟩
    ·skip
     refine zg 9 rfl z9 H.out rfl ?_
     intro w9 g9 H3 hb
     replace H := za H3
     refine zc hK ⟨zb H 2, zb H 3, zb H 4⟩ fun hH => zn 4 rfl fun K hK => ?_
     go_simp
     refine (z19 HQ.out _ (HT.out.below H.out.bel) (H.out.row 1 rfl) HV34.out HV25.out).mono ?_
     rintro e wc ⟨h41, rfl, hv, hb⟩
     replace H := zd H hb
     have HV41 := za hv
     refine zc hK ⟨zb H 2, zb H 3, zb H 4⟩ fun hH => ?_
     try simp only [Act.put, qa, qb, qc]
     refine zn 5 rfl fun K hK => ?_
     go_simp
     refine (z16 _ HV37.out HV41.out).mono ?_
     rintro e wc ⟨h42, rfl, hv, hb⟩
     replace H := zd H hb
     have HV42 := za hv
     refine zc hK ⟨zb H 2, zb H 3, zb H 4⟩ fun hH => zn 7 rfl fun K hK => ?_
     go_simp
     refine (z1t _ (HT.out.below H.out.bel) HV42.out VZ.out).mono ?_
     rintro e wc ⟨h44, rfl, hv, hb⟩
     replace H := zd H hb
     have HV44 := za hv
     refine zc hK ⟨zb H 2, zb H 3, zb H 4⟩ fun hH => zn 9 rfl fun K hK => ?_
     refine zu 0 rfl zt H.out rfl rfl rfl rfl ?_
     intro ws HS
     simp only [qb] at HS
     replace H := za HS
     refine zc hK ⟨zb H 2, zb H 3, zb H 4⟩ fun hH => ?_
     try simp only [qa]
     try simp only [Act.put]
     refine zm ?_
     replace H := za (H.out.erase 1)
     go_wp2_with fail
     go_meet
     exact ⟨g9, h44, rfl, HV44.out, H.out⟩
   ·skip
    refine zg 9 rfl z9 H.out rfl ?_
    intro w9 g9 H3 hb
    replace H := za H3
    refine zc hK ⟨zb H 2, zb H 3, zb H 4⟩ fun hH => ?_
    try simp only [Act.put, qa, qb, qc]
    refine zn 0 rfl fun K hK => ?_
    go_simp
    refine (z2s _).mono ?_
    rintro e wc ⟨h37, rfl, hv, hb⟩
    replace H := zd H hb
    have HV37 := za hv
    refine zc hK ⟨zb H 2, zb H 3, zb H 4⟩ fun hH => zn 4 rfl fun K hK => ?_
    go_simp
    refine (z19 HQ.out _ (HT.out.below H.out.bel) (H.out.row 1 rfl) HV34.out HV25.out).mono ?_
    rintro e wc ⟨h41, rfl, hv, hb⟩
    replace H := zd H hb
    have HV41 := za hv
    refine zc hK ⟨zb H 2, zb H 3, zb H 4⟩ fun hH => zn 5 rfl fun K hK => ?_
    go_simp
    refine (z16 _ HV37.out HV41.out).mono ?_
    rintro e wc ⟨h42, rfl, hv, hb⟩
    replace H := zd H hb
    have HV42 := za hv
    refine zc hK ⟨zb H 2, zb H 3, zb H 4⟩ fun hH => ?_
    try simp only [Act.put, qa, qb, qc]
    refine zn 7 rfl fun K hK => ?_
    go_simp
    refine (z1t _ (HT.out.below H.out.bel) HV42.out VZ.out).mono ?_
    rintro e wc ⟨h44, rfl, hv, hb⟩
    replace H := zd H hb
    have HV44 := za hv
    refine zc hK ⟨zb H 2, zb H 3, zb H 4⟩ fun hH => zn 9 rfl fun K hK => ?_
    refine zu 0 rfl zt H.out rfl rfl rfl rfl ?_
    intro ws HS
    simp only [qb] at HS
    replace H := za HS
    refine zc hK ⟨zb H 2, zb H 3, zb H 4⟩ fun hH => ?_
    try simp only [qa]
    try simp only [Act.put]
    refine zm ?_
    replace H := za (H.out.erase 1)
    go_wp2_with fail
    go_meet
    exact ⟨g9, h44, rfl, HV44.out, H.out⟩
  ·skip
   refine zg 9 rfl z9 H.out rfl ?_
   intro w9 g9 H3 hb
   replace H := za H3
   refine zc hK ⟨zb H 1, zb H 2, zb H 3⟩ fun hH => zK [0, 3] (zG rfl (fun K hK => ?_) (zG rfl (fun K hK => ?_) zJ))
   ·skip
    go_simp
    refine (z2s _).mono ?_
    rintro e wc ⟨h37, rfl, hv, hb⟩
    replace H := zd H hb
    have HV37 := za hv
    refine zc hK ⟨zb H 1, zb H 2, zb H 3⟩ fun hH => ?_
    try simp only [Act.put, qa, qb, qc]
    refine zn 3 rfl fun K hK => ?_
    refine z0l 40 rfl H.out rfl rfl rfl ?_
    intro w40 g40 H3 hb
    replace H := za H3
    refine zc hK ⟨zb H 2, zb H 3, zb H 4⟩ fun hH => zn 4 rfl fun K hK => ?_
    go_simp
    refine (z19 HQ.out _ (HT.out.below H.out.bel) (H.out.row 0 rfl) HV34.out HV25.out).mono ?_
    rintro e wc ⟨h41, rfl, hv, hb⟩
    replace H := zd H hb
    have HV41 := za hv
    refine zc hK ⟨zb H 2, zb H 3, zb H 4⟩ fun hH => zn 5 rfl fun K hK => ?_
    go_simp
    refine (z16 _ HV37.out HV41.out).mono ?_
    rintro e wc ⟨h42, rfl, hv, hb⟩
    replace H := zd H hb
    have HV42 := za hv
    refine zc hK ⟨zb H 2, zb H 3, zb H 4⟩ fun hH => ?_
    try simp only [Act.put, qa, qb, qc]
    refine zn 7 rfl fun K hK => ?_
    go_simp
    refine (z1t _ (HT.out.below H.out.bel) HV42.out VZ.out).mono ?_
    rintro e wc ⟨h44, rfl, hv, hb⟩
    replace H := zd H hb
    have HV44 := za hv
    refine zc hK ⟨zb H 2, zb H 3, zb H 4⟩ fun hH => zn 9 rfl fun K hK => ?_
    refine zu 1 rfl zt H.out rfl rfl rfl rfl ?_
    intro ws HS
    simp only [qb, qc] at HS
    replace H := za HS
    refine zc hK ⟨zb H 2, zb H 3, zb H 4⟩ fun hH => ?_
    try simp only [qa]
    try simp only [Act.put]
    refine zm ?_
    replace H := za (H.out.erase 0)
    go_wp2_with fail
    go_meet
    exact ⟨g9, h44, rfl, HV44.out, H.out⟩
   ·skip
    refine z0l 40 rfl H.out rfl rfl rfl ?_
    intro w40 g40 H3 hb
    replace H := za H3
    refine zc hK ⟨zb H 2, zb H 3, zb H 4⟩ fun hH => zn 0 rfl fun K hK => ?_
    go_simp
    refine (z2s _).mono ?_
    rintro e wc ⟨h37, rfl, hv, hb⟩
    replace H := zd H hb
    have HV37 := za hv
    refine zc hK ⟨zb H 2, zb H 3, zb H 4⟩ fun hH => ?_
    try simp only [Act.put, qa, qb, qc]
    refine zn 4 rfl fun K hK => ?_
    go_simp
    refine (z19 HQ.out _ (HT.out.below H.out.bel) (H.out.row 0 rfl) HV34.out HV25.out).mono ?_
    rintro e wc ⟨h41, rfl, hv, hb⟩
    replace H := zd H hb
    have HV41 := za hv
    refine zc hK ⟨zb H 2, zb H 3, zb H 4⟩ fun hH => zn 5 rfl fun K hK => ?_
    go_simp
    refine (z16 _ HV37.out HV41.out).mono ?_
    rintro e wc ⟨h42, rfl, hv, hb⟩
    replace H := zd H hb
    have HV42 := za hv
    refine zc hK ⟨zb H 2, zb H 3, zb H 4⟩ fun hH => zn 7 rfl fun K hK => ?_
    go_simp
    refine (z1t _ (HT.out.below H.out.bel) HV42.out VZ.out).mono ?_
    rintro e wc ⟨h44, rfl, hv, hb⟩
    replace H := zd H hb
    have HV44 := za hv
    refine zc hK ⟨zb H 2, zb H 3, zb H 4⟩ fun hH => ?_
    try simp only [Act.put, qa, qb, qc]
    refine zn 9 rfl fun K hK => ?_
    refine zu 1 rfl zt H.out rfl rfl rfl rfl ?_
    intro ws HS
    simp only [qb, qc] at HS
    replace H := za HS
    refine zc hK ⟨zb H 2, zb H 3, zb H 4⟩ fun hH => ?_
    try simp only [qa]
    try simp only [Act.put]
    refine zm ?_
    replace H := za (H.out.erase 0)
    go_wp2_with fail
    go_meet
    exact ⟨g9, h44, rfl, HV44.out, H.out⟩
 clear H
 obtain ⟨g9, h44, rfl, hv44, HRR⟩ := hcut
 have HV44 := za hv44
 have H := za HRR
 clear HRR hv44
 go_wp2_with (first
  | ((with_reducible apply zr zt H); (case hgd | ho | hx => exact rfl); (case hi => repeat first|exact z5|apply z8); intro _ _; go_simp)
  | ((with_reducible apply own_build2E H); (case hgd | ho | hx | hy => exact rfl); clear H; intro _ _ H _ _; go_simp)
  | ((fail_if_success have := VA); (with_reducible refine (z0x _ HV34.out (H.out.row 0 rfl) VX.out HV44.out).mono ?_); rintro e wc ⟨kVA, rfl, hv, hb⟩; replace H := zd H hb; clear hb; have VA := za hv; clear hv)
  | ((fail_if_success have := VB); (with_reducible refine (z07 (39082) _ (HT.out.below H.out.bel) VA.out (by omega) (by omega)).mono ?_); rintro e wc ⟨kVB, rfl, hv, hb⟩; replace H := zd H hb; clear hb; have VB := za hv; clear hv)
  | ((fail_if_success have := VC); (with_reducible refine (y68 _ (HT.out.below H.out.bel) VB.out).mono ?_); rintro e wc ⟨kVC, rfl, hv, hb⟩; replace H := zd H hb; clear hb; have VC := za hv; clear hv)
  | ((fail_if_success have := SE); (with_reducible refine (y6s _ VC.out).mono ?_); rintro e wc ⟨ge, ce, rfl, hs, hb⟩; replace H := zd H hb; clear hb; have SE := za hs; clear hs))
 go_ret
 exact ⟨_, _, rfl, HE.out ▸ SE.out, H.out.bel⟩
end Go.Proofs.YtgjbonikbmgfmaaGreatDoor
