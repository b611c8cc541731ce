/- Lemmas; no statement is proved here. -/
import Derived.Test.YtgjbonikbmgfmaaGreatDoorQE1
import Derived.Test.YtgjbonikbmgfmaaGreatDoorQA
set_option maxRecDepth 8000
set_option maxHeartbeats 3200000
namespace Go.Proofs.YtgjbonikbmgfmaaGreatDoor
open Go.RowKit
theorem z4q {f : Nat → Nat} {a : K} (w : World) (hT : Tp w) (hf : EK f a) (h : a ^ (eC + 1) * a ^ (eC + 1) = a) :
  Calls Tryz.prog 87 #[EV f] w fun e w' => ∃ h, e = .returned (.tuple #[EV h, .int .i64 0]) ∧ EK h (ab (a ^ (eC + 1))) ∧ Below w.heap.size w w' :=
 (root_k w hT hf).mono fun _ _ ⟨h1, hb⟩ => by
  rcases h1 with ⟨_, k, he, hv⟩ | ⟨hn, _⟩
  ·exact ⟨k, he, hv, hb⟩
  ·exact absurd h hn
theorem z3y {f : Nat → Nat} {a : K} (w : World) (hT : Tp w) (hf : EK f a) (h : a ^ (eC + 1) * a ^ (eC + 1) ≠ a) :
  Calls Tryz.prog 87 #[EV f] w fun e w' => e = .returned (.tuple #[EV (fun _ => 0), .int .i64 17]) ∧ Below w.heap.size w w' :=
 (root_k w hT hf).mono fun _ _ ⟨h1, hb⟩ => by
  rcases h1 with ⟨hy, _⟩ | ⟨_, he⟩
  ·exact absurd hy h
  ·exact ⟨he, hb⟩
theorem of14_on {v : Nat → Int} {P : Pt pN dK} (w : World) (hT : Tp w) (hp : PtK v P) (h : (zC (1) - P.x * P.x * zC (-39081)) ^ (eC + 1) * (zC (1) - P.x * P.x * zC (-39081)) ^ (eC + 1) = (zC (1) - P.x * P.x * zC (-39081))) :
  Calls Tryz.prog 20 #[PO v] w fun e w' => ∃ r, e = .returned (.tuple #[DO r, .int .i64 0]) ∧ DeK r (P) ∧ Below w.heap.size w w' := by
 have V := za hp
 have HA := za h
 clear hp h
 have HT := za hT
 clear hT
 have H := za (Ow.start w)
 go_enter Tryz.func20, Tryz.ntmps20
 go_upto_region 2 with (first
  | ((fail_if_success have := g1); (with_reducible apply zw H); (case hgd | ho | hx => exact rfl); clear H; intro w1 g1 H _ _; go_simp)
  | ((fail_if_success have := g2); (with_reducible apply z0b zI H); (case hgd | ho => exact rfl); clear H; intro w2 g2 H _ _; go_simp)
  | ((with_reducible apply zr zH H); (case hgd | ho | hx => exact rfl); (case hi => repeat first|exact z5|apply z8); intro _ _; go_simp)
  | ((fail_if_success have := VX); (with_reducible refine (z75 _ V.out).mono ?_); rintro e wc ⟨hx, hy, rfl, hv, hu, hb⟩; replace H := zd H hb; clear hb; have VX := za hv; have VY := za hu; clear hv hu)
  | ((fail_if_success have := g4); (with_reducible apply ze z9 H); (case hgd | ho => exact rfl); clear H; intro w4 g4 H _ _; go_simp)
  | ((fail_if_success have := g5); (with_reducible apply ze z9 H); (case hgd | ho => exact rfl); clear H; intro w5 g5 H _ _; go_simp)
  | ((with_reducible apply zj zt H); (case hgd | ho | hx | hy => exact rfl); (case hi => repeat first|exact z5|apply z8); clear H; intro ws H _ _; simp only [qb, qc] at H; go_simp))
 go_cut [6, 7] from 13 to 21 (fun v6 v7 wx => ∃ g6 h19, v6 = .pointer (some ⟨g6, 0, none⟩) ∧ v7 = .int .i64 0 ∧ Ow w wx [(g6, zv 30 .u64 8 (NZ h19)), (g5, zv 30 .u64 8 (NZ hy)), (g4, zv 30 .u64 8 (NZ hx)), (g2, Cs 34 (AV 25 (ics (fun _ => 0) (.bool false)))), (g1, zv 32 .u64 24 (v))])
 case first =>
  go_wp2_with fail
  refine wp_region_noPanic ?_
  refine wp_region_held_drew (S := fun W => W.heap[g4]? = some (zv 30 .u64 8 (NZ hx))) (by kernel_rfl) (H.out.drew.row 1 rfl) (fun hH => ?_)
  replace H := za H.out.drew
  generalize World.drew _ = w8 at *
  refine zk 1 15 zt rfl rfl rfl hH rfl rfl (fun _ h => h) ?_
  refine zK [0, 9] (zG rfl (fun K hK => ?_) (zG rfl (fun K hK => ?_) zJ))
  ·skip
   go_simp
   refine (z3w (1) _ (HT.out.below H.out.bel) (by omega) (by omega)).mono ?_
   rintro e wc ⟨h14, rfl, hv, hb⟩
   replace H := zd H hb
   have HV14 := za hv
   refine zc hK (zb H 1) fun hH => zK [2, 9] (zG rfl (fun K hK => ?_) (zG rfl (fun K hK => ?_) zJ))
   ·skip
    go_simp
    refine (z0f _ VX.out).mono ?_
    rintro e wc ⟨h16, rfl, hv, hb⟩
    replace H := zd H hb
    have HV16 := za hv
    refine zc hK (zb H 1) fun hH => ?_
    try simp only [Act.put, qa, qb, qc]
    refine zK [3, 9] (zG rfl (fun K hK => ?_) (zG rfl (fun K hK => ?_) zJ))
    ·skip
     go_simp
     refine (z07 (-39081) _ (HT.out.below H.out.bel) HV16.out (by omega) (by omega)).mono ?_
     rintro e wc ⟨h17, rfl, hv, hb⟩
     replace H := zd H hb
     have HV17 := za hv
     refine zc hK (zb H 1) fun hH => zK [4, 9] (zG rfl (fun K hK => ?_) (zG rfl (fun K hK => ?_) zJ))
     ·skip
      go_simp
      refine (z1t _ (HT.out.below H.out.bel) HV14.out HV17.out).mono ?_
      rintro e wc ⟨h18, rfl, hv, hb⟩
      replace H := zd H hb
      have HV18 := za hv
      refine zc hK (zb H 1) fun hH => zK [5, 9] (zG rfl (fun K hK => ?_) (zG rfl (fun K hK => ?_) zJ))
      ·skip
       go_simp
       refine (z4q _ (HT.out.below H.out.bel) HV18.out HA.out).mono ?_
       rintro e wc ⟨h19, rfl, hv, hb⟩
       replace H := zd H hb
       have HV19 := za hv
       refine zc hK (zb H 1) fun hH => ?_
       try simp only [Act.put, qa, qb, qc]
       refine zh 6 13 (.tuple #[EV h19, .int .i64 0]) hH ?_
       refine zh 7 20 (EV h19) hH ?_
       refine zh 8 21 (.int .i64 0) hH ?_
       refine zn 9 rfl fun K hK => ?_
       refine zg 6 rfl z9 H.out rfl ?_
       intro w6 g6 H3 hb
       replace H := za H3
       refine zc hK (zb H 2) fun hH => zn 10 rfl fun K hK => ?_
       refine zu 0 rfl zt H.out rfl rfl rfl rfl ?_
       intro ws HS
       simp only [qb] at HS
       replace H := za HS
       refine zc hK (zb H 2) fun hH => ?_
       try simp only [qa]
       refine zh 11 7 (.int .i64 0) hH ?_
       refine zm ?_
       go_wp2_with fail
       go_meet
       exact ⟨g6, h19, rfl, rfl, H.out⟩
      ·skip
       refine zg 6 rfl z9 H.out rfl ?_
       intro w6 g6 H3 hb
       replace H := za H3
       refine zc hK (zb H 2) fun hH => zn 5 rfl fun K hK => ?_
       go_simp
       refine (z4q _ (HT.out.below H.out.bel) HV18.out HA.out).mono ?_
       rintro e wc ⟨h19, rfl, hv, hb⟩
       replace H := zd H hb
       have HV19 := za hv
       refine zc hK (zb H 2) fun hH => ?_
       refine zh 6 13 (.tuple #[EV h19, .int .i64 0]) hH ?_
       refine zh 7 20 (EV h19) hH ?_
       refine zh 8 21 (.int .i64 0) hH ?_
       refine zn 10 rfl fun K hK => ?_
       refine zu 0 rfl zt H.out rfl rfl rfl rfl ?_
       intro ws HS
       simp only [qb] at HS
       replace H := za HS
       refine zc hK (zb H 2) fun hH => ?_
       try simp only [qa]
       refine zh 11 7 (.int .i64 0) hH ?_
       refine zm ?_
       go_wp2_with fail
       go_meet
       exact ⟨g6, h19, rfl, rfl, H.out⟩
     ·skip
      refine zg 6 rfl z9 H.out rfl ?_
      intro w6 g6 H3 hb
      replace H := za H3
      refine zc hK (zb H 2) fun hH => zn 4 rfl fun K hK => ?_
      go_simp
      refine (z1t _ (HT.out.below H.out.bel) HV14.out HV17.out).mono ?_
      rintro e wc ⟨h18, rfl, hv, hb⟩
      replace H := zd H hb
      have HV18 := za hv
      refine zc hK (zb H 2) fun hH => zn 5 rfl fun K hK => ?_
      go_simp
      refine (z4q _ (HT.out.below H.out.bel) HV18.out HA.out).mono ?_
      rintro e wc ⟨h19, rfl, hv, hb⟩
      replace H := zd H hb
      have HV19 := za hv
      refine zc hK (zb H 2) fun hH => ?_
      try simp only [Act.put, qa, qb, qc]
      refine zh 6 13 (.tuple #[EV h19, .int .i64 0]) hH ?_
      refine zh 7 20 (EV h19) hH ?_
      refine zh 8 21 (.int .i64 0) hH ?_
      refine zn 10 rfl fun K hK => ?_
      refine zu 0 rfl zt H.out rfl rfl rfl rfl ?_
      intro ws HS
      simp only [qb] at HS
      replace H := za HS
      refine zc hK (zb H 2) fun hH => ?_
      try simp only [qa]
      refine zh 11 7 (.int .i64 0) hH ?_
      refine zm ?_
      go_wp2_with fail
      go_meet
      exact ⟨g6, h19, rfl, rfl, H.out⟩
    ·skip
     refine zg 6 rfl z9 H.out rfl ?_
     intro w6 g6 H3 hb
     replace H := za H3
     refine zc hK (zb H 2) fun hH => zn 3 rfl fun K hK => ?_
     go_simp
     refine (z07 (-39081) _ (HT.out.below H.out.bel) HV16.out (by omega) (by omega)).mono ?_
     rintro e wc ⟨h17, rfl, hv, hb⟩
     replace H := zd H hb
     have HV17 := za hv
     refine zc hK (zb H 2) fun hH => zn 4 rfl fun K hK => ?_
     go_simp
     refine (z1t _ (HT.out.below H.out.bel) HV14.out HV17.out).mono ?_
     rintro e wc ⟨h18, rfl, hv, hb⟩
     replace H := zd H hb
     have HV18 := za hv
     refine zc hK (zb H 2) fun hH => ?_
     try simp only [Act.put, qa, qb, qc]
     refine zn 5 rfl fun K hK => ?_
     go_simp
     refine (z4q _ (HT.out.below H.out.bel) HV18.out HA.out).mono ?_
     rintro e wc ⟨h19, rfl, hv, hb⟩
     replace H := zd H hb
     have HV19 := za hv
     refine zc hK (zb H 2) fun hH => ?_
     refine zh 6 13 (.tuple #[EV h19, .int .i64 0]) hH ?_
     refine zh 7 20 (EV h19) hH ?_
     refine zh 8 21 (.int .i64 0) hH ?_
     refine zn 10 rfl fun K hK => ?_
     refine zu 0 rfl zt H.out rfl rfl rfl rfl ?_
     intro ws HS
     simp only [qb] at HS
     replace H := za HS
     refine zc hK (zb H 2) fun hH => ?_
     try simp only [qa]
     refine zh 11 7 (.int .i64 0) hH ?_
     refine zm ?_
     go_wp2_with fail
     go_meet
     exact ⟨g6, h19, rfl, rfl, H.out⟩
   ·skip
    refine zg 6 rfl z9 H.out rfl ?_
    intro w6 g6 H3 hb
    replace H := za H3
    refine zc hK (zb H 2) fun hH => zn 2 rfl fun K hK => ?_
    go_simp
    refine (z0f _ VX.out).mono ?_
    rintro e wc ⟨h16, rfl, hv, hb⟩
    replace H := zd H hb
    have HV16 := za hv
    refine zc hK (zb H 2) fun hH => zn 3 rfl fun K hK => ?_
    go_simp
    refine (z07 (-39081) _ (HT.out.below H.out.bel) HV16.out (by omega) (by omega)).mono ?_
    rintro e wc ⟨h17, rfl, hv, hb⟩
    replace H := zd H hb
    have HV17 := za hv
    refine zc hK (zb H 2) fun hH => ?_
    try simp only [Act.put, qa, qb, qc]
    refine zn 4 rfl fun K hK => ?_
    go_simp
    refine (z1t _ (HT.out.below H.out.bel) HV14.out HV17.out).mono ?_
    rintro e wc ⟨h18, rfl, hv, hb⟩
    replace H := zd H hb
    have HV18 := za hv
    refine zc hK (zb H 2) fun hH => zn 5 rfl fun K hK => ?_
    go_simp
    refine (z4q _ (HT.out.below H.out.bel) HV18.out HA.out).mono ?_
    rintro e wc ⟨h19, rfl, hv, hb⟩
    replace H := zd H hb
    have HV19 := za hv
    refine zc hK (zb H 2) fun hH => ?_
    refine zh 6 13 (.tuple #[EV h19, .int .i64 0]) hH ?_
    refine zh 7 20 (EV h19) hH ?_
    refine zh 8 21 (.int .i64 0) hH ?_
    refine zn 10 rfl fun K hK => ?_
    refine zu 0 rfl zt H.out rfl rfl rfl rfl ?_
    intro ws HS
    simp only [qb] at HS
    replace H := za HS
    refine zc hK (zb H 2) fun hH => ?_
    try simp only [qa]
    refine zh 11 7 (.int .i64 0) hH ?_
    refine zm ?_
    go_wp2_with fail
    go_meet
    exact ⟨g6, h19, rfl, rfl, H.out⟩
  ·skip
   refine zg 6 rfl z9 H.out rfl ?_
   intro w6 g6 H3 hb
   replace H := za H3
   refine zc hK (zb H 2) fun hH => zn 0 rfl fun K hK => ?_
   go_simp
   refine (z3w (1) _ (HT.out.below H.out.bel) (by omega) (by omega)).mono ?_
   rintro e wc ⟨h14, rfl, hv, hb⟩
   replace H := zd H hb
   have HV14 := za hv
   refine zc hK (zb H 2) fun hH => zn 2 rfl fun K hK => ?_
   go_simp
   refine (z0f _ VX.out).mono ?_
   rintro e wc ⟨h16, rfl, hv, hb⟩
   replace H := zd H hb
   have HV16 := za hv
   refine zc hK (zb H 2) fun hH => ?_
   try simp only [Act.put, qa, qb, qc]
   refine zn 3 rfl fun K hK => ?_
   go_simp
   refine (z07 (-39081) _ (HT.out.below H.out.bel) HV16.out (by omega) (by omega)).mono ?_
   rintro e wc ⟨h17, rfl, hv, hb⟩
   replace H := zd H hb
   have HV17 := za hv
   refine zc hK (zb H 2) fun hH => zn 4 rfl fun K hK => ?_
   go_simp
   refine (z1t _ (HT.out.below H.out.bel) HV14.out HV17.out).mono ?_
   rintro e wc ⟨h18, rfl, hv, hb⟩
   replace H := zd H hb
   have HV18 := za hv
   refine zc hK (zb H 2) fun hH => zn 5 rfl fun K hK => ?_
   go_simp
   refine (z4q _ (HT.out.below H.out.bel) HV18.out HA.out).mono ?_
   rintro e wc ⟨h19, rfl, hv, hb⟩
   replace H := zd H hb
   have HV19 := za hv
   refine zc hK (zb H 2) fun hH => ?_
   try simp only [Act.put, qa, qb, qc]
   refine zh 6 13 (.tuple #[EV h19, .int .i64 0]) hH ?_
   refine zh 7 20 (EV h19) hH ?_
   refine zh 8 21 (.int .i64 0) hH ?_
   refine zn 10 rfl fun K hK => ?_
   refine zu 0 rfl zt H.out rfl rfl rfl rfl ?_
   intro ws HS
   simp only [qb] at HS
   replace H := za HS
   refine zc hK (zb H 2) fun hH => ?_
   try simp only [qa]
   refine zh 11 7 (.int .i64 0) hH ?_
   refine zm ?_
   go_wp2_with fail
   go_meet
   exact ⟨g6, h19, rfl, rfl, H.out⟩
 clear H
 obtain ⟨g6, h19, rfl, rfl, HRR⟩ := hcut
 have H := za HRR
 clear HRR 
 go_wp2_with (first
  | ((with_reducible apply zr zH H); (case hgd | ho | hx => exact rfl); (case hi => repeat first|exact z5|apply z8); intro _ _; go_simp)
  | ((fail_if_success have := V2); (with_reducible refine (z3i _ V.out).mono ?_); rintro e wc ⟨kV2, rfl, hv, hb⟩; replace H := zd H hb; clear hb; have V2 := za hv; clear hv)
  | ((with_reducible apply z0a H); (case hgd | ho | hx | hy => exact rfl); (case hi => repeat first|exact z5|apply z8); (case h1 => exact V2.out); clear H; intro ws H _ _; simp only [qb, qc] at H; go_simp))
 exact bodyPost_ret (z1x 3 z2w (z26 _) rfl _ H rfl rfl rfl) rfl ⟨_, rfl, V2.out, H.out.bel⟩
theorem of14_off {v : Nat → Int} {P : Pt pN dK} (w : World) (hT : Tp w) (hp : PtK v P) (h : (zC (1) - P.x * P.x * zC (-39081)) ^ (eC + 1) * (zC (1) - P.x * P.x * zC (-39081)) ^ (eC + 1) ≠ (zC (1) - P.x * P.x * zC (-39081))) :
  Calls Tryz.prog 20 #[PO v] w fun e w' => ∃ r, e = .returned (.tuple #[DO r, .int .i64 13]) ∧ DeK r (z0v) ∧ Below w.heap.size w w' := by
 have V := za hp
 have HA := za h
 clear hp h
 have HT := za hT
 clear hT
 have H := za (Ow.start w)
 go_enter Tryz.func20, Tryz.ntmps20
 go_upto_region 2 with (first
  | ((fail_if_success have := g1); (with_reducible apply zw H); (case hgd | ho | hx => exact rfl); clear H; intro w1 g1 H _ _; go_simp)
  | ((fail_if_success have := g2); (with_reducible apply z0b zI H); (case hgd | ho => exact rfl); clear H; intro w2 g2 H _ _; go_simp)
  | ((with_reducible apply zr zH H); (case hgd | ho | hx => exact rfl); (case hi => repeat first|exact z5|apply z8); intro _ _; go_simp)
  | ((fail_if_success have := VX); (with_reducible refine (z75 _ V.out).mono ?_); rintro e wc ⟨hx, hy, rfl, hv, hu, hb⟩; replace H := zd H hb; clear hb; have VX := za hv; have VY := za hu; clear hv hu)
  | ((fail_if_success have := g4); (with_reducible apply ze z9 H); (case hgd | ho => exact rfl); clear H; intro w4 g4 H _ _; go_simp)
  | ((fail_if_success have := g5); (with_reducible apply ze z9 H); (case hgd | ho => exact rfl); clear H; intro w5 g5 H _ _; go_simp)
  | ((with_reducible apply zj zt H); (case hgd | ho | hx | hy => exact rfl); (case hi => repeat first|exact z5|apply z8); clear H; intro ws H _ _; simp only [qb, qc] at H; go_simp))
 go_cut [6, 7] from 13 to 21 (fun v6 v7 wx => ∃ g6, v6 = .pointer (some ⟨g6, 0, none⟩) ∧ v7 = .int .i64 17 ∧ Ow w wx [(g6, zv 30 .u64 8 (NZ (fun _ => 0))), (g5, zv 30 .u64 8 (NZ hy)), (g4, zv 30 .u64 8 (NZ hx)), (g2, Cs 34 (AV 25 (ics (fun _ => 0) (.bool false)))), (g1, zv 32 .u64 24 (v))])
 case first =>
  go_wp2_with fail
  refine wp_region_noPanic ?_
  refine wp_region_held_drew (S := fun W => W.heap[g4]? = some (zv 30 .u64 8 (NZ hx))) (by kernel_rfl) (H.out.drew.row 1 rfl) (fun hH => ?_)
  replace H := za H.out.drew
  generalize World.drew _ = w8 at *
  refine zk 1 15 zt rfl rfl rfl hH rfl rfl (fun _ h => h) ?_
  refine zK [0, 9] (zG rfl (fun K hK => ?_) (zG rfl (fun K hK => ?_) zJ))
  ·skip
   go_simp
   refine (z3w (1) _ (HT.out.below H.out.bel) (by omega) (by omega)).mono ?_
   rintro e wc ⟨h14, rfl, hv, hb⟩
   replace H := zd H hb
   have HV14 := za hv
   refine zc hK (zb H 1) fun hH => zK [2, 9] (zG rfl (fun K hK => ?_) (zG rfl (fun K hK => ?_) zJ))
   ·skip
    go_simp
    refine (z0f _ VX.out).mono ?_
    rintro e wc ⟨h16, rfl, hv, hb⟩
    replace H := zd H hb
    have HV16 := za hv
    refine zc hK (zb H 1) fun hH => ?_
    try simp only [Act.put, qa, qb, qc]
    refine zK [3, 9] (zG rfl (fun K hK => ?_) (zG rfl (fun K hK => ?_) zJ))
    ·skip
     go_simp
     refine (z07 (-39081) _ (HT.out.below H.out.bel) HV16.out (by omega) (by omega)).mono ?_
     rintro e wc ⟨h17, rfl, hv, hb⟩
     replace H := zd H hb
     have HV17 := za hv
     refine zc hK (zb H 1) fun hH => zK [4, 9] (zG rfl (fun K hK => ?_) (zG rfl (fun K hK => ?_) zJ))
     ·skip
      go_simp
      refine (z1t _ (HT.out.below H.out.bel) HV14.out HV17.out).mono ?_
      rintro e wc ⟨h18, rfl, hv, hb⟩
      replace H := zd H hb
      have HV18 := za hv
      refine zc hK (zb H 1) fun hH => zK [5, 9] (zG rfl (fun K hK => ?_) (zG rfl (fun K hK => ?_) zJ))
      ·skip
       go_simp
       refine (z3y _ (HT.out.below H.out.bel) HV18.out HA.out).mono ?_
       rintro e wc ⟨rfl, hb⟩
       replace H := zd H hb
       refine zc hK (zb H 1) fun hH => ?_
       try simp only [Act.put, qa, qb, qc]
       refine zh 6 13 (.tuple #[EV (fun _ => 0), .int .i64 17]) hH ?_
       refine zh 7 20 (EV (fun _ => 0)) hH ?_
       refine zh 8 21 (.int .i64 17) hH ?_
       refine zn 9 rfl fun K hK => ?_
       refine zg 6 rfl z9 H.out rfl ?_
       intro w6 g6 H3 hb
       replace H := za H3
       refine zc hK (zb H 2) fun hH => zn 10 rfl fun K hK => ?_
       refine zu 0 rfl zt H.out rfl rfl rfl rfl ?_
       intro ws HS
       simp only [qb] at HS
       replace H := za HS
       refine zc hK (zb H 2) fun hH => ?_
       try simp only [qa]
       refine zh 11 7 (.int .i64 17) hH ?_
       refine zm ?_
       go_wp2_with fail
       go_meet
       exact ⟨g6, rfl, rfl, H.out⟩
      ·skip
       refine zg 6 rfl z9 H.out rfl ?_
       intro w6 g6 H3 hb
       replace H := za H3
       refine zc hK (zb H 2) fun hH => zn 5 rfl fun K hK => ?_
       go_simp
       refine (z3y _ (HT.out.below H.out.bel) HV18.out HA.out).mono ?_
       rintro e wc ⟨rfl, hb⟩
       replace H := zd H hb
       refine zc hK (zb H 2) fun hH => ?_
       refine zh 6 13 (.tuple #[EV (fun _ => 0), .int .i64 17]) hH ?_
       refine zh 7 20 (EV (fun _ => 0)) hH ?_
       refine zh 8 21 (.int .i64 17) hH ?_
       refine zn 10 rfl fun K hK => ?_
       refine zu 0 rfl zt H.out rfl rfl rfl rfl ?_
       intro ws HS
       simp only [qb] at HS
       replace H := za HS
       refine zc hK (zb H 2) fun hH => ?_
       try simp only [qa]
       refine zh 11 7 (.int .i64 17) hH ?_
       refine zm ?_
       go_wp2_with fail
       go_meet
       exact ⟨g6, rfl, rfl, H.out⟩
     ·skip
      refine zg 6 rfl z9 H.out rfl ?_
      intro w6 g6 H3 hb
      replace H := za H3
      refine zc hK (zb H 2) fun hH => zn 4 rfl fun K hK => ?_
      go_simp
      refine (z1t _ (HT.out.below H.out.bel) HV14.out HV17.out).mono ?_
      rintro e wc ⟨h18, rfl, hv, hb⟩
      replace H := zd H hb
      have HV18 := za hv
      refine zc hK (zb H 2) fun hH => zn 5 rfl fun K hK => ?_
      go_simp
      refine (z3y _ (HT.out.below H.out.bel) HV18.out HA.out).mono ?_
      rintro e wc ⟨rfl, hb⟩
      replace H := zd H hb
      refine zc hK (zb H 2) fun hH => ?_
      try simp only [Act.put, qa, qb, qc]
      refine zh 6 13 (.tuple #[EV (fun _ => 0), .int .i64 17]) hH ?_
      refine zh 7 20 (EV (fun _ => 0)) hH ?_
      refine zh 8 21 (.int .i64 17) hH ?_
      refine zn 10 rfl fun K hK => ?_
      refine zu 0 rfl zt H.out rfl rfl rfl rfl ?_
      intro ws HS
      simp only [qb] at HS
      replace H := za HS
      refine zc hK (zb H 2) fun hH => ?_
      try simp only [qa]
      refine zh 11 7 (.int .i64 17) hH ?_
      refine zm ?_
      go_wp2_with fail
      go_meet
      exact ⟨g6, rfl, rfl, H.out⟩
    ·skip
     refine zg 6 rfl z9 H.out rfl ?_
     intro w6 g6 H3 hb
     replace H := za H3
     refine zc hK (zb H 2) fun hH => zn 3 rfl fun K hK => ?_
     go_simp
     refine (z07 (-39081) _ (HT.out.below H.out.bel) HV16.out (by omega) (by omega)).mono ?_
     rintro e wc ⟨h17, rfl, hv, hb⟩
     replace H := zd H hb
     have HV17 := za hv
     refine zc hK (zb H 2) fun hH => zn 4 rfl fun K hK => ?_
     go_simp
     refine (z1t _ (HT.out.below H.out.bel) HV14.out HV17.out).mono ?_
     rintro e wc ⟨h18, rfl, hv, hb⟩
     replace H := zd H hb
     have HV18 := za hv
     refine zc hK (zb H 2) fun hH => ?_
     try simp only [Act.put, qa, qb, qc]
     refine zn 5 rfl fun K hK => ?_
     go_simp
     refine (z3y _ (HT.out.below H.out.bel) HV18.out HA.out).mono ?_
     rintro e wc ⟨rfl, hb⟩
     replace H := zd H hb
     refine zc hK (zb H 2) fun hH => ?_
     refine zh 6 13 (.tuple #[EV (fun _ => 0), .int .i64 17]) hH ?_
     refine zh 7 20 (EV (fun _ => 0)) hH ?_
     refine zh 8 21 (.int .i64 17) hH ?_
     refine zn 10 rfl fun K hK => ?_
     refine zu 0 rfl zt H.out rfl rfl rfl rfl ?_
     intro ws HS
     simp only [qb] at HS
     replace H := za HS
     refine zc hK (zb H 2) fun hH => ?_
     try simp only [qa]
     refine zh 11 7 (.int .i64 17) hH ?_
     refine zm ?_
     go_wp2_with fail
     go_meet
     exact ⟨g6, rfl, rfl, H.out⟩
   ·skip
    refine zg 6 rfl z9 H.out rfl ?_
    intro w6 g6 H3 hb
    replace H := za H3
    refine zc hK (zb H 2) fun hH => zn 2 rfl fun K hK => ?_
    go_simp
    refine (z0f _ VX.out).mono ?_
    rintro e wc ⟨h16, rfl, hv, hb⟩
    replace H := zd H hb
    have HV16 := za hv
    refine zc hK (zb H 2) fun hH => zn 3 rfl fun K hK => ?_
    go_simp
    refine (z07 (-39081) _ (HT.out.below H.out.bel) HV16.out (by omega) (by omega)).mono ?_
    rintro e wc ⟨h17, rfl, hv, hb⟩
    replace H := zd H hb
    have HV17 := za hv
    refine zc hK (zb H 2) fun hH => ?_
    try simp only [Act.put, qa, qb, qc]
    refine zn 4 rfl fun K hK => ?_
    go_simp
    refine (z1t _ (HT.out.below H.out.bel) HV14.out HV17.out).mono ?_
    rintro e wc ⟨h18, rfl, hv, hb⟩
    replace H := zd H hb
    have HV18 := za hv
    refine zc hK (zb H 2) fun hH => zn 5 rfl fun K hK => ?_
    go_simp
    refine (z3y _ (HT.out.below H.out.bel) HV18.out HA.out).mono ?_
    rintro e wc ⟨rfl, hb⟩
    replace H := zd H hb
    refine zc hK (zb H 2) fun hH => ?_
    refine zh 6 13 (.tuple #[EV (fun _ => 0), .int .i64 17]) hH ?_
    refine zh 7 20 (EV (fun _ => 0)) hH ?_
    refine zh 8 21 (.int .i64 17) hH ?_
    refine zn 10 rfl fun K hK => ?_
    refine zu 0 rfl zt H.out rfl rfl rfl rfl ?_
    intro ws HS
    simp only [qb] at HS
    replace H := za HS
    refine zc hK (zb H 2) fun hH => ?_
    try simp only [qa]
    refine zh 11 7 (.int .i64 17) hH ?_
    refine zm ?_
    go_wp2_with fail
    go_meet
    exact ⟨g6, rfl, rfl, H.out⟩
  ·skip
   refine zg 6 rfl z9 H.out rfl ?_
   intro w6 g6 H3 hb
   replace H := za H3
   refine zc hK (zb H 2) fun hH => zn 0 rfl fun K hK => ?_
   go_simp
   refine (z3w (1) _ (HT.out.below H.out.bel) (by omega) (by omega)).mono ?_
   rintro e wc ⟨h14, rfl, hv, hb⟩
   replace H := zd H hb
   have HV14 := za hv
   refine zc hK (zb H 2) fun hH => zn 2 rfl fun K hK => ?_
   go_simp
   refine (z0f _ VX.out).mono ?_
   rintro e wc ⟨h16, rfl, hv, hb⟩
   replace H := zd H hb
   have HV16 := za hv
   refine zc hK (zb H 2) fun hH => ?_
   try simp only [Act.put, qa, qb, qc]
   refine zn 3 rfl fun K hK => ?_
   go_simp
   refine (z07 (-39081) _ (HT.out.below H.out.bel) HV16.out (by omega) (by omega)).mono ?_
   rintro e wc ⟨h17, rfl, hv, hb⟩
   replace H := zd H hb
   have HV17 := za hv
   refine zc hK (zb H 2) fun hH => zn 4 rfl fun K hK => ?_
   go_simp
   refine (z1t _ (HT.out.below H.out.bel) HV14.out HV17.out).mono ?_
   rintro e wc ⟨h18, rfl, hv, hb⟩
   replace H := zd H hb
   have HV18 := za hv
   refine zc hK (zb H 2) fun hH => zn 5 rfl fun K hK => ?_
   go_simp
   refine (z3y _ (HT.out.below H.out.bel) HV18.out HA.out).mono ?_
   rintro e wc ⟨rfl, hb⟩
   replace H := zd H hb
   refine zc hK (zb H 2) fun hH => ?_
   try simp only [Act.put, qa, qb, qc]
   refine zh 6 13 (.tuple #[EV (fun _ => 0), .int .i64 17]) hH ?_
   refine zh 7 20 (EV (fun _ => 0)) hH ?_
   refine zh 8 21 (.int .i64 17) hH ?_
   refine zn 10 rfl fun K hK => ?_
   refine zu 0 rfl zt H.out rfl rfl rfl rfl ?_
   intro ws HS
   simp only [qb] at HS
   replace H := za HS
   refine zc hK (zb H 2) fun hH => ?_
   try simp only [qa]
   refine zh 11 7 (.int .i64 17) hH ?_
   refine zm ?_
   go_wp2_with fail
   go_meet
   exact ⟨g6, rfl, rfl, H.out⟩
 clear H
 obtain ⟨g6, rfl, rfl, HRR⟩ := hcut
 have H := za HRR
 clear HRR 
 go_wp2_with (first
  | ((with_reducible apply z2j); (case hgd | ho => exact rfl); intro _ _; go_simp)
  | ((with_reducible apply z0a H); (case hgd | ho | hx | hy => exact rfl); (case hi => repeat first|exact z5|apply z8); (case h1 => exact (DeK.none fun _ => 0)); clear H; intro ws H _ _; simp only [qb, qc] at H; go_simp))
 have V2 := za (DeK.none fun _ => 0)
 exact bodyPost_ret (z1x 3 z2w (z26 _) rfl _ H rfl rfl rfl) rfl ⟨_, rfl, V2.out, H.out.bel⟩
end Go.Proofs.YtgjbonikbmgfmaaGreatDoor
