/- Lemmas; no statement is proved here. -/
import Derived.Test.YtgjbonikbmgfmaaGreatDoorQD1
set_option maxRecDepth 8000
set_option maxHeartbeats 3200000
namespace Go.Proofs.YtgjbonikbmgfmaaGreatDoor
open Go.RowKit
theorem refOn14_k {X Y : K} {b : Bool} (w : World) (h : decide (X * X + Y * Y = zC (1) - zC (39081) * (X * X * (Y * Y))) = b) :
  Calls Tryz.prog 67 #[FV X.val, FV Y.val] w fun e w' => e = .returned (.bool b) ∧ Below w.heap.size w w' := by
 have HB := za h
 clear h
 have H := za (Ow.start w)
 go_enter Tryz.func67, Tryz.ntmps67
 go_upto_region 3 with (first
  | ((fail_if_success have := g2); (with_reducible apply zw H); (case hgd | ho | hx => exact rfl); clear H; intro w2 g2 H _ _; go_simp)
  | ((fail_if_success have := g3); (with_reducible apply zw H); (case hgd | ho | hx => exact rfl); clear H; intro w3 g3 H _ _; go_simp)
  | ((with_reducible apply zr z4 H); (case hgd | ho | hx => exact rfl); (case hi => repeat first|exact z5|apply z8); intro _ _; go_simp)
  | ((fail_if_success have := mk1); (with_reducible refine (z0d (X) (X) _).mono ?_); rintro e wc ⟨rfl, hb⟩; replace H := zd H hb; clear hb; have mk1 := trivial)
  | ((fail_if_success have := g5); (with_reducible apply ze zA.zero H); (case hgd | ho => exact rfl); clear H; intro w5 g5 H _ _; go_simp)
  | ((fail_if_success have := mk2); (with_reducible refine (z0d (Y) (Y) _).mono ?_); rintro e wc ⟨rfl, hb⟩; replace H := zd H hb; clear hb; have mk2 := trivial)
  | ((fail_if_success have := g6); (with_reducible apply ze zA.zero H); (case hgd | ho => exact rfl); clear H; intro w6 g6 H _ _; go_simp)
  | ((with_reducible apply zj z4 H); (case hgd | ho | hx | hy => exact rfl); (case hi => repeat first|exact z5|apply z8); clear H; intro ws H _ _; simp only [qb] at H; go_simp))
 clear mk1 mk2
 go_cut [7] from 14 to 19 (fun v7 wx => ∃ g7, v7 = .pointer (some ⟨g7, 0, none⟩) ∧ Ow w wx [(g7, zv 36 .i64 16 (dF (((zC (1)) - ((zC (39081)) * ((X * X) * (Y * Y))))).val)), (g6, zv 36 .i64 16 (dF ((Y * Y)).val)), (g5, zv 36 .i64 16 (dF ((X * X)).val)), (g3, zv 36 .i64 16 (dF (Y).val)), (g2, zv 36 .i64 16 (dF (X).val))])
 case first =>
  go_wp2_with fail
  refine wp_region_noPanic ?_
  refine wp_region_held_drew (S := fun W => W.heap[g5]? = some (zv 36 .i64 16 (dF ((X * X)).val)) ∧ W.heap[g6]? = some (zv 36 .i64 16 (dF ((Y * Y)).val))) (by kernel_rfl) (⟨H.out.drew.row 1 rfl, H.out.drew.row 0 rfl⟩) (fun hH => ?_)
  replace H := za H.out.drew
  generalize World.drew _ = w8 at *
  refine zk 2 16 z4 rfl rfl rfl hH rfl rfl (fun _ h => h.1) ?_
  refine zk 3 17 z4 rfl rfl rfl hH rfl rfl (fun _ h => h.2) ?_
  refine zK [0, 6] (zG rfl (fun K hK => ?_) (zG rfl (fun K hK => ?_) zJ))
  ·skip
   go_simp
   refine (z0p _ (1) (by omega) (by omega)).mono ?_
   rintro e wc ⟨rfl, hb⟩
   replace H := zd H hb
   refine zc hK ⟨zb H 1, zb H 0⟩ fun hH => ?_
   try simp only [Act.put, qa, qb, qc]
   refine zK [1, 6] (zG rfl (fun K hK => ?_) (zG rfl (fun K hK => ?_) zJ))
   ·skip
    go_simp
    refine (z0p _ (39081) (by omega) (by omega)).mono ?_
    rintro e wc ⟨rfl, hb⟩
    replace H := zd H hb
    refine zc hK ⟨zb H 1, zb H 0⟩ fun hH => zK [4, 6] (zG rfl (fun K hK => ?_) (zG rfl (fun K hK => ?_) zJ))
    ·skip
     go_simp
     refine (z0s _).mono ?_
     rintro e wc ⟨rfl, hb⟩
     replace H := zd H hb
     refine zc hK ⟨zb H 1, zb H 0⟩ fun hH => zK [5, 6] (zG rfl (fun K hK => ?_) (zG rfl (fun K hK => ?_) zJ))
     ·skip
      go_simp
      refine (z1r _ _ _).mono ?_
      rintro e wc ⟨rfl, hb⟩
      replace H := zd H hb
      refine zc hK ⟨zb H 1, zb H 0⟩ fun hH => ?_
      try simp only [Act.put, qa, qb, qc]
      refine zn 6 rfl fun K hK => ?_
      refine zg 7 rfl zA.zero H.out rfl ?_
      intro w7 g7 H3 hb
      replace H := za H3
      refine zc hK ⟨zb H 2, zb H 1⟩ fun hH => zn 7 rfl fun K hK => ?_
      refine zu 0 rfl z4 H.out rfl rfl rfl rfl ?_
      intro ws HS
      simp only [qb] at HS
      replace H := za HS
      refine zc hK ⟨zb H 2, zb H 1⟩ fun hH => ?_
      try simp only [qa]
      try simp only [Act.put]
      refine zm ?_
      go_wp2_with fail
      go_meet
      exact ⟨g7, rfl, H.out⟩
     ·skip
      refine zg 7 rfl zA.zero H.out rfl ?_
      intro w7 g7 H3 hb
      replace H := za H3
      refine zc hK ⟨zb H 2, zb H 1⟩ fun hH => zn 5 rfl fun K hK => ?_
      go_simp
      refine (z1r _ _ _).mono ?_
      rintro e wc ⟨rfl, hb⟩
      replace H := zd H hb
      refine zc hK ⟨zb H 2, zb H 1⟩ fun hH => ?_
      try simp only [Act.put, qa, qb, qc]
      refine zn 7 rfl fun K hK => ?_
      refine zu 0 rfl z4 H.out rfl rfl rfl rfl ?_
      intro ws HS
      simp only [qb] at HS
      replace H := za HS
      refine zc hK ⟨zb H 2, zb H 1⟩ fun hH => ?_
      try simp only [qa]
      try simp only [Act.put]
      refine zm ?_
      go_wp2_with fail
      go_meet
      exact ⟨g7, rfl, H.out⟩
    ·skip
     refine zg 7 rfl zA.zero H.out rfl ?_
     intro w7 g7 H3 hb
     replace H := za H3
     refine zc hK ⟨zb H 2, zb H 1⟩ fun hH => zn 4 rfl fun K hK => ?_
     go_simp
     refine (z0s _).mono ?_
     rintro e wc ⟨rfl, hb⟩
     replace H := zd H hb
     refine zc hK ⟨zb H 2, zb H 1⟩ fun hH => zn 5 rfl fun K hK => ?_
     go_simp
     refine (z1r _ _ _).mono ?_
     rintro e wc ⟨rfl, hb⟩
     replace H := zd H hb
     refine zc hK ⟨zb H 2, zb H 1⟩ fun hH => ?_
     try simp only [Act.put, qa, qb, qc]
     refine zn 7 rfl fun K hK => ?_
     refine zu 0 rfl z4 H.out rfl rfl rfl rfl ?_
     intro ws HS
     simp only [qb] at HS
     replace H := za HS
     refine zc hK ⟨zb H 2, zb H 1⟩ fun hH => ?_
     try simp only [qa]
     try simp only [Act.put]
     refine zm ?_
     go_wp2_with fail
     go_meet
     exact ⟨g7, rfl, H.out⟩
   ·skip
    refine zg 7 rfl zA.zero H.out rfl ?_
    intro w7 g7 H3 hb
    replace H := za H3
    refine zc hK ⟨zb H 2, zb H 1⟩ fun hH => zn 1 rfl fun K hK => ?_
    go_simp
    refine (z0p _ (39081) (by omega) (by omega)).mono ?_
    rintro e wc ⟨rfl, hb⟩
    replace H := zd H hb
    refine zc hK ⟨zb H 2, zb H 1⟩ fun hH => zn 4 rfl fun K hK => ?_
    go_simp
    refine (z0s _).mono ?_
    rintro e wc ⟨rfl, hb⟩
    replace H := zd H hb
    refine zc hK ⟨zb H 2, zb H 1⟩ fun hH => ?_
    try simp only [Act.put, qa, qb, qc]
    refine zn 5 rfl fun K hK => ?_
    go_simp
    refine (z1r _ _ _).mono ?_
    rintro e wc ⟨rfl, hb⟩
    replace H := zd H hb
    refine zc hK ⟨zb H 2, zb H 1⟩ fun hH => zn 7 rfl fun K hK => ?_
    refine zu 0 rfl z4 H.out rfl rfl rfl rfl ?_
    intro ws HS
    simp only [qb] at HS
    replace H := za HS
    refine zc hK ⟨zb H 2, zb H 1⟩ fun hH => ?_
    try simp only [qa]
    try simp only [Act.put]
    refine zm ?_
    go_wp2_with fail
    go_meet
    exact ⟨g7, rfl, H.out⟩
  ·skip
   refine zg 7 rfl zA.zero H.out rfl ?_
   intro w7 g7 H3 hb
   replace H := za H3
   refine zc hK ⟨zb H 2, zb H 1⟩ fun hH => zn 0 rfl fun K hK => ?_
   go_simp
   refine (z0p _ (1) (by omega) (by omega)).mono ?_
   rintro e wc ⟨rfl, hb⟩
   replace H := zd H hb
   refine zc hK ⟨zb H 2, zb H 1⟩ fun hH => ?_
   try simp only [Act.put, qa, qb, qc]
   refine zn 1 rfl fun K hK => ?_
   go_simp
   refine (z0p _ (39081) (by omega) (by omega)).mono ?_
   rintro e wc ⟨rfl, hb⟩
   replace H := zd H hb
   refine zc hK ⟨zb H 2, zb H 1⟩ fun hH => zn 4 rfl fun K hK => ?_
   go_simp
   refine (z0s _).mono ?_
   rintro e wc ⟨rfl, hb⟩
   replace H := zd H hb
   refine zc hK ⟨zb H 2, zb H 1⟩ fun hH => zn 5 rfl fun K hK => ?_
   go_simp
   refine (z1r _ _ _).mono ?_
   rintro e wc ⟨rfl, hb⟩
   replace H := zd H hb
   refine zc hK ⟨zb H 2, zb H 1⟩ fun hH => ?_
   try simp only [Act.put, qa, qb, qc]
   refine zn 7 rfl fun K hK => ?_
   refine zu 0 rfl z4 H.out rfl rfl rfl rfl ?_
   intro ws HS
   simp only [qb] at HS
   replace H := za HS
   refine zc hK ⟨zb H 2, zb H 1⟩ fun hH => ?_
   try simp only [qa]
   try simp only [Act.put]
   refine zm ?_
   go_wp2_with fail
   go_meet
   exact ⟨g7, rfl, H.out⟩
 clear H
 obtain ⟨g7, rfl, HRR⟩ := hcut
 have H := za HRR
 clear HRR 
 go_upto_region 4 with fail
 refine wp_region_noPanic ?_
 refine wp_region_held_drew (S := fun W => W.heap[g5]? = some (zv 36 .i64 16 (dF ((X * X)).val)) ∧ W.heap[g6]? = some (zv 36 .i64 16 (dF ((Y * Y)).val)) ∧ W.heap[g7]? = some (zv 36 .i64 16 (dF (((zC (1)) - ((zC (39081)) * ((X * X) * (Y * Y))))).val))) (by kernel_rfl) (⟨H.out.drew.row 2 rfl, H.out.drew.row 1 rfl, H.out.drew.row 0 rfl⟩) (fun hH => ?_)
 replace H := za H.out.drew
 generalize World.drew _ = w8 at *
 refine zk 0 20 z4 rfl rfl rfl hH rfl rfl (fun _ h => h.1) ?_
 refine zk 1 21 z4 rfl rfl rfl hH rfl rfl (fun _ h => h.2.1) ?_
 refine zk 3 23 z4 rfl rfl rfl hH rfl rfl (fun _ h => h.2.2) ?_
 try simp only [Act.put, qa, qb, qc]
 refine zn 2 rfl fun K hK => ?_
 go_simp
 refine (z1s _ _ _).mono ?_
 rintro e wc ⟨rfl, hb⟩
 replace H := zd H hb
 refine zc hK ⟨zb H 2, zb H 1, zb H 0⟩ fun hH => zn 4 rfl fun K hK => ?_
 go_simp
 refine (z9r _ _ _ HB.out).mono ?_
 rintro e wc ⟨rfl, hb⟩
 replace H := zd H hb
 refine zc hK ⟨zb H 2, zb H 1, zb H 0⟩ fun hH => ?_
 refine zh 5 4 (.bool b) hH ?_
 refine zm ?_
 go_wp2_with fail
 go_ret
 exact ⟨rfl, H.out.bel⟩
theorem rf_of {X Y : K} {P : Pt pN dK} (hx : X = P.x) (hy : Y = P.y) : RfK (t3 16 (dF X.val) (dF Y.val) (dF (zC (1) : K).val)) P :=
 ⟨X, Y, zC 1, rfl, by
  rw [z3o]
  exact ⟨by rw [hx]; grind, by rw [hy]; grind, z06 z0q⟩⟩
theorem refPoint_k {X Y : K} {P : Pt pN dK} (w : World) (hx : X = P.x) (hy : Y = P.y) :
  Calls Tryz.prog 68 #[FV X.val, FV Y.val] w fun e w' => ∃ r, e = .returned (QO r) ∧ RfK r P ∧ Below w.heap.size w w' := by
 have HR := za (rf_of hx hy)
 clear hx hy
 have H := za (Ow.start w)
 go_enter Tryz.func68, Tryz.ntmps68
 go_wp2_with (first
  | ((fail_if_success have := g2); (with_reducible apply zw H); (case hgd | ho | hx => exact rfl); clear H; intro w2 g2 H _ _; go_simp)
  | ((fail_if_success have := g3); (with_reducible apply zw H); (case hgd | ho | hx => exact rfl); clear H; intro w3 g3 H _ _; go_simp)
  | ((with_reducible apply ze z0w H); (case hgd | ho => exact rfl); clear H; intro _ _ H _ _; go_simp))
 refine wp_region_noPanic ?_
 refine wp_region_held_drew (S := fun W => W.heap[g2]? = some (zv 36 .i64 16 (dF (X).val)) ∧ W.heap[g3]? = some (zv 36 .i64 16 (dF (Y).val))) (by kernel_rfl) (⟨H.out.drew.row 2 rfl, H.out.drew.row 1 rfl⟩) (fun hH => ?_)
 replace H := za H.out.drew
 generalize World.drew _ = w8 at *
 refine zk 0 5 z4 rfl rfl rfl hH rfl rfl (fun _ h => h.1) ?_
 refine zk 1 6 z4 rfl rfl rfl hH rfl rfl (fun _ h => h.2) ?_
 refine zn 2 rfl fun K hK => ?_
 go_simp
 refine (z0p _ (1) (by omega) (by omega)).mono ?_
 rintro e wc ⟨rfl, hb⟩
 replace H := zd H hb
 refine zc hK ⟨zb H 2, zb H 1⟩ fun hH => ?_
 try simp only [Act.put, qa, qb, qc]
 refine z94 3 8 rfl rfl rfl hH rfl rfl rfl rfl ?_
 refine zn 4 rfl fun K hK => ?_
 refine zu 0 rfl zD H.out rfl rfl rfl rfl ?_
 intro ws HS
 simp only [qb] at HS
 replace H := za HS
 refine zc hK ⟨zb H 2, zb H 1⟩ fun hH => ?_
 try simp only [qa]
 try simp only [Act.put]
 refine zm ?_
 go_wp2_with fail
 exact bodyPost_ret (zy 0 zD rfl _ H rfl rfl) rfl ⟨_, rfl, HR.out, H.out.bel⟩
end Go.Proofs.YtgjbonikbmgfmaaGreatDoor
