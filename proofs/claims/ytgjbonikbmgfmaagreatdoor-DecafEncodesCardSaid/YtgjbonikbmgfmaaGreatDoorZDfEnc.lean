/- Lemmas; no statement is proved here. -/
import Derived.Test.YtgjbonikbmgfmaaGreatDoorQAdem2
import Derived.Test.YtgjbonikbmgfmaaGreatDoorZElB
import Derived.Test.YtgjbonikbmgfmaaGreatDoorZRtRrat
set_option maxRecDepth 8000
set_option maxHeartbeats 12800000
namespace Go.Proofs.YtgjbonikbmgfmaaGreatDoor
open Go.RowKit
theorem refBytes_gb (x : K) (w : World) {B : Nat} (hB : B ≤ w.heap.size) :
  Calls Tryz.prog 57 #[FV x.val] w fun e w' => ∃ g c cur, e = .returned (.slice (some ⟨g, 0, none⟩) 56 c) ∧ B ≤ g ∧ w'.heap[g]? = some (.cells cur 5) ∧ Sb w' w'.heap.size (some ⟨g, 0, none⟩) 56 c x.val ∧ Below w.heap.size w w' :=
 (z4j x.val w).mono fun e w' ⟨v, B', he, h1, _, ho, hb⟩ => by
  obtain ⟨g, c, cur, rfl, hg, hrow, hsl⟩ := ho.sl (by omega)
  exact ⟨g, c, cur, he, by omega, hrow, ⟨by rw [← y4l]; exact hsl, y23 x⟩, hb⟩
theorem z74 {v : Nat → Int} {P : Pt pN dK} (w : World) (hp : RfK v P) :
  Calls Tryz.prog 12 #[QO v] w fun e w' => ∃ g c cur, e = .returned (.slice (some ⟨g, 0, none⟩) 56 c) ∧ w.heap.size ≤ g ∧ w'.heap[g]? = some (.cells cur 5) ∧ Sb w' w'.heap.size (some ⟨g, 0, none⟩) 56 c (encK P).val ∧ Below w.heap.size w w' := by
 have HA := za (fun w => z0k w hp)
 obtain ⟨X, hX⟩ : ∃ X, P.x = X := ⟨_, rfl⟩
 obtain ⟨Y, hY⟩ : ∃ Y, P.y = Y := ⟨_, rfl⟩
 have HE : Hid (∀ r w : K, r = ab (zL eC (zC 1) (zC 39082 * ((X + X * Y) * (X - X * Y) * (X * X)))) → w = ab (r * ((X + X * Y) * (X - X * Y) * eR)) → ab (zC 39082 * (r * (X * (fR * w - X * Y)))) = encK P) := za (fun r w h1 h2 => by
  have := y9d X Y r w h1 h2
  rw [this, ← hX, ← hY]
  rfl)
 rw [hX, hY] at HA
 clear hX hY hp
 have H := za (Ow.start w)
 go_enter Tryz.func12, Tryz.ntmps12
 go_upto_region 3 with (first
  | ((fail_if_success have := g1); (with_reducible apply zw H); (case hgd | ho | hx => exact rfl); clear H; intro w1 g1 H _ _; go_simp)
  | ((with_reducible apply zr zD H); (case hgd | ho | hx => exact rfl); (case hi => repeat first|exact z5|apply z8); intro _ _; go_simp)
  | ((fail_if_success have := mk1); (with_reducible refine (HA.out _).mono ?_); rintro e wc ⟨rfl, hb⟩; replace H := zd H hb; clear hb; have mk1 := trivial)
  | ((fail_if_success have := g3); (with_reducible apply ze zA.zero H); (case hgd | ho => exact rfl); clear H; intro w3 g3 H _ _; go_simp)
  | ((fail_if_success have := g4); (with_reducible apply ze zA.zero H); (case hgd | ho => exact rfl); clear H; intro w4 g4 H _ _; go_simp)
  | ((with_reducible apply zr z4 H); (case hgd | ho | hx => exact rfl); (case hi => repeat first|exact z5|apply z8); intro _ _; go_simp)
  | ((fail_if_success have := mk2); (with_reducible refine (z0d (X) (Y) _).mono ?_); rintro e wc ⟨rfl, hb⟩; replace H := zd H hb; clear hb; have mk2 := trivial)
  | ((fail_if_success have := g5); (with_reducible apply ze zA.zero H); (case hgd | ho => exact rfl); clear H; intro w5 g5 H _ _; go_simp)
  | ((with_reducible apply zj z4 H); (case hgd | ho | hx | hy => exact rfl); (case hi => repeat first|exact z5|apply z8); clear H; intro ws H _ _; simp only [qb, qc] at H; go_simp))
 clear mk1 mk2
 go_cut [6] from 22 to 28 (fun v6 wx => ∃ g6, v6 = .pointer (some ⟨g6, 0, none⟩) ∧ Ow w wx [(g6, zv 36 .i64 16 (dF (((X + (X * Y)) * (X - (X * Y)))).val)), (g5, zv 36 .i64 16 (dF ((X * Y)).val)), (g4, zv 36 .i64 16 (dF (Y).val)), (g3, zv 36 .i64 16 (dF (X).val)), (g1, zv 38 .i64 48 (v))])
 case first =>
  go_wp2_with fail
  refine wp_region_noPanic ?_
  refine wp_region_held_drew (S := fun W => W.heap[g3]? = some (zv 36 .i64 16 (dF (X).val)) ∧ W.heap[g5]? = some (zv 36 .i64 16 (dF ((X * Y)).val))) (by kernel_rfl) (⟨H.out.drew.row 2 rfl, H.out.drew.row 0 rfl⟩) (fun hH => ?_)
  replace H := za H.out.drew
  generalize World.drew _ = w8 at *
  refine zk 0 22 z4 rfl rfl rfl hH rfl rfl (fun _ h => h.1) ?_
  refine zk 1 23 z4 rfl rfl rfl hH rfl rfl (fun _ h => h.2) ?_
  refine zk 3 25 z4 rfl rfl rfl hH rfl rfl (fun _ h => h.1) ?_
  try simp only [Act.put, qa, qb, qc]
  refine zk 4 26 z4 rfl rfl rfl hH rfl rfl (fun _ h => h.2) ?_
  refine zK [2, 7] (zG rfl (fun K hK => ?_) (zG rfl (fun K hK => ?_) zJ))
  ·skip
   go_simp
   refine (z1s _ _ _).mono ?_
   rintro e wc ⟨rfl, hb⟩
   replace H := zd H hb
   refine zc hK ⟨zb H 2, zb H 0⟩ fun hH => zK [5, 7] (zG rfl (fun K hK => ?_) (zG rfl (fun K hK => ?_) zJ))
   ·skip
    go_simp
    refine (z1r _ _ _).mono ?_
    rintro e wc ⟨rfl, hb⟩
    replace H := zd H hb
    refine zc hK ⟨zb H 2, zb H 0⟩ fun hH => ?_
    try simp only [Act.put, qa, qb, qc]
    refine zK [6, 7] (zG rfl (fun K hK => ?_) (zG rfl (fun K hK => ?_) zJ))
    ·skip
     go_simp
     refine (z0d _ _ _).mono ?_
     rintro e wc ⟨rfl, hb⟩
     replace H := zd H hb
     refine zc hK ⟨zb H 2, zb H 0⟩ fun hH => zn 7 rfl fun K hK => ?_
     refine zg 6 rfl zA.zero H.out rfl ?_
     intro w6 g6 H3 hb
     replace H := za H3
     refine zc hK ⟨zb H 3, zb H 1⟩ fun hH => zn 8 rfl fun K hK => ?_
     refine zu 0 rfl z4 H.out rfl rfl rfl rfl ?_
     intro ws HS
     simp only [qb] at HS
     replace H := za HS
     refine zc hK ⟨zb H 3, zb H 1⟩ fun hH => ?_
     try simp only [qa]
     try simp only [Act.put]
     refine zm ?_
     go_wp2_with fail
     go_meet
     exact ⟨g6, rfl, H.out⟩
    ·skip
     refine zg 6 rfl zA.zero H.out rfl ?_
     intro w6 g6 H3 hb
     replace H := za H3
     refine zc hK ⟨zb H 3, zb H 1⟩ fun hH => ?_
     try simp only [Act.put, qa, qb, qc]
     refine zn 6 rfl fun K hK => ?_
     go_simp
     refine (z0d _ _ _).mono ?_
     rintro e wc ⟨rfl, hb⟩
     replace H := zd H hb
     refine zc hK ⟨zb H 3, zb H 1⟩ fun hH => zn 8 rfl fun K hK => ?_
     refine zu 0 rfl z4 H.out rfl rfl rfl rfl ?_
     intro ws HS
     simp only [qb] at HS
     replace H := za HS
     refine zc hK ⟨zb H 3, zb H 1⟩ fun hH => ?_
     try simp only [qa]
     try simp only [Act.put]
     refine zm ?_
     go_wp2_with fail
     go_meet
     exact ⟨g6, rfl, H.out⟩
   ·skip
    refine zg 6 rfl zA.zero H.out rfl ?_
    intro w6 g6 H3 hb
    replace H := za H3
    refine zc hK ⟨zb H 3, zb H 1⟩ fun hH => zn 5 rfl fun K hK => ?_
    go_simp
    refine (z1r _ _ _).mono ?_
    rintro e wc ⟨rfl, hb⟩
    replace H := zd H hb
    refine zc hK ⟨zb H 3, zb H 1⟩ fun hH => ?_
    try simp only [Act.put, qa, qb, qc]
    refine zn 6 rfl fun K hK => ?_
    go_simp
    refine (z0d _ _ _).mono ?_
    rintro e wc ⟨rfl, hb⟩
    replace H := zd H hb
    refine zc hK ⟨zb H 3, zb H 1⟩ fun hH => zn 8 rfl fun K hK => ?_
    refine zu 0 rfl z4 H.out rfl rfl rfl rfl ?_
    intro ws HS
    simp only [qb] at HS
    replace H := za HS
    refine zc hK ⟨zb H 3, zb H 1⟩ fun hH => ?_
    try simp only [qa]
    try simp only [Act.put]
    refine zm ?_
    go_wp2_with fail
    go_meet
    exact ⟨g6, rfl, H.out⟩
  ·skip
   refine zg 6 rfl zA.zero H.out rfl ?_
   intro w6 g6 H3 hb
   replace H := za H3
   refine zc hK ⟨zb H 3, zb H 1⟩ fun hH => zn 2 rfl fun K hK => ?_
   go_simp
   refine (z1s _ _ _).mono ?_
   rintro e wc ⟨rfl, hb⟩
   replace H := zd H hb
   refine zc hK ⟨zb H 3, zb H 1⟩ fun hH => ?_
   try simp only [Act.put, qa, qb, qc]
   refine zn 5 rfl fun K hK => ?_
   go_simp
   refine (z1r _ _ _).mono ?_
   rintro e wc ⟨rfl, hb⟩
   replace H := zd H hb
   refine zc hK ⟨zb H 3, zb H 1⟩ fun hH => zn 6 rfl fun K hK => ?_
   go_simp
   refine (z0d _ _ _).mono ?_
   rintro e wc ⟨rfl, hb⟩
   replace H := zd H hb
   refine zc hK ⟨zb H 3, zb H 1⟩ fun hH => zn 8 rfl fun K hK => ?_
   refine zu 0 rfl z4 H.out rfl rfl rfl rfl ?_
   intro ws HS
   simp only [qb] at HS
   replace H := za HS
   refine zc hK ⟨zb H 3, zb H 1⟩ fun hH => ?_
   try simp only [qa]
   try simp only [Act.put]
   refine zm ?_
   go_wp2_with fail
   go_meet
   exact ⟨g6, rfl, H.out⟩
 clear H
 obtain ⟨g6, rfl, HRR⟩ := hcut
 have H := za HRR
 clear HRR 
 go_upto_region 5 with (first
  | ((fail_if_success have := mk3); (with_reducible refine (z0p _ (39082) (by omega) (by omega)).mono ?_); rintro e wc ⟨rfl, hb⟩; replace H := zd H hb; clear hb; have mk3 := trivial)
  | ((fail_if_success have := g7); (with_reducible apply ze zA.zero H); (case hgd | ho => exact rfl); clear H; intro w7 g7 H _ _; go_simp)
  | ((with_reducible apply zj z4 H); (case hgd | ho | hx | hy => exact rfl); (case hi => repeat first|exact z5|apply z8); clear H; intro ws H _ _; simp only [qb] at H; go_simp))
 clear mk3
 go_cut [8, 9] from 30 to 40 (fun v8 v9 wx => ∃ g8, v8 = .pointer (some ⟨g8, 0, none⟩) ∧ v9 = (.bool (decide ((zC (39082) * (((X + (X * Y)) * (X - (X * Y))) * (X * X))) * (zL eC (zC (1)) (zC (39082) * (((X + (X * Y)) * (X - (X * Y))) * (X * X))) * zL eC (zC (1)) (zC (39082) * (((X + (X * Y)) * (X - (X * Y))) * (X * X)))) = (zC (1))))) ∧ Ow w wx [(g8, zv 36 .i64 16 (dF ((ab (zL eC (zC (1)) ((zC (39082)) * (((X + (X * Y)) * (X - (X * Y))) * (X * X)))))).val)), (g7, zv 36 .i64 16 (dF ((zC (39082))).val)), (g6, zv 36 .i64 16 (dF (((X + (X * Y)) * (X - (X * Y)))).val)), (g5, zv 36 .i64 16 (dF ((X * Y)).val)), (g4, zv 36 .i64 16 (dF (Y).val)), (g3, zv 36 .i64 16 (dF (X).val)), (g1, zv 38 .i64 48 (v))])
 case first =>
  go_wp2_with fail
  refine wp_region_noPanic ?_
  refine wp_region_held_drew (S := fun W => W.heap[g7]? = some (zv 36 .i64 16 (dF ((zC (39082))).val)) ∧ W.heap[g6]? = some (zv 36 .i64 16 (dF (((X + (X * Y)) * (X - (X * Y)))).val)) ∧ W.heap[g3]? = some (zv 36 .i64 16 (dF (X).val))) (by kernel_rfl) (⟨H.out.drew.row 0 rfl, H.out.drew.row 1 rfl, H.out.drew.row 4 rfl⟩) (fun hH => ?_)
  replace H := za H.out.drew
  generalize World.drew _ = w8 at *
  refine zk 1 32 z4 rfl rfl rfl hH rfl rfl (fun _ h => h.1) ?_
  try simp only [Act.put, qa, qb, qc]
  refine zk 2 33 z4 rfl rfl rfl hH rfl rfl (fun _ h => h.2.1) ?_
  refine zk 3 34 z4 rfl rfl rfl hH rfl rfl (fun _ h => h.2.2) ?_
  refine zk 4 35 z4 rfl rfl rfl hH rfl rfl (fun _ h => h.2.2) ?_
  try simp only [Act.put, qa, qb, qc]
  refine zK [0, 11] (zG rfl (fun K hK => ?_) (zG rfl (fun K hK => ?_) zJ))
  ·skip
   go_simp
   refine (z0p _ (1) (by omega) (by omega)).mono ?_
   rintro e wc ⟨rfl, hb⟩
   replace H := zd H hb
   refine zc hK ⟨zb H 0, zb H 1, zb H 4⟩ fun hH => zK [5, 11] (zG rfl (fun K hK => ?_) (zG rfl (fun K hK => ?_) zJ))
   ·skip
    go_simp
    refine (z0d _ _ _).mono ?_
    rintro e wc ⟨rfl, hb⟩
    replace H := zd H hb
    refine zc hK ⟨zb H 0, zb H 1, zb H 4⟩ fun hH => zK [6, 11] (zG rfl (fun K hK => ?_) (zG rfl (fun K hK => ?_) zJ))
    ·skip
     go_simp
     refine (z0s _).mono ?_
     rintro e wc ⟨rfl, hb⟩
     replace H := zd H hb
     refine zc hK ⟨zb H 0, zb H 1, zb H 4⟩ fun hH => ?_
     try simp only [Act.put, qa, qb, qc]
     refine zK [7, 11] (zG rfl (fun K hK => ?_) (zG rfl (fun K hK => ?_) zJ))
     ·skip
      go_simp
      refine (z3z _).mono ?_
      rintro e wc ⟨rfl, hb⟩
      replace H := zd H hb
      refine zc hK ⟨zb H 0, zb H 1, zb H 4⟩ fun hH => ?_
      refine zh 8 30 (.tuple #[FV ((ab (zL eC (zC (1)) ((zC (39082)) * (((X + (X * Y)) * (X - (X * Y))) * (X * X)))))).val, .bool (decide (((zC (39082)) * (((X + (X * Y)) * (X - (X * Y))) * (X * X))) * (zL eC (zC (1)) ((zC (39082)) * (((X + (X * Y)) * (X - (X * Y))) * (X * X))) * zL eC (zC (1)) ((zC (39082)) * (((X + (X * Y)) * (X - (X * Y))) * (X * X)))) = (zC (1))))]) hH ?_
      refine zh 9 39 (FV ((ab (zL eC (zC (1)) ((zC (39082)) * (((X + (X * Y)) * (X - (X * Y))) * (X * X)))))).val) hH ?_
      refine zh 10 40 (.bool (decide (((zC (39082)) * (((X + (X * Y)) * (X - (X * Y))) * (X * X))) * (zL eC (zC (1)) ((zC (39082)) * (((X + (X * Y)) * (X - (X * Y))) * (X * X))) * zL eC (zC (1)) ((zC (39082)) * (((X + (X * Y)) * (X - (X * Y))) * (X * X)))) = (zC (1))))) hH ?_
      refine zn 11 rfl fun K hK => ?_
      refine zg 8 rfl zA.zero H.out rfl ?_
      intro w8 g8 H3 hb
      replace H := za H3
      refine zc hK ⟨zb H 1, zb H 2, zb H 5⟩ fun hH => zn 12 rfl fun K hK => ?_
      refine zu 0 rfl z4 H.out rfl rfl rfl rfl ?_
      intro ws HS
      simp only [qb] at HS
      replace H := za HS
      refine zc hK ⟨zb H 1, zb H 2, zb H 5⟩ fun hH => ?_
      try simp only [qa]
      refine zh 13 9 (.bool (decide (((zC (39082)) * (((X + (X * Y)) * (X - (X * Y))) * (X * X))) * (zL eC (zC (1)) ((zC (39082)) * (((X + (X * Y)) * (X - (X * Y))) * (X * X))) * zL eC (zC (1)) ((zC (39082)) * (((X + (X * Y)) * (X - (X * Y))) * (X * X)))) = (zC (1))))) hH ?_
      refine zm ?_
      go_wp2_with fail
      go_meet
      exact ⟨g8, rfl, rfl, H.out⟩
     ·skip
      refine zg 8 rfl zA.zero H.out rfl ?_
      intro w8 g8 H3 hb
      replace H := za H3
      refine zc hK ⟨zb H 1, zb H 2, zb H 5⟩ fun hH => zn 7 rfl fun K hK => ?_
      go_simp
      refine (z3z _).mono ?_
      rintro e wc ⟨rfl, hb⟩
      replace H := zd H hb
      refine zc hK ⟨zb H 1, zb H 2, zb H 5⟩ fun hH => ?_
      refine zh 8 30 (.tuple #[FV ((ab (zL eC (zC (1)) ((zC (39082)) * (((X + (X * Y)) * (X - (X * Y))) * (X * X)))))).val, .bool (decide (((zC (39082)) * (((X + (X * Y)) * (X - (X * Y))) * (X * X))) * (zL eC (zC (1)) ((zC (39082)) * (((X + (X * Y)) * (X - (X * Y))) * (X * X))) * zL eC (zC (1)) ((zC (39082)) * (((X + (X * Y)) * (X - (X * Y))) * (X * X)))) = (zC (1))))]) hH ?_
      refine zh 9 39 (FV ((ab (zL eC (zC (1)) ((zC (39082)) * (((X + (X * Y)) * (X - (X * Y))) * (X * X)))))).val) hH ?_
      refine zh 10 40 (.bool (decide (((zC (39082)) * (((X + (X * Y)) * (X - (X * Y))) * (X * X))) * (zL eC (zC (1)) ((zC (39082)) * (((X + (X * Y)) * (X - (X * Y))) * (X * X))) * zL eC (zC (1)) ((zC (39082)) * (((X + (X * Y)) * (X - (X * Y))) * (X * X)))) = (zC (1))))) hH ?_
      refine zn 12 rfl fun K hK => ?_
      refine zu 0 rfl z4 H.out rfl rfl rfl rfl ?_
      intro ws HS
      simp only [qb] at HS
      replace H := za HS
      refine zc hK ⟨zb H 1, zb H 2, zb H 5⟩ fun hH => ?_
      try simp only [qa]
      refine zh 13 9 (.bool (decide (((zC (39082)) * (((X + (X * Y)) * (X - (X * Y))) * (X * X))) * (zL eC (zC (1)) ((zC (39082)) * (((X + (X * Y)) * (X - (X * Y))) * (X * X))) * zL eC (zC (1)) ((zC (39082)) * (((X + (X * Y)) * (X - (X * Y))) * (X * X)))) = (zC (1))))) hH ?_
      refine zm ?_
      go_wp2_with fail
      go_meet
      exact ⟨g8, rfl, rfl, H.out⟩
    ·skip
     refine zg 8 rfl zA.zero H.out rfl ?_
     intro w8 g8 H3 hb
     replace H := za H3
     refine zc hK ⟨zb H 1, zb H 2, zb H 5⟩ fun hH => zn 6 rfl fun K hK => ?_
     go_simp
     refine (z0s _).mono ?_
     rintro e wc ⟨rfl, hb⟩
     replace H := zd H hb
     refine zc hK ⟨zb H 1, zb H 2, zb H 5⟩ fun hH => zn 7 rfl fun K hK => ?_
     go_simp
     refine (z3z _).mono ?_
     rintro e wc ⟨rfl, hb⟩
     replace H := zd H hb
     refine zc hK ⟨zb H 1, zb H 2, zb H 5⟩ fun hH => ?_
     try simp only [Act.put, qa, qb, qc]
     refine zh 8 30 (.tuple #[FV ((ab (zL eC (zC (1)) ((zC (39082)) * (((X + (X * Y)) * (X - (X * Y))) * (X * X)))))).val, .bool (decide (((zC (39082)) * (((X + (X * Y)) * (X - (X * Y))) * (X * X))) * (zL eC (zC (1)) ((zC (39082)) * (((X + (X * Y)) * (X - (X * Y))) * (X * X))) * zL eC (zC (1)) ((zC (39082)) * (((X + (X * Y)) * (X - (X * Y))) * (X * X)))) = (zC (1))))]) hH ?_
     refine zh 9 39 (FV ((ab (zL eC (zC (1)) ((zC (39082)) * (((X + (X * Y)) * (X - (X * Y))) * (X * X)))))).val) hH ?_
     refine zh 10 40 (.bool (decide (((zC (39082)) * (((X + (X * Y)) * (X - (X * Y))) * (X * X))) * (zL eC (zC (1)) ((zC (39082)) * (((X + (X * Y)) * (X - (X * Y))) * (X * X))) * zL eC (zC (1)) ((zC (39082)) * (((X + (X * Y)) * (X - (X * Y))) * (X * X)))) = (zC (1))))) hH ?_
     refine zn 12 rfl fun K hK => ?_
     refine zu 0 rfl z4 H.out rfl rfl rfl rfl ?_
     intro ws HS
     simp only [qb] at HS
     replace H := za HS
     refine zc hK ⟨zb H 1, zb H 2, zb H 5⟩ fun hH => ?_
     try simp only [qa]
     refine zh 13 9 (.bool (decide (((zC (39082)) * (((X + (X * Y)) * (X - (X * Y))) * (X * X))) * (zL eC (zC (1)) ((zC (39082)) * (((X + (X * Y)) * (X - (X * Y))) * (X * X))) * zL eC (zC (1)) ((zC (39082)) * (((X + (X * Y)) * (X - (X * Y))) * (X * X)))) = (zC (1))))) hH ?_
     refine zm ?_
     go_wp2_with fail
     go_meet
     exact ⟨g8, rfl, rfl, H.out⟩
   ·skip
    refine zg 8 rfl zA.zero H.out rfl ?_
    intro w8 g8 H3 hb
    replace H := za H3
    refine zc hK ⟨zb H 1, zb H 2, zb H 5⟩ fun hH => zn 5 rfl fun K hK => ?_
    go_simp
    refine (z0d _ _ _).mono ?_
    rintro e wc ⟨rfl, hb⟩
    replace H := zd H hb
    refine zc hK ⟨zb H 1, zb H 2, zb H 5⟩ fun hH => zn 6 rfl fun K hK => ?_
    go_simp
    refine (z0s _).mono ?_
    rintro e wc ⟨rfl, hb⟩
    replace H := zd H hb
    refine zc hK ⟨zb H 1, zb H 2, zb H 5⟩ fun hH => ?_
    try simp only [Act.put, qa, qb, qc]
    refine zn 7 rfl fun K hK => ?_
    go_simp
    refine (z3z _).mono ?_
    rintro e wc ⟨rfl, hb⟩
    replace H := zd H hb
    refine zc hK ⟨zb H 1, zb H 2, zb H 5⟩ fun hH => ?_
    refine zh 8 30 (.tuple #[FV ((ab (zL eC (zC (1)) ((zC (39082)) * (((X + (X * Y)) * (X - (X * Y))) * (X * X)))))).val, .bool (decide (((zC (39082)) * (((X + (X * Y)) * (X - (X * Y))) * (X * X))) * (zL eC (zC (1)) ((zC (39082)) * (((X + (X * Y)) * (X - (X * Y))) * (X * X))) * zL eC (zC (1)) ((zC (39082)) * (((X + (X * Y)) * (X - (X * Y))) * (X * X)))) = (zC (1))))]) hH ?_
    refine zh 9 39 (FV ((ab (zL eC (zC (1)) ((zC (39082)) * (((X + (X * Y)) * (X - (X * Y))) * (X * X)))))).val) hH ?_
    refine zh 10 40 (.bool (decide (((zC (39082)) * (((X + (X * Y)) * (X - (X * Y))) * (X * X))) * (zL eC (zC (1)) ((zC (39082)) * (((X + (X * Y)) * (X - (X * Y))) * (X * X))) * zL eC (zC (1)) ((zC (39082)) * (((X + (X * Y)) * (X - (X * Y))) * (X * X)))) = (zC (1))))) hH ?_
    refine zn 12 rfl fun K hK => ?_
    refine zu 0 rfl z4 H.out rfl rfl rfl rfl ?_
    intro ws HS
    simp only [qb] at HS
    replace H := za HS
    refine zc hK ⟨zb H 1, zb H 2, zb H 5⟩ fun hH => ?_
    try simp only [qa]
    refine zh 13 9 (.bool (decide (((zC (39082)) * (((X + (X * Y)) * (X - (X * Y))) * (X * X))) * (zL eC (zC (1)) ((zC (39082)) * (((X + (X * Y)) * (X - (X * Y))) * (X * X))) * zL eC (zC (1)) ((zC (39082)) * (((X + (X * Y)) * (X - (X * Y))) * (X * X)))) = (zC (1))))) hH ?_
    refine zm ?_
    go_wp2_with fail
    go_meet
    exact ⟨g8, rfl, rfl, H.out⟩
  ·skip
   refine zg 8 rfl zA.zero H.out rfl ?_
   intro w8 g8 H3 hb
   replace H := za H3
   refine zc hK ⟨zb H 1, zb H 2, zb H 5⟩ fun hH => zn 0 rfl fun K hK => ?_
   go_simp
   refine (z0p _ (1) (by omega) (by omega)).mono ?_
   rintro e wc ⟨rfl, hb⟩
   replace H := zd H hb
   refine zc hK ⟨zb H 1, zb H 2, zb H 5⟩ fun hH => zn 5 rfl fun K hK => ?_
   go_simp
   refine (z0d _ _ _).mono ?_
   rintro e wc ⟨rfl, hb⟩
   replace H := zd H hb
   refine zc hK ⟨zb H 1, zb H 2, zb H 5⟩ fun hH => ?_
   try simp only [Act.put, qa, qb, qc]
   refine zn 6 rfl fun K hK => ?_
   go_simp
   refine (z0s _).mono ?_
   rintro e wc ⟨rfl, hb⟩
   replace H := zd H hb
   refine zc hK ⟨zb H 1, zb H 2, zb H 5⟩ fun hH => zn 7 rfl fun K hK => ?_
   go_simp
   refine (z3z _).mono ?_
   rintro e wc ⟨rfl, hb⟩
   replace H := zd H hb
   refine zc hK ⟨zb H 1, zb H 2, zb H 5⟩ fun hH => ?_
   refine zh 8 30 (.tuple #[FV ((ab (zL eC (zC (1)) ((zC (39082)) * (((X + (X * Y)) * (X - (X * Y))) * (X * X)))))).val, .bool (decide (((zC (39082)) * (((X + (X * Y)) * (X - (X * Y))) * (X * X))) * (zL eC (zC (1)) ((zC (39082)) * (((X + (X * Y)) * (X - (X * Y))) * (X * X))) * zL eC (zC (1)) ((zC (39082)) * (((X + (X * Y)) * (X - (X * Y))) * (X * X)))) = (zC (1))))]) hH ?_
   refine zh 9 39 (FV ((ab (zL eC (zC (1)) ((zC (39082)) * (((X + (X * Y)) * (X - (X * Y))) * (X * X)))))).val) hH ?_
   refine zh 10 40 (.bool (decide (((zC (39082)) * (((X + (X * Y)) * (X - (X * Y))) * (X * X))) * (zL eC (zC (1)) ((zC (39082)) * (((X + (X * Y)) * (X - (X * Y))) * (X * X))) * zL eC (zC (1)) ((zC (39082)) * (((X + (X * Y)) * (X - (X * Y))) * (X * X)))) = (zC (1))))) hH ?_
   refine zn 12 rfl fun K hK => ?_
   refine zu 0 rfl z4 H.out rfl rfl rfl rfl ?_
   intro ws HS
   simp only [qb] at HS
   replace H := za HS
   refine zc hK ⟨zb H 1, zb H 2, zb H 5⟩ fun hH => ?_
   try simp only [qa]
   refine zh 13 9 (.bool (decide (((zC (39082)) * (((X + (X * Y)) * (X - (X * Y))) * (X * X))) * (zL eC (zC (1)) ((zC (39082)) * (((X + (X * Y)) * (X - (X * Y))) * (X * X))) * zL eC (zC (1)) ((zC (39082)) * (((X + (X * Y)) * (X - (X * Y))) * (X * X)))) = (zC (1))))) hH ?_
   refine zm ?_
   go_wp2_with fail
   go_meet
   exact ⟨g8, rfl, rfl, H.out⟩
 clear H
 obtain ⟨g8, rfl, rfl, HRR⟩ := hcut
 have H := za HRR
 clear HRR 
 obtain ⟨r, hr⟩ : ∃ r, ab (zL eC (zC (1)) (zC (39082) * (((X + (X * Y)) * (X - (X * Y))) * (X * X)))) = r := ⟨_, rfl⟩
 rw [hr] at H
 obtain ⟨q, hq⟩ : ∃ q, ab (r * (((X + (X * Y)) * (X - (X * Y))) * eR)) = q := ⟨_, rfl⟩
 have HF := za (HE.out r q hr.symm hq.symm)
 have HQ := za hq
 clear hr hq HE
 go_upto_region 8 with (first
  | ((fail_if_success have := mk4); (with_reducible refine (y0v _).mono ?_); rintro e wc ⟨rfl, hb⟩; replace H := zd H hb; clear hb; have mk4 := trivial)
  | ((fail_if_success have := g10); (with_reducible apply ze zA.zero H); (case hgd | ho => exact rfl); clear H; intro w10 g10 H _ _; go_simp)
  | ((fail_if_success have := g11); (with_reducible apply ze zA.zero H); (case hgd | ho => exact rfl); clear H; intro w11 g11 H _ _; go_simp)
  | ((with_reducible apply zj z4 H); (case hgd | ho | hx | hy => exact rfl); (case hi => repeat first|exact z5|apply z8); clear H; intro ws H _ _; simp only [qb, qc] at H; go_simp)
  | ((with_reducible apply zr z4 H); (case hgd | ho | hx => exact rfl); (case hi => repeat first|exact z5|apply z8); intro _ _; go_simp)
  | ((fail_if_success have := mk5); (with_reducible refine (z0s _).mono ?_); rintro e wc ⟨rfl, hb⟩; replace H := zd H hb; clear hb; have mk5 := trivial)
  | ((fail_if_success have := mk6); (with_reducible refine (z85 _).mono ?_); rw [HQ.out]; rintro e wc ⟨rfl, hb⟩; replace H := zd H hb; clear hb; have mk6 := trivial)
  | ((fail_if_success have := g12); (with_reducible apply ze zA.zero H); (case hgd | ho => exact rfl); clear H; intro w12 g12 H _ _; go_simp))
 clear mk4 mk5 mk6
 go_cut [13] from 50 to 54 (fun v13 wx => ∃ g13, v13 = .pointer (some ⟨g13, 0, none⟩) ∧ Ow w wx [(g13, zv 36 .i64 16 (dF (((fR * q) - (X * Y))).val)), (g12, zv 36 .i64 16 (dF (q).val)), (g11, zv 36 .i64 16 (dF (fR).val)), (g10, zv 36 .i64 16 (dF (eR).val)), (g8, zv 36 .i64 16 (dF (r).val)), (g7, zv 36 .i64 16 (dF ((zC (39082))).val)), (g6, zv 36 .i64 16 (dF (((X + (X * Y)) * (X - (X * Y)))).val)), (g5, zv 36 .i64 16 (dF ((X * Y)).val)), (g4, zv 36 .i64 16 (dF (Y).val)), (g3, zv 36 .i64 16 (dF (X).val)), (g1, zv 38 .i64 48 (v))])
 case first =>
  go_wp2_with fail
  refine wp_region_noPanic ?_
  refine wp_region_held_drew (S := fun W => W.heap[g11]? = some (zv 36 .i64 16 (dF (fR).val)) ∧ W.heap[g12]? = some (zv 36 .i64 16 (dF (q).val)) ∧ W.heap[g5]? = some (zv 36 .i64 16 (dF ((X * Y)).val))) (by kernel_rfl) (⟨H.out.drew.row 1 rfl, H.out.drew.row 0 rfl, H.out.drew.row 6 rfl⟩) (fun hH => ?_)
  replace H := za H.out.drew
  generalize World.drew _ = w8 at *
  refine zk 0 50 z4 rfl rfl rfl hH rfl rfl (fun _ h => h.1) ?_
  refine zk 1 51 z4 rfl rfl rfl hH rfl rfl (fun _ h => h.2.1) ?_
  refine zk 3 53 z4 rfl rfl rfl hH rfl rfl (fun _ h => h.2.2) ?_
  try simp only [Act.put, qa, qb, qc]
  refine zK [2, 5] (zG rfl (fun K hK => ?_) (zG rfl (fun K hK => ?_) zJ))
  ·skip
   go_simp
   refine (z0d _ _ _).mono ?_
   rintro e wc ⟨rfl, hb⟩
   replace H := zd H hb
   refine zc hK ⟨zb H 1, zb H 0, zb H 6⟩ fun hH => zK [4, 5] (zG rfl (fun K hK => ?_) (zG rfl (fun K hK => ?_) zJ))
   ·skip
    go_simp
    refine (z1r _ _ _).mono ?_
    rintro e wc ⟨rfl, hb⟩
    replace H := zd H hb
    refine zc hK ⟨zb H 1, zb H 0, zb H 6⟩ fun hH => zn 5 rfl fun K hK => ?_
    refine zg 13 rfl zA.zero H.out rfl ?_
    intro w13 g13 H3 hb
    replace H := za H3
    refine zc hK ⟨zb H 2, zb H 1, zb H 7⟩ fun hH => ?_
    try simp only [Act.put, qa, qb, qc]
    refine zn 6 rfl fun K hK => ?_
    refine zu 0 rfl z4 H.out rfl rfl rfl rfl ?_
    intro ws HS
    simp only [qb] at HS
    replace H := za HS
    refine zc hK ⟨zb H 2, zb H 1, zb H 7⟩ fun hH => ?_
    try simp only [qa]
    try simp only [Act.put]
    refine zm ?_
    go_wp2_with fail
    go_meet
    exact ⟨g13, rfl, H.out⟩
   ·skip
    refine zg 13 rfl zA.zero H.out rfl ?_
    intro w13 g13 H3 hb
    replace H := za H3
    refine zc hK ⟨zb H 2, zb H 1, zb H 7⟩ fun hH => zn 4 rfl fun K hK => ?_
    go_simp
    refine (z1r _ _ _).mono ?_
    rintro e wc ⟨rfl, hb⟩
    replace H := zd H hb
    refine zc hK ⟨zb H 2, zb H 1, zb H 7⟩ fun hH => zn 6 rfl fun K hK => ?_
    refine zu 0 rfl z4 H.out rfl rfl rfl rfl ?_
    intro ws HS
    simp only [qb] at HS
    replace H := za HS
    refine zc hK ⟨zb H 2, zb H 1, zb H 7⟩ fun hH => ?_
    try simp only [qa]
    try simp only [Act.put]
    refine zm ?_
    go_wp2_with fail
    go_meet
    exact ⟨g13, rfl, H.out⟩
  ·skip
   refine zg 13 rfl zA.zero H.out rfl ?_
   intro w13 g13 H3 hb
   replace H := za H3
   refine zc hK ⟨zb H 2, zb H 1, zb H 7⟩ fun hH => ?_
   try simp only [Act.put, qa, qb, qc]
   refine zn 2 rfl fun K hK => ?_
   go_simp
   refine (z0d _ _ _).mono ?_
   rintro e wc ⟨rfl, hb⟩
   replace H := zd H hb
   refine zc hK ⟨zb H 2, zb H 1, zb H 7⟩ fun hH => zn 4 rfl fun K hK => ?_
   go_simp
   refine (z1r _ _ _).mono ?_
   rintro e wc ⟨rfl, hb⟩
   replace H := zd H hb
   refine zc hK ⟨zb H 2, zb H 1, zb H 7⟩ fun hH => zn 6 rfl fun K hK => ?_
   refine zu 0 rfl z4 H.out rfl rfl rfl rfl ?_
   intro ws HS
   simp only [qb] at HS
   replace H := za HS
   refine zc hK ⟨zb H 2, zb H 1, zb H 7⟩ fun hH => ?_
   try simp only [qa]
   try simp only [Act.put]
   refine zm ?_
   go_wp2_with fail
   go_meet
   exact ⟨g13, rfl, H.out⟩
 clear H
 obtain ⟨g13, rfl, HRR⟩ := hcut
 have H := za HRR
 clear HRR 
 go_upto_region 9 with fail
 refine wp_region_noPanic ?_
 refine wp_region_held_drew (S := fun W => W.heap[g7]? = some (zv 36 .i64 16 (dF ((zC (39082))).val)) ∧ W.heap[g8]? = some (zv 36 .i64 16 (dF (r).val)) ∧ W.heap[g3]? = some (zv 36 .i64 16 (dF (X).val)) ∧ W.heap[g13]? = some (zv 36 .i64 16 (dF (((fR * q) - (X * Y))).val))) (by kernel_rfl) (⟨H.out.drew.row 5 rfl, H.out.drew.row 4 rfl, H.out.drew.row 9 rfl, H.out.drew.row 0 rfl⟩) (fun hH => ?_)
 replace H := za H.out.drew
 generalize World.drew _ = w8 at *
 refine zk 0 55 z4 rfl rfl rfl hH rfl rfl (fun _ h => h.1) ?_
 try simp only [Act.put, qa, qb, qc]
 refine zk 1 56 z4 rfl rfl rfl hH rfl rfl (fun _ h => h.2.1) ?_
 refine zk 2 57 z4 rfl rfl rfl hH rfl rfl (fun _ h => h.2.2.1) ?_
 refine zk 3 58 z4 rfl rfl rfl hH rfl rfl (fun _ h => h.2.2.2) ?_
 try simp only [Act.put, qa, qb, qc]
 refine zn 4 rfl fun K hK => ?_
 go_simp
 refine (z0d _ _ _).mono ?_
 rintro e wc ⟨rfl, hb⟩
 replace H := zd H hb
 refine zc hK ⟨zb H 5, zb H 4, zb H 9, zb H 0⟩ fun hH => zn 5 rfl fun K hK => ?_
 go_simp
 refine (z0s _).mono ?_
 rintro e wc ⟨rfl, hb⟩
 replace H := zd H hb
 refine zc hK ⟨zb H 5, zb H 4, zb H 9, zb H 0⟩ fun hH => zn 6 rfl fun K hK => ?_
 go_simp
 refine (z85 _).mono ?_
 rintro e wc ⟨rfl, hb⟩
 replace H := zd H hb
 refine zc hK ⟨zb H 5, zb H 4, zb H 9, zb H 0⟩ fun hH => ?_
 try simp only [Act.put, qa, qb, qc]
 refine zn 7 rfl fun K hK => ?_
 go_simp
 refine (refBytes_gb _ _ H.out.bel.size).mono ?_
 rintro e wc ⟨ge62, ce62, cu62, rfl, hge, hrw, hs, hb⟩
 replace H := zd H hb
 have SE62 := za hs
 have GE62 := za hge
 have RW62 := za hrw
 refine zc hK ⟨zb H 5, zb H 4, zb H 9, zb H 0⟩ fun hH => ?_
 refine zh 8 2 (.slice (some ⟨ge62, 0, none⟩) 56 ce62) hH ?_
 refine zm ?_
 go_wp2_with fail
 go_ret
 exact ⟨_, _, _, rfl, GE62.out, RW62.out, HF.out ▸ SE62.out, H.out.bel⟩
theorem z73 {v : Nat → Int} {P : Pt pN dK} (w : World) (hp : RfK v P) :
  Calls Tryz.prog 12 #[QO v] w fun e w' => ∃ g c, e = .returned (.slice (some ⟨g, 0, none⟩) 56 c) ∧ Sb w' w'.heap.size (some ⟨g, 0, none⟩) 56 c (encK P).val ∧ Below w.heap.size w w' :=
 (z74 w hp).mono fun _ _ ⟨_, _, _, he, _, _, hs, hb⟩ => ⟨_, _, he, hs, hb⟩
end Go.Proofs.YtgjbonikbmgfmaaGreatDoor
