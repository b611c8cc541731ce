/- Lemmas; no statement is proved here. -/
import Derived.Test.YtgjbonikbmgfmaaGreatDoorZDfDecN
set_option maxRecDepth 20000
set_option maxHeartbeats 12800000
namespace Go.Proofs.YtgjbonikbmgfmaaGreatDoor
open Go.RowKit
theorem at12 {α : Type} {a b c d e f g h i j k m x : α} {l : List α} : (a :: b :: c :: d :: e :: f :: g :: h :: i :: j :: k :: m :: x :: l)[12]? = some x := rfl
theorem refDec_ok {a : Option Addr} {c x : Nat} (w : World) (hs : Sb w w.heap.size a 56 c x) (h : x < pN) (ho : (cN pN x).val % 2 ≠ 1) (ok : dfOk eC dK (cN pN x)) :
  Calls Tryz.prog 14 #[.slice a 56 c] w fun e w' => ∃ r, e = .returned (.tuple #[QO r, .bool true]) ∧ RfK r (decK (cN pN x) ok) ∧ Below w.heap.size w w' := by
 have HZ : Hid (cmp x pN = -1) := za (by unfold cmp; rw [if_pos h])
 have HN := za (decide_eq_false ho)
 obtain ⟨P, hP⟩ : ∃ P, decK (cN pN x) ok = P := ⟨_, rfl⟩
 have px : dfX eC dK eR fR (cN pN x) = P.x := (decK_x _ ok).symm.trans (congrArg Pt.x hP)
 have py : dfY eC dK (cN pN x) = P.y := (decK_y _ ok).symm.trans (congrArg Pt.y hP)
 rw [hP]
 have HS2 := za (fun w => y31 (a := a) (c := c) (y := x) w)
 generalize cN pN x = S at *
 have HOK : Hid (decide ((((((zC (1)) + (S * S)) * ((zC (1)) + (S * S))) + ((zC (156324)) * (S * S))) * (((zC (1)) + (S * S)) * ((zC (1)) + (S * S)))) * (zL eC (zC (1)) (((((zC (1)) + (S * S)) * ((zC (1)) + (S * S))) + ((zC (156324)) * (S * S))) * (((zC (1)) + (S * S)) * ((zC (1)) + (S * S)))) * zL eC (zC (1)) (((((zC (1)) + (S * S)) * ((zC (1)) + (S * S))) + ((zC (156324)) * (S * S))) * (((zC (1)) + (S * S)) * ((zC (1)) + (S * S))))) = zC (1)) = true) := za (decide_eq_true (by rw [dfr_ok]; exact ok))
 obtain ⟨R, hR⟩ : ∃ R, ab (zL eC (zC (1)) (((((zC (1)) + (S * S)) * ((zC (1)) + (S * S))) + ((zC (156324)) * (S * S))) * (((zC (1)) + (S * S)) * ((zC (1)) + (S * S))))) = R := ⟨_, rfl⟩
 have HR := za hR
 have hq : dfQ eC dK S = R := (dfr_q S).symm.trans hR
 obtain ⟨q, hw⟩ : ∃ q, ab ((zC (2) * S) * (R * (((zC (1)) + (S * S)) * eR))) = q := ⟨_, rfl⟩
 have HQ := za hw
 have hw2 : dfW eC dK eR S = q := (dfr_w S R hq).symm.trans hw
 have hx := dfr_x S R q hq hw2
 have hy := dfr_y S R hq
 have HON := za (decide_eq_true (dfr_on ok hx hy))
 have HPT := za (fun w => refPoint_k (P := P) w (hx.trans px) (hy.trans py))
 clear h ho hR hq hw hw2 hx hy px py hP ok
 have HS := za hs
 clear hs
 have H := za (Ow.start w)
 go_enter Tryz.func14, Tryz.ntmps14
 go_upto_region 10 with (first
  | ((fail_if_success have := g2); (with_reducible apply ze z0w H); (case hgd | ho => exact rfl); clear H; intro w2 g2 H _ _; go_simp)
  | ((fail_if_success have := W0); (with_reducible refine (z1e _).mono ?_); rintro e wc ⟨r0, rfl, hv, hb⟩; replace H := zd H hb; clear hb; have W0 := za hv; clear hv)
  | ((fail_if_success have := g4); (with_reducible apply ze z0w H); (case hgd | ho => exact rfl); clear H; intro w4 g4 H _ _; go_simp)
  | ((with_reducible apply zr zD H); (case hgd | ho | hx => exact rfl); (case hi => repeat first|exact z5|apply z8); intro _ _; go_simp)
  | ((with_reducible apply zj zD H); (case hgd | ho | hx | hy => exact rfl); (case hi => repeat first|exact z5|apply z8); clear H; intro ws H _ _; simp only [qb] at H; go_simp)
  | ((with_reducible refine z1y ?hw ?h); (case hw => exact rfl); intro _ _; go_simp)
  | ((fail_if_success have := SP); (with_reducible refine (z1p _).mono ?_); rintro e wc ⟨gp, cp, rfl, hs, hb⟩; replace H := zd H hb; clear hb; have SP := za hs; clear hs)
  | ((fail_if_success have := mkc); (with_reducible refine (z84 _ (by omega) (by omega) ((HS.out.below H.out.bel).more H.out.bel.size) SP.out HZ.out).mono ?_); rintro e wc ⟨rfl, hb⟩; replace H := zd H hb; clear hb; have mkc := trivial)
  | ((fail_if_success have := mko); (with_reducible refine (HS2.out _ ((HS.out.below H.out.bel).more H.out.bel.size)).mono ?_); rintro e wc ⟨rfl, hb⟩; replace H := zd H hb; clear hb; have mko := trivial)
  | ((fail_if_success have := g5); (with_reducible apply ze zA.zero H); (case hgd | ho => exact rfl); clear H; intro w5 g5 H _ _; go_simp)
  | ((with_reducible apply zr z4 H); (case hgd | ho | hx => exact rfl); (case hi => repeat first|exact z5|apply z8); intro _ _; go_simp)
  | ((with_reducible apply zj z4 H); (case hgd | ho | hx | hy => exact rfl); (case hi => repeat first|exact z5|apply z8); clear H; intro ws H _ _; simp only [qb] at H; go_simp)
  | ((fail_if_success have := mkn); (with_reducible refine (y1l _ HN.out).mono ?_); rintro e wc ⟨rfl, hb⟩; replace H := zd H hb; clear hb; have mkn := trivial)
  | ((fail_if_success have := mk1); (with_reducible refine (z0p _ (1) (by omega) (by omega)).mono ?_); rintro e wc ⟨rfl, hb⟩; replace H := zd H hb; clear hb; have mk1 := trivial)
  | ((fail_if_success have := g6); (with_reducible apply ze zA.zero H); (case hgd | ho => exact rfl); clear H; intro w6 g6 H _ _; go_simp)
  | ((fail_if_success have := mk2); (with_reducible refine (z0d (S) (S) _).mono ?_); rintro e wc ⟨rfl, hb⟩; replace H := zd H hb; clear hb; have mk2 := trivial)
  | ((fail_if_success have := g7); (with_reducible apply ze zA.zero H); (case hgd | ho => exact rfl); clear H; intro w7 g7 H _ _; go_simp)
  | ((fail_if_success have := mk3); (with_reducible refine (z1s _ _ _).mono ?_); rintro e wc ⟨rfl, hb⟩; replace H := zd H hb; clear hb; have mk3 := trivial)
  | ((fail_if_success have := g8); (with_reducible apply ze zA.zero H); (case hgd | ho => exact rfl); clear H; intro w8 g8 H _ _; go_simp))
 clear mkc mko mkn mk1 mk2 mk3
 go_cut [9] from 40 to 46 (fun v9 wx => ∃ g9, v9 = .pointer (some ⟨g9, 0, none⟩) ∧ Ow w wx [(g9, zv 36 .i64 16 (dF (((((zC (1)) + (S * S)) * ((zC (1)) + (S * S))) + ((zC (156324)) * (S * S)))).val)), (g8, zv 36 .i64 16 (dF (((zC (1)) + (S * S))).val)), (g7, zv 36 .i64 16 (dF ((S * S)).val)), (g6, zv 36 .i64 16 (dF ((zC (1))).val)), (g5, zv 36 .i64 16 (dF (S).val)), (g4, zv 38 .i64 48 (r0)), (g2, zv 38 .i64 48 fun _ => 0)])
 case first =>
  go_wp2_with fail
  refine wp_region_noPanic ?_
  refine wp_region_held_drew (S := fun W => W.heap[g8]? = some (zv 36 .i64 16 (dF (((zC (1)) + (S * S))).val)) ∧ W.heap[g7]? = some (zv 36 .i64 16 (dF ((S * S)).val))) (by kernel_rfl) (⟨H.out.drew.row 0 rfl, H.out.drew.row 1 rfl⟩) (fun hH => ?_)
  replace H := za H.out.drew
  generalize World.drew _ = w8 at *
  refine zk 0 40 z4 rfl rfl rfl hH rfl rfl (fun _ h => h.1) ?_
  refine zk 1 41 z4 rfl rfl rfl hH rfl rfl (fun _ h => h.1) ?_
  refine zk 4 44 z4 rfl rfl rfl hH rfl rfl (fun _ h => h.2) ?_
  try simp only [Act.put, qa, qb, qc]
  refine zK [2, 7] (zG rfl (fun K hK => ?_) (zG rfl (fun K hK => ?_) zJ))
  ·skip
   go_simp
   refine (z0d _ _ _).mono ?_
   rintro e wc ⟨rfl, hb⟩
   replace H := zd H hb
   refine zc hK ⟨zb H 0, zb H 1⟩ fun hH => zK [3, 7] (zG rfl (fun K hK => ?_) (zG rfl (fun K hK => ?_) zJ))
   ·skip
    go_simp
    refine (z0p _ (156324) (by omega) (by omega)).mono ?_
    rintro e wc ⟨rfl, hb⟩
    replace H := zd H hb
    refine zc hK ⟨zb H 0, zb H 1⟩ fun hH => zK [5, 7] (zG rfl (fun K hK => ?_) (zG rfl (fun K hK => ?_) zJ))
    ·skip
     go_simp
     refine (z0d _ _ _).mono ?_
     rintro e wc ⟨rfl, hb⟩
     replace H := zd H hb
     refine zc hK ⟨zb H 0, zb H 1⟩ fun hH => ?_
     try simp only [Act.put, qa, qb, qc]
     refine zK [6, 7] (zG rfl (fun K hK => ?_) (zG rfl (fun K hK => ?_) zJ))
     ·skip
      go_simp
      refine (z1s _ _ _).mono ?_
      rintro e wc ⟨rfl, hb⟩
      replace H := zd H hb
      refine zc hK ⟨zb H 0, zb H 1⟩ fun hH => zn 7 rfl fun K hK => ?_
      refine zg 9 rfl zA.zero H.out rfl ?_
      intro w9 g9 H3 hb
      replace H := za H3
      refine zc hK ⟨zb H 1, zb H 2⟩ fun hH => zn 8 rfl fun K hK => ?_
      refine zu 0 rfl z4 H.out rfl rfl rfl rfl ?_
      intro ws HS
      simp only [qb] at HS
      replace H := za HS
      refine zc hK ⟨zb H 1, zb H 2⟩ fun hH => ?_
      try simp only [qa]
      try simp only [Act.put]
      refine zm ?_
      go_wp2_with fail
      go_meet
      exact ⟨g9, rfl, H.out⟩
     ·skip
      refine zg 9 rfl zA.zero H.out rfl ?_
      intro w9 g9 H3 hb
      replace H := za H3
      refine zc hK ⟨zb H 1, zb H 2⟩ fun hH => ?_
      try simp only [Act.put, qa, qb, qc]
      refine zn 6 rfl fun K hK => ?_
      go_simp
      refine (z1s _ _ _).mono ?_
      rintro e wc ⟨rfl, hb⟩
      replace H := zd H hb
      refine zc hK ⟨zb H 1, zb H 2⟩ fun hH => zn 8 rfl fun K hK => ?_
      refine zu 0 rfl z4 H.out rfl rfl rfl rfl ?_
      intro ws HS
      simp only [qb] at HS
      replace H := za HS
      refine zc hK ⟨zb H 1, zb H 2⟩ fun hH => ?_
      try simp only [qa]
      try simp only [Act.put]
      refine zm ?_
      go_wp2_with fail
      go_meet
      exact ⟨g9, rfl, H.out⟩
    ·skip
     refine zg 9 rfl zA.zero H.out rfl ?_
     intro w9 g9 H3 hb
     replace H := za H3
     refine zc hK ⟨zb H 1, zb H 2⟩ fun hH => zn 5 rfl fun K hK => ?_
     go_simp
     refine (z0d _ _ _).mono ?_
     rintro e wc ⟨rfl, hb⟩
     replace H := zd H hb
     refine zc hK ⟨zb H 1, zb H 2⟩ fun hH => ?_
     try simp only [Act.put, qa, qb, qc]
     refine zn 6 rfl fun K hK => ?_
     go_simp
     refine (z1s _ _ _).mono ?_
     rintro e wc ⟨rfl, hb⟩
     replace H := zd H hb
     refine zc hK ⟨zb H 1, zb H 2⟩ fun hH => zn 8 rfl fun K hK => ?_
     refine zu 0 rfl z4 H.out rfl rfl rfl rfl ?_
     intro ws HS
     simp only [qb] at HS
     replace H := za HS
     refine zc hK ⟨zb H 1, zb H 2⟩ fun hH => ?_
     try simp only [qa]
     try simp only [Act.put]
     refine zm ?_
     go_wp2_with fail
     go_meet
     exact ⟨g9, rfl, H.out⟩
   ·skip
    refine zg 9 rfl zA.zero H.out rfl ?_
    intro w9 g9 H3 hb
    replace H := za H3
    refine zc hK ⟨zb H 1, zb H 2⟩ fun hH => zn 3 rfl fun K hK => ?_
    go_simp
    refine (z0p _ (156324) (by omega) (by omega)).mono ?_
    rintro e wc ⟨rfl, hb⟩
    replace H := zd H hb
    refine zc hK ⟨zb H 1, zb H 2⟩ fun hH => ?_
    try simp only [Act.put, qa, qb, qc]
    refine zn 5 rfl fun K hK => ?_
    go_simp
    refine (z0d _ _ _).mono ?_
    rintro e wc ⟨rfl, hb⟩
    replace H := zd H hb
    refine zc hK ⟨zb H 1, zb H 2⟩ fun hH => zn 6 rfl fun K hK => ?_
    go_simp
    refine (z1s _ _ _).mono ?_
    rintro e wc ⟨rfl, hb⟩
    replace H := zd H hb
    refine zc hK ⟨zb H 1, zb H 2⟩ fun hH => zn 8 rfl fun K hK => ?_
    refine zu 0 rfl z4 H.out rfl rfl rfl rfl ?_
    intro ws HS
    simp only [qb] at HS
    replace H := za HS
    refine zc hK ⟨zb H 1, zb H 2⟩ fun hH => ?_
    try simp only [qa]
    try simp only [Act.put]
    refine zm ?_
    go_wp2_with fail
    go_meet
    exact ⟨g9, rfl, H.out⟩
  ·skip
   refine zg 9 rfl zA.zero H.out rfl ?_
   intro w9 g9 H3 hb
   replace H := za H3
   refine zc hK ⟨zb H 1, zb H 2⟩ fun hH => ?_
   try simp only [Act.put, qa, qb, qc]
   refine zn 2 rfl fun K hK => ?_
   go_simp
   refine (z0d _ _ _).mono ?_
   rintro e wc ⟨rfl, hb⟩
   replace H := zd H hb
   refine zc hK ⟨zb H 1, zb H 2⟩ fun hH => zn 3 rfl fun K hK => ?_
   go_simp
   refine (z0p _ (156324) (by omega) (by omega)).mono ?_
   rintro e wc ⟨rfl, hb⟩
   replace H := zd H hb
   refine zc hK ⟨zb H 1, zb H 2⟩ fun hH => zn 5 rfl fun K hK => ?_
   go_simp
   refine (z0d _ _ _).mono ?_
   rintro e wc ⟨rfl, hb⟩
   replace H := zd H hb
   refine zc hK ⟨zb H 1, zb H 2⟩ fun hH => ?_
   try simp only [Act.put, qa, qb, qc]
   refine zn 6 rfl fun K hK => ?_
   go_simp
   refine (z1s _ _ _).mono ?_
   rintro e wc ⟨rfl, hb⟩
   replace H := zd H hb
   refine zc hK ⟨zb H 1, zb H 2⟩ fun hH => zn 8 rfl fun K hK => ?_
   refine zu 0 rfl z4 H.out rfl rfl rfl rfl ?_
   intro ws HS
   simp only [qb] at HS
   replace H := za HS
   refine zc hK ⟨zb H 1, zb H 2⟩ fun hH => ?_
   try simp only [qa]
   try simp only [Act.put]
   refine zm ?_
   go_wp2_with fail
   go_meet
   exact ⟨g9, rfl, H.out⟩
 clear H
 obtain ⟨g9, rfl, HRR⟩ := hcut
 have H := za HRR
 clear HRR 
 go_upto_region 11 with fail
 go_cut [10, 11] from 47 to 55 (fun v10 v11 wx => ∃ g10, v10 = .pointer (some ⟨g10, 0, none⟩) ∧ v11 = .bool true ∧ Ow w wx [(g10, zv 36 .i64 16 (dF (R).val)), (g9, zv 36 .i64 16 (dF (((((zC (1)) + (S * S)) * ((zC (1)) + (S * S))) + ((zC (156324)) * (S * S)))).val)), (g8, zv 36 .i64 16 (dF (((zC (1)) + (S * S))).val)), (g7, zv 36 .i64 16 (dF ((S * S)).val)), (g6, zv 36 .i64 16 (dF ((zC (1))).val)), (g5, zv 36 .i64 16 (dF (S).val)), (g4, zv 38 .i64 48 (r0)), (g2, zv 38 .i64 48 fun _ => 0)])
 case first =>
  go_wp2_with fail
  refine wp_region_noPanic ?_
  refine wp_region_held_drew (S := fun W => W.heap[g6]? = some (zv 36 .i64 16 (dF ((zC (1))).val)) ∧ W.heap[g9]? = some (zv 36 .i64 16 (dF (((((zC (1)) + (S * S)) * ((zC (1)) + (S * S))) + ((zC (156324)) * (S * S)))).val)) ∧ W.heap[g8]? = some (zv 36 .i64 16 (dF (((zC (1)) + (S * S))).val))) (by kernel_rfl) (⟨H.out.drew.row 3 rfl, H.out.drew.row 0 rfl, H.out.drew.row 1 rfl⟩) (fun hH => ?_)
  replace H := za H.out.drew
  generalize World.drew _ = w8 at *
  refine zk 0 48 z4 rfl rfl rfl hH rfl rfl (fun _ h => h.1) ?_
  refine zk 1 49 z4 rfl rfl rfl hH rfl rfl (fun _ h => h.2.1) ?_
  try simp only [Act.put, qa, qb, qc]
  refine zk 2 50 z4 rfl rfl rfl hH rfl rfl (fun _ h => h.2.2) ?_
  refine zk 3 51 z4 rfl rfl rfl hH rfl rfl (fun _ h => h.2.2) ?_
  refine zK [4, 9] (zG rfl (fun K hK => ?_) (zG rfl (fun K hK => ?_) zJ))
  ·skip
   go_simp
   refine (z0s _).mono ?_
   rintro e wc ⟨rfl, hb⟩
   replace H := zd H hb
   refine zc hK ⟨zb H 3, zb H 0, zb H 1⟩ fun hH => ?_
   try simp only [Act.put, qa, qb, qc]
   refine zK [5, 9] (zG rfl (fun K hK => ?_) (zG rfl (fun K hK => ?_) zJ))
   ·skip
    go_simp
    refine (z30 _ HR.out HOK.out).mono ?_
    rintro e wc ⟨rfl, hb⟩
    replace H := zd H hb
    refine zc hK ⟨zb H 3, zb H 0, zb H 1⟩ fun hH => ?_
    refine zh 6 47 (.tuple #[FV (R).val, .bool true]) hH ?_
    refine zh 7 54 (FV (R).val) hH ?_
    refine zh 8 55 (.bool true) hH ?_
    refine zn 9 rfl fun K hK => ?_
    refine zg 10 rfl zA.zero H.out rfl ?_
    intro w10 g10 H3 hb
    replace H := za H3
    refine zc hK ⟨zb H 4, zb H 1, zb H 2⟩ fun hH => zn 10 rfl fun K hK => ?_
    refine zu 0 rfl z4 H.out rfl rfl rfl rfl ?_
    intro ws HS
    simp only [qb] at HS
    replace H := za HS
    refine zc hK ⟨zb H 4, zb H 1, zb H 2⟩ fun hH => ?_
    try simp only [qa]
    refine zh 11 11 (.bool true) hH ?_
    refine zm ?_
    go_wp2_with fail
    go_meet
    exact ⟨g10, rfl, rfl, H.out⟩
   ·skip
    refine zg 10 rfl zA.zero H.out rfl ?_
    intro w10 g10 H3 hb
    replace H := za H3
    refine zc hK ⟨zb H 4, zb H 1, zb H 2⟩ fun hH => zn 5 rfl fun K hK => ?_
    go_simp
    refine (z30 _ HR.out HOK.out).mono ?_
    rintro e wc ⟨rfl, hb⟩
    replace H := zd H hb
    refine zc hK ⟨zb H 4, zb H 1, zb H 2⟩ fun hH => ?_
    refine zh 6 47 (.tuple #[FV (R).val, .bool true]) hH ?_
    refine zh 7 54 (FV (R).val) hH ?_
    refine zh 8 55 (.bool true) hH ?_
    refine zn 10 rfl fun K hK => ?_
    refine zu 0 rfl z4 H.out rfl rfl rfl rfl ?_
    intro ws HS
    simp only [qb] at HS
    replace H := za HS
    refine zc hK ⟨zb H 4, zb H 1, zb H 2⟩ fun hH => ?_
    try simp only [qa]
    refine zh 11 11 (.bool true) hH ?_
    refine zm ?_
    go_wp2_with fail
    go_meet
    exact ⟨g10, rfl, rfl, H.out⟩
  ·skip
   refine zg 10 rfl zA.zero H.out rfl ?_
   intro w10 g10 H3 hb
   replace H := za H3
   refine zc hK ⟨zb H 4, zb H 1, zb H 2⟩ fun hH => zn 4 rfl fun K hK => ?_
   go_simp
   refine (z0s _).mono ?_
   rintro e wc ⟨rfl, hb⟩
   replace H := zd H hb
   refine zc hK ⟨zb H 4, zb H 1, zb H 2⟩ fun hH => zn 5 rfl fun K hK => ?_
   go_simp
   refine (z30 _ HR.out HOK.out).mono ?_
   rintro e wc ⟨rfl, hb⟩
   replace H := zd H hb
   refine zc hK ⟨zb H 4, zb H 1, zb H 2⟩ fun hH => ?_
   try simp only [Act.put, qa, qb, qc]
   refine zh 6 47 (.tuple #[FV (R).val, .bool true]) hH ?_
   refine zh 7 54 (FV (R).val) hH ?_
   refine zh 8 55 (.bool true) hH ?_
   refine zn 10 rfl fun K hK => ?_
   refine zu 0 rfl z4 H.out rfl rfl rfl rfl ?_
   intro ws HS
   simp only [qb] at HS
   replace H := za HS
   refine zc hK ⟨zb H 4, zb H 1, zb H 2⟩ fun hH => ?_
   try simp only [qa]
   refine zh 11 11 (.bool true) hH ?_
   refine zm ?_
   go_wp2_with fail
   go_meet
   exact ⟨g10, rfl, rfl, H.out⟩
 clear H
 obtain ⟨g10, rfl, rfl, HRR⟩ := hcut
 have H := za HRR
 clear HRR 
 go_upto_region 15 with (first
  | ((fail_if_success have := mk4); (with_reducible refine (y0v _).mono ?_); rintro e wc ⟨rfl, hb⟩; replace H := zd H hb; clear hb; have mk4 := trivial)
  | ((fail_if_success have := g12); (with_reducible apply ze zA.zero H); (case hgd | ho => exact rfl); clear H; intro w12 g12 H _ _; go_simp)
  | ((fail_if_success have := g13); (with_reducible apply ze zA.zero H); (case hgd | ho => exact rfl); clear H; intro w13 g13 H _ _; go_simp)
  | ((with_reducible apply zj z4 H); (case hgd | ho | hx | hy => exact rfl); (case hi => repeat first|exact z5|apply z8); clear H; intro ws H _ _; simp only [qb, qc] at H; go_simp))
 clear mk4
 go_cut [14] from 63 to 71 (fun v14 wx => ∃ g14, v14 = .pointer (some ⟨g14, 0, none⟩) ∧ Ow w wx [(g14, zv 36 .i64 16 (dF (q).val)), (g13, zv 36 .i64 16 (dF (fR).val)), (g12, zv 36 .i64 16 (dF (eR).val)), (g10, zv 36 .i64 16 (dF (R).val)), (g9, zv 36 .i64 16 (dF (((((zC (1)) + (S * S)) * ((zC (1)) + (S * S))) + ((zC (156324)) * (S * S)))).val)), (g8, zv 36 .i64 16 (dF (((zC (1)) + (S * S))).val)), (g7, zv 36 .i64 16 (dF ((S * S)).val)), (g6, zv 36 .i64 16 (dF ((zC (1))).val)), (g5, zv 36 .i64 16 (dF (S).val)), (g4, zv 38 .i64 48 (r0)), (g2, zv 38 .i64 48 fun _ => 0)])
 case first =>
  go_wp2_with fail
  refine wp_region_noPanic ?_
  refine wp_region_held_drew (S := fun W => W.heap[g5]? = some (zv 36 .i64 16 (dF (S).val)) ∧ W.heap[g10]? = some (zv 36 .i64 16 (dF (R).val)) ∧ W.heap[g8]? = some (zv 36 .i64 16 (dF (((zC (1)) + (S * S))).val)) ∧ W.heap[g12]? = some (zv 36 .i64 16 (dF (eR).val))) (by kernel_rfl) (⟨H.out.drew.row 7 rfl, H.out.drew.row 2 rfl, H.out.drew.row 4 rfl, H.out.drew.row 1 rfl⟩) (fun hH => ?_)
  replace H := za H.out.drew
  generalize World.drew _ = w8 at *
  refine zk 1 64 z4 rfl rfl rfl hH rfl rfl (fun _ h => h.1) ?_
  refine zk 3 66 z4 rfl rfl rfl hH rfl rfl (fun _ h => h.2.1) ?_
  refine zk 4 67 z4 rfl rfl rfl hH rfl rfl (fun _ h => h.2.2.1) ?_
  try simp only [Act.put, qa, qb, qc]
  refine zk 5 68 z4 rfl rfl rfl hH rfl rfl (fun _ h => h.2.2.2) ?_
  refine zK [0, 9] (zG rfl (fun K hK => ?_) (zG rfl (fun K hK => ?_) zJ))
  ·skip
   go_simp
   refine (z0p _ (2) (by omega) (by omega)).mono ?_
   rintro e wc ⟨rfl, hb⟩
   replace H := zd H hb
   refine zc hK ⟨zb H 7, zb H 2, zb H 4, zb H 1⟩ fun hH => zK [2, 9] (zG rfl (fun K hK => ?_) (zG rfl (fun K hK => ?_) zJ))
   ·skip
    go_simp
    refine (z0d _ _ _).mono ?_
    rintro e wc ⟨rfl, hb⟩
    replace H := zd H hb
    refine zc hK ⟨zb H 7, zb H 2, zb H 4, zb H 1⟩ fun hH => ?_
    try simp only [Act.put, qa, qb, qc]
    refine zK [6, 9] (zG rfl (fun K hK => ?_) (zG rfl (fun K hK => ?_) zJ))
    ·skip
     go_simp
     refine (z0d _ _ _).mono ?_
     rintro e wc ⟨rfl, hb⟩
     replace H := zd H hb
     refine zc hK ⟨zb H 7, zb H 2, zb H 4, zb H 1⟩ fun hH => zK [7, 9] (zG rfl (fun K hK => ?_) (zG rfl (fun K hK => ?_) zJ))
     ·skip
      go_simp
      refine (z0s _).mono ?_
      rintro e wc ⟨rfl, hb⟩
      replace H := zd H hb
      refine zc hK ⟨zb H 7, zb H 2, zb H 4, zb H 1⟩ fun hH => zK [8, 9] (zG rfl (fun K hK => ?_) (zG rfl (fun K hK => ?_) zJ))
      ·skip
       go_simp
       refine (z59 _ HQ.out).mono ?_
       rintro e wc ⟨rfl, hb⟩
       replace H := zd H hb
       refine zc hK ⟨zb H 7, zb H 2, zb H 4, zb H 1⟩ fun hH => ?_
       try simp only [Act.put, qa, qb, qc]
       refine zn 9 rfl fun K hK => ?_
       refine zg 14 rfl zA.zero H.out rfl ?_
       intro w14 g14 H3 hb
       replace H := za H3
       refine zc hK ⟨zb H 8, zb H 3, zb H 5, zb H 2⟩ fun hH => zn 10 rfl fun K hK => ?_
       refine zu 0 rfl z4 H.out rfl rfl rfl rfl ?_
       intro ws HS
       simp only [qb] at HS
       replace H := za HS
       refine zc hK ⟨zb H 8, zb H 3, zb H 5, zb H 2⟩ fun hH => ?_
       try simp only [qa]
       try simp only [Act.put]
       refine zm ?_
       go_wp2_with fail
       go_meet
       exact ⟨g14, rfl, H.out⟩
      ·skip
       refine zg 14 rfl zA.zero H.out rfl ?_
       intro w14 g14 H3 hb
       replace H := za H3
       refine zc hK ⟨zb H 8, zb H 3, zb H 5, zb H 2⟩ fun hH => zn 8 rfl fun K hK => ?_
       go_simp
       refine (z59 _ HQ.out).mono ?_
       rintro e wc ⟨rfl, hb⟩
       replace H := zd H hb
       refine zc hK ⟨zb H 8, zb H 3, zb H 5, zb H 2⟩ fun hH => ?_
       try simp only [Act.put, qa, qb, qc]
       refine zn 10 rfl fun K hK => ?_
       refine zu 0 rfl z4 H.out rfl rfl rfl rfl ?_
       intro ws HS
       simp only [qb] at HS
       replace H := za HS
       refine zc hK ⟨zb H 8, zb H 3, zb H 5, zb H 2⟩ fun hH => ?_
       try simp only [qa]
       try simp only [Act.put]
       refine zm ?_
       go_wp2_with fail
       go_meet
       exact ⟨g14, rfl, H.out⟩
     ·skip
      refine zg 14 rfl zA.zero H.out rfl ?_
      intro w14 g14 H3 hb
      replace H := za H3
      refine zc hK ⟨zb H 8, zb H 3, zb H 5, zb H 2⟩ fun hH => zn 7 rfl fun K hK => ?_
      go_simp
      refine (z0s _).mono ?_
      rintro e wc ⟨rfl, hb⟩
      replace H := zd H hb
      refine zc hK ⟨zb H 8, zb H 3, zb H 5, zb H 2⟩ fun hH => zn 8 rfl fun K hK => ?_
      go_simp
      refine (z59 _ HQ.out).mono ?_
      rintro e wc ⟨rfl, hb⟩
      replace H := zd H hb
      refine zc hK ⟨zb H 8, zb H 3, zb H 5, zb H 2⟩ fun hH => ?_
      try simp only [Act.put, qa, qb, qc]
      refine zn 10 rfl fun K hK => ?_
      refine zu 0 rfl z4 H.out rfl rfl rfl rfl ?_
      intro ws HS
      simp only [qb] at HS
      replace H := za HS
      refine zc hK ⟨zb H 8, zb H 3, zb H 5, zb H 2⟩ fun hH => ?_
      try simp only [qa]
      try simp only [Act.put]
      refine zm ?_
      go_wp2_with fail
      go_meet
      exact ⟨g14, rfl, H.out⟩
    ·skip
     refine zg 14 rfl zA.zero H.out rfl ?_
     intro w14 g14 H3 hb
     replace H := za H3
     refine zc hK ⟨zb H 8, zb H 3, zb H 5, zb H 2⟩ fun hH => zn 6 rfl fun K hK => ?_
     go_simp
     refine (z0d _ _ _).mono ?_
     rintro e wc ⟨rfl, hb⟩
     replace H := zd H hb
     refine zc hK ⟨zb H 8, zb H 3, zb H 5, zb H 2⟩ fun hH => zn 7 rfl fun K hK => ?_
     go_simp
     refine (z0s _).mono ?_
     rintro e wc ⟨rfl, hb⟩
     replace H := zd H hb
     refine zc hK ⟨zb H 8, zb H 3, zb H 5, zb H 2⟩ fun hH => ?_
     try simp only [Act.put, qa, qb, qc]
     refine zn 8 rfl fun K hK => ?_
     go_simp
     refine (z59 _ HQ.out).mono ?_
     rintro e wc ⟨rfl, hb⟩
     replace H := zd H hb
     refine zc hK ⟨zb H 8, zb H 3, zb H 5, zb H 2⟩ fun hH => zn 10 rfl fun K hK => ?_
     refine zu 0 rfl z4 H.out rfl rfl rfl rfl ?_
     intro ws HS
     simp only [qb] at HS
     replace H := za HS
     refine zc hK ⟨zb H 8, zb H 3, zb H 5, zb H 2⟩ fun hH => ?_
     try simp only [qa]
     try simp only [Act.put]
     refine zm ?_
     go_wp2_with fail
     go_meet
     exact ⟨g14, rfl, H.out⟩
   ·skip
    refine zg 14 rfl zA.zero H.out rfl ?_
    intro w14 g14 H3 hb
    replace H := za H3
    refine zc hK ⟨zb H 8, zb H 3, zb H 5, zb H 2⟩ fun hH => zn 2 rfl fun K hK => ?_
    go_simp
    refine (z0d _ _ _).mono ?_
    rintro e wc ⟨rfl, hb⟩
    replace H := zd H hb
    refine zc hK ⟨zb H 8, zb H 3, zb H 5, zb H 2⟩ fun hH => ?_
    try simp only [Act.put, qa, qb, qc]
    refine zn 6 rfl fun K hK => ?_
    go_simp
    refine (z0d _ _ _).mono ?_
    rintro e wc ⟨rfl, hb⟩
    replace H := zd H hb
    refine zc hK ⟨zb H 8, zb H 3, zb H 5, zb H 2⟩ fun hH => zn 7 rfl fun K hK => ?_
    go_simp
    refine (z0s _).mono ?_
    rintro e wc ⟨rfl, hb⟩
    replace H := zd H hb
    refine zc hK ⟨zb H 8, zb H 3, zb H 5, zb H 2⟩ fun hH => zn 8 rfl fun K hK => ?_
    go_simp
    refine (z59 _ HQ.out).mono ?_
    rintro e wc ⟨rfl, hb⟩
    replace H := zd H hb
    refine zc hK ⟨zb H 8, zb H 3, zb H 5, zb H 2⟩ fun hH => ?_
    try simp only [Act.put, qa, qb, qc]
    refine zn 10 rfl fun K hK => ?_
    refine zu 0 rfl z4 H.out rfl rfl rfl rfl ?_
    intro ws HS
    simp only [qb] at HS
    replace H := za HS
    refine zc hK ⟨zb H 8, zb H 3, zb H 5, zb H 2⟩ fun hH => ?_
    try simp only [qa]
    try simp only [Act.put]
    refine zm ?_
    go_wp2_with fail
    go_meet
    exact ⟨g14, rfl, H.out⟩
  ·skip
   refine zg 14 rfl zA.zero H.out rfl ?_
   intro w14 g14 H3 hb
   replace H := za H3
   refine zc hK ⟨zb H 8, zb H 3, zb H 5, zb H 2⟩ fun hH => zn 0 rfl fun K hK => ?_
   go_simp
   refine (z0p _ (2) (by omega) (by omega)).mono ?_
   rintro e wc ⟨rfl, hb⟩
   replace H := zd H hb
   refine zc hK ⟨zb H 8, zb H 3, zb H 5, zb H 2⟩ fun hH => zn 2 rfl fun K hK => ?_
   go_simp
   refine (z0d _ _ _).mono ?_
   rintro e wc ⟨rfl, hb⟩
   replace H := zd H hb
   refine zc hK ⟨zb H 8, zb H 3, zb H 5, zb H 2⟩ fun hH => ?_
   try simp only [Act.put, qa, qb, qc]
   refine zn 6 rfl fun K hK => ?_
   go_simp
   refine (z0d _ _ _).mono ?_
   rintro e wc ⟨rfl, hb⟩
   replace H := zd H hb
   refine zc hK ⟨zb H 8, zb H 3, zb H 5, zb H 2⟩ fun hH => zn 7 rfl fun K hK => ?_
   go_simp
   refine (z0s _).mono ?_
   rintro e wc ⟨rfl, hb⟩
   replace H := zd H hb
   refine zc hK ⟨zb H 8, zb H 3, zb H 5, zb H 2⟩ fun hH => zn 8 rfl fun K hK => ?_
   go_simp
   refine (z59 _ HQ.out).mono ?_
   rintro e wc ⟨rfl, hb⟩
   replace H := zd H hb
   refine zc hK ⟨zb H 8, zb H 3, zb H 5, zb H 2⟩ fun hH => ?_
   try simp only [Act.put, qa, qb, qc]
   refine zn 10 rfl fun K hK => ?_
   refine zu 0 rfl z4 H.out rfl rfl rfl rfl ?_
   intro ws HS
   simp only [qb] at HS
   replace H := za HS
   refine zc hK ⟨zb H 8, zb H 3, zb H 5, zb H 2⟩ fun hH => ?_
   try simp only [qa]
   try simp only [Act.put]
   refine zm ?_
   go_wp2_with fail
   go_meet
   exact ⟨g14, rfl, H.out⟩
 clear H
 obtain ⟨g14, rfl, HRR⟩ := hcut
 have H := za HRR
 clear HRR 
 go_upto_region 16 with fail
 go_cut [15] from 72 to 77 (fun v15 wx => ∃ g15, v15 = .pointer (some ⟨g15, 0, none⟩) ∧ Ow w wx [(g15, zv 36 .i64 16 (dF ((q * (R * (((((zC (1)) + (S * S)) * ((zC (1)) + (S * S))) + ((zC (156324)) * (S * S))) * fR)))).val)), (g14, zv 36 .i64 16 (dF (q).val)), (g13, zv 36 .i64 16 (dF (fR).val)), (g12, zv 36 .i64 16 (dF (eR).val)), (g10, zv 36 .i64 16 (dF (R).val)), (g9, zv 36 .i64 16 (dF (((((zC (1)) + (S * S)) * ((zC (1)) + (S * S))) + ((zC (156324)) * (S * S)))).val)), (g8, zv 36 .i64 16 (dF (((zC (1)) + (S * S))).val)), (g7, zv 36 .i64 16 (dF ((S * S)).val)), (g6, zv 36 .i64 16 (dF ((zC (1))).val)), (g5, zv 36 .i64 16 (dF (S).val)), (g4, zv 38 .i64 48 (r0)), (g2, zv 38 .i64 48 fun _ => 0)])
 case first =>
  go_wp2_with fail
  refine wp_region_noPanic ?_
  refine wp_region_held_drew (S := fun W => W.heap[g14]? = some (zv 36 .i64 16 (dF (q).val)) ∧ W.heap[g10]? = some (zv 36 .i64 16 (dF (R).val)) ∧ W.heap[g9]? = some (zv 36 .i64 16 (dF (((((zC (1)) + (S * S)) * ((zC (1)) + (S * S))) + ((zC (156324)) * (S * S)))).val)) ∧ W.heap[g13]? = some (zv 36 .i64 16 (dF (fR).val))) (by kernel_rfl) (⟨H.out.drew.row 0 rfl, H.out.drew.row 3 rfl, H.out.drew.row 4 rfl, H.out.drew.row 1 rfl⟩) (fun hH => ?_)
  replace H := za H.out.drew
  generalize World.drew _ = w8 at *
  refine zk 0 72 z4 rfl rfl rfl hH rfl rfl (fun _ h => h.1) ?_
  refine zk 1 73 z4 rfl rfl rfl hH rfl rfl (fun _ h => h.2.1) ?_
  refine zk 2 74 z4 rfl rfl rfl hH rfl rfl (fun _ h => h.2.2.1) ?_
  try simp only [Act.put, qa, qb, qc]
  refine zk 3 75 z4 rfl rfl rfl hH rfl rfl (fun _ h => h.2.2.2) ?_
  refine zK [4, 6] (zG rfl (fun K hK => ?_) (zG rfl (fun K hK => ?_) zJ))
  ·skip
   go_simp
   refine (z0d _ _ _).mono ?_
   rintro e wc ⟨rfl, hb⟩
   replace H := zd H hb
   refine zc hK ⟨zb H 0, zb H 3, zb H 4, zb H 1⟩ fun hH => zK [5, 6] (zG rfl (fun K hK => ?_) (zG rfl (fun K hK => ?_) zJ))
   ·skip
    go_simp
    refine (z0s _).mono ?_
    rintro e wc ⟨rfl, hb⟩
    replace H := zd H hb
    refine zc hK ⟨zb H 0, zb H 3, zb H 4, zb H 1⟩ fun hH => ?_
    try simp only [Act.put, qa, qb, qc]
    refine zn 6 rfl fun K hK => ?_
    refine zg 15 rfl zA.zero H.out rfl ?_
    intro w15 g15 H3 hb
    replace H := za H3
    refine zc hK ⟨zb H 1, zb H 4, zb H 5, zb H 2⟩ fun hH => zn 7 rfl fun K hK => ?_
    refine zu 0 rfl z4 H.out rfl rfl rfl rfl ?_
    intro ws HS
    simp only [qb] at HS
    replace H := za HS
    refine zc hK ⟨zb H 1, zb H 4, zb H 5, zb H 2⟩ fun hH => ?_
    try simp only [qa]
    try simp only [Act.put]
    refine zm ?_
    go_wp2_with fail
    go_meet
    exact ⟨g15, rfl, H.out⟩
   ·skip
    refine zg 15 rfl zA.zero H.out rfl ?_
    intro w15 g15 H3 hb
    replace H := za H3
    refine zc hK ⟨zb H 1, zb H 4, zb H 5, zb H 2⟩ fun hH => zn 5 rfl fun K hK => ?_
    go_simp
    refine (z0s _).mono ?_
    rintro e wc ⟨rfl, hb⟩
    replace H := zd H hb
    refine zc hK ⟨zb H 1, zb H 4, zb H 5, zb H 2⟩ fun hH => ?_
    try simp only [Act.put, qa, qb, qc]
    refine zn 7 rfl fun K hK => ?_
    refine zu 0 rfl z4 H.out rfl rfl rfl rfl ?_
    intro ws HS
    simp only [qb] at HS
    replace H := za HS
    refine zc hK ⟨zb H 1, zb H 4, zb H 5, zb H 2⟩ fun hH => ?_
    try simp only [qa]
    try simp only [Act.put]
    refine zm ?_
    go_wp2_with fail
    go_meet
    exact ⟨g15, rfl, H.out⟩
  ·skip
   refine zg 15 rfl zA.zero H.out rfl ?_
   intro w15 g15 H3 hb
   replace H := za H3
   refine zc hK ⟨zb H 1, zb H 4, zb H 5, zb H 2⟩ fun hH => zn 4 rfl fun K hK => ?_
   go_simp
   refine (z0d _ _ _).mono ?_
   rintro e wc ⟨rfl, hb⟩
   replace H := zd H hb
   refine zc hK ⟨zb H 1, zb H 4, zb H 5, zb H 2⟩ fun hH => zn 5 rfl fun K hK => ?_
   go_simp
   refine (z0s _).mono ?_
   rintro e wc ⟨rfl, hb⟩
   replace H := zd H hb
   refine zc hK ⟨zb H 1, zb H 4, zb H 5, zb H 2⟩ fun hH => ?_
   try simp only [Act.put, qa, qb, qc]
   refine zn 7 rfl fun K hK => ?_
   refine zu 0 rfl z4 H.out rfl rfl rfl rfl ?_
   intro ws HS
   simp only [qb] at HS
   replace H := za HS
   refine zc hK ⟨zb H 1, zb H 4, zb H 5, zb H 2⟩ fun hH => ?_
   try simp only [qa]
   try simp only [Act.put]
   refine zm ?_
   go_wp2_with fail
   go_meet
   exact ⟨g15, rfl, H.out⟩
 clear H
 obtain ⟨g15, rfl, HRR⟩ := hcut
 have H := za HRR
 clear HRR 
 go_upto_region 17 with fail
 go_cut [16] from 78 to 83 (fun v16 wx => ∃ g16, v16 = .pointer (some ⟨g16, 0, none⟩) ∧ Ow w wx [(g16, zv 36 .i64 16 (dF ((((zC (1)) - (S * S)) * (R * ((zC (1)) + (S * S))))).val)), (g15, zv 36 .i64 16 (dF ((q * (R * (((((zC (1)) + (S * S)) * ((zC (1)) + (S * S))) + ((zC (156324)) * (S * S))) * fR)))).val)), (g14, zv 36 .i64 16 (dF (q).val)), (g13, zv 36 .i64 16 (dF (fR).val)), (g12, zv 36 .i64 16 (dF (eR).val)), (g10, zv 36 .i64 16 (dF (R).val)), (g9, zv 36 .i64 16 (dF (((((zC (1)) + (S * S)) * ((zC (1)) + (S * S))) + ((zC (156324)) * (S * S)))).val)), (g8, zv 36 .i64 16 (dF (((zC (1)) + (S * S))).val)), (g7, zv 36 .i64 16 (dF ((S * S)).val)), (g6, zv 36 .i64 16 (dF ((zC (1))).val)), (g5, zv 36 .i64 16 (dF (S).val)), (g4, zv 38 .i64 48 (r0)), (g2, zv 38 .i64 48 fun _ => 0)])
 case first =>
  go_wp2_with fail
  refine wp_region_noPanic ?_
  refine wp_region_held_drew (S := fun W => W.heap[g6]? = some (zv 36 .i64 16 (dF ((zC (1))).val)) ∧ W.heap[g7]? = some (zv 36 .i64 16 (dF ((S * S)).val)) ∧ W.heap[g10]? = some (zv 36 .i64 16 (dF (R).val)) ∧ W.heap[g8]? = some (zv 36 .i64 16 (dF (((zC (1)) + (S * S))).val))) (by kernel_rfl) (⟨H.out.drew.row 8 rfl, H.out.drew.row 7 rfl, H.out.drew.row 4 rfl, H.out.drew.row 6 rfl⟩) (fun hH => ?_)
  replace H := za H.out.drew
  generalize World.drew _ = w8 at *
  refine zk 0 78 z4 rfl rfl rfl hH rfl rfl (fun _ h => h.1) ?_
  refine zk 1 79 z4 rfl rfl rfl hH rfl rfl (fun _ h => h.2.1) ?_
  refine zk 3 81 z4 rfl rfl rfl hH rfl rfl (fun _ h => h.2.2.1) ?_
  try simp only [Act.put, qa, qb, qc]
  refine zk 4 82 z4 rfl rfl rfl hH rfl rfl (fun _ h => h.2.2.2) ?_
  refine zK [2, 6] (zG rfl (fun K hK => ?_) (zG rfl (fun K hK => ?_) zJ))
  ·skip
   go_simp
   refine (z1r _ _ _).mono ?_
   rintro e wc ⟨rfl, hb⟩
   replace H := zd H hb
   refine zc hK ⟨zb H 8, zb H 7, zb H 4, zb H 6⟩ fun hH => zK [5, 6] (zG rfl (fun K hK => ?_) (zG rfl (fun K hK => ?_) zJ))
   ·skip
    go_simp
    refine (z0s _).mono ?_
    rintro e wc ⟨rfl, hb⟩
    replace H := zd H hb
    refine zc hK ⟨zb H 8, zb H 7, zb H 4, zb H 6⟩ fun hH => ?_
    try simp only [Act.put, qa, qb, qc]
    refine zn 6 rfl fun K hK => ?_
    refine zg 16 rfl zA.zero H.out rfl ?_
    intro w16 g16 H3 hb
    replace H := za H3
    refine zc hK ⟨zb H 9, zb H 8, zb H 5, zb H 7⟩ fun hH => zn 7 rfl fun K hK => ?_
    refine zu 0 rfl z4 H.out rfl rfl rfl rfl ?_
    intro ws HS
    simp only [qb] at HS
    replace H := za HS
    refine zc hK ⟨zb H 9, zb H 8, zb H 5, zb H 7⟩ fun hH => ?_
    try simp only [qa]
    try simp only [Act.put]
    refine zm ?_
    go_wp2_with fail
    go_meet
    exact ⟨g16, rfl, H.out⟩
   ·skip
    refine zg 16 rfl zA.zero H.out rfl ?_
    intro w16 g16 H3 hb
    replace H := za H3
    refine zc hK ⟨zb H 9, zb H 8, zb H 5, zb H 7⟩ fun hH => zn 5 rfl fun K hK => ?_
    go_simp
    refine (z0s _).mono ?_
    rintro e wc ⟨rfl, hb⟩
    replace H := zd H hb
    refine zc hK ⟨zb H 9, zb H 8, zb H 5, zb H 7⟩ fun hH => ?_
    try simp only [Act.put, qa, qb, qc]
    refine zn 7 rfl fun K hK => ?_
    refine zu 0 rfl z4 H.out rfl rfl rfl rfl ?_
    intro ws HS
    simp only [qb] at HS
    replace H := za HS
    refine zc hK ⟨zb H 9, zb H 8, zb H 5, zb H 7⟩ fun hH => ?_
    try simp only [qa]
    try simp only [Act.put]
    refine zm ?_
    go_wp2_with fail
    go_meet
    exact ⟨g16, rfl, H.out⟩
  ·skip
   refine zg 16 rfl zA.zero H.out rfl ?_
   intro w16 g16 H3 hb
   replace H := za H3
   refine zc hK ⟨zb H 9, zb H 8, zb H 5, zb H 7⟩ fun hH => zn 2 rfl fun K hK => ?_
   go_simp
   refine (z1r _ _ _).mono ?_
   rintro e wc ⟨rfl, hb⟩
   replace H := zd H hb
   refine zc hK ⟨zb H 9, zb H 8, zb H 5, zb H 7⟩ fun hH => zn 5 rfl fun K hK => ?_
   go_simp
   refine (z0s _).mono ?_
   rintro e wc ⟨rfl, hb⟩
   replace H := zd H hb
   refine zc hK ⟨zb H 9, zb H 8, zb H 5, zb H 7⟩ fun hH => ?_
   try simp only [Act.put, qa, qb, qc]
   refine zn 7 rfl fun K hK => ?_
   refine zu 0 rfl z4 H.out rfl rfl rfl rfl ?_
   intro ws HS
   simp only [qb] at HS
   replace H := za HS
   refine zc hK ⟨zb H 9, zb H 8, zb H 5, zb H 7⟩ fun hH => ?_
   try simp only [qa]
   try simp only [Act.put]
   refine zm ?_
   go_wp2_with fail
   go_meet
   exact ⟨g16, rfl, H.out⟩
 clear H
 obtain ⟨g16, rfl, HRR⟩ := hcut
 have H := za HRR
 clear HRR 
 clear HQ HR HOK HS HS2 HZ HN
 go_wp2_with (first
  | ((with_reducible apply zr z4 H); (case hgd | ho | hx => exact rfl); (case hi => repeat first|exact z5|apply z8); intro _ _; go_simp)
  | ((fail_if_success have := mk5); (with_reducible refine (refOn14_k _ HON.out).mono ?_); rintro e wc ⟨rfl, hb⟩; replace H := zd H hb; clear hb; have mk5 := trivial)
  | ((fail_if_success have := WR); (with_reducible refine (HPT.out _).mono ?_); rintro e wc ⟨rr, rfl, hv, hb⟩; replace H := zd H hb; clear hb; have WR := za hv; clear hv)
  | ((with_reducible apply zj zD H); (case hgd | ho | hx | hy => exact rfl); (case hi => repeat first|exact z5|apply z8); clear H; intro ws H _ _; simp only [qb, qc] at H; go_simp))
 exact bodyPost_ret (z0c 12 zD rfl _ H rfl rfl rfl) rfl ⟨_, rfl, WR.out, H.out.bel⟩
end Go.Proofs.YtgjbonikbmgfmaaGreatDoor
