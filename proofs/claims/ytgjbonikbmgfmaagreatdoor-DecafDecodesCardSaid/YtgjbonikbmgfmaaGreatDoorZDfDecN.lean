/- Lemmas; no statement is proved here. -/
import Derived.Test.YtgjbonikbmgfmaaGreatDoorQDZDfRef
import Derived.Test.YtgjbonikbmgfmaaGreatDoorZRtRrat
set_option maxRecDepth 8000
set_option maxHeartbeats 3200000
namespace Go.Proofs.YtgjbonikbmgfmaaGreatDoor
open Go.RowKit
theorem decK_x (s : K) (ok : dfOk eC dK s) : (decK s ok).x = dfX eC dK eR fR s := rfl
theorem decK_y (s : K) (ok : dfOk eC dK s) : (decK s ok).y = dfY eC dK s := rfl
theorem z84 {a a' : Option Addr} {n c x m c' y : Nat} {z : Int} (w : World) (hn : n ≤ 1000000) (hm : m ≤ 1000000) (h : Sb w w.heap.size a n c x) (h' : Sb w w.heap.size a' m c' y) (hz : cmp x y = z) :
  Calls Tryz.prog 63 #[.slice a n c, .slice a' m c'] w fun e w' => e = .returned (.int .i64 z) ∧ Below w.heap.size w w' :=
 (z4m a n c x a' m c' y w hn hm h h').mono fun e w' ⟨he, hw⟩ => ⟨by rw [he, hz], hw ▸ Below.refl _ _⟩
theorem y1l {a : K} {b : Bool} (w : World) (h : decide (a.val % 2 = 1) = b) : Calls Tryz.prog 66 #[FV a.val] w fun e w' => e = .returned (.bool b) ∧ Below w.heap.size w w' := h ▸ z3q w
theorem z30 {u v r : K} {b : Bool} (w : World) (hr : ab (zL eC u v) = r) (h : decide (v * (zL eC u v * zL eC u v) = u) = b) :
  Calls Tryz.prog 53 #[FV u.val, FV v.val] w fun e w' => e = .returned (.tuple #[FV r.val, .bool b]) ∧ Below w.heap.size w w' := h ▸ hr ▸ z3z w
theorem z59 {a r : K} (w : World) (hr : ab a = r) : Calls Tryz.prog 56 #[FV a.val] w fun e w' => e = .returned (FV r.val) ∧ Below w.heap.size w w' := hr ▸ z85 w
theorem refDec_size {a : Option Addr} {n c : Nat} (w : World) (hn : n ≠ 56) :
  Calls Tryz.prog 14 #[.slice a n c] w fun e w' => ∃ r, e = .returned (.tuple #[QO r, .bool false]) ∧ Below w.heap.size w w' := by
 have hd : ((n : Int) != 56) = true := by rw [bne_iff_ne]; omega
 clear hn
 have H := za (Ow.start w)
 go_enter Tryz.func14, Tryz.ntmps14
 go_wp2_with (first
  | ((with_reducible apply ze z0w H); (case hgd | ho => exact rfl); clear H; intro _ _ H _ _; go_simp)
  | ((fail_if_success have := W0); (with_reducible refine (z1e _).mono ?_); rintro e wc ⟨r0, rfl, hv, hb⟩; replace H := zd H hb; clear hb; have W0 := za hv; clear hv)
  | ((with_reducible apply zr zD H); (case hgd | ho | hx => exact rfl); (case hi => repeat first|exact z5|apply z8); intro _ _; go_simp)
  | ((with_reducible apply zj zD H); (case hgd | ho | hx | hy => exact rfl); (case hi => repeat first|exact z5|apply z8); clear H; intro ws H _ _; simp only [qb, qc] at H; go_simp)
  | ((with_reducible refine z1y ?hw ?h); (case hw => exact rfl); intro _ _; go_simp))
 exact bodyPost_ret (z0c 1 zD rfl _ H rfl rfl rfl) rfl ⟨_, rfl, H.out.bel⟩
theorem refDec_big {a : Option Addr} {c x : Nat} (w : World) (hs : Sb w w.heap.size a 56 c x) (h : pN ≤ x) :
  Calls Tryz.prog 14 #[.slice a 56 c] w fun e w' => ∃ r, e = .returned (.tuple #[QO r, .bool false]) ∧ Below w.heap.size w w' := by
 obtain ⟨z, hz⟩ : ∃ z, cmp x pN = z := ⟨_, rfl⟩
 have z0 : 0 ≤ z := by
  rw [← hz]
  unfold cmp
  split
  ·omega
  ·split <;> omega
 have dz : decide (0 ≤ z) = true := decide_eq_true z0
 have HZ := za hz
 clear h hz
 have HS := za hs
 clear hs
 have H := za (Ow.start w)
 go_enter Tryz.func14, Tryz.ntmps14
 go_wp2_with (first
  | ((with_reducible apply ze z0w H); (case hgd | ho => exact rfl); clear H; intro _ _ H _ _; go_simp)
  | ((fail_if_success have := W0); (with_reducible refine (z1e _).mono ?_); rintro e wc ⟨r0, rfl, hv, hb⟩; replace H := zd H hb; clear hb; have W0 := za hv; clear hv)
  | ((with_reducible apply zr zD H); (case hgd | ho | hx => exact rfl); (case hi => repeat first|exact z5|apply z8); intro _ _; go_simp)
  | ((with_reducible apply zj zD H); (case hgd | ho | hx | hy => exact rfl); (case hi => repeat first|exact z5|apply z8); clear H; intro ws H _ _; simp only [qb, qc] at H; go_simp)
  | ((with_reducible refine z1y ?hw ?h); (case hw => exact rfl); intro _ _; go_simp)
  | ((fail_if_success have := SP); (with_reducible refine (z1p _).mono ?_); rintro e wc ⟨gp, cp, rfl, hs, hb⟩; replace H := zd H hb; clear hb; have SP := za hs; clear hs)
  | ((fail_if_success have := mkc); (with_reducible refine (z84 _ (by omega) (by omega) ((HS.out.below H.out.bel).more H.out.bel.size) SP.out HZ.out).mono ?_); rintro e wc ⟨rfl, hb⟩; replace H := zd H hb; clear hb; have mkc := trivial))
 exact bodyPost_ret (z0c 1 zD rfl _ H rfl rfl rfl) rfl ⟨_, rfl, H.out.bel⟩
theorem refDec_odd {a : Option Addr} {c x : Nat} (w : World) (hs : Sb w w.heap.size a 56 c x) (h : x < pN) (ho : (cN pN x).val % 2 = 1) :
  Calls Tryz.prog 14 #[.slice a 56 c] w fun e w' => ∃ r, e = .returned (.tuple #[QO r, .bool false]) ∧ Below w.heap.size w w' := by
 have HZ : Hid (cmp x pN = -1) := za (by unfold cmp; rw [if_pos h])
 have HN := za (decide_eq_true ho)
 clear h ho
 have HS := za hs
 clear hs
 have H := za (Ow.start w)
 go_enter Tryz.func14, Tryz.ntmps14
 go_wp2_with (first
  | ((with_reducible apply ze z0w H); (case hgd | ho => exact rfl); clear H; intro _ _ H _ _; go_simp)
  | ((fail_if_success have := W0); (with_reducible refine (z1e _).mono ?_); rintro e wc ⟨r0, rfl, hv, hb⟩; replace H := zd H hb; clear hb; have W0 := za hv; clear hv)
  | ((with_reducible apply zr zD H); (case hgd | ho | hx => exact rfl); (case hi => repeat first|exact z5|apply z8); intro _ _; go_simp)
  | ((with_reducible apply zj zD H); (case hgd | ho | hx | hy => exact rfl); (case hi => repeat first|exact z5|apply z8); clear H; intro ws H _ _; simp only [qb, qc] at H; go_simp)
  | ((with_reducible refine z1y ?hw ?h); (case hw => exact rfl); intro _ _; go_simp)
  | ((fail_if_success have := SP); (with_reducible refine (z1p _).mono ?_); rintro e wc ⟨gp, cp, rfl, hs, hb⟩; replace H := zd H hb; clear hb; have SP := za hs; clear hs)
  | ((fail_if_success have := mkc); (with_reducible refine (z84 _ (by omega) (by omega) ((HS.out.below H.out.bel).more H.out.bel.size) SP.out HZ.out).mono ?_); rintro e wc ⟨rfl, hb⟩; replace H := zd H hb; clear hb; have mkc := trivial)
  | ((fail_if_success have := mko); (with_reducible refine (y31 _ ((HS.out.below H.out.bel).more H.out.bel.size)).mono ?_); rintro e wc ⟨rfl, hb⟩; replace H := zd H hb; clear hb; have mko := trivial)
  | ((with_reducible apply ze zA.zero H); (case hgd | ho => exact rfl); clear H; intro _ _ H _ _; go_simp)
  | ((with_reducible apply zr z4 H); (case hgd | ho | hx => exact rfl); (case hi => repeat first|exact z5|apply z8); intro _ _; go_simp)
  | ((with_reducible apply zj z4 H); (case hgd | ho | hx | hy => exact rfl); (case hi => repeat first|exact z5|apply z8); clear H; intro ws H _ _; simp only [qb] at H; go_simp)
  | ((fail_if_success have := mkn); (with_reducible refine (y1l _ HN.out).mono ?_); rintro e wc ⟨rfl, hb⟩; replace H := zd H hb; clear hb; have mkn := trivial))
 exact bodyPost_ret (z0c 2 zD rfl _ H rfl rfl rfl) rfl ⟨_, rfl, H.out.bel⟩
theorem refDec_no {a : Option Addr} {c x : Nat} (w : World) (hs : Sb w w.heap.size a 56 c x) (h : x < pN) (ho : (cN pN x).val % 2 ≠ 1) (ok : ¬ dfOk eC dK (cN pN x)) :
  Calls Tryz.prog 14 #[.slice a 56 c] w fun e w' => ∃ r, e = .returned (.tuple #[QO r, .bool false]) ∧ Below w.heap.size w w' := by
 have HZ : Hid (cmp x pN = -1) := za (by unfold cmp; rw [if_pos h])
 have HN := za (decide_eq_false ho)
 have HS2 := za (fun w => y31 (a := a) (c := c) (y := x) w)
 generalize cN pN x = S at *
 have HOK : Hid (decide ((((((zC (1)) + (S * S)) * ((zC (1)) + (S * S))) + ((zC (156324)) * (S * S))) * (((zC (1)) + (S * S)) * ((zC (1)) + (S * S)))) * (zL eC (zC (1)) (((((zC (1)) + (S * S)) * ((zC (1)) + (S * S))) + ((zC (156324)) * (S * S))) * (((zC (1)) + (S * S)) * ((zC (1)) + (S * S)))) * zL eC (zC (1)) (((((zC (1)) + (S * S)) * ((zC (1)) + (S * S))) + ((zC (156324)) * (S * S))) * (((zC (1)) + (S * S)) * ((zC (1)) + (S * S))))) = zC (1)) = false) := za (decide_eq_false (by rw [dfr_ok]; exact ok))
 obtain ⟨R, hR⟩ : ∃ R, ab (zL eC (zC (1)) (((((zC (1)) + (S * S)) * ((zC (1)) + (S * S))) + ((zC (156324)) * (S * S))) * (((zC (1)) + (S * S)) * ((zC (1)) + (S * S))))) = R := ⟨_, rfl⟩
 have HR := za hR
 clear h ho hR ok
 have HS := za hs
 clear hs
 have H := za (Ow.start w)
 go_enter Tryz.func14, Tryz.ntmps14
 go_upto_region 10 with (first
  | ((fail_if_success have := g2); (with_reducible apply ze z0w H); (case hgd | ho => exact rfl); clear H; intro w2 g2 H _ _; go_simp)
  | ((fail_if_success have := W0); (with_reducible refine (z1e _).mono ?_); rintro e wc ⟨r0, rfl, hv, hb⟩; replace H := zd H hb; clear hb; have W0 := za hv; clear hv)
  | ((fail_if_success have := g4); (with_reducible apply ze z0w H); (case hgd | ho => exact rfl); clear H; intro w4 g4 H _ _; go_simp)
  | ((with_reducible apply zr zD H); (case hgd | ho | hx => exact rfl); (case hi => repeat first|exact z5|apply z8); intro _ _; go_simp)
  | ((with_reducible apply zj zD H); (case hgd | ho | hx | hy => exact rfl); (case hi => repeat first|exact z5|apply z8); clear H; intro ws H _ _; simp only [qb] at H; go_simp)
  | ((with_reducible refine z1y ?hw ?h); (case hw => exact rfl); intro _ _; go_simp)
  | ((fail_if_success have := SP); (with_reducible refine (z1p _).mono ?_); rintro e wc ⟨gp, cp, rfl, hs, hb⟩; replace H := zd H hb; clear hb; have SP := za hs; clear hs)
  | ((fail_if_success have := mkc); (with_reducible refine (z84 _ (by omega) (by omega) ((HS.out.below H.out.bel).more H.out.bel.size) SP.out HZ.out).mono ?_); rintro e wc ⟨rfl, hb⟩; replace H := zd H hb; clear hb; have mkc := trivial)
  | ((fail_if_success have := mko); (with_reducible refine (HS2.out _ ((HS.out.below H.out.bel).more H.out.bel.size)).mono ?_); rintro e wc ⟨rfl, hb⟩; replace H := zd H hb; clear hb; have mko := trivial)
  | ((fail_if_success have := g5); (with_reducible apply ze zA.zero H); (case hgd | ho => exact rfl); clear H; intro w5 g5 H _ _; go_simp)
  | ((with_reducible apply zr z4 H); (case hgd | ho | hx => exact rfl); (case hi => repeat first|exact z5|apply z8); intro _ _; go_simp)
  | ((with_reducible apply zj z4 H); (case hgd | ho | hx | hy => exact rfl); (case hi => repeat first|exact z5|apply z8); clear H; intro ws H _ _; simp only [qb] at H; go_simp)
  | ((fail_if_success have := mkn); (with_reducible refine (y1l _ HN.out).mono ?_); rintro e wc ⟨rfl, hb⟩; replace H := zd H hb; clear hb; have mkn := trivial)
  | ((fail_if_success have := mk1); (with_reducible refine (z0p _ (1) (by omega) (by omega)).mono ?_); rintro e wc ⟨rfl, hb⟩; replace H := zd H hb; clear hb; have mk1 := trivial)
  | ((fail_if_success have := g6); (with_reducible apply ze zA.zero H); (case hgd | ho => exact rfl); clear H; intro w6 g6 H _ _; go_simp)
  | ((fail_if_success have := mk2); (with_reducible refine (z0d (S) (S) _).mono ?_); rintro e wc ⟨rfl, hb⟩; replace H := zd H hb; clear hb; have mk2 := trivial)
  | ((fail_if_success have := g7); (with_reducible apply ze zA.zero H); (case hgd | ho => exact rfl); clear H; intro w7 g7 H _ _; go_simp)
  | ((fail_if_success have := mk3); (with_reducible refine (z1s _ _ _).mono ?_); rintro e wc ⟨rfl, hb⟩; replace H := zd H hb; clear hb; have mk3 := trivial)
  | ((fail_if_success have := g8); (with_reducible apply ze zA.zero H); (case hgd | ho => exact rfl); clear H; intro w8 g8 H _ _; go_simp))
 clear mkc mko mkn mk1 mk2 mk3
 go_cut [9] from 40 to 46 (fun v9 wx => ∃ g9, v9 = .pointer (some ⟨g9, 0, none⟩) ∧ Ow w wx [(g9, zv 36 .i64 16 (dF (((((zC (1)) + (S * S)) * ((zC (1)) + (S * S))) + ((zC (156324)) * (S * S)))).val)), (g8, zv 36 .i64 16 (dF (((zC (1)) + (S * S))).val)), (g7, zv 36 .i64 16 (dF ((S * S)).val)), (g6, zv 36 .i64 16 (dF ((zC (1))).val)), (g5, zv 36 .i64 16 (dF (S).val)), (g4, zv 38 .i64 48 (r0)), (g2, zv 38 .i64 48 fun _ => 0)])
 case first =>
  go_wp2_with fail
  refine wp_region_noPanic ?_
  refine wp_region_held_drew (S := fun W => W.heap[g8]? = some (zv 36 .i64 16 (dF (((zC (1)) + (S * S))).val)) ∧ W.heap[g7]? = some (zv 36 .i64 16 (dF ((S * S)).val))) (by kernel_rfl) (⟨H.out.drew.row 0 rfl, H.out.drew.row 1 rfl⟩) (fun hH => ?_)
  replace H := za H.out.drew
  generalize World.drew _ = w8 at *
  refine zk 0 40 z4 rfl rfl rfl hH rfl rfl (fun _ h => h.1) ?_
  refine zk 1 41 z4 rfl rfl rfl hH rfl rfl (fun _ h => h.1) ?_
  refine zk 4 44 z4 rfl rfl rfl hH rfl rfl (fun _ h => h.2) ?_
  try simp only [Act.put, qa, qb, qc]
  refine zK [2, 7] (zG rfl (fun K hK => ?_) (zG rfl (fun K hK => ?_) zJ))
  ·skip
   go_simp
   refine (z0d _ _ _).mono ?_
   rintro e wc ⟨rfl, hb⟩
   replace H := zd H hb
   refine zc hK ⟨zb H 0, zb H 1⟩ fun hH => zK [3, 7] (zG rfl (fun K hK => ?_) (zG rfl (fun K hK => ?_) zJ))
   ·skip
    go_simp
    refine (z0p _ (156324) (by omega) (by omega)).mono ?_
    rintro e wc ⟨rfl, hb⟩
    replace H := zd H hb
    refine zc hK ⟨zb H 0, zb H 1⟩ fun hH => zK [5, 7] (zG rfl (fun K hK => ?_) (zG rfl (fun K hK => ?_) zJ))
    ·skip
     go_simp
     refine (z0d _ _ _).mono ?_
     rintro e wc ⟨rfl, hb⟩
     replace H := zd H hb
     refine zc hK ⟨zb H 0, zb H 1⟩ fun hH => ?_
     try simp only [Act.put, qa, qb, qc]
     refine zK [6, 7] (zG rfl (fun K hK => ?_) (zG rfl (fun K hK => ?_) zJ))
     ·skip
      go_simp
      refine (z1s _ _ _).mono ?_
      rintro e wc ⟨rfl, hb⟩
      replace H := zd H hb
      refine zc hK ⟨zb H 0, zb H 1⟩ fun hH => zn 7 rfl fun K hK => ?_
      refine zg 9 rfl zA.zero H.out rfl ?_
      intro w9 g9 H3 hb
      replace H := za H3
      refine zc hK ⟨zb H 1, zb H 2⟩ fun hH => zn 8 rfl fun K hK => ?_
      refine zu 0 rfl z4 H.out rfl rfl rfl rfl ?_
      intro ws HS
      simp only [qb] at HS
      replace H := za HS
      refine zc hK ⟨zb H 1, zb H 2⟩ fun hH => ?_
      try simp only [qa]
      try simp only [Act.put]
      refine zm ?_
      go_wp2_with fail
      go_meet
      exact ⟨g9, rfl, H.out⟩
     ·skip
      refine zg 9 rfl zA.zero H.out rfl ?_
      intro w9 g9 H3 hb
      replace H := za H3
      refine zc hK ⟨zb H 1, zb H 2⟩ fun hH => ?_
      try simp only [Act.put, qa, qb, qc]
      refine zn 6 rfl fun K hK => ?_
      go_simp
      refine (z1s _ _ _).mono ?_
      rintro e wc ⟨rfl, hb⟩
      replace H := zd H hb
      refine zc hK ⟨zb H 1, zb H 2⟩ fun hH => zn 8 rfl fun K hK => ?_
      refine zu 0 rfl z4 H.out rfl rfl rfl rfl ?_
      intro ws HS
      simp only [qb] at HS
      replace H := za HS
      refine zc hK ⟨zb H 1, zb H 2⟩ fun hH => ?_
      try simp only [qa]
      try simp only [Act.put]
      refine zm ?_
      go_wp2_with fail
      go_meet
      exact ⟨g9, rfl, H.out⟩
    ·skip
     refine zg 9 rfl zA.zero H.out rfl ?_
     intro w9 g9 H3 hb
     replace H := za H3
     refine zc hK ⟨zb H 1, zb H 2⟩ fun hH => zn 5 rfl fun K hK => ?_
     go_simp
     refine (z0d _ _ _).mono ?_
     rintro e wc ⟨rfl, hb⟩
     replace H := zd H hb
     refine zc hK ⟨zb H 1, zb H 2⟩ fun hH => ?_
     try simp only [Act.put, qa, qb, qc]
     refine zn 6 rfl fun K hK => ?_
     go_simp
     refine (z1s _ _ _).mono ?_
     rintro e wc ⟨rfl, hb⟩
     replace H := zd H hb
     refine zc hK ⟨zb H 1, zb H 2⟩ fun hH => zn 8 rfl fun K hK => ?_
     refine zu 0 rfl z4 H.out rfl rfl rfl rfl ?_
     intro ws HS
     simp only [qb] at HS
     replace H := za HS
     refine zc hK ⟨zb H 1, zb H 2⟩ fun hH => ?_
     try simp only [qa]
     try simp only [Act.put]
     refine zm ?_
     go_wp2_with fail
     go_meet
     exact ⟨g9, rfl, H.out⟩
   ·skip
    refine zg 9 rfl zA.zero H.out rfl ?_
    intro w9 g9 H3 hb
    replace H := za H3
    refine zc hK ⟨zb H 1, zb H 2⟩ fun hH => zn 3 rfl fun K hK => ?_
    go_simp
    refine (z0p _ (156324) (by omega) (by omega)).mono ?_
    rintro e wc ⟨rfl, hb⟩
    replace H := zd H hb
    refine zc hK ⟨zb H 1, zb H 2⟩ fun hH => ?_
    try simp only [Act.put, qa, qb, qc]
    refine zn 5 rfl fun K hK => ?_
    go_simp
    refine (z0d _ _ _).mono ?_
    rintro e wc ⟨rfl, hb⟩
    replace H := zd H hb
    refine zc hK ⟨zb H 1, zb H 2⟩ fun hH => zn 6 rfl fun K hK => ?_
    go_simp
    refine (z1s _ _ _).mono ?_
    rintro e wc ⟨rfl, hb⟩
    replace H := zd H hb
    refine zc hK ⟨zb H 1, zb H 2⟩ fun hH => zn 8 rfl fun K hK => ?_
    refine zu 0 rfl z4 H.out rfl rfl rfl rfl ?_
    intro ws HS
    simp only [qb] at HS
    replace H := za HS
    refine zc hK ⟨zb H 1, zb H 2⟩ fun hH => ?_
    try simp only [qa]
    try simp only [Act.put]
    refine zm ?_
    go_wp2_with fail
    go_meet
    exact ⟨g9, rfl, H.out⟩
  ·skip
   refine zg 9 rfl zA.zero H.out rfl ?_
   intro w9 g9 H3 hb
   replace H := za H3
   refine zc hK ⟨zb H 1, zb H 2⟩ fun hH => ?_
   try simp only [Act.put, qa, qb, qc]
   refine zn 2 rfl fun K hK => ?_
   go_simp
   refine (z0d _ _ _).mono ?_
   rintro e wc ⟨rfl, hb⟩
   replace H := zd H hb
   refine zc hK ⟨zb H 1, zb H 2⟩ fun hH => zn 3 rfl fun K hK => ?_
   go_simp
   refine (z0p _ (156324) (by omega) (by omega)).mono ?_
   rintro e wc ⟨rfl, hb⟩
   replace H := zd H hb
   refine zc hK ⟨zb H 1, zb H 2⟩ fun hH => zn 5 rfl fun K hK => ?_
   go_simp
   refine (z0d _ _ _).mono ?_
   rintro e wc ⟨rfl, hb⟩
   replace H := zd H hb
   refine zc hK ⟨zb H 1, zb H 2⟩ fun hH => ?_
   try simp only [Act.put, qa, qb, qc]
   refine zn 6 rfl fun K hK => ?_
   go_simp
   refine (z1s _ _ _).mono ?_
   rintro e wc ⟨rfl, hb⟩
   replace H := zd H hb
   refine zc hK ⟨zb H 1, zb H 2⟩ fun hH => zn 8 rfl fun K hK => ?_
   refine zu 0 rfl z4 H.out rfl rfl rfl rfl ?_
   intro ws HS
   simp only [qb] at HS
   replace H := za HS
   refine zc hK ⟨zb H 1, zb H 2⟩ fun hH => ?_
   try simp only [qa]
   try simp only [Act.put]
   refine zm ?_
   go_wp2_with fail
   go_meet
   exact ⟨g9, rfl, H.out⟩
 clear H
 obtain ⟨g9, rfl, HRR⟩ := hcut
 have H := za HRR
 clear HRR 
 go_upto_region 11 with fail
 go_cut [10, 11] from 47 to 55 (fun v10 v11 wx => ∃ g10, v10 = .pointer (some ⟨g10, 0, none⟩) ∧ v11 = .bool false ∧ Ow w wx [(g10, zv 36 .i64 16 (dF (R).val)), (g9, zv 36 .i64 16 (dF (((((zC (1)) + (S * S)) * ((zC (1)) + (S * S))) + ((zC (156324)) * (S * S)))).val)), (g8, zv 36 .i64 16 (dF (((zC (1)) + (S * S))).val)), (g7, zv 36 .i64 16 (dF ((S * S)).val)), (g6, zv 36 .i64 16 (dF ((zC (1))).val)), (g5, zv 36 .i64 16 (dF (S).val)), (g4, zv 38 .i64 48 (r0)), (g2, zv 38 .i64 48 fun _ => 0)])
 case first =>
  go_wp2_with fail
  refine wp_region_noPanic ?_
  refine wp_region_held_drew (S := fun W => W.heap[g6]? = some (zv 36 .i64 16 (dF ((zC (1))).val)) ∧ W.heap[g9]? = some (zv 36 .i64 16 (dF (((((zC (1)) + (S * S)) * ((zC (1)) + (S * S))) + ((zC (156324)) * (S * S)))).val)) ∧ W.heap[g8]? = some (zv 36 .i64 16 (dF (((zC (1)) + (S * S))).val))) (by kernel_rfl) (⟨H.out.drew.row 3 rfl, H.out.drew.row 0 rfl, H.out.drew.row 1 rfl⟩) (fun hH => ?_)
  replace H := za H.out.drew
  generalize World.drew _ = w8 at *
  refine zk 0 48 z4 rfl rfl rfl hH rfl rfl (fun _ h => h.1) ?_
  refine zk 1 49 z4 rfl rfl rfl hH rfl rfl (fun _ h => h.2.1) ?_
  try simp only [Act.put, qa, qb, qc]
  refine zk 2 50 z4 rfl rfl rfl hH rfl rfl (fun _ h => h.2.2) ?_
  refine zk 3 51 z4 rfl rfl rfl hH rfl rfl (fun _ h => h.2.2) ?_
  refine zK [4, 9] (zG rfl (fun K hK => ?_) (zG rfl (fun K hK => ?_) zJ))
  ·skip
   go_simp
   refine (z0s _).mono ?_
   rintro e wc ⟨rfl, hb⟩
   replace H := zd H hb
   refine zc hK ⟨zb H 3, zb H 0, zb H 1⟩ fun hH => ?_
   try simp only [Act.put, qa, qb, qc]
   refine zK [5, 9] (zG rfl (fun K hK => ?_) (zG rfl (fun K hK => ?_) zJ))
   ·skip
    go_simp
    refine (z30 _ HR.out HOK.out).mono ?_
    rintro e wc ⟨rfl, hb⟩
    replace H := zd H hb
    refine zc hK ⟨zb H 3, zb H 0, zb H 1⟩ fun hH => ?_
    refine zh 6 47 (.tuple #[FV (R).val, .bool false]) hH ?_
    refine zh 7 54 (FV (R).val) hH ?_
    refine zh 8 55 (.bool false) hH ?_
    refine zn 9 rfl fun K hK => ?_
    refine zg 10 rfl zA.zero H.out rfl ?_
    intro w10 g10 H3 hb
    replace H := za H3
    refine zc hK ⟨zb H 4, zb H 1, zb H 2⟩ fun hH => zn 10 rfl fun K hK => ?_
    refine zu 0 rfl z4 H.out rfl rfl rfl rfl ?_
    intro ws HS
    simp only [qb] at HS
    replace H := za HS
    refine zc hK ⟨zb H 4, zb H 1, zb H 2⟩ fun hH => ?_
    try simp only [qa]
    refine zh 11 11 (.bool false) hH ?_
    refine zm ?_
    go_wp2_with fail
    go_meet
    exact ⟨g10, rfl, rfl, H.out⟩
   ·skip
    refine zg 10 rfl zA.zero H.out rfl ?_
    intro w10 g10 H3 hb
    replace H := za H3
    refine zc hK ⟨zb H 4, zb H 1, zb H 2⟩ fun hH => zn 5 rfl fun K hK => ?_
    go_simp
    refine (z30 _ HR.out HOK.out).mono ?_
    rintro e wc ⟨rfl, hb⟩
    replace H := zd H hb
    refine zc hK ⟨zb H 4, zb H 1, zb H 2⟩ fun hH => ?_
    refine zh 6 47 (.tuple #[FV (R).val, .bool false]) hH ?_
    refine zh 7 54 (FV (R).val) hH ?_
    refine zh 8 55 (.bool false) hH ?_
    refine zn 10 rfl fun K hK => ?_
    refine zu 0 rfl z4 H.out rfl rfl rfl rfl ?_
    intro ws HS
    simp only [qb] at HS
    replace H := za HS
    refine zc hK ⟨zb H 4, zb H 1, zb H 2⟩ fun hH => ?_
    try simp only [qa]
    refine zh 11 11 (.bool false) hH ?_
    refine zm ?_
    go_wp2_with fail
    go_meet
    exact ⟨g10, rfl, rfl, H.out⟩
  ·skip
   refine zg 10 rfl zA.zero H.out rfl ?_
   intro w10 g10 H3 hb
   replace H := za H3
   refine zc hK ⟨zb H 4, zb H 1, zb H 2⟩ fun hH => zn 4 rfl fun K hK => ?_
   go_simp
   refine (z0s _).mono ?_
   rintro e wc ⟨rfl, hb⟩
   replace H := zd H hb
   refine zc hK ⟨zb H 4, zb H 1, zb H 2⟩ fun hH => zn 5 rfl fun K hK => ?_
   go_simp
   refine (z30 _ HR.out HOK.out).mono ?_
   rintro e wc ⟨rfl, hb⟩
   replace H := zd H hb
   refine zc hK ⟨zb H 4, zb H 1, zb H 2⟩ fun hH => ?_
   try simp only [Act.put, qa, qb, qc]
   refine zh 6 47 (.tuple #[FV (R).val, .bool false]) hH ?_
   refine zh 7 54 (FV (R).val) hH ?_
   refine zh 8 55 (.bool false) hH ?_
   refine zn 10 rfl fun K hK => ?_
   refine zu 0 rfl z4 H.out rfl rfl rfl rfl ?_
   intro ws HS
   simp only [qb] at HS
   replace H := za HS
   refine zc hK ⟨zb H 4, zb H 1, zb H 2⟩ fun hH => ?_
   try simp only [qa]
   refine zh 11 11 (.bool false) hH ?_
   refine zm ?_
   go_wp2_with fail
   go_meet
   exact ⟨g10, rfl, rfl, H.out⟩
 clear H
 obtain ⟨g10, rfl, rfl, HRR⟩ := hcut
 have H := za HRR
 clear HRR 
 go_wp2_with (first
  | ((with_reducible apply zr zD H); (case hgd | ho | hx => exact rfl); (case hi => repeat first|exact z5|apply z8); intro _ _; go_simp)
  | ((with_reducible apply zj zD H); (case hgd | ho | hx | hy => exact rfl); (case hi => repeat first|exact z5|apply z8); clear H; intro ws H _ _; simp only [qb, qc] at H; go_simp))
 exact bodyPost_ret (z0c 7 zD rfl _ H rfl rfl rfl) rfl ⟨_, rfl, H.out.bel⟩
end Go.Proofs.YtgjbonikbmgfmaaGreatDoor
