/- Lemmas; no statement is proved here. -/
import Derived.Test.YtgjbonikbmgfmaaGreatDoorZRtRroot
set_option maxRecDepth 8000
set_option maxHeartbeats 3200000
namespace Go.Proofs.YtgjbonikbmgfmaaGreatDoor
open Go.RowKit
theorem ratio_ref {u v : K} (hu : u ≠ 0) (hv : v ≠ 0) :
  (v * (zL eC u v * zL eC u v) = u → (u * inv v) ^ (eC + 1) * (u * inv v) ^ (eC + 1) = u * inv v ∧ ab ((u * inv v) ^ (eC + 1)) = ab (zL eC u v)) ∧
  (v * (zL eC u v * zL eC u v) ≠ u → (u * inv v) ^ (eC + 1) * (u * inv v) ^ (eC + 1) ≠ u * inv v ∧ (-(u * inv v)) ^ (eC + 1) * (-(u * inv v)) ^ (eC + 1) = -(u * inv v) ∧ ab ((-(u * inv v)) ^ (eC + 1)) = ab (zL eC u v)) :=
 rat_ref z0q pN_c hu hv
theorem ratio_zero_left (v : K) : ab (zL eC 0 v) = 0 ∧ v * (zL eC 0 v * zL eC 0 v) = 0 := by
 rw [z7f, y2b]
 exact ⟨rfl, by grind⟩
theorem ratio_zero_right {u : K} (hu : u ≠ 0) : ab (zL eC u 0) = 0 ∧ ¬ (0 * (zL eC u 0 * zL eC u 0) = u) := by
 rw [rat_zero_right eC_ne, y2b]
 exact ⟨rfl, fun h => hu (by grind)⟩
attribute [local go_sem] eqF
theorem refRatio_u {u v : K} (w : World) (hu : u = 0) :
  Calls Tryz.prog 53 #[FV u.val, FV v.val] w fun e w' => e = .returned (.tuple #[FV 0, .bool true]) ∧ Below w.heap.size w w' := by
 have e1 : eqZ 16 (dF u.val) (dF 0) = true := (y4g u 0).trans (decide_eq_true hu)
 clear hu
 have H := za (Ow.start w)
 go_enter Tryz.func53, Tryz.ntmps53
 go_wp2_with (first
  | ((with_reducible apply zw H); (case hgd | ho | hx => exact rfl); clear H; intro _ _ H _ _; go_simp)
  | ((with_reducible apply ze zA.zero H); (case hgd | ho => exact rfl); clear H; intro _ _ H _ _; go_simp)
  | ((with_reducible apply z2u); (case hgd | ho => exact rfl); intro _ _; go_simp)
  | ((with_reducible apply zj z4 H); (case hgd | ho | hx | hy => exact rfl); (case hi => repeat first|exact z5|apply z8); clear H; intro ws H _ _; simp only [qb, qc] at H; go_simp)
  | ((with_reducible apply zr z4 H); (case hgd | ho | hx => exact rfl); (case hi => repeat first|exact z5|apply z8); intro _ _; go_simp))
 exact bodyPost_ret (z0c 1 z4 rfl _ H rfl rfl rfl) rfl ⟨rfl, H.out.bel⟩
theorem refRatio_v {u v : K} (w : World) (hu : u ≠ 0) (hv : v = 0) :
  Calls Tryz.prog 53 #[FV u.val, FV v.val] w fun e w' => e = .returned (.tuple #[FV 0, .bool false]) ∧ Below w.heap.size w w' := by
 have e1 : eqZ 16 (dF u.val) (dF 0) = false := (y4g u 0).trans (decide_eq_false hu)
 have e2 : eqZ 16 (dF v.val) (dF 0) = true := (y4g v 0).trans (decide_eq_true hv)
 clear hu hv
 have H := za (Ow.start w)
 go_enter Tryz.func53, Tryz.ntmps53
 go_wp2_with (first
  | ((with_reducible apply zw H); (case hgd | ho | hx => exact rfl); clear H; intro _ _ H _ _; go_simp)
  | ((with_reducible apply ze zA.zero H); (case hgd | ho => exact rfl); clear H; intro _ _ H _ _; go_simp)
  | ((with_reducible apply z2u); (case hgd | ho => exact rfl); intro _ _; go_simp)
  | ((with_reducible apply zj z4 H); (case hgd | ho | hx | hy => exact rfl); (case hi => repeat first|exact z5|apply z8); clear H; intro ws H _ _; simp only [qb, qc] at H; go_simp)
  | ((with_reducible apply zr z4 H); (case hgd | ho | hx => exact rfl); (case hi => repeat first|exact z5|apply z8); intro _ _; go_simp))
 exact bodyPost_ret (z0c 1 z4 rfl _ H rfl rfl rfl) rfl ⟨rfl, H.out.bel⟩
theorem refRatio_true {u v q r : K} (w : World) (hu : u ≠ 0) (hv : v ≠ 0) (hq : u * inv v = q) (hr : ∀ w, Calls Tryz.prog 119 #[FV q.val] w fun e w' => e = .returned (.tuple #[FV (ab r).val, .bool true]) ∧ Below w.heap.size w w') :
  Calls Tryz.prog 53 #[FV u.val, FV v.val] w fun e w' => e = .returned (.tuple #[FV (ab r).val, .bool true]) ∧ Below w.heap.size w w' := by
 have e1 : eqZ 16 (dF u.val) (dF 0) = false := (y4g u 0).trans (decide_eq_false hu)
 have e2 : eqZ 16 (dF v.val) (dF 0) = false := (y4g v 0).trans (decide_eq_false hv)
 have HQ := za hq
 have HR := za hr
 clear hu hv hq hr
 have H := za (Ow.start w)
 go_enter Tryz.func53, Tryz.ntmps53
 go_upto_region 6 with (first
  | ((fail_if_success have := g2); (with_reducible apply zw H); (case hgd | ho | hx => exact rfl); clear H; intro w2 g2 H _ _; go_simp)
  | ((fail_if_success have := g3); (with_reducible apply zw H); (case hgd | ho | hx => exact rfl); clear H; intro w3 g3 H _ _; go_simp)
  | ((fail_if_success have := g4); (with_reducible apply ze zA.zero H); (case hgd | ho => exact rfl); clear H; intro w4 g4 H _ _; go_simp)
  | ((with_reducible apply z2u); (case hgd | ho => exact rfl); intro _ _; go_simp)
  | ((fail_if_success have := g6); (with_reducible apply ze zA.zero H); (case hgd | ho => exact rfl); clear H; intro w6 g6 H _ _; go_simp)
  | ((with_reducible apply zj z4 H); (case hgd | ho | hx | hy => exact rfl); (case hi => repeat first|exact z5|apply z8); clear H; intro ws H _ _; simp only [qb] at H; go_simp)
  | ((with_reducible apply zr z4 H); (case hgd | ho | hx => exact rfl); (case hi => repeat first|exact z5|apply z8); intro _ _; go_simp))
 go_cut [7] from 19 to 22 (fun v7 wx => ∃ g7, v7 = .pointer (some ⟨g7, 0, none⟩) ∧ Ow w wx [(g7, zv 36 .i64 16 (dF (q).val)), (g6, zv 36 .i64 16 (dF (0 : K).val)), (g4, zv 36 .i64 16 fun _ => 0), (g3, zv 36 .i64 16 (dF (v).val)), (g2, zv 36 .i64 16 (dF (u).val))])
 case first =>
  go_wp2_with fail
  refine wp_region_noPanic ?_
  refine wp_region_held_drew (S := fun W => W.heap[g2]? = some (zv 36 .i64 16 (dF (u).val)) ∧ W.heap[g3]? = some (zv 36 .i64 16 (dF (v).val))) (by kernel_rfl) (⟨H.out.drew.row 3 rfl, H.out.drew.row 2 rfl⟩) (fun hH => ?_)
  replace H := za H.out.drew
  generalize World.drew _ = w8 at *
  refine zk 0 19 z4 rfl rfl rfl hH rfl rfl (fun _ h => h.1) ?_
  refine zk 1 20 z4 rfl rfl rfl hH rfl rfl (fun _ h => h.2) ?_
  refine zK [2, 4] (zG rfl (fun K hK => ?_) (zG rfl (fun K hK => ?_) zJ))
  ·skip
   go_simp
   refine (z2r _).mono ?_
   rintro e wc ⟨rfl, hb⟩
   replace H := zd H hb
   refine zc hK ⟨zb H 3, zb H 2⟩ fun hH => ?_
   try simp only [Act.put, qa, qb, qc]
   refine zK [3, 4] (zG rfl (fun K hK => ?_) (zG rfl (fun K hK => ?_) zJ))
   ·skip
    go_simp
    refine (z0d _ _ _).mono ?_
    rintro e wc ⟨rfl, hb⟩
    replace H := zd H hb
    refine zc hK ⟨zb H 3, zb H 2⟩ fun hH => zn 4 rfl fun K hK => ?_
    refine zg 7 rfl zA.zero H.out rfl ?_
    intro w7 g7 H3 hb
    replace H := za H3
    refine zc hK ⟨zb H 4, zb H 3⟩ fun hH => zn 5 rfl fun K hK => ?_
    refine zl 0 z4 H.out rfl rfl rfl rfl ?_
    intro ws HS
    simp only [qb] at HS
    replace H := za HS
    refine zc hK ⟨zb H 4, zb H 3⟩ fun hH => ?_
    try simp only [Act.put, qa]
    refine zm ?_
    rw [HQ.out] at H
    clear HQ
    replace H := za (H.out.front (x := (g7, zv 36 .i64 16 (dF (q).val))) 0 rfl)
    go_wp2_with fail
    go_meet
    exact ⟨g7, rfl, H.out⟩
   ·skip
    refine zg 7 rfl zA.zero H.out rfl ?_
    intro w7 g7 H3 hb
    replace H := za H3
    refine zc hK ⟨zb H 4, zb H 3⟩ fun hH => ?_
    try simp only [Act.put, qa, qb, qc]
    refine zn 3 rfl fun K hK => ?_
    go_simp
    refine (z0d _ _ _).mono ?_
    rintro e wc ⟨rfl, hb⟩
    replace H := zd H hb
    refine zc hK ⟨zb H 4, zb H 3⟩ fun hH => zn 5 rfl fun K hK => ?_
    refine zl 0 z4 H.out rfl rfl rfl rfl ?_
    intro ws HS
    simp only [qb] at HS
    replace H := za HS
    refine zc hK ⟨zb H 4, zb H 3⟩ fun hH => ?_
    try simp only [Act.put, qa]
    refine zm ?_
    rw [HQ.out] at H
    clear HQ
    replace H := za (H.out.front (x := (g7, zv 36 .i64 16 (dF (q).val))) 0 rfl)
    go_wp2_with fail
    go_meet
    exact ⟨g7, rfl, H.out⟩
  ·skip
   refine zg 7 rfl zA.zero H.out rfl ?_
   intro w7 g7 H3 hb
   replace H := za H3
   refine zc hK ⟨zb H 4, zb H 3⟩ fun hH => zn 2 rfl fun K hK => ?_
   go_simp
   refine (z2r _).mono ?_
   rintro e wc ⟨rfl, hb⟩
   replace H := zd H hb
   refine zc hK ⟨zb H 4, zb H 3⟩ fun hH => ?_
   try simp only [Act.put, qa, qb, qc]
   refine zn 3 rfl fun K hK => ?_
   go_simp
   refine (z0d _ _ _).mono ?_
   rintro e wc ⟨rfl, hb⟩
   replace H := zd H hb
   refine zc hK ⟨zb H 4, zb H 3⟩ fun hH => zn 5 rfl fun K hK => ?_
   refine zl 0 z4 H.out rfl rfl rfl rfl ?_
   intro ws HS
   simp only [qb] at HS
   replace H := za HS
   refine zc hK ⟨zb H 4, zb H 3⟩ fun hH => ?_
   try simp only [Act.put, qa]
   refine zm ?_
   rw [HQ.out] at H
   clear HQ
   replace H := za (H.out.front (x := (g7, zv 36 .i64 16 (dF (q).val))) 0 rfl)
   go_wp2_with fail
   go_meet
   exact ⟨g7, rfl, H.out⟩
 case rest =>
  clear H
  obtain ⟨g7, rfl, HRR⟩ := hcut
  have H := za HRR
  clear HRR HQ
  go_wp2_with (first
   | ((with_reducible apply zr z4 H); (case hgd | ho | hx => exact rfl); (case hi => repeat first|exact z5|apply z8); intro _ _; go_simp)
   | ((fail_if_success have := g8); (with_reducible apply ze zA.zero H); (case hgd | ho => exact rfl); clear H; intro w8 g8 H _ _; go_simp)
   | ((with_reducible apply zj z4 H); (case hgd | ho | hx | hy => exact rfl); (case hi => repeat first|exact z5|apply z8); clear H; intro ws H _ _; simp only [qb, qc] at H; go_simp)
   | ((with_reducible refine (HR.out _).mono ?_); rintro e wc ⟨rfl, hb⟩; replace H := zd H hb; clear hb))
  exact bodyPost_ret (z0c 3 z4 rfl _ H rfl rfl rfl) rfl ⟨rfl, H.out.bel⟩
theorem refRatio_false {u v q r : K} (w : World) (hu : u ≠ 0) (hv : v ≠ 0) (hq : u * inv v = q) (hr : ∀ w, Calls Tryz.prog 119 #[FV q.val] w fun e w' => e = .returned (.tuple #[FV (0 : K).val, .bool false]) ∧ Below w.heap.size w w') (hn : ∀ w, Calls Tryz.prog 119 #[FV (-q).val] w fun e w' => e = .returned (.tuple #[FV (ab r).val, .bool true]) ∧ Below w.heap.size w w') :
  Calls Tryz.prog 53 #[FV u.val, FV v.val] w fun e w' => e = .returned (.tuple #[FV (ab r).val, .bool false]) ∧ Below w.heap.size w w' := by
 have e1 : eqZ 16 (dF u.val) (dF 0) = false := (y4g u 0).trans (decide_eq_false hu)
 have e2 : eqZ 16 (dF v.val) (dF 0) = false := (y4g v 0).trans (decide_eq_false hv)
 have HQ := za hq
 have HR := za hr
 have HN := za hn
 clear hu hv hq hr hn
 have H := za (Ow.start w)
 go_enter Tryz.func53, Tryz.ntmps53
 go_upto_region 6 with (first
  | ((fail_if_success have := g2); (with_reducible apply zw H); (case hgd | ho | hx => exact rfl); clear H; intro w2 g2 H _ _; go_simp)
  | ((fail_if_success have := g3); (with_reducible apply zw H); (case hgd | ho | hx => exact rfl); clear H; intro w3 g3 H _ _; go_simp)
  | ((fail_if_success have := g4); (with_reducible apply ze zA.zero H); (case hgd | ho => exact rfl); clear H; intro w4 g4 H _ _; go_simp)
  | ((with_reducible apply z2u); (case hgd | ho => exact rfl); intro _ _; go_simp)
  | ((fail_if_success have := g6); (with_reducible apply ze zA.zero H); (case hgd | ho => exact rfl); clear H; intro w6 g6 H _ _; go_simp)
  | ((with_reducible apply zj z4 H); (case hgd | ho | hx | hy => exact rfl); (case hi => repeat first|exact z5|apply z8); clear H; intro ws H _ _; simp only [qb] at H; go_simp)
  | ((with_reducible apply zr z4 H); (case hgd | ho | hx => exact rfl); (case hi => repeat first|exact z5|apply z8); intro _ _; go_simp))
 go_cut [7] from 19 to 22 (fun v7 wx => ∃ g7, v7 = .pointer (some ⟨g7, 0, none⟩) ∧ Ow w wx [(g7, zv 36 .i64 16 (dF (q).val)), (g6, zv 36 .i64 16 (dF (0 : K).val)), (g4, zv 36 .i64 16 fun _ => 0), (g3, zv 36 .i64 16 (dF (v).val)), (g2, zv 36 .i64 16 (dF (u).val))])
 case first =>
  go_wp2_with fail
  refine wp_region_noPanic ?_
  refine wp_region_held_drew (S := fun W => W.heap[g2]? = some (zv 36 .i64 16 (dF (u).val)) ∧ W.heap[g3]? = some (zv 36 .i64 16 (dF (v).val))) (by kernel_rfl) (⟨H.out.drew.row 3 rfl, H.out.drew.row 2 rfl⟩) (fun hH => ?_)
  replace H := za H.out.drew
  generalize World.drew _ = w8 at *
  refine zk 0 19 z4 rfl rfl rfl hH rfl rfl (fun _ h => h.1) ?_
  refine zk 1 20 z4 rfl rfl rfl hH rfl rfl (fun _ h => h.2) ?_
  refine zK [2, 4] (zG rfl (fun K hK => ?_) (zG rfl (fun K hK => ?_) zJ))
  ·skip
   go_simp
   refine (z2r _).mono ?_
   rintro e wc ⟨rfl, hb⟩
   replace H := zd H hb
   refine zc hK ⟨zb H 3, zb H 2⟩ fun hH => ?_
   try simp only [Act.put, qa, qb, qc]
   refine zK [3, 4] (zG rfl (fun K hK => ?_) (zG rfl (fun K hK => ?_) zJ))
   ·skip
    go_simp
    refine (z0d _ _ _).mono ?_
    rintro e wc ⟨rfl, hb⟩
    replace H := zd H hb
    refine zc hK ⟨zb H 3, zb H 2⟩ fun hH => zn 4 rfl fun K hK => ?_
    refine zg 7 rfl zA.zero H.out rfl ?_
    intro w7 g7 H3 hb
    replace H := za H3
    refine zc hK ⟨zb H 4, zb H 3⟩ fun hH => zn 5 rfl fun K hK => ?_
    refine zl 0 z4 H.out rfl rfl rfl rfl ?_
    intro ws HS
    simp only [qb] at HS
    replace H := za HS
    refine zc hK ⟨zb H 4, zb H 3⟩ fun hH => ?_
    try simp only [Act.put, qa]
    refine zm ?_
    rw [HQ.out] at H
    clear HQ
    replace H := za (H.out.front (x := (g7, zv 36 .i64 16 (dF (q).val))) 0 rfl)
    go_wp2_with fail
    go_meet
    exact ⟨g7, rfl, H.out⟩
   ·skip
    refine zg 7 rfl zA.zero H.out rfl ?_
    intro w7 g7 H3 hb
    replace H := za H3
    refine zc hK ⟨zb H 4, zb H 3⟩ fun hH => ?_
    try simp only [Act.put, qa, qb, qc]
    refine zn 3 rfl fun K hK => ?_
    go_simp
    refine (z0d _ _ _).mono ?_
    rintro e wc ⟨rfl, hb⟩
    replace H := zd H hb
    refine zc hK ⟨zb H 4, zb H 3⟩ fun hH => zn 5 rfl fun K hK => ?_
    refine zl 0 z4 H.out rfl rfl rfl rfl ?_
    intro ws HS
    simp only [qb] at HS
    replace H := za HS
    refine zc hK ⟨zb H 4, zb H 3⟩ fun hH => ?_
    try simp only [Act.put, qa]
    refine zm ?_
    rw [HQ.out] at H
    clear HQ
    replace H := za (H.out.front (x := (g7, zv 36 .i64 16 (dF (q).val))) 0 rfl)
    go_wp2_with fail
    go_meet
    exact ⟨g7, rfl, H.out⟩
  ·skip
   refine zg 7 rfl zA.zero H.out rfl ?_
   intro w7 g7 H3 hb
   replace H := za H3
   refine zc hK ⟨zb H 4, zb H 3⟩ fun hH => zn 2 rfl fun K hK => ?_
   go_simp
   refine (z2r _).mono ?_
   rintro e wc ⟨rfl, hb⟩
   replace H := zd H hb
   refine zc hK ⟨zb H 4, zb H 3⟩ fun hH => ?_
   try simp only [Act.put, qa, qb, qc]
   refine zn 3 rfl fun K hK => ?_
   go_simp
   refine (z0d _ _ _).mono ?_
   rintro e wc ⟨rfl, hb⟩
   replace H := zd H hb
   refine zc hK ⟨zb H 4, zb H 3⟩ fun hH => zn 5 rfl fun K hK => ?_
   refine zl 0 z4 H.out rfl rfl rfl rfl ?_
   intro ws HS
   simp only [qb] at HS
   replace H := za HS
   refine zc hK ⟨zb H 4, zb H 3⟩ fun hH => ?_
   try simp only [Act.put, qa]
   refine zm ?_
   rw [HQ.out] at H
   clear HQ
   replace H := za (H.out.front (x := (g7, zv 36 .i64 16 (dF (q).val))) 0 rfl)
   go_wp2_with fail
   go_meet
   exact ⟨g7, rfl, H.out⟩
 case rest =>
  clear H
  obtain ⟨g7, rfl, HRR⟩ := hcut
  have H := za HRR
  clear HRR HQ
  go_wp2_with (first
   | ((with_reducible apply zr z4 H); (case hgd | ho | hx => exact rfl); (case hi => repeat first|exact z5|apply z8); intro _ _; go_simp)
   | ((fail_if_success have := g8); (with_reducible apply ze zA.zero H); (case hgd | ho => exact rfl); clear H; intro w8 g8 H _ _; go_simp)
   | ((with_reducible apply zj z4 H); (case hgd | ho | hx | hy => exact rfl); (case hi => repeat first|exact z5|apply z8); clear H; intro ws H _ _; simp only [qb, qc] at H; go_simp)
   | ((with_reducible refine (HR.out _).mono ?_); rintro e wc ⟨rfl, hb⟩; replace H := zd H hb; clear hb)
   | ((with_reducible refine (z7e _ _).mono ?_); rintro e wc ⟨rfl, hb⟩; replace H := zd H hb; clear hb)
   | ((with_reducible refine (HN.out _).mono ?_); rintro e wc ⟨rfl, hb⟩; replace H := zd H hb; clear hb))
  exact bodyPost_ret (z0c 3 z4 rfl _ H rfl rfl rfl) rfl ⟨rfl, H.out.bel⟩
theorem z3z {u v : K} (w : World) :
  Calls Tryz.prog 53 #[FV u.val, FV v.val] w fun e w' => e = .returned (.tuple #[FV (ab (zL eC u v)).val, .bool (decide (v * (zL eC u v * zL eC u v) = u))]) ∧ Below w.heap.size w w' := by
 by_cases hu : u = 0
 ·refine (refRatio_u w hu).mono ?_
  rintro e w' ⟨rfl, hb⟩
  subst hu
  obtain ⟨h1, h2⟩ := ratio_zero_left v
  rw [h1, decide_eq_true h2]
  exact ⟨rfl, hb⟩
 by_cases hv : v = 0
 ·refine (refRatio_v w hu hv).mono ?_
  rintro e w' ⟨rfl, hb⟩
  subst hv
  obtain ⟨h1, h2⟩ := ratio_zero_right hu
  rw [h1, decide_eq_false h2]
  exact ⟨rfl, hb⟩
 obtain ⟨hyes, hno⟩ := ratio_ref hu hv
 by_cases hd : v * (zL eC u v * zL eC u v) = u
 ·rw [decide_eq_true hd]
  refine refRatio_true w hu hv rfl (fun w => (z7d w).mono fun e w' ⟨h, hb⟩ => ⟨?_, hb⟩)
  rcases h with ⟨_, h2⟩ | ⟨h1, _⟩
  ·rw [h2, (hyes hd).2]
  ·exact absurd (hyes hd).1 h1
 ·rw [decide_eq_false hd]
  refine refRatio_false w hu hv rfl (fun w => (z7d w).mono fun e w' ⟨h, hb⟩ => ⟨?_, hb⟩) (fun w => (z7d w).mono fun e w' ⟨h, hb⟩ => ⟨?_, hb⟩)
  ·rcases h with ⟨h1, _⟩ | ⟨_, h2⟩
   ·exact absurd h1 (hno hd).1
   ·exact h2
  ·rcases h with ⟨_, h2⟩ | ⟨h1, _⟩
   ·rw [h2, (hno hd).2.2]
   ·exact absurd (hno hd).2.1 h1
end Go.Proofs.YtgjbonikbmgfmaaGreatDoor
