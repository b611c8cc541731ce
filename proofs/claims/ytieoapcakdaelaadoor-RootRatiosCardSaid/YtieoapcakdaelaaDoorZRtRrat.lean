/-
  The contract of the reference's Ratio. No statement is proved here: lemmas for the walks.
-/
import Derived.Test.YtieoapcakdaelaaDoorZRtRroot
namespace Go.Proofs.YtieoapcakdaelaaDoor
open Go.RowKit

/-- The document's answer: the root of a ratio, and whether it is one. -/
theorem ratio_ref {u v : K} (hu : u ≠ 0) (hv : v ≠ 0) :
    (v * (rat eC u v * rat eC u v) = u → (u * inv v) ^ (eC + 1) * (u * inv v) ^ (eC + 1) = u * inv v ∧ ab ((u * inv v) ^ (eC + 1)) = ab (rat eC u v)) ∧
    (v * (rat eC u v * rat eC u v) ≠ u → (u * inv v) ^ (eC + 1) * (u * inv v) ^ (eC + 1) ≠ u * inv v ∧ (-(u * inv v)) ^ (eC + 1) * (-(u * inv v)) ^ (eC + 1) = -(u * inv v) ∧ ab ((-(u * inv v)) ^ (eC + 1)) = ab (rat eC u v)) :=
  rat_ref prime_pN pN_c hu hv
theorem ratio_zero_left (v : K) : ab (rat eC 0 v) = 0 ∧ v * (rat eC 0 v * rat eC 0 v) = 0 := by
  rw [rat_zero_left, ab_zero]
  exact ⟨rfl, by grind⟩
theorem ratio_zero_right {u : K} (hu : u ≠ 0) : ab (rat eC u 0) = 0 ∧ ¬ (0 * (rat eC u 0 * rat eC u 0) = u) := by
  rw [rat_zero_right eC_ne, ab_zero]
  exact ⟨rfl, fun h => hu (by grind)⟩
attribute [local go_sem] eqF
set_option maxRecDepth 8000 in
set_option maxHeartbeats 3200000 in
theorem refRatio_u {u v : K} (w : World) (hu : u = 0) :
    Calls Tryd.prog 41 #[FV u.val, FV v.val] w fun e w' => e = .returned (.tuple #[FV 0, .bool true]) ∧ Below w.heap.size w w' := by
  have e1 : eqZ 16 (dF u.val) (dF 0) = true := (eqZ_k u 0).trans (decide_eq_true hu)
  clear hu
  have H := Lib.hid (Ow.start w)
  go_enter Tryd.func41, Tryd.ntmps41
  go_wp2_with (first
    | ((fail_if_success have := g2); (with_reducible apply own_box H); (case hgd => exact rfl); (case ho => exact rfl); (case hx => exact rfl); intro w2 g2 H' _ _; replace H := H'; clear H'; go_simp)
    | ((fail_if_success have := g3); (with_reducible apply own_box H); (case hgd => exact rfl); (case ho => exact rfl); (case hx => exact rfl); intro w3 g3 H' _ _; replace H := H'; clear H'; go_simp)
    | ((fail_if_success have := g4); (with_reducible apply own_alloc intsF.zero H); (case hgd => exact rfl); (case ho => exact rfl); intro w4 g4 H' _ _; replace H := H'; clear H'; go_simp)
    | ((with_reducible apply lay_build_F0); (case hgd => exact rfl); (case ho => exact rfl); intro _ _; go_simp)
    | ((fail_if_success have := g6); (with_reducible apply own_alloc intsF.zero H); (case hgd => exact rfl); (case ho => exact rfl); intro w6 g6 H' _ _; replace H := H'; clear H'; go_simp)
    | ((with_reducible apply own_store rowF H); (case hgd => exact rfl); (case ho => exact rfl); (case hx => exact rfl); (case hy => exact rfl); (case hi => first | exact at0 | exact at1 | exact at2 | exact at3 | exact at4 | exact at5 | exact at6 | exact at7 | exact at8 | exact at9); intro ws H' _ _; replace H := H'; clear H'; simp only [List.set_cons_zero, List.set_cons_succ] at H; go_simp)
    | ((with_reducible apply own_load rowF H); (case hgd => exact rfl); (case ho => exact rfl); (case hx => exact rfl); (case hi => first | exact at0 | exact at1 | exact at2 | exact at3 | exact at4 | exact at5 | exact at6 | exact at7 | exact at8 | exact at9); intro _ _; go_simp))
  exact bodyPost_ret (own_result_slot 1 rowF rfl _ H rfl rfl rfl) rfl ⟨rfl, H.out.bel⟩
set_option maxRecDepth 8000 in
set_option maxHeartbeats 3200000 in
theorem refRatio_v {u v : K} (w : World) (hu : u ≠ 0) (hv : v = 0) :
    Calls Tryd.prog 41 #[FV u.val, FV v.val] w fun e w' => e = .returned (.tuple #[FV 0, .bool false]) ∧ Below w.heap.size w w' := by
  have e1 : eqZ 16 (dF u.val) (dF 0) = false := (eqZ_k u 0).trans (decide_eq_false hu)
  have e2 : eqZ 16 (dF v.val) (dF 0) = true := (eqZ_k v 0).trans (decide_eq_true hv)
  clear hu hv
  have H := Lib.hid (Ow.start w)
  go_enter Tryd.func41, Tryd.ntmps41
  go_wp2_with (first
    | ((fail_if_success have := g2); (with_reducible apply own_box H); (case hgd => exact rfl); (case ho => exact rfl); (case hx => exact rfl); intro w2 g2 H' _ _; replace H := H'; clear H'; go_simp)
    | ((fail_if_success have := g3); (with_reducible apply own_box H); (case hgd => exact rfl); (case ho => exact rfl); (case hx => exact rfl); intro w3 g3 H' _ _; replace H := H'; clear H'; go_simp)
    | ((fail_if_success have := g4); (with_reducible apply own_alloc intsF.zero H); (case hgd => exact rfl); (case ho => exact rfl); intro w4 g4 H' _ _; replace H := H'; clear H'; go_simp)
    | ((with_reducible apply lay_build_F0); (case hgd => exact rfl); (case ho => exact rfl); intro _ _; go_simp)
    | ((fail_if_success have := g6); (with_reducible apply own_alloc intsF.zero H); (case hgd => exact rfl); (case ho => exact rfl); intro w6 g6 H' _ _; replace H := H'; clear H'; go_simp)
    | ((with_reducible apply own_store rowF H); (case hgd => exact rfl); (case ho => exact rfl); (case hx => exact rfl); (case hy => exact rfl); (case hi => first | exact at0 | exact at1 | exact at2 | exact at3 | exact at4 | exact at5 | exact at6 | exact at7 | exact at8 | exact at9); intro ws H' _ _; replace H := H'; clear H'; simp only [List.set_cons_zero, List.set_cons_succ] at H; go_simp)
    | ((with_reducible apply own_load rowF H); (case hgd => exact rfl); (case ho => exact rfl); (case hx => exact rfl); (case hi => first | exact at0 | exact at1 | exact at2 | exact at3 | exact at4 | exact at5 | exact at6 | exact at7 | exact at8 | exact at9); intro _ _; go_simp))
  exact bodyPost_ret (own_result_slot 1 rowF rfl _ H rfl rfl rfl) rfl ⟨rfl, H.out.bel⟩
set_option maxRecDepth 8000 in
set_option maxHeartbeats 3200000 in
theorem refRatio_true {u v q r : K} (w : World) (hu : u ≠ 0) (hv : v ≠ 0) (hq : u * inv v = q) (hr : ∀ w, Calls Tryd.prog 38 #[FV q.val] w fun e w' => e = .returned (.tuple #[FV (ab r).val, .bool true]) ∧ Below w.heap.size w w') :
    Calls Tryd.prog 41 #[FV u.val, FV v.val] w fun e w' => e = .returned (.tuple #[FV (ab r).val, .bool true]) ∧ Below w.heap.size w w' := by
  have e1 : eqZ 16 (dF u.val) (dF 0) = false := (eqZ_k u 0).trans (decide_eq_false hu)
  have e2 : eqZ 16 (dF v.val) (dF 0) = false := (eqZ_k v 0).trans (decide_eq_false hv)
  have HQ := Lib.hid hq
  have HR := Lib.hid hr
  clear hu hv hq hr
  have H := Lib.hid (Ow.start w)
  go_enter Tryd.func41, Tryd.ntmps41
  go_upto_region 6 with (first
    | ((fail_if_success have := g2); (with_reducible apply own_box H); (case hgd => exact rfl); (case ho => exact rfl); (case hx => exact rfl); intro w2 g2 H' _ _; replace H := H'; clear H'; go_simp)
    | ((fail_if_success have := g3); (with_reducible apply own_box H); (case hgd => exact rfl); (case ho => exact rfl); (case hx => exact rfl); intro w3 g3 H' _ _; replace H := H'; clear H'; go_simp)
    | ((fail_if_success have := g4); (with_reducible apply own_alloc intsF.zero H); (case hgd => exact rfl); (case ho => exact rfl); intro w4 g4 H' _ _; replace H := H'; clear H'; go_simp)
    | ((with_reducible apply lay_build_F0); (case hgd => exact rfl); (case ho => exact rfl); intro _ _; go_simp)
    | ((fail_if_success have := g6); (with_reducible apply own_alloc intsF.zero H); (case hgd => exact rfl); (case ho => exact rfl); intro w6 g6 H' _ _; replace H := H'; clear H'; go_simp)
    | ((with_reducible apply own_store rowF H); (case hgd => exact rfl); (case ho => exact rfl); (case hx => exact rfl); (case hy => exact rfl); (case hi => first | exact at0 | exact at1 | exact at2 | exact at3 | exact at4 | exact at5 | exact at6 | exact at7 | exact at8 | exact at9); intro ws H' _ _; replace H := H'; clear H'; simp only [List.set_cons_zero] at H; go_simp)
    | ((with_reducible apply own_load rowF H); (case hgd => exact rfl); (case ho => exact rfl); (case hx => exact rfl); (case hi => first | exact at0 | exact at1 | exact at2 | exact at3 | exact at4 | exact at5 | exact at6 | exact at7 | exact at8 | exact at9); intro _ _; go_simp))
  go_cut [7] from 19 to 22 (fun v7 wx => ∃ g7, v7 = .pointer (some ⟨g7, 0, none⟩) ∧ Ow w wx [(g7, Blk 34 .i64 16 (dF (q).val)), (g6, Blk 34 .i64 16 (dF (0 : K).val)), (g4, Blk 34 .i64 16 fun _ => 0), (g3, Blk 34 .i64 16 (dF (v).val)), (g2, Blk 34 .i64 16 (dF (u).val))])
  case first =>
    go_wp2_with fail
    refine wp_region_noPanic ?_
    refine wp_region_held_drew (S := fun W => W.heap[g2]? = some (Blk 34 .i64 16 (dF (u).val)) ∧ W.heap[g3]? = some (Blk 34 .i64 16 (dF (v).val))) (by kernel_rfl) (⟨H.out.drew.row 3 rfl, H.out.drew.row 2 rfl⟩) (fun hH => ?_)
    replace H := Lib.hid H.out.drew
    generalize World.drew _ = w8 at *
    refine held_row 0 19 rowF rfl rfl (by kernel_rfl) (by kernel_rfl) (by kernel_rfl) rfl hH rfl rfl (fun _ h => h.1) ?_
    try simp only [Act.put, List.setIfInBounds_toArray, List.set_cons_zero, List.set_cons_succ]
    refine held_row 1 20 rowF rfl rfl (by kernel_rfl) (by kernel_rfl) (by kernel_rfl) rfl hH rfl rfl (fun _ h => h.2) ?_
    try simp only [Act.put, List.setIfInBounds_toArray, List.set_cons_zero, List.set_cons_succ]
    refine wpAnyH_ready (rs := [2, 4]) (by kernel_rfl) (by simp) ?_
    refine AllReadyH.cons (o := _) rfl (fun K hK => ?_) (AllReadyH.cons (o := _) rfl (fun K hK => ?_) AllReadyH.nil)
    · skip
      go_simp
      refine (refInverse_k _).mono ?_
      rintro e wc ⟨rfl, hb⟩
      replace H := Lib.hid (H.out.call hb)
      refine hK.out _ _ (⟨H.out.row 3 rfl, H.out.row 2 rfl⟩) (fun hN => ?_)
      clear hK K hH hb
      have hH := hN
      clear hN
      try simp only [Act.put, List.setIfInBounds_toArray, List.set_cons_zero, List.set_cons_succ]
      refine wpAnyH_ready (rs := [3, 4]) (by kernel_rfl) (by simp) ?_
      refine AllReadyH.cons (o := _) rfl (fun K hK => ?_) (AllReadyH.cons (o := _) rfl (fun K hK => ?_) AllReadyH.nil)
      · skip
        go_simp
        refine (refMul_k _ _ _).mono ?_
        rintro e wc ⟨rfl, hb⟩
        replace H := Lib.hid (H.out.call hb)
        refine hK.out _ _ (⟨H.out.row 3 rfl, H.out.row 2 rfl⟩) (fun hN => ?_)
        clear hK K hH hb
        have hH := hN
        clear hN
        try simp only [Act.put, List.setIfInBounds_toArray, List.set_cons_zero, List.set_cons_succ]
        refine wpAnyH_ready (rs := [4]) (by kernel_rfl) (by simp) ?_
        refine AllReadyH.cons (o := _) rfl (fun K hK => ?_) AllReadyH.nil
        refine own_wp_allocB 7 rfl intsF.zero H.out rfl ?_
        intro w7 g7 H3 hb
        replace H := Lib.hid H3
        refine hK.out _ _ (⟨H.out.row 4 rfl, H.out.row 3 rfl⟩) (fun hN => ?_)
        clear hK K hH H3 hb
        have hH := hN
        clear hN
        try simp only [Act.put, List.setIfInBounds_toArray, List.set_cons_zero, List.set_cons_succ]
        refine wpAnyH_ready (rs := [5]) (by kernel_rfl) (by simp) ?_
        refine AllReadyH.cons (o := _) rfl (fun K hK => ?_) AllReadyH.nil
        refine own_wp_store 0 rowF H.out rfl rfl rfl rfl ?_
        intro ws HS
        simp only [List.set_cons_zero] at HS
        replace H := Lib.hid HS
        refine hK.out _ _ (⟨H.out.row 4 rfl, H.out.row 3 rfl⟩) (fun hN => ?_)
        clear hK K HS hH
        have hH := hN
        clear hN
        try simp only [Act.put, List.setIfInBounds_toArray]
        try simp only [Act.put]
        refine wpAnyH_done (by kernel_rfl) ?_ _
        refine NoPanic.normal ?_
        clear hH
        rw [HQ.out] at H
        clear HQ
        replace H := Lib.hid (H.out.front (x := (g7, Blk 34 .i64 16 (dF (q).val))) 0 rfl)
        go_wp2_with fail
        go_meet
        exact ⟨g7, rfl, H.out⟩
      · skip
        refine own_wp_allocB 7 rfl intsF.zero H.out rfl ?_
        intro w7 g7 H3 hb
        replace H := Lib.hid H3
        refine hK.out _ _ (⟨H.out.row 4 rfl, H.out.row 3 rfl⟩) (fun hN => ?_)
        clear hK K hH H3 hb
        have hH := hN
        clear hN
        try simp only [Act.put, List.setIfInBounds_toArray, List.set_cons_zero, List.set_cons_succ]
        refine wpAnyH_ready (rs := [3]) (by kernel_rfl) (by simp) ?_
        refine AllReadyH.cons (o := _) rfl (fun K hK => ?_) AllReadyH.nil
        go_simp
        refine (refMul_k _ _ _).mono ?_
        rintro e wc ⟨rfl, hb⟩
        replace H := Lib.hid (H.out.call hb)
        refine hK.out _ _ (⟨H.out.row 4 rfl, H.out.row 3 rfl⟩) (fun hN => ?_)
        clear hK K hH hb
        have hH := hN
        clear hN
        try simp only [Act.put, List.setIfInBounds_toArray, List.set_cons_zero, List.set_cons_succ]
        refine wpAnyH_ready (rs := [5]) (by kernel_rfl) (by simp) ?_
        refine AllReadyH.cons (o := _) rfl (fun K hK => ?_) AllReadyH.nil
        refine own_wp_store 0 rowF H.out rfl rfl rfl rfl ?_
        intro ws HS
        simp only [List.set_cons_zero] at HS
        replace H := Lib.hid HS
        refine hK.out _ _ (⟨H.out.row 4 rfl, H.out.row 3 rfl⟩) (fun hN => ?_)
        clear hK K HS hH
        have hH := hN
        clear hN
        try simp only [Act.put, List.setIfInBounds_toArray]
        try simp only [Act.put]
        refine wpAnyH_done (by kernel_rfl) ?_ _
        refine NoPanic.normal ?_
        clear hH
        rw [HQ.out] at H
        clear HQ
        replace H := Lib.hid (H.out.front (x := (g7, Blk 34 .i64 16 (dF (q).val))) 0 rfl)
        go_wp2_with fail
        go_meet
        exact ⟨g7, rfl, H.out⟩
    · skip
      refine own_wp_allocB 7 rfl intsF.zero H.out rfl ?_
      intro w7 g7 H3 hb
      replace H := Lib.hid H3
      refine hK.out _ _ (⟨H.out.row 4 rfl, H.out.row 3 rfl⟩) (fun hN => ?_)
      clear hK K hH H3 hb
      have hH := hN
      clear hN
      try simp only [Act.put, List.setIfInBounds_toArray, List.set_cons_zero, List.set_cons_succ]
      refine wpAnyH_ready (rs := [2]) (by kernel_rfl) (by simp) ?_
      refine AllReadyH.cons (o := _) rfl (fun K hK => ?_) AllReadyH.nil
      go_simp
      refine (refInverse_k _).mono ?_
      rintro e wc ⟨rfl, hb⟩
      replace H := Lib.hid (H.out.call hb)
      refine hK.out _ _ (⟨H.out.row 4 rfl, H.out.row 3 rfl⟩) (fun hN => ?_)
      clear hK K hH hb
      have hH := hN
      clear hN
      try simp only [Act.put, List.setIfInBounds_toArray, List.set_cons_zero, List.set_cons_succ]
      refine wpAnyH_ready (rs := [3]) (by kernel_rfl) (by simp) ?_
      refine AllReadyH.cons (o := _) rfl (fun K hK => ?_) AllReadyH.nil
      go_simp
      refine (refMul_k _ _ _).mono ?_
      rintro e wc ⟨rfl, hb⟩
      replace H := Lib.hid (H.out.call hb)
      refine hK.out _ _ (⟨H.out.row 4 rfl, H.out.row 3 rfl⟩) (fun hN => ?_)
      clear hK K hH hb
      have hH := hN
      clear hN
      try simp only [Act.put, List.setIfInBounds_toArray, List.set_cons_zero, List.set_cons_succ]
      refine wpAnyH_ready (rs := [5]) (by kernel_rfl) (by simp) ?_
      refine AllReadyH.cons (o := _) rfl (fun K hK => ?_) AllReadyH.nil
      refine own_wp_store 0 rowF H.out rfl rfl rfl rfl ?_
      intro ws HS
      simp only [List.set_cons_zero] at HS
      replace H := Lib.hid HS
      refine hK.out _ _ (⟨H.out.row 4 rfl, H.out.row 3 rfl⟩) (fun hN => ?_)
      clear hK K HS hH
      have hH := hN
      clear hN
      try simp only [Act.put, List.setIfInBounds_toArray]
      try simp only [Act.put]
      refine wpAnyH_done (by kernel_rfl) ?_ _
      refine NoPanic.normal ?_
      clear hH
      rw [HQ.out] at H
      clear HQ
      replace H := Lib.hid (H.out.front (x := (g7, Blk 34 .i64 16 (dF (q).val))) 0 rfl)
      go_wp2_with fail
      go_meet
      exact ⟨g7, rfl, H.out⟩
  case rest =>
    clear H
    obtain ⟨g7, rfl, HRR⟩ := hcut
    have H := Lib.hid HRR
    clear HRR HQ
    go_wp2_with (first
      | ((with_reducible apply own_load rowF H); (case hgd => exact rfl); (case ho => exact rfl); (case hx => exact rfl); (case hi => first | exact at0 | exact at1 | exact at2 | exact at3 | exact at4 | exact at5 | exact at6 | exact at7 | exact at8 | exact at9); intro _ _; go_simp)
      | ((fail_if_success have := g8); (with_reducible apply own_alloc intsF.zero H); (case hgd => exact rfl); (case ho => exact rfl); intro w8 g8 H' _ _; replace H := H'; clear H'; go_simp)
      | ((with_reducible apply own_store rowF H); (case hgd => exact rfl); (case ho => exact rfl); (case hx => exact rfl); (case hy => exact rfl); (case hi => first | exact at0 | exact at1 | exact at2 | exact at3 | exact at4 | exact at5 | exact at6 | exact at7 | exact at8 | exact at9); intro ws H' _ _; replace H := H'; clear H'; simp only [List.set_cons_zero, List.set_cons_succ] at H; go_simp)
      | ((with_reducible refine (HR.out _).mono ?_); rintro e wc ⟨rfl, hb⟩; replace H := Lib.hid (H.out.call hb); clear hb))
    exact bodyPost_ret (own_result_slot 3 rowF rfl _ H rfl rfl rfl) rfl ⟨rfl, H.out.bel⟩
set_option maxRecDepth 8000 in
set_option maxHeartbeats 3200000 in
theorem refRatio_false {u v q r : K} (w : World) (hu : u ≠ 0) (hv : v ≠ 0) (hq : u * inv v = q) (hr : ∀ w, Calls Tryd.prog 38 #[FV q.val] w fun e w' => e = .returned (.tuple #[FV (0 : K).val, .bool false]) ∧ Below w.heap.size w w') (hn : ∀ w, Calls Tryd.prog 38 #[FV (-q).val] w fun e w' => e = .returned (.tuple #[FV (ab r).val, .bool true]) ∧ Below w.heap.size w w') :
    Calls Tryd.prog 41 #[FV u.val, FV v.val] w fun e w' => e = .returned (.tuple #[FV (ab r).val, .bool false]) ∧ Below w.heap.size w w' := by
  have e1 : eqZ 16 (dF u.val) (dF 0) = false := (eqZ_k u 0).trans (decide_eq_false hu)
  have e2 : eqZ 16 (dF v.val) (dF 0) = false := (eqZ_k v 0).trans (decide_eq_false hv)
  have HQ := Lib.hid hq
  have HR := Lib.hid hr
  have HN := Lib.hid hn
  clear hu hv hq hr hn
  have H := Lib.hid (Ow.start w)
  go_enter Tryd.func41, Tryd.ntmps41
  go_upto_region 6 with (first
    | ((fail_if_success have := g2); (with_reducible apply own_box H); (case hgd => exact rfl); (case ho => exact rfl); (case hx => exact rfl); intro w2 g2 H' _ _; replace H := H'; clear H'; go_simp)
    | ((fail_if_success have := g3); (with_reducible apply own_box H); (case hgd => exact rfl); (case ho => exact rfl); (case hx => exact rfl); intro w3 g3 H' _ _; replace H := H'; clear H'; go_simp)
    | ((fail_if_success have := g4); (with_reducible apply own_alloc intsF.zero H); (case hgd => exact rfl); (case ho => exact rfl); intro w4 g4 H' _ _; replace H := H'; clear H'; go_simp)
    | ((with_reducible apply lay_build_F0); (case hgd => exact rfl); (case ho => exact rfl); intro _ _; go_simp)
    | ((fail_if_success have := g6); (with_reducible apply own_alloc intsF.zero H); (case hgd => exact rfl); (case ho => exact rfl); intro w6 g6 H' _ _; replace H := H'; clear H'; go_simp)
    | ((with_reducible apply own_store rowF H); (case hgd => exact rfl); (case ho => exact rfl); (case hx => exact rfl); (case hy => exact rfl); (case hi => first | exact at0 | exact at1 | exact at2 | exact at3 | exact at4 | exact at5 | exact at6 | exact at7 | exact at8 | exact at9); intro ws H' _ _; replace H := H'; clear H'; simp only [List.set_cons_zero] at H; go_simp)
    | ((with_reducible apply own_load rowF H); (case hgd => exact rfl); (case ho => exact rfl); (case hx => exact rfl); (case hi => first | exact at0 | exact at1 | exact at2 | exact at3 | exact at4 | exact at5 | exact at6 | exact at7 | exact at8 | exact at9); intro _ _; go_simp))
  go_cut [7] from 19 to 22 (fun v7 wx => ∃ g7, v7 = .pointer (some ⟨g7, 0, none⟩) ∧ Ow w wx [(g7, Blk 34 .i64 16 (dF (q).val)), (g6, Blk 34 .i64 16 (dF (0 : K).val)), (g4, Blk 34 .i64 16 fun _ => 0), (g3, Blk 34 .i64 16 (dF (v).val)), (g2, Blk 34 .i64 16 (dF (u).val))])
  case first =>
    go_wp2_with fail
    refine wp_region_noPanic ?_
    refine wp_region_held_drew (S := fun W => W.heap[g2]? = some (Blk 34 .i64 16 (dF (u).val)) ∧ W.heap[g3]? = some (Blk 34 .i64 16 (dF (v).val))) (by kernel_rfl) (⟨H.out.drew.row 3 rfl, H.out.drew.row 2 rfl⟩) (fun hH => ?_)
    replace H := Lib.hid H.out.drew
    generalize World.drew _ = w8 at *
    refine held_row 0 19 rowF rfl rfl (by kernel_rfl) (by kernel_rfl) (by kernel_rfl) rfl hH rfl rfl (fun _ h => h.1) ?_
    try simp only [Act.put, List.setIfInBounds_toArray, List.set_cons_zero, List.set_cons_succ]
    refine held_row 1 20 rowF rfl rfl (by kernel_rfl) (by kernel_rfl) (by kernel_rfl) rfl hH rfl rfl (fun _ h => h.2) ?_
    try simp only [Act.put, List.setIfInBounds_toArray, List.set_cons_zero, List.set_cons_succ]
    refine wpAnyH_ready (rs := [2, 4]) (by kernel_rfl) (by simp) ?_
    refine AllReadyH.cons (o := _) rfl (fun K hK => ?_) (AllReadyH.cons (o := _) rfl (fun K hK => ?_) AllReadyH.nil)
    · skip
      go_simp
      refine (refInverse_k _).mono ?_
      rintro e wc ⟨rfl, hb⟩
      replace H := Lib.hid (H.out.call hb)
      refine hK.out _ _ (⟨H.out.row 3 rfl, H.out.row 2 rfl⟩) (fun hN => ?_)
      clear hK K hH hb
      have hH := hN
      clear hN
      try simp only [Act.put, List.setIfInBounds_toArray, List.set_cons_zero, List.set_cons_succ]
      refine wpAnyH_ready (rs := [3, 4]) (by kernel_rfl) (by simp) ?_
      refine AllReadyH.cons (o := _) rfl (fun K hK => ?_) (AllReadyH.cons (o := _) rfl (fun K hK => ?_) AllReadyH.nil)
      · skip
        go_simp
        refine (refMul_k _ _ _).mono ?_
        rintro e wc ⟨rfl, hb⟩
        replace H := Lib.hid (H.out.call hb)
        refine hK.out _ _ (⟨H.out.row 3 rfl, H.out.row 2 rfl⟩) (fun hN => ?_)
        clear hK K hH hb
        have hH := hN
        clear hN
        try simp only [Act.put, List.setIfInBounds_toArray, List.set_cons_zero, List.set_cons_succ]
        refine wpAnyH_ready (rs := [4]) (by kernel_rfl) (by simp) ?_
        refine AllReadyH.cons (o := _) rfl (fun K hK => ?_) AllReadyH.nil
        refine own_wp_allocB 7 rfl intsF.zero H.out rfl ?_
        intro w7 g7 H3 hb
        replace H := Lib.hid H3
        refine hK.out _ _ (⟨H.out.row 4 rfl, H.out.row 3 rfl⟩) (fun hN => ?_)
        clear hK K hH H3 hb
        have hH := hN
        clear hN
        try simp only [Act.put, List.setIfInBounds_toArray, List.set_cons_zero, List.set_cons_succ]
        refine wpAnyH_ready (rs := [5]) (by kernel_rfl) (by simp) ?_
        refine AllReadyH.cons (o := _) rfl (fun K hK => ?_) AllReadyH.nil
        refine own_wp_store 0 rowF H.out rfl rfl rfl rfl ?_
        intro ws HS
        simp only [List.set_cons_zero] at HS
        replace H := Lib.hid HS
        refine hK.out _ _ (⟨H.out.row 4 rfl, H.out.row 3 rfl⟩) (fun hN => ?_)
        clear hK K HS hH
        have hH := hN
        clear hN
        try simp only [Act.put, List.setIfInBounds_toArray]
        try simp only [Act.put]
        refine wpAnyH_done (by kernel_rfl) ?_ _
        refine NoPanic.normal ?_
        clear hH
        rw [HQ.out] at H
        clear HQ
        replace H := Lib.hid (H.out.front (x := (g7, Blk 34 .i64 16 (dF (q).val))) 0 rfl)
        go_wp2_with fail
        go_meet
        exact ⟨g7, rfl, H.out⟩
      · skip
        refine own_wp_allocB 7 rfl intsF.zero H.out rfl ?_
        intro w7 g7 H3 hb
        replace H := Lib.hid H3
        refine hK.out _ _ (⟨H.out.row 4 rfl, H.out.row 3 rfl⟩) (fun hN => ?_)
        clear hK K hH H3 hb
        have hH := hN
        clear hN
        try simp only [Act.put, List.setIfInBounds_toArray, List.set_cons_zero, List.set_cons_succ]
        refine wpAnyH_ready (rs := [3]) (by kernel_rfl) (by simp) ?_
        refine AllReadyH.cons (o := _) rfl (fun K hK => ?_) AllReadyH.nil
        go_simp
        refine (refMul_k _ _ _).mono ?_
        rintro e wc ⟨rfl, hb⟩
        replace H := Lib.hid (H.out.call hb)
        refine hK.out _ _ (⟨H.out.row 4 rfl, H.out.row 3 rfl⟩) (fun hN => ?_)
        clear hK K hH hb
        have hH := hN
        clear hN
        try simp only [Act.put, List.setIfInBounds_toArray, List.set_cons_zero, List.set_cons_succ]
        refine wpAnyH_ready (rs := [5]) (by kernel_rfl) (by simp) ?_
        refine AllReadyH.cons (o := _) rfl (fun K hK => ?_) AllReadyH.nil
        refine own_wp_store 0 rowF H.out rfl rfl rfl rfl ?_
        intro ws HS
        simp only [List.set_cons_zero] at HS
        replace H := Lib.hid HS
        refine hK.out _ _ (⟨H.out.row 4 rfl, H.out.row 3 rfl⟩) (fun hN => ?_)
        clear hK K HS hH
        have hH := hN
        clear hN
        try simp only [Act.put, List.setIfInBounds_toArray]
        try simp only [Act.put]
        refine wpAnyH_done (by kernel_rfl) ?_ _
        refine NoPanic.normal ?_
        clear hH
        rw [HQ.out] at H
        clear HQ
        replace H := Lib.hid (H.out.front (x := (g7, Blk 34 .i64 16 (dF (q).val))) 0 rfl)
        go_wp2_with fail
        go_meet
        exact ⟨g7, rfl, H.out⟩
    · skip
      refine own_wp_allocB 7 rfl intsF.zero H.out rfl ?_
      intro w7 g7 H3 hb
      replace H := Lib.hid H3
      refine hK.out _ _ (⟨H.out.row 4 rfl, H.out.row 3 rfl⟩) (fun hN => ?_)
      clear hK K hH H3 hb
      have hH := hN
      clear hN
      try simp only [Act.put, List.setIfInBounds_toArray, List.set_cons_zero, List.set_cons_succ]
      refine wpAnyH_ready (rs := [2]) (by kernel_rfl) (by simp) ?_
      refine AllReadyH.cons (o := _) rfl (fun K hK => ?_) AllReadyH.nil
      go_simp
      refine (refInverse_k _).mono ?_
      rintro e wc ⟨rfl, hb⟩
      replace H := Lib.hid (H.out.call hb)
      refine hK.out _ _ (⟨H.out.row 4 rfl, H.out.row 3 rfl⟩) (fun hN => ?_)
      clear hK K hH hb
      have hH := hN
      clear hN
      try simp only [Act.put, List.setIfInBounds_toArray, List.set_cons_zero, List.set_cons_succ]
      refine wpAnyH_ready (rs := [3]) (by kernel_rfl) (by simp) ?_
      refine AllReadyH.cons (o := _) rfl (fun K hK => ?_) AllReadyH.nil
      go_simp
      refine (refMul_k _ _ _).mono ?_
      rintro e wc ⟨rfl, hb⟩
      replace H := Lib.hid (H.out.call hb)
      refine hK.out _ _ (⟨H.out.row 4 rfl, H.out.row 3 rfl⟩) (fun hN => ?_)
      clear hK K hH hb
      have hH := hN
      clear hN
      try simp only [Act.put, List.setIfInBounds_toArray, List.set_cons_zero, List.set_cons_succ]
      refine wpAnyH_ready (rs := [5]) (by kernel_rfl) (by simp) ?_
      refine AllReadyH.cons (o := _) rfl (fun K hK => ?_) AllReadyH.nil
      refine own_wp_store 0 rowF H.out rfl rfl rfl rfl ?_
      intro ws HS
      simp only [List.set_cons_zero] at HS
      replace H := Lib.hid HS
      refine hK.out _ _ (⟨H.out.row 4 rfl, H.out.row 3 rfl⟩) (fun hN => ?_)
      clear hK K HS hH
      have hH := hN
      clear hN
      try simp only [Act.put, List.setIfInBounds_toArray]
      try simp only [Act.put]
      refine wpAnyH_done (by kernel_rfl) ?_ _
      refine NoPanic.normal ?_
      clear hH
      rw [HQ.out] at H
      clear HQ
      replace H := Lib.hid (H.out.front (x := (g7, Blk 34 .i64 16 (dF (q).val))) 0 rfl)
      go_wp2_with fail
      go_meet
      exact ⟨g7, rfl, H.out⟩
  case rest =>
    clear H
    obtain ⟨g7, rfl, HRR⟩ := hcut
    have H := Lib.hid HRR
    clear HRR HQ
    go_wp2_with (first
      | ((with_reducible apply own_load rowF H); (case hgd => exact rfl); (case ho => exact rfl); (case hx => exact rfl); (case hi => first | exact at0 | exact at1 | exact at2 | exact at3 | exact at4 | exact at5 | exact at6 | exact at7 | exact at8 | exact at9); intro _ _; go_simp)
      | ((fail_if_success have := g8); (with_reducible apply own_alloc intsF.zero H); (case hgd => exact rfl); (case ho => exact rfl); intro w8 g8 H' _ _; replace H := H'; clear H'; go_simp)
      | ((with_reducible apply own_store rowF H); (case hgd => exact rfl); (case ho => exact rfl); (case hx => exact rfl); (case hy => exact rfl); (case hi => first | exact at0 | exact at1 | exact at2 | exact at3 | exact at4 | exact at5 | exact at6 | exact at7 | exact at8 | exact at9); intro ws H' _ _; replace H := H'; clear H'; simp only [List.set_cons_zero, List.set_cons_succ] at H; go_simp)
      | ((with_reducible refine (HR.out _).mono ?_); rintro e wc ⟨rfl, hb⟩; replace H := Lib.hid (H.out.call hb); clear hb)
      | ((with_reducible refine (refNeg_k _ _).mono ?_); rintro e wc ⟨rfl, hb⟩; replace H := Lib.hid (H.out.call hb); clear hb)
      | ((with_reducible refine (HN.out _).mono ?_); rintro e wc ⟨rfl, hb⟩; replace H := Lib.hid (H.out.call hb); clear hb))
    exact bodyPost_ret (own_result_slot 3 rowF rfl _ H rfl rfl rfl) rfl ⟨rfl, H.out.bel⟩
theorem refRatio_k {u v : K} (w : World) :
    Calls Tryd.prog 41 #[FV u.val, FV v.val] w fun e w' => e = .returned (.tuple #[FV (ab (rat eC u v)).val, .bool (decide (v * (rat eC u v * rat eC u v) = u))]) ∧ Below w.heap.size w w' := by
  by_cases hu : u = 0
  · refine (refRatio_u w hu).mono ?_
    rintro e w' ⟨rfl, hb⟩
    subst hu
    obtain ⟨h1, h2⟩ := ratio_zero_left v
    rw [h1, decide_eq_true h2]
    exact ⟨rfl, hb⟩
  by_cases hv : v = 0
  · refine (refRatio_v w hu hv).mono ?_
    rintro e w' ⟨rfl, hb⟩
    subst hv
    obtain ⟨h1, h2⟩ := ratio_zero_right hu
    rw [h1, decide_eq_false h2]
    exact ⟨rfl, hb⟩
  obtain ⟨hyes, hno⟩ := ratio_ref hu hv
  by_cases hd : v * (rat eC u v * rat eC u v) = u
  · rw [decide_eq_true hd]
    refine refRatio_true w hu hv rfl (fun w => (refRoot_k w).mono fun e w' ⟨h, hb⟩ => ⟨?_, hb⟩)
    rcases h with ⟨_, h2⟩ | ⟨h1, _⟩
    · rw [h2, (hyes hd).2]
    · exact absurd (hyes hd).1 h1
  · rw [decide_eq_false hd]
    refine refRatio_false w hu hv rfl (fun w => (refRoot_k w).mono fun e w' ⟨h, hb⟩ => ⟨?_, hb⟩) (fun w => (refRoot_k w).mono fun e w' ⟨h, hb⟩ => ⟨?_, hb⟩)
    · rcases h with ⟨h1, _⟩ | ⟨_, h2⟩
      · exact absurd h1 (hno hd).1
      · exact h2
    · rcases h with ⟨_, h2⟩ | ⟨h1, _⟩
      · rw [h2, (hno hd).2.2]
      · exact absurd (hno hd).2.1 h1
end Go.Proofs.YtieoapcakdaelaaDoor
