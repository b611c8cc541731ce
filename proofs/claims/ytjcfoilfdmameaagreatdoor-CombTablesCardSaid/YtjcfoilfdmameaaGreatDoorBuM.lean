/-
  Lemmas for the walks, several texts in one. No statement is proved here.
-/
import Derived.Test.YtjcfoilfdmameaaGreatDoorBuX
import Derived.Test.YtjcfoilfdmameaaGreatDoorBuH
import Derived.Test.YtjcfoilfdmameaaGreatDoorZRfPt
import Derived.Test.YtjcfoilfdmameaaGreatDoorBuB
import Derived.Deep.CutRange
/-
  The contract of chicoryref11's Torsion: for each number there is a point. No statement is proved here: lemmas for the walks.
-/
namespace Go.Proofs.YtjcfoilfdmameaaGreatDoor
open Go.RowKit

/-- The four points of which four times is the identity. -/
theorem tor_pt (n : Nat) : ∃ (x y : K) (Q : Pt pN dK), Q.x = x ∧ Q.y = y ∧ ((n = 1 ∧ x = 1 ∧ y = 0) ∨ (n = 2 ∧ x = 0 ∧ y = -1) ∨ (n = 3 ∧ x = -1 ∧ y = 0) ∨ ((n = 0 ∨ 3 < n) ∧ x = 0 ∧ y = 1)) := by
  rcases (by omega : n = 1 ∨ n = 2 ∨ n = 3 ∨ (n = 0 ∨ 3 < n)) with h | h | h | h
  · exact ⟨1, 0, pquarter, rfl, rfl, .inl ⟨h, rfl, rfl⟩⟩
  · exact ⟨0, -1, phalf, rfl, rfl, .inr (.inl ⟨h, rfl, rfl⟩)⟩
  · exact ⟨-1, 0, pneg pquarter, rfl, rfl, .inr (.inr (.inl ⟨h, rfl, rfl⟩))⟩
  · exact ⟨0, 1, pzero, rfl, rfl, .inr (.inr (.inr ⟨h, rfl, rfl⟩))⟩
theorem tor_one (a : K) : a * 1 = a := by grind
theorem tor_rf {X Y Z : K} {Q : Pt pN dK} (hz : Z = 1) (hx : X = Q.x) (hy : Y = Q.y) : RfK (t3 16 (dF X.val) (dF Y.val) (dF Z.val)) Q :=
  ⟨X, Y, Z, rfl, ⟨by rw [hz, hx, tor_one], by rw [hz, hy, tor_one], by rw [hz]; exact fp_one_ne prime_pN⟩⟩
set_option maxRecDepth 8000 in
set_option maxHeartbeats 3200000 in
theorem tor1_k (w : World) : Calls Tryz.prog 41 #[.int .i64 1] w fun e w' => ∃ r Q, e = .returned (QO r) ∧ RfK r Q ∧ Below w.heap.size w w' := by
  have H := Lib.hid (Ow.start w)
  go_enter Tryz.func41, Tryz.ntmps41
  go_wp2_with (first
    | ((fail_if_success have := g2); (with_reducible apply own_alloc nilQt H); (case hgd => exact rfl); (case ho => exact rfl); intro w2 g2 H' _ _; replace H := H'; clear H'; go_simp)
    | ((fail_if_success have := mk1); (with_reducible refine (refInt_k _ (1) (by omega) (by omega)).mono ?_); rintro e wc ⟨rfl, hb⟩; replace H := Lib.hid (H.out.call hb); clear hb; have mk1 := trivial)
    | ((fail_if_success have := g3); (with_reducible apply own_alloc intsF.zero H); (case hgd => exact rfl); (case ho => exact rfl); intro w3 g3 H' _ _; replace H := H'; clear H'; go_simp)
    | ((with_reducible apply own_store rowF H); (case hgd => exact rfl); (case ho => exact rfl); (case hx => exact rfl); (case hy => exact rfl); (case hi => first | exact at0 | exact at1 | exact at2 | exact at3 | exact at4 | exact at5 | exact at6 | exact at7 | exact at8 | exact at9); intro ws H' _ _; replace H := H'; clear H'; simp only [List.set_cons_zero] at H; go_simp)
    | ((fail_if_success have := mk2); (with_reducible refine (refInt_k _ (0) (by omega) (by omega)).mono ?_); rintro e wc ⟨rfl, hb⟩; replace H := Lib.hid (H.out.call hb); clear hb; have mk2 := trivial)
    | ((fail_if_success have := g4); (with_reducible apply own_alloc intsF.zero H); (case hgd => exact rfl); (case ho => exact rfl); intro w4 g4 H' _ _; replace H := H'; clear H'; go_simp)
    | ((with_reducible apply own_load rowF H); (case hgd => exact rfl); (case ho => exact rfl); (case hx => exact rfl); (case hi => first | exact at0 | exact at1 | exact at2 | exact at3 | exact at4 | exact at5 | exact at6 | exact at7 | exact at8 | exact at9); intro _ _; go_simp)
    | ((with_reducible apply lay_build_qt); (case hgd => exact rfl); (case ho => exact rfl); (case hx => exact rfl); (case hy => exact rfl); (case hz => exact rfl); intro _ _; go_simp)
    | ((with_reducible apply own_store rowQt H); (case hgd => exact rfl); (case ho => exact rfl); (case hx => exact rfl); (case hy => exact rfl); (case hi => first | exact at0 | exact at1 | exact at2 | exact at3 | exact at4 | exact at5 | exact at6 | exact at7 | exact at8 | exact at9); intro ws H' _ _; replace H := H'; clear H'; simp only [List.set_cons_zero, List.set_cons_succ] at H; go_simp))
  obtain ⟨x, y, Q, hx, hy, hc⟩ := tor_pt 1
  refine bodyPost_ret (own_result 2 rowQt rfl _ H rfl rfl) rfl ⟨_, Q, rfl, tor_rf ofZ_one ?_ ?_, H.out.bel⟩
  · rw [hx]; rcases hc with ⟨h, e1, _⟩ | ⟨h, e1, _⟩ | ⟨h, e1, _⟩ | ⟨h, e1, _⟩ <;> first | (exfalso; omega) | (rw [e1]; first | exact ofZ_zero | exact ofZ_one | exact congrArg (fun z => -z) ofZ_one)
  · rw [hy]; rcases hc with ⟨h, _, e1⟩ | ⟨h, _, e1⟩ | ⟨h, _, e1⟩ | ⟨h, _, e1⟩ <;> first | (exfalso; omega) | (rw [e1]; first | exact ofZ_zero | exact ofZ_one | exact congrArg (fun z => -z) ofZ_one)
set_option maxRecDepth 8000 in
set_option maxHeartbeats 3200000 in
theorem tor2_k (w : World) : Calls Tryz.prog 41 #[.int .i64 2] w fun e w' => ∃ r Q, e = .returned (QO r) ∧ RfK r Q ∧ Below w.heap.size w w' := by
  have H := Lib.hid (Ow.start w)
  go_enter Tryz.func41, Tryz.ntmps41
  go_wp2_with (first
    | ((fail_if_success have := g2); (with_reducible apply own_alloc nilQt H); (case hgd => exact rfl); (case ho => exact rfl); intro w2 g2 H' _ _; replace H := H'; clear H'; go_simp)
    | ((fail_if_success have := mk1); (with_reducible refine (refInt_k _ (1) (by omega) (by omega)).mono ?_); rintro e wc ⟨rfl, hb⟩; replace H := Lib.hid (H.out.call hb); clear hb; have mk1 := trivial)
    | ((fail_if_success have := g3); (with_reducible apply own_alloc intsF.zero H); (case hgd => exact rfl); (case ho => exact rfl); intro w3 g3 H' _ _; replace H := H'; clear H'; go_simp)
    | ((with_reducible apply own_store rowF H); (case hgd => exact rfl); (case ho => exact rfl); (case hx => exact rfl); (case hy => exact rfl); (case hi => first | exact at0 | exact at1 | exact at2 | exact at3 | exact at4 | exact at5 | exact at6 | exact at7 | exact at8 | exact at9); intro ws H' _ _; replace H := H'; clear H'; simp only [List.set_cons_zero] at H; go_simp)
    | ((fail_if_success have := mk2); (with_reducible refine (refInt_k _ (0) (by omega) (by omega)).mono ?_); rintro e wc ⟨rfl, hb⟩; replace H := Lib.hid (H.out.call hb); clear hb; have mk2 := trivial)
    | ((fail_if_success have := g4); (with_reducible apply own_alloc intsF.zero H); (case hgd => exact rfl); (case ho => exact rfl); intro w4 g4 H' _ _; replace H := H'; clear H'; go_simp)
    | ((with_reducible apply own_load rowF H); (case hgd => exact rfl); (case ho => exact rfl); (case hx => exact rfl); (case hi => first | exact at0 | exact at1 | exact at2 | exact at3 | exact at4 | exact at5 | exact at6 | exact at7 | exact at8 | exact at9); intro _ _; go_simp)
    | ((with_reducible apply lay_build_qt); (case hgd => exact rfl); (case ho => exact rfl); (case hx => exact rfl); (case hy => exact rfl); (case hz => exact rfl); intro _ _; go_simp)
    | ((with_reducible apply own_store rowQt H); (case hgd => exact rfl); (case ho => exact rfl); (case hx => exact rfl); (case hy => exact rfl); (case hi => first | exact at0 | exact at1 | exact at2 | exact at3 | exact at4 | exact at5 | exact at6 | exact at7 | exact at8 | exact at9); intro ws H' _ _; replace H := H'; clear H'; simp only [List.set_cons_zero, List.set_cons_succ] at H; go_simp))
  clear mk1 mk2
  refine wp_region_noPanic ?_
  refine wp_region_held_drew (S := fun W => W.heap[g4]? = some (Blk 43 .i64 16 (dF ((ofZ (0))).val)) ∧ W.heap[g3]? = some (Blk 43 .i64 16 (dF ((ofZ (1))).val))) (by kernel_rfl) (⟨H.out.drew.row 0 rfl, H.out.drew.row 1 rfl⟩) (fun hH => ?_)
  replace H := Lib.hid H.out.drew
  generalize World.drew _ = w8 at *
  refine held_row 0 16 rowF rfl rfl (by kernel_rfl) (by kernel_rfl) (by kernel_rfl) rfl hH rfl rfl (fun _ h => h.1) ?_
  try simp only [Act.put, List.setIfInBounds_toArray, List.set_cons_zero, List.set_cons_succ]
  refine held_row 1 17 rowF rfl rfl (by kernel_rfl) (by kernel_rfl) (by kernel_rfl) rfl hH rfl rfl (fun _ h => h.2) ?_
  try simp only [Act.put, List.setIfInBounds_toArray, List.set_cons_zero, List.set_cons_succ]
  refine held_row 3 19 rowF rfl rfl (by kernel_rfl) (by kernel_rfl) (by kernel_rfl) rfl hH rfl rfl (fun _ h => h.2) ?_
  try simp only [Act.put, List.setIfInBounds_toArray, List.set_cons_zero, List.set_cons_succ]
  refine wpAnyH_ready (rs := [2]) (by kernel_rfl) (by simp) ?_
  refine AllReadyH.cons (o := _) rfl (fun K hK => ?_) AllReadyH.nil
  go_simp
  refine (refNeg_k _ _).mono ?_
  rintro e wc ⟨rfl, hb⟩
  replace H := Lib.hid (H.out.call hb)
  refine hK.out _ _ (⟨H.out.row 0 rfl, H.out.row 1 rfl⟩) (fun hN => ?_)
  clear hK K hH hb
  have hH := hN
  clear hN
  try simp only [Act.put, List.setIfInBounds_toArray, List.set_cons_zero, List.set_cons_succ]
  refine held_qt 4 20 rfl rfl (by kernel_rfl) (by kernel_rfl) (by kernel_rfl) rfl hH rfl rfl rfl rfl ?_
  try simp only [Act.put, List.setIfInBounds_toArray, List.set_cons_zero, List.set_cons_succ]
  refine wpAnyH_ready (rs := [5]) (by kernel_rfl) (by simp) ?_
  refine AllReadyH.cons (o := _) rfl (fun K hK => ?_) AllReadyH.nil
  refine own_st 2 rfl rowQt H.out rfl rfl rfl rfl ?_
  intro ws HS
  simp only [List.set_cons_zero, List.set_cons_succ] at HS
  replace H := Lib.hid HS
  refine hK.out _ _ (⟨H.out.row 0 rfl, H.out.row 1 rfl⟩) (fun hN => ?_)
  clear hK K HS hH
  have hH := hN
  clear hN
  try simp only [List.setIfInBounds_toArray]
  try simp only [Act.put]
  refine wpAnyH_done (by kernel_rfl) ?_ _
  refine NoPanic.normal ?_
  clear hH
  go_wp2_with fail
  obtain ⟨x, y, Q, hx, hy, hc⟩ := tor_pt 2
  refine bodyPost_ret (own_result 2 rowQt rfl _ H rfl rfl) rfl ⟨_, Q, rfl, tor_rf ofZ_one ?_ ?_, H.out.bel⟩
  · rw [hx]; rcases hc with ⟨h, e1, _⟩ | ⟨h, e1, _⟩ | ⟨h, e1, _⟩ | ⟨h, e1, _⟩ <;> first | (exfalso; omega) | (rw [e1]; first | exact ofZ_zero | exact ofZ_one | exact congrArg (fun z => -z) ofZ_one)
  · rw [hy]; rcases hc with ⟨h, _, e1⟩ | ⟨h, _, e1⟩ | ⟨h, _, e1⟩ | ⟨h, _, e1⟩ <;> first | (exfalso; omega) | (rw [e1]; first | exact ofZ_zero | exact ofZ_one | exact congrArg (fun z => -z) ofZ_one)
set_option maxRecDepth 8000 in
set_option maxHeartbeats 3200000 in
theorem tor3_k (w : World) : Calls Tryz.prog 41 #[.int .i64 3] w fun e w' => ∃ r Q, e = .returned (QO r) ∧ RfK r Q ∧ Below w.heap.size w w' := by
  have H := Lib.hid (Ow.start w)
  go_enter Tryz.func41, Tryz.ntmps41
  go_wp2_with (first
    | ((fail_if_success have := g2); (with_reducible apply own_alloc nilQt H); (case hgd => exact rfl); (case ho => exact rfl); intro w2 g2 H' _ _; replace H := H'; clear H'; go_simp)
    | ((fail_if_success have := mk1); (with_reducible refine (refInt_k _ (1) (by omega) (by omega)).mono ?_); rintro e wc ⟨rfl, hb⟩; replace H := Lib.hid (H.out.call hb); clear hb; have mk1 := trivial)
    | ((fail_if_success have := g3); (with_reducible apply own_alloc intsF.zero H); (case hgd => exact rfl); (case ho => exact rfl); intro w3 g3 H' _ _; replace H := H'; clear H'; go_simp)
    | ((with_reducible apply own_store rowF H); (case hgd => exact rfl); (case ho => exact rfl); (case hx => exact rfl); (case hy => exact rfl); (case hi => first | exact at0 | exact at1 | exact at2 | exact at3 | exact at4 | exact at5 | exact at6 | exact at7 | exact at8 | exact at9); intro ws H' _ _; replace H := H'; clear H'; simp only [List.set_cons_zero] at H; go_simp)
    | ((fail_if_success have := mk2); (with_reducible refine (refInt_k _ (0) (by omega) (by omega)).mono ?_); rintro e wc ⟨rfl, hb⟩; replace H := Lib.hid (H.out.call hb); clear hb; have mk2 := trivial)
    | ((fail_if_success have := g4); (with_reducible apply own_alloc intsF.zero H); (case hgd => exact rfl); (case ho => exact rfl); intro w4 g4 H' _ _; replace H := H'; clear H'; go_simp)
    | ((with_reducible apply own_load rowF H); (case hgd => exact rfl); (case ho => exact rfl); (case hx => exact rfl); (case hi => first | exact at0 | exact at1 | exact at2 | exact at3 | exact at4 | exact at5 | exact at6 | exact at7 | exact at8 | exact at9); intro _ _; go_simp)
    | ((with_reducible apply lay_build_qt); (case hgd => exact rfl); (case ho => exact rfl); (case hx => exact rfl); (case hy => exact rfl); (case hz => exact rfl); intro _ _; go_simp)
    | ((with_reducible apply own_store rowQt H); (case hgd => exact rfl); (case ho => exact rfl); (case hx => exact rfl); (case hy => exact rfl); (case hi => first | exact at0 | exact at1 | exact at2 | exact at3 | exact at4 | exact at5 | exact at6 | exact at7 | exact at8 | exact at9); intro ws H' _ _; replace H := H'; clear H'; simp only [List.set_cons_zero, List.set_cons_succ] at H; go_simp))
  clear mk1 mk2
  refine wp_region_noPanic ?_
  refine wp_region_held_drew (S := fun W => W.heap[g3]? = some (Blk 43 .i64 16 (dF ((ofZ (1))).val)) ∧ W.heap[g4]? = some (Blk 43 .i64 16 (dF ((ofZ (0))).val))) (by kernel_rfl) (⟨H.out.drew.row 1 rfl, H.out.drew.row 0 rfl⟩) (fun hH => ?_)
  replace H := Lib.hid H.out.drew
  generalize World.drew _ = w8 at *
  refine held_row 0 23 rowF rfl rfl (by kernel_rfl) (by kernel_rfl) (by kernel_rfl) rfl hH rfl rfl (fun _ h => h.1) ?_
  try simp only [Act.put, List.setIfInBounds_toArray, List.set_cons_zero, List.set_cons_succ]
  refine held_row 2 25 rowF rfl rfl (by kernel_rfl) (by kernel_rfl) (by kernel_rfl) rfl hH rfl rfl (fun _ h => h.2) ?_
  try simp only [Act.put, List.setIfInBounds_toArray, List.set_cons_zero, List.set_cons_succ]
  refine held_row 3 26 rowF rfl rfl (by kernel_rfl) (by kernel_rfl) (by kernel_rfl) rfl hH rfl rfl (fun _ h => h.1) ?_
  try simp only [Act.put, List.setIfInBounds_toArray, List.set_cons_zero, List.set_cons_succ]
  refine wpAnyH_ready (rs := [1]) (by kernel_rfl) (by simp) ?_
  refine AllReadyH.cons (o := _) rfl (fun K hK => ?_) AllReadyH.nil
  go_simp
  refine (refNeg_k _ _).mono ?_
  rintro e wc ⟨rfl, hb⟩
  replace H := Lib.hid (H.out.call hb)
  refine hK.out _ _ (⟨H.out.row 1 rfl, H.out.row 0 rfl⟩) (fun hN => ?_)
  clear hK K hH hb
  have hH := hN
  clear hN
  try simp only [Act.put, List.setIfInBounds_toArray, List.set_cons_zero, List.set_cons_succ]
  refine held_qt 4 27 rfl rfl (by kernel_rfl) (by kernel_rfl) (by kernel_rfl) rfl hH rfl rfl rfl rfl ?_
  try simp only [Act.put, List.setIfInBounds_toArray, List.set_cons_zero, List.set_cons_succ]
  refine wpAnyH_ready (rs := [5]) (by kernel_rfl) (by simp) ?_
  refine AllReadyH.cons (o := _) rfl (fun K hK => ?_) AllReadyH.nil
  refine own_st 2 rfl rowQt H.out rfl rfl rfl rfl ?_
  intro ws HS
  simp only [List.set_cons_zero, List.set_cons_succ] at HS
  replace H := Lib.hid HS
  refine hK.out _ _ (⟨H.out.row 1 rfl, H.out.row 0 rfl⟩) (fun hN => ?_)
  clear hK K HS hH
  have hH := hN
  clear hN
  try simp only [List.setIfInBounds_toArray]
  try simp only [Act.put]
  refine wpAnyH_done (by kernel_rfl) ?_ _
  refine NoPanic.normal ?_
  clear hH
  go_wp2_with fail
  obtain ⟨x, y, Q, hx, hy, hc⟩ := tor_pt 3
  refine bodyPost_ret (own_result 2 rowQt rfl _ H rfl rfl) rfl ⟨_, Q, rfl, tor_rf ofZ_one ?_ ?_, H.out.bel⟩
  · rw [hx]; rcases hc with ⟨h, e1, _⟩ | ⟨h, e1, _⟩ | ⟨h, e1, _⟩ | ⟨h, e1, _⟩ <;> first | (exfalso; omega) | (rw [e1]; first | exact ofZ_zero | exact ofZ_one | exact congrArg (fun z => -z) ofZ_one)
  · rw [hy]; rcases hc with ⟨h, _, e1⟩ | ⟨h, _, e1⟩ | ⟨h, _, e1⟩ | ⟨h, _, e1⟩ <;> first | (exfalso; omega) | (rw [e1]; first | exact ofZ_zero | exact ofZ_one | exact congrArg (fun z => -z) ofZ_one)
set_option maxRecDepth 8000 in
set_option maxHeartbeats 3200000 in
theorem tor0_k (w : World) : Calls Tryz.prog 41 #[.int .i64 0] w fun e w' => ∃ r Q, e = .returned (QO r) ∧ RfK r Q ∧ Below w.heap.size w w' := by
  have H := Lib.hid (Ow.start w)
  go_enter Tryz.func41, Tryz.ntmps41
  go_wp2_with (first
    | ((fail_if_success have := g2); (with_reducible apply own_alloc nilQt H); (case hgd => exact rfl); (case ho => exact rfl); intro w2 g2 H' _ _; replace H := H'; clear H'; go_simp)
    | ((fail_if_success have := mk1); (with_reducible refine (refInt_k _ (1) (by omega) (by omega)).mono ?_); rintro e wc ⟨rfl, hb⟩; replace H := Lib.hid (H.out.call hb); clear hb; have mk1 := trivial)
    | ((fail_if_success have := g3); (with_reducible apply own_alloc intsF.zero H); (case hgd => exact rfl); (case ho => exact rfl); intro w3 g3 H' _ _; replace H := H'; clear H'; go_simp)
    | ((with_reducible apply own_store rowF H); (case hgd => exact rfl); (case ho => exact rfl); (case hx => exact rfl); (case hy => exact rfl); (case hi => first | exact at0 | exact at1 | exact at2 | exact at3 | exact at4 | exact at5 | exact at6 | exact at7 | exact at8 | exact at9); intro ws H' _ _; replace H := H'; clear H'; simp only [List.set_cons_zero] at H; go_simp)
    | ((fail_if_success have := mk2); (with_reducible refine (refInt_k _ (0) (by omega) (by omega)).mono ?_); rintro e wc ⟨rfl, hb⟩; replace H := Lib.hid (H.out.call hb); clear hb; have mk2 := trivial)
    | ((fail_if_success have := g4); (with_reducible apply own_alloc intsF.zero H); (case hgd => exact rfl); (case ho => exact rfl); intro w4 g4 H' _ _; replace H := H'; clear H'; go_simp)
    | ((with_reducible apply own_load rowF H); (case hgd => exact rfl); (case ho => exact rfl); (case hx => exact rfl); (case hi => first | exact at0 | exact at1 | exact at2 | exact at3 | exact at4 | exact at5 | exact at6 | exact at7 | exact at8 | exact at9); intro _ _; go_simp)
    | ((with_reducible apply lay_build_qt); (case hgd => exact rfl); (case ho => exact rfl); (case hx => exact rfl); (case hy => exact rfl); (case hz => exact rfl); intro _ _; go_simp)
    | ((with_reducible apply own_store rowQt H); (case hgd => exact rfl); (case ho => exact rfl); (case hx => exact rfl); (case hy => exact rfl); (case hi => first | exact at0 | exact at1 | exact at2 | exact at3 | exact at4 | exact at5 | exact at6 | exact at7 | exact at8 | exact at9); intro ws H' _ _; replace H := H'; clear H'; simp only [List.set_cons_zero, List.set_cons_succ] at H; go_simp))
  obtain ⟨x, y, Q, hx, hy, hc⟩ := tor_pt 0
  refine bodyPost_ret (own_result 2 rowQt rfl _ H rfl rfl) rfl ⟨_, Q, rfl, tor_rf ofZ_one ?_ ?_, H.out.bel⟩
  · rw [hx]; rcases hc with ⟨h, e1, _⟩ | ⟨h, e1, _⟩ | ⟨h, e1, _⟩ | ⟨h, e1, _⟩ <;> first | (exfalso; omega) | (rw [e1]; first | exact ofZ_zero | exact ofZ_one | exact congrArg (fun z => -z) ofZ_one)
  · rw [hy]; rcases hc with ⟨h, _, e1⟩ | ⟨h, _, e1⟩ | ⟨h, _, e1⟩ | ⟨h, _, e1⟩ <;> first | (exfalso; omega) | (rw [e1]; first | exact ofZ_zero | exact ofZ_one | exact congrArg (fun z => -z) ofZ_one)
theorem tor_k (z : Int) (w : World) (h0 : 0 ≤ z) (h3 : z ≤ 3) : Calls Tryz.prog 41 #[.int .i64 z] w fun e w' => ∃ r Q, e = .returned (QO r) ∧ RfK r Q ∧ Below w.heap.size w w' := by
  rcases (by omega : z = 0 ∨ z = 1 ∨ z = 2 ∨ z = 3) with rfl | rfl | rfl | rfl
  · exact tor0_k w
  · exact tor1_k w
  · exact tor2_k w
  · exact tor3_k w
end Go.Proofs.YtjcfoilfdmameaaGreatDoor

/-
  Bytes built as a slice, as a row that is a number; a slice made, in a region that draws its order. No statement is proved here: lemmas for the walks.
-/
namespace Go.Proofs.YtjcfoilfdmameaaGreatDoor
open Go.RowKit



























section
variable {ops : Array Oper} {rest : List Oper} {o : Oper} {a : Act} {w w0 : World} {l : List (Nat × Obj)} {Q : Exit → Act → World → Prop}
























end
section
variable {o : Oper} {a : Act} {w w0 : World} {l : List (Nat × Obj)} {K : Act → World → Prop} {Q : Exit → Act → World → Prop}








end
end Go.Proofs.YtjcfoilfdmameaaGreatDoor

/-
  The contract of chicoryref11's Power: 2 to the power of a number, in bytes. No statement is proved here: lemmas for the walks.
-/
namespace Go.Proofs.YtjcfoilfdmameaaGreatDoor
open Go.RowKit

theorem bt_pow (n i : Nat) : bt (2 ^ n) i = if i = n / 8 then BitVec.ofNat 8 (2 ^ (n % 8)) else 0 := by
  apply BitVec.eq_of_getLsbD_eq
  intro j hj
  rw [bt_bit, decide_eq_true hj, Bool.true_and, Nat.testBit_two_pow]
  by_cases h : i = n / 8
  · rw [if_pos h, BitVec.getLsbD_ofNat, decide_eq_true hj, Bool.true_and, Nat.testBit_two_pow, decide_eq_decide]
    omega
  · rw [if_neg h]
    have : ¬ n = 8 * i + j := by omega
    rw [decide_eq_false this]
    simp
theorem pow_row (n : Nat) : upd8 (fun _ => 0) (n / 8) (BitVec.ofNat 8 (2 ^ (n % 8))) = bt (2 ^ n) := by
  funext i
  rw [bt_pow]
  rfl

theorem pow_small {k : Nat} (h : k < 8) : 2 ^ k ≤ 128 := by
  have := Nat.pow_le_pow_right (show 0 < 2 by omega) (show k ≤ 7 by omega)
  omega
theorem u8_pow {k : Nat} (h : k < 8) : IntKind.u8.wrap ((2 ^ k : Nat) : Int) = U8 (BitVec.ofNat 8 (2 ^ k)) := by
  have := pow_small h
  rw [IntKind.wrap_u8]
  unfold U8
  rw [BitVec.toNat_ofNat]
  omega
section
variable {ops : Array Oper} {rest : List Oper} {o : Oper} {a : Act} {w w0 : World} {l : List (Nat × Obj)} {Q : Exit → Act → World → Prop}
theorem own_makeY (H : Hid (Ow w0 w l)) (hgd : o.guard = none) {x y : Operand} (ho : o.op = .makeSlice 39 x y) {c : Nat} (hx : a.eval x = .int .i64 (c : Int)) (hy : a.eval y = .int .i64 (c : Int)) (hc : c ≤ 1000000)
    (k : ∀ w' g, Hid (Ow w0 w' ((g, YB c fun _ => 0) :: l)) → ∀ K : Act → World → Prop, (∀ a w, wpList Tryz.prog ops Q rest a w → K a w) → K (a.put o.dst (.slice (some ⟨g, 0, none⟩) c c)) w') : wpList Tryz.prog ops Q (o :: rest) a w :=
  lay_make hgd ho hx hy (Nat.le_refl c) hc (k _ _ (Lib.hid (by
    rw [AB_AZ]
    exact H.out.alloc _)))
end
set_option maxRecDepth 8000 in
set_option maxHeartbeats 3200000 in
theorem refPower_x (n : Nat) (w : World) (hn : n ≤ 10000) :
    Calls Tryz.prog 17 #[.int .i64 (n : Int)] w fun e w' => ∃ g, e = .returned (.slice (some ⟨g, 0, none⟩) (n / 8 + 1) (n / 8 + 1)) ∧ w.heap.size ≤ g ∧ w'.heap[g]? = some (YB (n / 8 + 1) (bt (2 ^ n))) ∧ Below w.heap.size w w' := by
  have HR : Hid (upd8 (fun _ => 0) (n / 8) (BitVec.ofNat 8 (2 ^ (n % 8))) = bt (2 ^ n)) := Lib.hid (pow_row n)
  obtain ⟨q, hq⟩ : ∃ q, n / 8 = q := ⟨_, rfl⟩
  obtain ⟨s, hs⟩ : ∃ s, n % 8 = s := ⟨_, rfl⟩
  have e1 : (n : Int) / 8 = (q : Int) := by omega
  have e1' : (n : Int).tdiv 8 = (q : Int) := by rw [Int.tdiv_eq_ediv_of_nonneg (by omega)]; exact e1
  have e2 : (n : Int) % 8 = (s : Int) := by omega
  have e3 : (n : Int).tmod 8 = (s : Int) := by rw [Int.tmod_eq_emod_of_nonneg (by omega)]; exact e2
  have s8 : s < 8 := by omega
  have f1 : IntKind.i64.wrap (q : Int) = (q : Int) := IntWalk.i64_in _ (by omega)
  obtain ⟨m, hm⟩ : ∃ m, q + 1 = m := ⟨_, rfl⟩
  have e4 : (q : Int) + 1 = (m : Int) := by omega
  have f2 : IntKind.i64.wrap (m : Int) = (m : Int) := IntWalk.i64_in _ (by omega)
  have f3 : IntKind.i64.wrap (s : Int) = (s : Int) := IntWalk.i64_in _ (by omega)
  have m6 : m ≤ 1000000 := by omega
  have qm : (q : Int) < (m : Int) := by omega
  have HQ := Lib.hid (show q < m by omega)
  have HS8 := Lib.hid s8
  rw [hq, hs] at HR
  rw [hq, hm]
  clear hq hs hm hn s8
  have H := Lib.hid (Ow.start w)
  go_enter Tryz.func17, Tryz.ntmps17
  go_wp2_with (first
    | ((with_reducible apply own_makeY H); (case hgd => exact rfl); (case ho => exact rfl); (case hx => exact rfl); (case hy => exact rfl); (case hc => exact m6); intro w3 g3 H' _ _; replace H := H'; clear H'; go_simp))
  go_loop [4, 5] (fun v4 v5 => ∃ k : Nat, k ≤ s ∧ v5 = .int .i64 k ∧ v4 = .int .i64 ((2 ^ k : Nat) : Int)) (fun _ v5 => s - (intOf v5).toNat)
  case atStart => exact ⟨0, Nat.zero_le _, rfl, rfl⟩
  case round =>
    obtain ⟨k, hk, rfl, rfl⟩ := hrel
    by_cases hks : k < s
    · have hid : decide ((k : Int) < (s : Int)) = true := by simp; omega
      obtain ⟨u, hu⟩ : ∃ u, 2 ^ k = u := ⟨_, rfl⟩
      have hs9 := HS8.out
      have u128 : u ≤ 128 := by rw [← hu]; exact pow_small (by omega)
      obtain ⟨v, hv⟩ : ∃ v, u * 2 = v := ⟨_, rfl⟩
      have e5 : (u : Int) * 2 = (v : Int) := by omega
      have f5 : IntKind.i64.wrap (v : Int) = (v : Int) := IntWalk.i64_in _ (by omega)
      have HV : Hid (v = 2 ^ (k + 1)) := Lib.hid (by rw [← hv, ← hu, Nat.pow_succ])
      rw [hu]
      have f6 : IntKind.i64.wrap ((k : Int) + 1) = (k : Int) + 1 := IntWalk.i64_in _ (by omega)
      clear hu hv
      go_wp2_with fail
      go_round
      case rel => exact ⟨k + 1, by omega, by go_num, by rw [HV.out]⟩
      case measure => (simp [intOf] <;> omega)
    · obtain rfl : k = s := by omega
      have hid : decide ((k : Int) < (k : Int)) = false := by simp
      obtain ⟨u, hu⟩ : ∃ u, 2 ^ k = u := ⟨_, rfl⟩
      have hb := u8_pow HS8.out
      rw [hu] at hb HR ⊢
      clear hu hks hk
      go_wp2_with (first
        | ((with_reducible apply own_putb (v := BitVec.ofNat 8 u) H); (case hgd => exact rfl); (case ho => exact rfl); (case hx => exact rfl); (case hy => exact congrArg (Value.int .u8) hb); (case hi => exact at0); (case hj => exact HQ.out); intro ws H' _ _; replace H := H'; clear H'; simp only [List.set_cons_zero] at H; rw [HR.out] at H; go_simp))
      go_ret
      exact ⟨g3, rfl, H.out.ge 0 rfl, H.out.row 0 rfl, H.out.bel⟩
end Go.Proofs.YtjcfoilfdmameaaGreatDoor
