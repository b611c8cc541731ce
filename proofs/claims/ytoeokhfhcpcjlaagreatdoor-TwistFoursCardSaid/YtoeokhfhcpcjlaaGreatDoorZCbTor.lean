/-
 The contract of chicoryref11's Torsion: for each number there is a point. No statement is proved here: lemmas for the walks.
-/
import Derived.Test.YtoeokhfhcpcjlaaGreatDoorBuX
import Derived.Test.YtoeokhfhcpcjlaaGreatDoorBuH
import Derived.Test.YtoeokhfhcpcjlaaGreatDoorZRfPt
import Derived.Test.YtoeokhfhcpcjlaaGreatDoorBuB
import Derived.Deep.CutRange
namespace Go.Proofs.YtoeokhfhcpcjlaaGreatDoor
open Go.RowKit
/-- The four points of which four times is the identity. -/
def TorP (n : Nat) (Q : Pt pN dK) : Prop := ∃ x y : K, Q.x = x ∧ Q.y = y ∧ ((n = 1 ∧ x = 1 ∧ y = 0) ∨ (n = 2 ∧ x = 0 ∧ y = -1) ∨ (n = 3 ∧ x = -1 ∧ y = 0) ∨ ((n = 0 ∨ 3 < n) ∧ x = 0 ∧ y = 1))
theorem tor_pt (n : Nat) : ∃ (x y : K) (Q : Pt pN dK), Q.x = x ∧ Q.y = y ∧ ((n = 1 ∧ x = 1 ∧ y = 0) ∨ (n = 2 ∧ x = 0 ∧ y = -1) ∨ (n = 3 ∧ x = -1 ∧ y = 0) ∨ ((n = 0 ∨ 3 < n) ∧ x = 0 ∧ y = 1)) := by
 rcases (by omega : n = 1 ∨ n = 2 ∨ n = 3 ∨ (n = 0 ∨ 3 < n)) with h | h | h | h
 ·exact ⟨1, 0, pquarter, rfl, rfl, .inl ⟨h, rfl, rfl⟩⟩
 ·exact ⟨0, -1, phalf, rfl, rfl, .inr (.inl ⟨h, rfl, rfl⟩)⟩
 ·exact ⟨-1, 0, pneg pquarter, rfl, rfl, .inr (.inr (.inl ⟨h, rfl, rfl⟩))⟩
 ·exact ⟨0, 1, pzero, rfl, rfl, .inr (.inr (.inr ⟨h, rfl, rfl⟩))⟩
theorem tor_one (a : K) : a * 1 = a := by grind
theorem tor_rf {X Y Z : K} {Q : Pt pN dK} (hz : Z = 1) (hx : X = Q.x) (hy : Y = Q.y) : RfK (t3 16 (dF X.val) (dF Y.val) (dF Z.val)) Q :=
 ⟨X, Y, Z, rfl, ⟨by rw [hz, hx, tor_one], by rw [hz, hy, tor_one], by rw [hz]; exact fp_one_ne prime_pN⟩⟩
set_option maxRecDepth 8000 in
set_option maxHeartbeats 3200000 in
theorem tor1_x (w : World) : Calls Tryz.prog 37 #[.int .i64 1] w fun e w' => ∃ (X Y Z : K) (Q : Pt pN dK), e = .returned (QO (t3 16 (dF X.val) (dF Y.val) (dF Z.val))) ∧ X = Q.x ∧ Y = Q.y ∧ Z = 1 ∧ TorP 1 Q ∧ Below w.heap.size w w' := by
 have H := Lib.hid (Ow.start w)
 go_enter Tryz.func37, Tryz.ntmps37
 go_wp2_with (first
  | ((fail_if_success have := g2); (with_reducible apply own_alloc nilQt H); (case hgd | ho => exact rfl); intro w2 g2 H' _ _; replace H := H'; clear H'; go_simp)
  | ((fail_if_success have := mk1); (with_reducible refine (refInt_k _ (1) (by omega) (by omega)).mono ?_); rintro e wc ⟨rfl, hb⟩; replace H := Lib.hid (H.out.call hb); clear hb; have mk1 := trivial)
  | ((fail_if_success have := g3); (with_reducible apply own_alloc intsF.zero H); (case hgd | ho => exact rfl); intro w3 g3 H' _ _; replace H := H'; clear H'; go_simp)
  | ((with_reducible apply own_store rowF H); (case hgd | ho | hx | hy => exact rfl); (case hi => first|exact at0|exact at1|exact at2|exact at3|exact at4|exact at5|exact at6|exact at7|exact at8|exact at9); intro ws H' _ _; replace H := H'; clear H'; simp only [List.set_cons_zero] at H; go_simp)
  | ((fail_if_success have := mk2); (with_reducible refine (refInt_k _ (0) (by omega) (by omega)).mono ?_); rintro e wc ⟨rfl, hb⟩; replace H := Lib.hid (H.out.call hb); clear hb; have mk2 := trivial)
  | ((fail_if_success have := g4); (with_reducible apply own_alloc intsF.zero H); (case hgd | ho => exact rfl); intro w4 g4 H' _ _; replace H := H'; clear H'; go_simp)
  | ((with_reducible apply own_load rowF H); (case hgd | ho | hx => exact rfl); (case hi => first|exact at0|exact at1|exact at2|exact at3|exact at4|exact at5|exact at6|exact at7|exact at8|exact at9); intro _ _; go_simp)
  | ((with_reducible apply lay_build_qt); (case hgd | ho | hx | hy | hz => exact rfl); intro _ _; go_simp)
  | ((with_reducible apply own_store rowQt H); (case hgd | ho | hx | hy => exact rfl); (case hi => first|exact at0|exact at1|exact at2|exact at3|exact at4|exact at5|exact at6|exact at7|exact at8|exact at9); intro ws H' _ _; replace H := H'; clear H'; simp only [List.set_cons_zero, List.set_cons_succ] at H; go_simp))
 obtain ⟨x, y, Q, hx, hy, hc⟩ := tor_pt 1
 refine bodyPost_ret (own_result 2 rowQt rfl _ H rfl rfl) rfl ⟨_, _, _, Q, rfl, ?_, ?_, ofZ_one, ⟨x, y, hx, hy, hc⟩, H.out.bel⟩
 ·rw [hx]; rcases hc with ⟨h, e1, _⟩ | ⟨h, e1, _⟩ | ⟨h, e1, _⟩ | ⟨h, e1, _⟩ <;> first | (exfalso; omega) | (rw [e1]; first | exact ofZ_zero | exact ofZ_one | exact congrArg (fun z => -z) ofZ_one)
 ·rw [hy]; rcases hc with ⟨h, _, e1⟩ | ⟨h, _, e1⟩ | ⟨h, _, e1⟩ | ⟨h, _, e1⟩ <;> first | (exfalso; omega) | (rw [e1]; first | exact ofZ_zero | exact ofZ_one | exact congrArg (fun z => -z) ofZ_one)
set_option maxRecDepth 8000 in
set_option maxHeartbeats 3200000 in
theorem tor2_x (w : World) : Calls Tryz.prog 37 #[.int .i64 2] w fun e w' => ∃ (X Y Z : K) (Q : Pt pN dK), e = .returned (QO (t3 16 (dF X.val) (dF Y.val) (dF Z.val))) ∧ X = Q.x ∧ Y = Q.y ∧ Z = 1 ∧ TorP 2 Q ∧ Below w.heap.size w w' := by
 have H := Lib.hid (Ow.start w)
 go_enter Tryz.func37, Tryz.ntmps37
 go_wp2_with (first
  | ((fail_if_success have := g2); (with_reducible apply own_alloc nilQt H); (case hgd | ho => exact rfl); intro w2 g2 H' _ _; replace H := H'; clear H'; go_simp)
  | ((fail_if_success have := mk1); (with_reducible refine (refInt_k _ (1) (by omega) (by omega)).mono ?_); rintro e wc ⟨rfl, hb⟩; replace H := Lib.hid (H.out.call hb); clear hb; have mk1 := trivial)
  | ((fail_if_success have := g3); (with_reducible apply own_alloc intsF.zero H); (case hgd | ho => exact rfl); intro w3 g3 H' _ _; replace H := H'; clear H'; go_simp)
  | ((with_reducible apply own_store rowF H); (case hgd | ho | hx | hy => exact rfl); (case hi => first|exact at0|exact at1|exact at2|exact at3|exact at4|exact at5|exact at6|exact at7|exact at8|exact at9); intro ws H' _ _; replace H := H'; clear H'; simp only [List.set_cons_zero] at H; go_simp)
  | ((fail_if_success have := mk2); (with_reducible refine (refInt_k _ (0) (by omega) (by omega)).mono ?_); rintro e wc ⟨rfl, hb⟩; replace H := Lib.hid (H.out.call hb); clear hb; have mk2 := trivial)
  | ((fail_if_success have := g4); (with_reducible apply own_alloc intsF.zero H); (case hgd | ho => exact rfl); intro w4 g4 H' _ _; replace H := H'; clear H'; go_simp)
  | ((with_reducible apply own_load rowF H); (case hgd | ho | hx => exact rfl); (case hi => first|exact at0|exact at1|exact at2|exact at3|exact at4|exact at5|exact at6|exact at7|exact at8|exact at9); intro _ _; go_simp)
  | ((with_reducible apply lay_build_qt); (case hgd | ho | hx | hy | hz => exact rfl); intro _ _; go_simp)
  | ((with_reducible apply own_store rowQt H); (case hgd | ho | hx | hy => exact rfl); (case hi => first|exact at0|exact at1|exact at2|exact at3|exact at4|exact at5|exact at6|exact at7|exact at8|exact at9); intro ws H' _ _; replace H := H'; clear H'; simp only [List.set_cons_zero, List.set_cons_succ] at H; go_simp))
 clear mk1 mk2
 refine wp_region_noPanic ?_
 refine wp_region_held_drew (S := fun W => W.heap[g4]? = some (Blk 31 .i64 16 (dF ((ofZ (0))).val)) ∧ W.heap[g3]? = some (Blk 31 .i64 16 (dF ((ofZ (1))).val))) (by kernel_rfl) (⟨H.out.drew.row 0 rfl, H.out.drew.row 1 rfl⟩) (fun hH => ?_)
 replace H := Lib.hid H.out.drew
 generalize World.drew _ = w8 at *
 refine held_row 0 16 rowF rfl rfl (by kernel_rfl) (by kernel_rfl) (by kernel_rfl) rfl hH rfl rfl (fun _ h => h.1) ?_
 try simp only [Act.put, List.setIfInBounds_toArray, List.set_cons_zero, List.set_cons_succ]
 refine held_row 1 17 rowF rfl rfl (by kernel_rfl) (by kernel_rfl) (by kernel_rfl) rfl hH rfl rfl (fun _ h => h.2) ?_
 try simp only [Act.put, List.setIfInBounds_toArray, List.set_cons_zero, List.set_cons_succ]
 refine held_row 3 19 rowF rfl rfl (by kernel_rfl) (by kernel_rfl) (by kernel_rfl) rfl hH rfl rfl (fun _ h => h.2) ?_
 try simp only [Act.put, List.setIfInBounds_toArray, List.set_cons_zero, List.set_cons_succ]
 refine wpAnyH_ready (rs := [2]) (by kernel_rfl) (by simp) ?_
 refine AllReadyH.cons (o := _) rfl (fun K hK => ?_) AllReadyH.nil
 go_simp
 refine (refNeg_k _ _).mono ?_
 rintro e wc ⟨rfl, hb⟩
 replace H := Lib.hid (H.out.call hb)
 refine hK.out _ _ (⟨H.out.row 0 rfl, H.out.row 1 rfl⟩) (fun hN => ?_)
 clear hK K hH hb
 have hH := hN
 clear hN
 try simp only [Act.put, List.setIfInBounds_toArray, List.set_cons_zero, List.set_cons_succ]
 refine held_qt 4 20 rfl rfl (by kernel_rfl) (by kernel_rfl) (by kernel_rfl) rfl hH rfl rfl rfl rfl ?_
 try simp only [Act.put, List.setIfInBounds_toArray, List.set_cons_zero, List.set_cons_succ]
 refine wpAnyH_ready (rs := [5]) (by kernel_rfl) (by simp) ?_
 refine AllReadyH.cons (o := _) rfl (fun K hK => ?_) AllReadyH.nil
 refine own_st 2 rfl rowQt H.out rfl rfl rfl rfl ?_
 intro ws HS
 simp only [List.set_cons_zero, List.set_cons_succ] at HS
 replace H := Lib.hid HS
 refine hK.out _ _ (⟨H.out.row 0 rfl, H.out.row 1 rfl⟩) (fun hN => ?_)
 clear hK K HS hH
 have hH := hN
 clear hN
 try simp only [List.setIfInBounds_toArray]
 try simp only [Act.put]
 refine wpAnyH_done (by kernel_rfl) ?_ _
 refine NoPanic.normal ?_
 clear hH
 go_wp2_with fail
 obtain ⟨x, y, Q, hx, hy, hc⟩ := tor_pt 2
 refine bodyPost_ret (own_result 2 rowQt rfl _ H rfl rfl) rfl ⟨_, _, _, Q, rfl, ?_, ?_, ofZ_one, ⟨x, y, hx, hy, hc⟩, H.out.bel⟩
 ·rw [hx]; rcases hc with ⟨h, e1, _⟩ | ⟨h, e1, _⟩ | ⟨h, e1, _⟩ | ⟨h, e1, _⟩ <;> first | (exfalso; omega) | (rw [e1]; first | exact ofZ_zero | exact ofZ_one | exact congrArg (fun z => -z) ofZ_one)
 ·rw [hy]; rcases hc with ⟨h, _, e1⟩ | ⟨h, _, e1⟩ | ⟨h, _, e1⟩ | ⟨h, _, e1⟩ <;> first | (exfalso; omega) | (rw [e1]; first | exact ofZ_zero | exact ofZ_one | exact congrArg (fun z => -z) ofZ_one)
set_option maxRecDepth 8000 in
set_option maxHeartbeats 3200000 in
theorem tor3_x (w : World) : Calls Tryz.prog 37 #[.int .i64 3] w fun e w' => ∃ (X Y Z : K) (Q : Pt pN dK), e = .returned (QO (t3 16 (dF X.val) (dF Y.val) (dF Z.val))) ∧ X = Q.x ∧ Y = Q.y ∧ Z = 1 ∧ TorP 3 Q ∧ Below w.heap.size w w' := by
 have H := Lib.hid (Ow.start w)
 go_enter Tryz.func37, Tryz.ntmps37
 go_wp2_with (first
  | ((fail_if_success have := g2); (with_reducible apply own_alloc nilQt H); (case hgd | ho => exact rfl); intro w2 g2 H' _ _; replace H := H'; clear H'; go_simp)
  | ((fail_if_success have := mk1); (with_reducible refine (refInt_k _ (1) (by omega) (by omega)).mono ?_); rintro e wc ⟨rfl, hb⟩; replace H := Lib.hid (H.out.call hb); clear hb; have mk1 := trivial)
  | ((fail_if_success have := g3); (with_reducible apply own_alloc intsF.zero H); (case hgd | ho => exact rfl); intro w3 g3 H' _ _; replace H := H'; clear H'; go_simp)
  | ((with_reducible apply own_store rowF H); (case hgd | ho | hx | hy => exact rfl); (case hi => first|exact at0|exact at1|exact at2|exact at3|exact at4|exact at5|exact at6|exact at7|exact at8|exact at9); intro ws H' _ _; replace H := H'; clear H'; simp only [List.set_cons_zero] at H; go_simp)
  | ((fail_if_success have := mk2); (with_reducible refine (refInt_k _ (0) (by omega) (by omega)).mono ?_); rintro e wc ⟨rfl, hb⟩; replace H := Lib.hid (H.out.call hb); clear hb; have mk2 := trivial)
  | ((fail_if_success have := g4); (with_reducible apply own_alloc intsF.zero H); (case hgd | ho => exact rfl); intro w4 g4 H' _ _; replace H := H'; clear H'; go_simp)
  | ((with_reducible apply own_load rowF H); (case hgd | ho | hx => exact rfl); (case hi => first|exact at0|exact at1|exact at2|exact at3|exact at4|exact at5|exact at6|exact at7|exact at8|exact at9); intro _ _; go_simp)
  | ((with_reducible apply lay_build_qt); (case hgd | ho | hx | hy | hz => exact rfl); intro _ _; go_simp)
  | ((with_reducible apply own_store rowQt H); (case hgd | ho | hx | hy => exact rfl); (case hi => first|exact at0|exact at1|exact at2|exact at3|exact at4|exact at5|exact at6|exact at7|exact at8|exact at9); intro ws H' _ _; replace H := H'; clear H'; simp only [List.set_cons_zero, List.set_cons_succ] at H; go_simp))
 clear mk1 mk2
 refine wp_region_noPanic ?_
 refine wp_region_held_drew (S := fun W => W.heap[g3]? = some (Blk 31 .i64 16 (dF ((ofZ (1))).val)) ∧ W.heap[g4]? = some (Blk 31 .i64 16 (dF ((ofZ (0))).val))) (by kernel_rfl) (⟨H.out.drew.row 1 rfl, H.out.drew.row 0 rfl⟩) (fun hH => ?_)
 replace H := Lib.hid H.out.drew
 generalize World.drew _ = w8 at *
 refine held_row 0 23 rowF rfl rfl (by kernel_rfl) (by kernel_rfl) (by kernel_rfl) rfl hH rfl rfl (fun _ h => h.1) ?_
 try simp only [Act.put, List.setIfInBounds_toArray, List.set_cons_zero, List.set_cons_succ]
 refine held_row 2 25 rowF rfl rfl (by kernel_rfl) (by kernel_rfl) (by kernel_rfl) rfl hH rfl rfl (fun _ h => h.2) ?_
 try simp only [Act.put, List.setIfInBounds_toArray, List.set_cons_zero, List.set_cons_succ]
 refine held_row 3 26 rowF rfl rfl (by kernel_rfl) (by kernel_rfl) (by kernel_rfl) rfl hH rfl rfl (fun _ h => h.1) ?_
 try simp only [Act.put, List.setIfInBounds_toArray, List.set_cons_zero, List.set_cons_succ]
 refine wpAnyH_ready (rs := [1]) (by kernel_rfl) (by simp) ?_
 refine AllReadyH.cons (o := _) rfl (fun K hK => ?_) AllReadyH.nil
 go_simp
 refine (refNeg_k _ _).mono ?_
 rintro e wc ⟨rfl, hb⟩
 replace H := Lib.hid (H.out.call hb)
 refine hK.out _ _ (⟨H.out.row 1 rfl, H.out.row 0 rfl⟩) (fun hN => ?_)
 clear hK K hH hb
 have hH := hN
 clear hN
 try simp only [Act.put, List.setIfInBounds_toArray, List.set_cons_zero, List.set_cons_succ]
 refine held_qt 4 27 rfl rfl (by kernel_rfl) (by kernel_rfl) (by kernel_rfl) rfl hH rfl rfl rfl rfl ?_
 try simp only [Act.put, List.setIfInBounds_toArray, List.set_cons_zero, List.set_cons_succ]
 refine wpAnyH_ready (rs := [5]) (by kernel_rfl) (by simp) ?_
 refine AllReadyH.cons (o := _) rfl (fun K hK => ?_) AllReadyH.nil
 refine own_st 2 rfl rowQt H.out rfl rfl rfl rfl ?_
 intro ws HS
 simp only [List.set_cons_zero, List.set_cons_succ] at HS
 replace H := Lib.hid HS
 refine hK.out _ _ (⟨H.out.row 1 rfl, H.out.row 0 rfl⟩) (fun hN => ?_)
 clear hK K HS hH
 have hH := hN
 clear hN
 try simp only [List.setIfInBounds_toArray]
 try simp only [Act.put]
 refine wpAnyH_done (by kernel_rfl) ?_ _
 refine NoPanic.normal ?_
 clear hH
 go_wp2_with fail
 obtain ⟨x, y, Q, hx, hy, hc⟩ := tor_pt 3
 refine bodyPost_ret (own_result 2 rowQt rfl _ H rfl rfl) rfl ⟨_, _, _, Q, rfl, ?_, ?_, ofZ_one, ⟨x, y, hx, hy, hc⟩, H.out.bel⟩
 ·rw [hx]; rcases hc with ⟨h, e1, _⟩ | ⟨h, e1, _⟩ | ⟨h, e1, _⟩ | ⟨h, e1, _⟩ <;> first | (exfalso; omega) | (rw [e1]; first | exact ofZ_zero | exact ofZ_one | exact congrArg (fun z => -z) ofZ_one)
 ·rw [hy]; rcases hc with ⟨h, _, e1⟩ | ⟨h, _, e1⟩ | ⟨h, _, e1⟩ | ⟨h, _, e1⟩ <;> first | (exfalso; omega) | (rw [e1]; first | exact ofZ_zero | exact ofZ_one | exact congrArg (fun z => -z) ofZ_one)
set_option maxRecDepth 8000 in
set_option maxHeartbeats 3200000 in
theorem tor0_x (w : World) : Calls Tryz.prog 37 #[.int .i64 0] w fun e w' => ∃ (X Y Z : K) (Q : Pt pN dK), e = .returned (QO (t3 16 (dF X.val) (dF Y.val) (dF Z.val))) ∧ X = Q.x ∧ Y = Q.y ∧ Z = 1 ∧ TorP 0 Q ∧ Below w.heap.size w w' := by
 have H := Lib.hid (Ow.start w)
 go_enter Tryz.func37, Tryz.ntmps37
 go_wp2_with (first
  | ((fail_if_success have := g2); (with_reducible apply own_alloc nilQt H); (case hgd | ho => exact rfl); intro w2 g2 H' _ _; replace H := H'; clear H'; go_simp)
  | ((fail_if_success have := mk1); (with_reducible refine (refInt_k _ (1) (by omega) (by omega)).mono ?_); rintro e wc ⟨rfl, hb⟩; replace H := Lib.hid (H.out.call hb); clear hb; have mk1 := trivial)
  | ((fail_if_success have := g3); (with_reducible apply own_alloc intsF.zero H); (case hgd | ho => exact rfl); intro w3 g3 H' _ _; replace H := H'; clear H'; go_simp)
  | ((with_reducible apply own_store rowF H); (case hgd | ho | hx | hy => exact rfl); (case hi => first|exact at0|exact at1|exact at2|exact at3|exact at4|exact at5|exact at6|exact at7|exact at8|exact at9); intro ws H' _ _; replace H := H'; clear H'; simp only [List.set_cons_zero] at H; go_simp)
  | ((fail_if_success have := mk2); (with_reducible refine (refInt_k _ (0) (by omega) (by omega)).mono ?_); rintro e wc ⟨rfl, hb⟩; replace H := Lib.hid (H.out.call hb); clear hb; have mk2 := trivial)
  | ((fail_if_success have := g4); (with_reducible apply own_alloc intsF.zero H); (case hgd | ho => exact rfl); intro w4 g4 H' _ _; replace H := H'; clear H'; go_simp)
  | ((with_reducible apply own_load rowF H); (case hgd | ho | hx => exact rfl); (case hi => first|exact at0|exact at1|exact at2|exact at3|exact at4|exact at5|exact at6|exact at7|exact at8|exact at9); intro _ _; go_simp)
  | ((with_reducible apply lay_build_qt); (case hgd | ho | hx | hy | hz => exact rfl); intro _ _; go_simp)
  | ((with_reducible apply own_store rowQt H); (case hgd | ho | hx | hy => exact rfl); (case hi => first|exact at0|exact at1|exact at2|exact at3|exact at4|exact at5|exact at6|exact at7|exact at8|exact at9); intro ws H' _ _; replace H := H'; clear H'; simp only [List.set_cons_zero, List.set_cons_succ] at H; go_simp))
 obtain ⟨x, y, Q, hx, hy, hc⟩ := tor_pt 0
 refine bodyPost_ret (own_result 2 rowQt rfl _ H rfl rfl) rfl ⟨_, _, _, Q, rfl, ?_, ?_, ofZ_one, ⟨x, y, hx, hy, hc⟩, H.out.bel⟩
 ·rw [hx]; rcases hc with ⟨h, e1, _⟩ | ⟨h, e1, _⟩ | ⟨h, e1, _⟩ | ⟨h, e1, _⟩ <;> first | (exfalso; omega) | (rw [e1]; first | exact ofZ_zero | exact ofZ_one | exact congrArg (fun z => -z) ofZ_one)
 ·rw [hy]; rcases hc with ⟨h, _, e1⟩ | ⟨h, _, e1⟩ | ⟨h, _, e1⟩ | ⟨h, _, e1⟩ <;> first | (exfalso; omega) | (rw [e1]; first | exact ofZ_zero | exact ofZ_one | exact congrArg (fun z => -z) ofZ_one)
theorem tor0_k (w : World) : Calls Tryz.prog 37 #[.int .i64 0] w fun e w' => ∃ r Q, e = .returned (QO r) ∧ RfK r Q ∧ Below w.heap.size w w' :=
 (tor0_x w).mono fun _ _ ⟨_, _, _, Q, he, hx, hy, hz, _, hb⟩ => ⟨_, Q, he, tor_rf hz hx hy, hb⟩
theorem tor1_k (w : World) : Calls Tryz.prog 37 #[.int .i64 1] w fun e w' => ∃ r Q, e = .returned (QO r) ∧ RfK r Q ∧ Below w.heap.size w w' :=
 (tor1_x w).mono fun _ _ ⟨_, _, _, Q, he, hx, hy, hz, _, hb⟩ => ⟨_, Q, he, tor_rf hz hx hy, hb⟩
theorem tor2_k (w : World) : Calls Tryz.prog 37 #[.int .i64 2] w fun e w' => ∃ r Q, e = .returned (QO r) ∧ RfK r Q ∧ Below w.heap.size w w' :=
 (tor2_x w).mono fun _ _ ⟨_, _, _, Q, he, hx, hy, hz, _, hb⟩ => ⟨_, Q, he, tor_rf hz hx hy, hb⟩
theorem tor3_k (w : World) : Calls Tryz.prog 37 #[.int .i64 3] w fun e w' => ∃ r Q, e = .returned (QO r) ∧ RfK r Q ∧ Below w.heap.size w w' :=
 (tor3_x w).mono fun _ _ ⟨_, _, _, Q, he, hx, hy, hz, _, hb⟩ => ⟨_, Q, he, tor_rf hz hx hy, hb⟩
theorem tor_k (z : Int) (w : World) (h0 : 0 ≤ z) (h3 : z ≤ 3) : Calls Tryz.prog 37 #[.int .i64 z] w fun e w' => ∃ r Q, e = .returned (QO r) ∧ RfK r Q ∧ Below w.heap.size w w' := by
 rcases (by omega : z = 0 ∨ z = 1 ∨ z = 2 ∨ z = 3) with rfl | rfl | rfl | rfl
 ·exact tor0_k w
 ·exact tor1_k w
 ·exact tor2_k w
 ·exact tor3_k w
end Go.Proofs.YtoeokhfhcpcjlaaGreatDoor
