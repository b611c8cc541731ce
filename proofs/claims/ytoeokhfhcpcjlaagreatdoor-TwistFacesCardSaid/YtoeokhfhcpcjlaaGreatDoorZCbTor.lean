/-
 The contract of chicoryref11's Torsion: for each number there is a point. No statement is proved here: lemmas for the walks.
-/
import Derived.Test.YtoeokhfhcpcjlaaGreatDoorBuX
import Derived.Test.YtoeokhfhcpcjlaaGreatDoorBuH
import Derived.Test.YtoeokhfhcpcjlaaGreatDoorZRfPt
import Derived.Test.YtoeokhfhcpcjlaaGreatDoorBuB
import Derived.Deep.CutRange
set_option maxRecDepth 8000
set_option maxHeartbeats 3200000
namespace Go.Proofs.YtoeokhfhcpcjlaaGreatDoor
open Go.RowKit
def TorP (n : Nat) (Q : Pt pN dK) : Prop := ∃ x y : K, Q.x = x ∧ Q.y = y ∧ ((n = 1 ∧ x = 1 ∧ y = 0) ∨ (n = 2 ∧ x = 0 ∧ y = -1) ∨ (n = 3 ∧ x = -1 ∧ y = 0) ∨ ((n = 0 ∨ 3 < n) ∧ x = 0 ∧ y = 1))
theorem z8w (n : Nat) : ∃ (x y : K) (Q : Pt pN dK), Q.x = x ∧ Q.y = y ∧ ((n = 1 ∧ x = 1 ∧ y = 0) ∨ (n = 2 ∧ x = 0 ∧ y = -1) ∨ (n = 3 ∧ x = -1 ∧ y = 0) ∨ ((n = 0 ∨ 3 < n) ∧ x = 0 ∧ y = 1)) := by
 rcases (by omega : n = 1 ∨ n = 2 ∨ n = 3 ∨ (n = 0 ∨ 3 < n)) with h | h | h | h
 ·exact ⟨1, 0, z1e, rfl, rfl, .inl ⟨h, rfl, rfl⟩⟩
 ·exact ⟨0, -1, phalf, rfl, rfl, .inr (.inl ⟨h, rfl, rfl⟩)⟩
 ·exact ⟨-1, 0, pneg z1e, rfl, rfl, .inr (.inr (.inl ⟨h, rfl, rfl⟩))⟩
 ·exact ⟨0, 1, pzero, rfl, rfl, .inr (.inr (.inr ⟨h, rfl, rfl⟩))⟩
theorem z96 (a : K) : a * 1 = a := by grind
theorem z8v {X Y Z : K} {Q : Pt pN dK} (hz : Z = 1) (hx : X = Q.x) (hy : Y = Q.y) : RfK (t3 16 (dF X.val) (dF Y.val) (dF Z.val)) Q :=
 ⟨X, Y, Z, rfl, ⟨by rw [hz, hx, z96], by rw [hz, hy, z96], by rw [hz]; exact z13 z0y⟩⟩
theorem tor1_x (w : World) : Calls Tryz.prog 37 #[.int .i64 1] w fun e w' => ∃ (X Y Z : K) (Q : Pt pN dK), e = .returned (QO (t3 16 (dF X.val) (dF Y.val) (dF Z.val))) ∧ X = Q.x ∧ Y = Q.y ∧ Z = 1 ∧ TorP 1 Q ∧ Below w.heap.size w w' := by
 have H := Lib.hid (Ow.start w)
 go_enter Tryz.func37, Tryz.ntmps37
 go_wp2_with (first
  | ((fail_if_success have := g2); (with_reducible apply z0b nilQt H); (case hgd | ho => exact rfl); clear H; intro w2 g2 H _ _; go_simp)
  | ((fail_if_success have := mk1); (with_reducible refine (z1d _ (1) (by omega) (by omega)).mono ?_); rintro e wc ⟨rfl, hb⟩; replace H := hcall H hb; clear hb; have mk1 := trivial)
  | ((fail_if_success have := g3); (with_reducible apply z0b intsF.zero H); (case hgd | ho => exact rfl); clear H; intro w3 g3 H _ _; go_simp)
  | ((with_reducible apply z0e rowF H); (case hgd | ho | hx | hy => exact rfl); (case hi => repeat first|exact at0|apply atS); clear H; intro ws H _ _; simp only [qb] at H; go_simp)
  | ((fail_if_success have := mk2); (with_reducible refine (z1d _ (0) (by omega) (by omega)).mono ?_); rintro e wc ⟨rfl, hb⟩; replace H := hcall H hb; clear hb; have mk2 := trivial)
  | ((fail_if_success have := g4); (with_reducible apply z0b intsF.zero H); (case hgd | ho => exact rfl); clear H; intro w4 g4 H _ _; go_simp)
  | ((with_reducible apply z0g rowF H); (case hgd | ho | hx => exact rfl); (case hi => repeat first|exact at0|apply atS); intro _ _; go_simp)
  | ((with_reducible apply z1h); (case hgd | ho | hx | hy | hz => exact rfl); intro _ _; go_simp)
  | ((with_reducible apply z0e rowQt H); (case hgd | ho | hx | hy => exact rfl); (case hi => repeat first|exact at0|apply atS); clear H; intro ws H _ _; simp only [qb, qc] at H; go_simp))
 obtain ⟨x, y, Q, hx, hy, hc⟩ := z8w 1
 refine bodyPost_ret (z0i 2 rowQt rfl _ H rfl rfl) rfl ⟨_, _, _, Q, rfl, ?_, ?_, z0t, ⟨x, y, hx, hy, hc⟩, H.out.bel⟩
 ·rw [hx]; rcases hc with ⟨h, e1, _⟩ | ⟨h, e1, _⟩ | ⟨h, e1, _⟩ | ⟨h, e1, _⟩ <;> first | (exfalso; omega) | (rw [e1]; first | exact z1v | exact z0t | exact congrArg (fun z => -z) z0t)
 ·rw [hy]; rcases hc with ⟨h, _, e1⟩ | ⟨h, _, e1⟩ | ⟨h, _, e1⟩ | ⟨h, _, e1⟩ <;> first | (exfalso; omega) | (rw [e1]; first | exact z1v | exact z0t | exact congrArg (fun z => -z) z0t)
theorem tor2_x (w : World) : Calls Tryz.prog 37 #[.int .i64 2] w fun e w' => ∃ (X Y Z : K) (Q : Pt pN dK), e = .returned (QO (t3 16 (dF X.val) (dF Y.val) (dF Z.val))) ∧ X = Q.x ∧ Y = Q.y ∧ Z = 1 ∧ TorP 2 Q ∧ Below w.heap.size w w' := by
 have H := Lib.hid (Ow.start w)
 go_enter Tryz.func37, Tryz.ntmps37
 go_wp2_with (first
  | ((fail_if_success have := g2); (with_reducible apply z0b nilQt H); (case hgd | ho => exact rfl); clear H; intro w2 g2 H _ _; go_simp)
  | ((fail_if_success have := mk1); (with_reducible refine (z1d _ (1) (by omega) (by omega)).mono ?_); rintro e wc ⟨rfl, hb⟩; replace H := hcall H hb; clear hb; have mk1 := trivial)
  | ((fail_if_success have := g3); (with_reducible apply z0b intsF.zero H); (case hgd | ho => exact rfl); clear H; intro w3 g3 H _ _; go_simp)
  | ((with_reducible apply z0e rowF H); (case hgd | ho | hx | hy => exact rfl); (case hi => repeat first|exact at0|apply atS); clear H; intro ws H _ _; simp only [qb] at H; go_simp)
  | ((fail_if_success have := mk2); (with_reducible refine (z1d _ (0) (by omega) (by omega)).mono ?_); rintro e wc ⟨rfl, hb⟩; replace H := hcall H hb; clear hb; have mk2 := trivial)
  | ((fail_if_success have := g4); (with_reducible apply z0b intsF.zero H); (case hgd | ho => exact rfl); clear H; intro w4 g4 H _ _; go_simp)
  | ((with_reducible apply z0g rowF H); (case hgd | ho | hx => exact rfl); (case hi => repeat first|exact at0|apply atS); intro _ _; go_simp)
  | ((with_reducible apply z1h); (case hgd | ho | hx | hy | hz => exact rfl); intro _ _; go_simp)
  | ((with_reducible apply z0e rowQt H); (case hgd | ho | hx | hy => exact rfl); (case hi => repeat first|exact at0|apply atS); clear H; intro ws H _ _; simp only [qb, qc] at H; go_simp))
 clear mk1 mk2
 refine wp_region_noPanic ?_
 refine wp_region_held_drew (S := fun W => W.heap[g4]? = some (Blk 31 .i64 16 (dF ((ofZ (0))).val)) ∧ W.heap[g3]? = some (Blk 31 .i64 16 (dF ((ofZ (1))).val))) (by kernel_rfl) (⟨H.out.drew.row 0 rfl, H.out.drew.row 1 rfl⟩) (fun hH => ?_)
 replace H := Lib.hid H.out.drew
 generalize World.drew _ = w8 at *
 refine z0f 0 16 rowF rfl rfl rfl hH rfl rfl (fun _ h => h.1) ?_
 try simp only [Act.put, qa, qb, qc]
 refine z0f 1 17 rowF rfl rfl rfl hH rfl rfl (fun _ h => h.2) ?_
 try simp only [Act.put, qa, qb, qc]
 refine z0f 3 19 rowF rfl rfl rfl hH rfl rfl (fun _ h => h.2) ?_
 try simp only [Act.put, qa, qb, qc]
 refine rd1 2 rfl fun K hK => ?_
 go_simp
 refine (z80 _ _).mono ?_
 rintro e wc ⟨rfl, hb⟩
 replace H := hcall H hb
 clear hH
 refine hK.out _ _ ⟨H.out.row 0 rfl, H.out.row 1 rfl⟩ fun hH => ?_
 clear hK K hb
 try simp only [Act.put, qa, qb, qc]
 refine z8f 4 20 rfl rfl rfl hH rfl rfl rfl rfl ?_
 try simp only [Act.put, qa, qb, qc]
 refine rd1 5 rfl fun K hK => ?_
 refine z0l 2 rfl rowQt H.out rfl rfl rfl rfl ?_
 intro ws HS
 simp only [qb, qc] at HS
 replace H := Lib.hid HS
 clear hH
 refine hK.out _ _ ⟨H.out.row 0 rfl, H.out.row 1 rfl⟩ fun hH => ?_
 clear hK K HS
 try simp only [qa]
 try simp only [Act.put]
 refine wpAnyH_done (by kernel_rfl) ?_ _
 refine NoPanic.normal ?_
 clear hH
 go_wp2_with fail
 obtain ⟨x, y, Q, hx, hy, hc⟩ := z8w 2
 refine bodyPost_ret (z0i 2 rowQt rfl _ H rfl rfl) rfl ⟨_, _, _, Q, rfl, ?_, ?_, z0t, ⟨x, y, hx, hy, hc⟩, H.out.bel⟩
 ·rw [hx]; rcases hc with ⟨h, e1, _⟩ | ⟨h, e1, _⟩ | ⟨h, e1, _⟩ | ⟨h, e1, _⟩ <;> first | (exfalso; omega) | (rw [e1]; first | exact z1v | exact z0t | exact congrArg (fun z => -z) z0t)
 ·rw [hy]; rcases hc with ⟨h, _, e1⟩ | ⟨h, _, e1⟩ | ⟨h, _, e1⟩ | ⟨h, _, e1⟩ <;> first | (exfalso; omega) | (rw [e1]; first | exact z1v | exact z0t | exact congrArg (fun z => -z) z0t)
theorem tor3_x (w : World) : Calls Tryz.prog 37 #[.int .i64 3] w fun e w' => ∃ (X Y Z : K) (Q : Pt pN dK), e = .returned (QO (t3 16 (dF X.val) (dF Y.val) (dF Z.val))) ∧ X = Q.x ∧ Y = Q.y ∧ Z = 1 ∧ TorP 3 Q ∧ Below w.heap.size w w' := by
 have H := Lib.hid (Ow.start w)
 go_enter Tryz.func37, Tryz.ntmps37
 go_wp2_with (first
  | ((fail_if_success have := g2); (with_reducible apply z0b nilQt H); (case hgd | ho => exact rfl); clear H; intro w2 g2 H _ _; go_simp)
  | ((fail_if_success have := mk1); (with_reducible refine (z1d _ (1) (by omega) (by omega)).mono ?_); rintro e wc ⟨rfl, hb⟩; replace H := hcall H hb; clear hb; have mk1 := trivial)
  | ((fail_if_success have := g3); (with_reducible apply z0b intsF.zero H); (case hgd | ho => exact rfl); clear H; intro w3 g3 H _ _; go_simp)
  | ((with_reducible apply z0e rowF H); (case hgd | ho | hx | hy => exact rfl); (case hi => repeat first|exact at0|apply atS); clear H; intro ws H _ _; simp only [qb] at H; go_simp)
  | ((fail_if_success have := mk2); (with_reducible refine (z1d _ (0) (by omega) (by omega)).mono ?_); rintro e wc ⟨rfl, hb⟩; replace H := hcall H hb; clear hb; have mk2 := trivial)
  | ((fail_if_success have := g4); (with_reducible apply z0b intsF.zero H); (case hgd | ho => exact rfl); clear H; intro w4 g4 H _ _; go_simp)
  | ((with_reducible apply z0g rowF H); (case hgd | ho | hx => exact rfl); (case hi => repeat first|exact at0|apply atS); intro _ _; go_simp)
  | ((with_reducible apply z1h); (case hgd | ho | hx | hy | hz => exact rfl); intro _ _; go_simp)
  | ((with_reducible apply z0e rowQt H); (case hgd | ho | hx | hy => exact rfl); (case hi => repeat first|exact at0|apply atS); clear H; intro ws H _ _; simp only [qb, qc] at H; go_simp))
 clear mk1 mk2
 refine wp_region_noPanic ?_
 refine wp_region_held_drew (S := fun W => W.heap[g3]? = some (Blk 31 .i64 16 (dF ((ofZ (1))).val)) ∧ W.heap[g4]? = some (Blk 31 .i64 16 (dF ((ofZ (0))).val))) (by kernel_rfl) (⟨H.out.drew.row 1 rfl, H.out.drew.row 0 rfl⟩) (fun hH => ?_)
 replace H := Lib.hid H.out.drew
 generalize World.drew _ = w8 at *
 refine z0f 0 23 rowF rfl rfl rfl hH rfl rfl (fun _ h => h.1) ?_
 try simp only [Act.put, qa, qb, qc]
 refine z0f 2 25 rowF rfl rfl rfl hH rfl rfl (fun _ h => h.2) ?_
 try simp only [Act.put, qa, qb, qc]
 refine z0f 3 26 rowF rfl rfl rfl hH rfl rfl (fun _ h => h.1) ?_
 try simp only [Act.put, qa, qb, qc]
 refine rd1 1 rfl fun K hK => ?_
 go_simp
 refine (z80 _ _).mono ?_
 rintro e wc ⟨rfl, hb⟩
 replace H := hcall H hb
 clear hH
 refine hK.out _ _ ⟨H.out.row 1 rfl, H.out.row 0 rfl⟩ fun hH => ?_
 clear hK K hb
 try simp only [Act.put, qa, qb, qc]
 refine z8f 4 27 rfl rfl rfl hH rfl rfl rfl rfl ?_
 try simp only [Act.put, qa, qb, qc]
 refine rd1 5 rfl fun K hK => ?_
 refine z0l 2 rfl rowQt H.out rfl rfl rfl rfl ?_
 intro ws HS
 simp only [qb, qc] at HS
 replace H := Lib.hid HS
 clear hH
 refine hK.out _ _ ⟨H.out.row 1 rfl, H.out.row 0 rfl⟩ fun hH => ?_
 clear hK K HS
 try simp only [qa]
 try simp only [Act.put]
 refine wpAnyH_done (by kernel_rfl) ?_ _
 refine NoPanic.normal ?_
 clear hH
 go_wp2_with fail
 obtain ⟨x, y, Q, hx, hy, hc⟩ := z8w 3
 refine bodyPost_ret (z0i 2 rowQt rfl _ H rfl rfl) rfl ⟨_, _, _, Q, rfl, ?_, ?_, z0t, ⟨x, y, hx, hy, hc⟩, H.out.bel⟩
 ·rw [hx]; rcases hc with ⟨h, e1, _⟩ | ⟨h, e1, _⟩ | ⟨h, e1, _⟩ | ⟨h, e1, _⟩ <;> first | (exfalso; omega) | (rw [e1]; first | exact z1v | exact z0t | exact congrArg (fun z => -z) z0t)
 ·rw [hy]; rcases hc with ⟨h, _, e1⟩ | ⟨h, _, e1⟩ | ⟨h, _, e1⟩ | ⟨h, _, e1⟩ <;> first | (exfalso; omega) | (rw [e1]; first | exact z1v | exact z0t | exact congrArg (fun z => -z) z0t)
theorem tor0_x (w : World) : Calls Tryz.prog 37 #[.int .i64 0] w fun e w' => ∃ (X Y Z : K) (Q : Pt pN dK), e = .returned (QO (t3 16 (dF X.val) (dF Y.val) (dF Z.val))) ∧ X = Q.x ∧ Y = Q.y ∧ Z = 1 ∧ TorP 0 Q ∧ Below w.heap.size w w' := by
 have H := Lib.hid (Ow.start w)
 go_enter Tryz.func37, Tryz.ntmps37
 go_wp2_with (first
  | ((fail_if_success have := g2); (with_reducible apply z0b nilQt H); (case hgd | ho => exact rfl); clear H; intro w2 g2 H _ _; go_simp)
  | ((fail_if_success have := mk1); (with_reducible refine (z1d _ (1) (by omega) (by omega)).mono ?_); rintro e wc ⟨rfl, hb⟩; replace H := hcall H hb; clear hb; have mk1 := trivial)
  | ((fail_if_success have := g3); (with_reducible apply z0b intsF.zero H); (case hgd | ho => exact rfl); clear H; intro w3 g3 H _ _; go_simp)
  | ((with_reducible apply z0e rowF H); (case hgd | ho | hx | hy => exact rfl); (case hi => repeat first|exact at0|apply atS); clear H; intro ws H _ _; simp only [qb] at H; go_simp)
  | ((fail_if_success have := mk2); (with_reducible refine (z1d _ (0) (by omega) (by omega)).mono ?_); rintro e wc ⟨rfl, hb⟩; replace H := hcall H hb; clear hb; have mk2 := trivial)
  | ((fail_if_success have := g4); (with_reducible apply z0b intsF.zero H); (case hgd | ho => exact rfl); clear H; intro w4 g4 H _ _; go_simp)
  | ((with_reducible apply z0g rowF H); (case hgd | ho | hx => exact rfl); (case hi => repeat first|exact at0|apply atS); intro _ _; go_simp)
  | ((with_reducible apply z1h); (case hgd | ho | hx | hy | hz => exact rfl); intro _ _; go_simp)
  | ((with_reducible apply z0e rowQt H); (case hgd | ho | hx | hy => exact rfl); (case hi => repeat first|exact at0|apply atS); clear H; intro ws H _ _; simp only [qb, qc] at H; go_simp))
 obtain ⟨x, y, Q, hx, hy, hc⟩ := z8w 0
 refine bodyPost_ret (z0i 2 rowQt rfl _ H rfl rfl) rfl ⟨_, _, _, Q, rfl, ?_, ?_, z0t, ⟨x, y, hx, hy, hc⟩, H.out.bel⟩
 ·rw [hx]; rcases hc with ⟨h, e1, _⟩ | ⟨h, e1, _⟩ | ⟨h, e1, _⟩ | ⟨h, e1, _⟩ <;> first | (exfalso; omega) | (rw [e1]; first | exact z1v | exact z0t | exact congrArg (fun z => -z) z0t)
 ·rw [hy]; rcases hc with ⟨h, _, e1⟩ | ⟨h, _, e1⟩ | ⟨h, _, e1⟩ | ⟨h, _, e1⟩ <;> first | (exfalso; omega) | (rw [e1]; first | exact z1v | exact z0t | exact congrArg (fun z => -z) z0t)
theorem tor0_k (w : World) : Calls Tryz.prog 37 #[.int .i64 0] w fun e w' => ∃ r Q, e = .returned (QO r) ∧ RfK r Q ∧ Below w.heap.size w w' :=
 (tor0_x w).mono fun _ _ ⟨_, _, _, Q, he, hx, hy, hz, _, hb⟩ => ⟨_, Q, he, z8v hz hx hy, hb⟩
theorem tor1_k (w : World) : Calls Tryz.prog 37 #[.int .i64 1] w fun e w' => ∃ r Q, e = .returned (QO r) ∧ RfK r Q ∧ Below w.heap.size w w' :=
 (tor1_x w).mono fun _ _ ⟨_, _, _, Q, he, hx, hy, hz, _, hb⟩ => ⟨_, Q, he, z8v hz hx hy, hb⟩
theorem tor2_k (w : World) : Calls Tryz.prog 37 #[.int .i64 2] w fun e w' => ∃ r Q, e = .returned (QO r) ∧ RfK r Q ∧ Below w.heap.size w w' :=
 (tor2_x w).mono fun _ _ ⟨_, _, _, Q, he, hx, hy, hz, _, hb⟩ => ⟨_, Q, he, z8v hz hx hy, hb⟩
theorem tor3_k (w : World) : Calls Tryz.prog 37 #[.int .i64 3] w fun e w' => ∃ r Q, e = .returned (QO r) ∧ RfK r Q ∧ Below w.heap.size w w' :=
 (tor3_x w).mono fun _ _ ⟨_, _, _, Q, he, hx, hy, hz, _, hb⟩ => ⟨_, Q, he, z8v hz hx hy, hb⟩
theorem tor_k (z : Int) (w : World) (h0 : 0 ≤ z) (h3 : z ≤ 3) : Calls Tryz.prog 37 #[.int .i64 z] w fun e w' => ∃ r Q, e = .returned (QO r) ∧ RfK r Q ∧ Below w.heap.size w w' := by
 rcases (by omega : z = 0 ∨ z = 1 ∨ z = 2 ∨ z = 3) with rfl | rfl | rfl | rfl
 ·exact tor0_k w
 ·exact tor1_k w
 ·exact tor2_k w
 ·exact tor3_k w
end Go.Proofs.YtoeokhfhcpcjlaaGreatDoor
