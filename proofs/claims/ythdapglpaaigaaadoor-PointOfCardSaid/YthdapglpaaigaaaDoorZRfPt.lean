/-
  The contracts of the reference's points: Identity, D, On, Neg, Affine, Same. No statement is proved here: lemmas for the walks.
-/
import Derived.Test.YthdapglpaaigaaaDoorZPtSum
import Derived.Test.YthdapglpaaigaaaDoorZPtFn
import Derived.Test.YthdapglpaaigaaaDoorBuL
import Derived.Deep.CutRange
namespace Go.Proofs.YthdapglpaaigaaaDoor
open Go.RowKit

theorem refAdd_k (a b : K) (w : World) : Calls Tryd.prog 45 #[FV a.val, FV b.val] w fun e w' => e = .returned (FV (a + b).val) ∧ Below w.heap.size w w' := by
  rw [Fin.val_add]
  exact refAdd_any _ _ w a.isLt b.isLt
theorem refSub_k (a b : K) (w : World) : Calls Tryd.prog 57 #[FV a.val, FV b.val] w fun e w' => e = .returned (FV (a - b).val) ∧ Below w.heap.size w w' := by
  rw [Fin.sub_def]
  have := refSub_any a.val b.val w a.isLt b.isLt
  rw [Nat.add_comm] at this
  exact this
theorem refInv_k (a : K) (w : World) : Calls Tryd.prog 82 #[FV a.val] w fun e w' => e = .returned (FV (inv a).val) ∧ Below w.heap.size w w' := refInverse_k w
theorem refSame_b (a b : K) {e0 : Bool} (w : World) (h : decide (a = b) = e0) : Calls Tryd.prog 44 #[FV a.val, FV b.val] w fun e w' => e = .returned (.bool e0) ∧ Below w.heap.size w w' := h ▸ refSame_k a b w
theorem refD_k (w : World) : Calls Tryd.prog 47 #[] w fun e w' => e = .returned (FV dK.val) ∧ Below w.heap.size w w' := by
  have HD := Lib.hid dK_ofZ
  obtain ⟨d, hd⟩ : ∃ d, dK = d := ⟨_, rfl⟩
  rw [hd] at HD ⊢
  clear hd
  have H := Lib.hid (Ow.start w)
  go_enter Tryd.func47, Tryd.ntmps47
  go_wp2_with (first
    | ((fail_if_success have := g1); (with_reducible apply own_alloc intsF.zero H); (case hgd => exact rfl); (case ho => exact rfl); intro w1 g1 H' _ _; replace H := H'; clear H'; go_simp)
    | ((with_reducible refine (refInt_k _ (-39081) (by omega) (by omega)).mono ?_); rintro e wc ⟨rfl, hb⟩; replace H := Lib.hid (H.out.call hb); clear hb; rw [HD.out])
    | ((with_reducible apply own_store rowF H); (case hgd => exact rfl); (case ho => exact rfl); (case hx => exact rfl); (case hy => exact rfl); (case hi => first | exact at0 | exact at1 | exact at2 | exact at3 | exact at4 | exact at5 | exact at6 | exact at7 | exact at8 | exact at9); intro ws H' _ _; replace H := H'; clear H'; simp only [List.set_cons_zero] at H; go_simp))
  exact bodyPost_ret (own_result 0 rowF rfl _ H rfl rfl) rfl ⟨rfl, H.out.bel⟩
set_option maxRecDepth 8000 in
set_option maxHeartbeats 3200000 in
theorem refIdentity_k (w : World) : Calls Tryd.prog 30 #[] w fun e w' => ∃ r, e = .returned (QO r) ∧ RfK r pzero ∧ Below w.heap.size w w' := by
  have H := Lib.hid (Ow.start w)
  go_enter Tryd.func30, Tryd.ntmps30
  go_wp2_with (first
    | ((fail_if_success have := g1); (with_reducible apply own_alloc nilQt H); (case hgd => exact rfl); (case ho => exact rfl); intro w1 g1 H' _ _; replace H := H'; clear H'; go_simp)
    | ((with_reducible apply lay_build_F0); (case hgd => exact rfl); (case ho => exact rfl); intro _ _; go_simp)
    | ((with_reducible refine (refInt_k _ 1 (by omega) (by omega)).mono ?_); rintro e wc ⟨rfl, hb⟩; replace H := Lib.hid (H.out.call hb); clear hb)
    | ((with_reducible apply lay_build_qt); (case hgd => exact rfl); (case ho => exact rfl); (case hx => exact rfl); (case hy => exact rfl); (case hz => exact rfl); intro _ _; go_simp)
    | ((with_reducible apply own_store rowQt H); (case hgd => exact rfl); (case ho => exact rfl); (case hx => exact rfl); (case hy => exact rfl); (case hi => first | exact at0 | exact at1 | exact at2 | exact at3 | exact at4 | exact at5 | exact at6 | exact at7 | exact at8 | exact at9); intro ws H' _ _; replace H := H'; clear H'; simp only [List.set_cons_zero] at H; go_simp))
  exact bodyPost_ret (own_result 0 rowQt rfl _ H rfl rfl) rfl ⟨_, rfl, ⟨0, _, _, rfl, by rw [ofZ_one]; exact Rp.zero edK⟩, H.out.bel⟩
set_option maxRecDepth 8000 in
set_option maxHeartbeats 3200000 in
theorem refPtNeg_k {v1 : Nat → Int} {P1 : Pt pN dK} (w : World) (q1 : RfK v1 P1) :
    Calls Tryd.prog 27 #[QO v1] w fun e w' => ∃ r, e = .returned (QO r) ∧ RfK r (pneg P1) ∧ Below w.heap.size w w' := by
  obtain ⟨X1, Y1, Z1, rfl, r1⟩ := q1.is
  have R1 := Lib.hid r1
  clear q1 r1
  have H := Lib.hid (Ow.start w)
  go_enter Tryd.func27, Tryd.ntmps27
  go_wp2_with (first
    | ((fail_if_success have := g1); (with_reducible apply own_box H); (case hgd => exact rfl); (case ho => exact rfl); (case hx => exact rfl); intro w1 g1 H' _ _; replace H := H'; clear H'; go_simp)
    | ((fail_if_success have := g2); (with_reducible apply own_alloc nilQt H); (case hgd => exact rfl); (case ho => exact rfl); intro w2 g2 H' _ _; replace H := H'; clear H'; go_simp))
  refine wp_region_noPanic ?_
  refine wp_region_held_drew (S := fun W => W.heap[g1]? = some (Blk 52 .i64 48 ((t3 16 (dF (X1).val) (dF (Y1).val) (dF (Z1).val))))) (by kernel_rfl) (H.out.drew.row 1 rfl) (fun hH => ?_)
  replace H := Lib.hid H.out.drew
  generalize World.drew _ = w8 at *
  refine held_value 0 3 (.pointer (some ⟨g1, 0, none⟩)) rfl rfl (by kernel_rfl) (by kernel_rfl) (by kernel_rfl) rfl hH (fun w hw => by go_simp) ?_
  try simp only [Act.put, List.setIfInBounds_toArray, List.set_cons_zero, List.set_cons_succ]
  refine held_part 1 4 rowF rfl rfl (by kernel_rfl) (by kernel_rfl) (by kernel_rfl) rfl hH rfl rfl part_x16 (fun _ h => h) ?_
  try simp only [Act.put, List.setIfInBounds_toArray, List.set_cons_zero, List.set_cons_succ]
  refine held_value 3 6 (.pointer (some ⟨g1, 16, none⟩)) rfl rfl (by kernel_rfl) (by kernel_rfl) (by kernel_rfl) rfl hH (fun w hw => by go_simp) ?_
  try simp only [Act.put, List.setIfInBounds_toArray, List.set_cons_zero, List.set_cons_succ]
  refine held_part 4 7 rowF rfl rfl (by kernel_rfl) (by kernel_rfl) (by kernel_rfl) rfl hH rfl rfl part_y16 (fun _ h => h) ?_
  try simp only [Act.put, List.setIfInBounds_toArray, List.set_cons_zero, List.set_cons_succ]
  refine held_value 5 8 (.pointer (some ⟨g1, 32, none⟩)) rfl rfl (by kernel_rfl) (by kernel_rfl) (by kernel_rfl) rfl hH (fun w hw => by go_simp) ?_
  try simp only [Act.put, List.setIfInBounds_toArray, List.set_cons_zero, List.set_cons_succ]
  refine held_part 6 9 rowF rfl rfl (by kernel_rfl) (by kernel_rfl) (by kernel_rfl) rfl hH rfl rfl part_z16 (fun _ h => h) ?_
  try simp only [Act.put, List.setIfInBounds_toArray, List.set_cons_zero, List.set_cons_succ]
  refine wpAnyH_ready (rs := [2]) (by kernel_rfl) (by simp) ?_
  refine AllReadyH.cons (o := _) rfl (fun K hK => ?_) AllReadyH.nil
  go_simp
  refine (refNeg_k _ _).mono ?_
  rintro e wc ⟨rfl, hb⟩
  replace H := Lib.hid (H.out.call hb)
  refine hK.out _ _ (H.out.row 1 rfl) (fun hN => ?_)
  clear hK K hH hb
  have hH := hN
  clear hN
  try simp only [Act.put, List.setIfInBounds_toArray, List.set_cons_zero, List.set_cons_succ]
  refine held_qt 7 10 rfl rfl (by kernel_rfl) (by kernel_rfl) (by kernel_rfl) rfl hH rfl rfl rfl rfl ?_
  try simp only [Act.put, List.setIfInBounds_toArray, List.set_cons_zero, List.set_cons_succ]
  refine wpAnyH_ready (rs := [8]) (by kernel_rfl) (by simp) ?_
  refine AllReadyH.cons (o := _) rfl (fun K hK => ?_) AllReadyH.nil
  refine own_wp_store 0 rowQt H.out rfl rfl rfl rfl ?_
  intro ws HS
  simp only [List.set_cons_zero] at HS
  replace H := Lib.hid HS
  refine hK.out _ _ (H.out.row 1 rfl) (fun hN => ?_)
  clear hK K HS hH
  have hH := hN
  clear hN
  try simp only [Act.put, List.setIfInBounds_toArray]
  try simp only [Act.put]
  refine wpAnyH_done (by kernel_rfl) ?_ _
  refine NoPanic.normal ?_
  clear hH
  go_wp2_with fail
  exact bodyPost_ret (own_result 0 rowQt rfl _ H rfl rfl) rfl ⟨_, rfl, ⟨_, _, _, rfl, R1.out.neg⟩, H.out.bel⟩
set_option maxRecDepth 8000 in
set_option maxHeartbeats 3200000 in
theorem refAffine_k {v1 : Nat → Int} {P1 : Pt pN dK} (w : World) (q1 : RfK v1 P1) :
    Calls Tryd.prog 54 #[QO v1] w fun e w' => e = .returned (.tuple #[FV P1.x.val, FV P1.y.val]) ∧ Below w.heap.size w w' := by
  obtain ⟨X1, Y1, Z1, rfl, r1⟩ := q1.is
  have R1 := Lib.hid r1
  clear q1 r1
  have HA := Lib.hid (R1.out.affine edK)
  have H := Lib.hid (Ow.start w)
  go_enter Tryd.func54, Tryd.ntmps54
  go_wp2_with (first
    | ((fail_if_success have := g1); (with_reducible apply own_box H); (case hgd => exact rfl); (case ho => exact rfl); (case hx => exact rfl); intro w1 g1 H' _ _; replace H := H'; clear H'; go_simp)
    | ((fail_if_success have := g2); (with_reducible apply own_alloc intsF.zero H); (case hgd => exact rfl); (case ho => exact rfl); intro w2 g2 H' _ _; replace H := H'; clear H'; go_simp)
    | ((fail_if_success have := g3); (fail_if_success have := g3); (with_reducible apply own_alloc intsF.zero H); (case hgd => exact rfl); (case ho => exact rfl); intro w3 g3 H' _ _; replace H := H'; clear H'; go_simp)
    | ((with_reducible apply own_load_p rowF H); (case hgd => exact rfl); (case ho => exact rfl); (case hx => exact rfl); (case hi => first | exact at0 | exact at1 | exact at2 | exact at3 | exact at4 | exact at5 | exact at6 | exact at7 | exact at8 | exact at9); (case hp => first | exact part_x16 | exact part_y16 | exact part_z16); intro _ _; go_simp)
    | ((with_reducible refine (refInv_k Z1 _).mono ?_); rintro e wc ⟨rfl, hb⟩; replace H := Lib.hid (H.out.call hb); clear hb)
    | ((fail_if_success have := g4); (fail_if_success have := g4); (with_reducible apply own_alloc intsF.zero H); (case hgd => exact rfl); (case ho => exact rfl); intro w4 g4 H' _ _; replace H := H'; clear H'; go_simp)
    | ((with_reducible apply own_store rowF H); (case hgd => exact rfl); (case ho => exact rfl); (case hx => exact rfl); (case hy => exact rfl); (case hi => first | exact at0 | exact at1 | exact at2 | exact at3 | exact at4 | exact at5 | exact at6 | exact at7 | exact at8 | exact at9); intro ws H' _ _; replace H := H'; clear H'; simp only [List.set_cons_zero] at H; go_simp))
  refine wp_region_noPanic ?_
  refine wp_region_held_drew (S := fun W => W.heap[g1]? = some (Blk 52 .i64 48 ((t3 16 (dF (X1).val) (dF (Y1).val) (dF (Z1).val)))) ∧ W.heap[g4]? = some (Blk 40 .i64 16 (dF ((inv Z1)).val))) (by kernel_rfl) (⟨H.out.drew.row 3 rfl, H.out.drew.row 0 rfl⟩) (fun hH => ?_)
  replace H := Lib.hid H.out.drew
  generalize World.drew _ = w8 at *
  refine held_value 0 8 (.pointer (some ⟨g1, 0, none⟩)) rfl rfl (by kernel_rfl) (by kernel_rfl) (by kernel_rfl) rfl hH (fun w hw => by go_simp) ?_
  try simp only [Act.put, List.setIfInBounds_toArray, List.set_cons_zero, List.set_cons_succ]
  refine held_part 1 9 rowF rfl rfl (by kernel_rfl) (by kernel_rfl) (by kernel_rfl) rfl hH rfl rfl part_x16 (fun _ h => h.1) ?_
  try simp only [Act.put, List.setIfInBounds_toArray, List.set_cons_zero, List.set_cons_succ]
  refine held_row 2 10 rowF rfl rfl (by kernel_rfl) (by kernel_rfl) (by kernel_rfl) rfl hH rfl rfl (fun _ h => h.2) ?_
  try simp only [Act.put, List.setIfInBounds_toArray, List.set_cons_zero, List.set_cons_succ]
  refine held_value 4 12 (.pointer (some ⟨g1, 16, none⟩)) rfl rfl (by kernel_rfl) (by kernel_rfl) (by kernel_rfl) rfl hH (fun w hw => by go_simp) ?_
  try simp only [Act.put, List.setIfInBounds_toArray, List.set_cons_zero, List.set_cons_succ]
  refine held_part 5 13 rowF rfl rfl (by kernel_rfl) (by kernel_rfl) (by kernel_rfl) rfl hH rfl rfl part_y16 (fun _ h => h.1) ?_
  try simp only [Act.put, List.setIfInBounds_toArray, List.set_cons_zero, List.set_cons_succ]
  refine held_row 6 14 rowF rfl rfl (by kernel_rfl) (by kernel_rfl) (by kernel_rfl) rfl hH rfl rfl (fun _ h => h.2) ?_
  try simp only [Act.put, List.setIfInBounds_toArray, List.set_cons_zero, List.set_cons_succ]
  refine wpAnyH_ready (rs := [3]) (by kernel_rfl) (by simp) ?_
  refine AllReadyH.cons (o := _) rfl (fun K hK => ?_) AllReadyH.nil
  go_simp
  refine (refMul_k _ _ _).mono ?_
  rintro e wc ⟨rfl, hb⟩
  replace H := Lib.hid (H.out.call hb)
  refine hK.out _ _ (⟨H.out.row 3 rfl, H.out.row 0 rfl⟩) (fun hN => ?_)
  clear hK K hH hb
  have hH := hN
  clear hN
  try simp only [Act.put, List.setIfInBounds_toArray, List.set_cons_zero, List.set_cons_succ]
  refine wpAnyH_ready (rs := [7]) (by kernel_rfl) (by simp) ?_
  refine AllReadyH.cons (o := _) rfl (fun K hK => ?_) AllReadyH.nil
  go_simp
  refine (refMul_k _ _ _).mono ?_
  rintro e wc ⟨rfl, hb⟩
  replace H := Lib.hid (H.out.call hb)
  refine hK.out _ _ (⟨H.out.row 3 rfl, H.out.row 0 rfl⟩) (fun hN => ?_)
  clear hK K hH hb
  have hH := hN
  clear hN
  try simp only [Act.put, List.setIfInBounds_toArray, List.set_cons_zero, List.set_cons_succ]
  refine wpAnyH_ready (rs := [8]) (by kernel_rfl) (by simp) ?_
  refine AllReadyH.cons (o := _) rfl (fun K hK => ?_) AllReadyH.nil
  refine own_wp_store 2 rowF H.out rfl rfl rfl rfl ?_
  intro ws HS
  simp only [List.set_cons_zero, List.set_cons_succ] at HS
  replace H := Lib.hid HS
  refine hK.out _ _ (⟨H.out.row 3 rfl, H.out.row 0 rfl⟩) (fun hN => ?_)
  clear hK K HS hH
  have hH := hN
  clear hN
  try simp only [Act.put, List.setIfInBounds_toArray]
  refine wpAnyH_ready (rs := [9]) (by kernel_rfl) (by simp) ?_
  refine AllReadyH.cons (o := _) rfl (fun K hK => ?_) AllReadyH.nil
  refine own_wp_store 1 rowF H.out rfl rfl rfl rfl ?_
  intro ws HS
  simp only [List.set_cons_zero, List.set_cons_succ] at HS
  replace H := Lib.hid HS
  refine hK.out _ _ (⟨H.out.row 3 rfl, H.out.row 0 rfl⟩) (fun hN => ?_)
  clear hK K HS hH
  have hH := hN
  clear hN
  try simp only [Act.put]
  try simp only [Act.put]
  refine wpAnyH_done (by kernel_rfl) ?_ _
  refine NoPanic.normal ?_
  clear hH
  go_wp2_with fail
  rw [HA.out.1, HA.out.2] at H
  exact bodyPost_ret (own_result2 2 1 rowF rfl _ H rfl rfl rfl rfl) rfl ⟨rfl, H.out.bel⟩
set_option maxRecDepth 8000 in
set_option maxHeartbeats 3200000 in
theorem refOn_k {X Y : K} {b : Bool} (w : World) (hb : decide (X * X + Y * Y = 1 + dK * (X * X * (Y * Y))) = b) :
    Calls Tryd.prog 12 #[FV X.val, FV Y.val] w fun e w' => e = .returned (.bool b) ∧ Below w.heap.size w w' := by
  have HB : Hid (decide (X * X + Y * Y = ofZ 1 + dK * (X * X * (Y * Y))) = b) := Lib.hid (by rw [ofZ_one]; exact hb)
  clear hb
  have H := Lib.hid (Ow.start w)
  go_enter Tryd.func12, Tryd.ntmps12
  go_wp2_with (first
    | ((fail_if_success have := g2); (with_reducible apply own_box H); (case hgd => exact rfl); (case ho => exact rfl); (case hx => exact rfl); intro w2 g2 H' _ _; replace H := H'; clear H'; go_simp)
    | ((fail_if_success have := g3); (fail_if_success have := g3); (with_reducible apply own_box H); (case hgd => exact rfl); (case ho => exact rfl); (case hx => exact rfl); intro w3 g3 H' _ _; replace H := H'; clear H'; go_simp)
    | ((with_reducible apply own_load rowF H); (case hgd => exact rfl); (case ho => exact rfl); (case hx => exact rfl); (case hi => first | exact at0 | exact at1 | exact at2 | exact at3 | exact at4 | exact at5 | exact at6 | exact at7 | exact at8 | exact at9); intro _ _; go_simp)
    | ((fail_if_success have := g5); (with_reducible refine (refMul_k X X _).mono ?_); rintro e wc ⟨rfl, hb⟩; replace H := Lib.hid (H.out.call hb); clear hb)
    | ((fail_if_success have := g5); (fail_if_success have := g5); (with_reducible apply own_alloc intsF.zero H); (case hgd => exact rfl); (case ho => exact rfl); intro w5 g5 H' _ _; replace H := H'; clear H'; go_simp)
    | ((with_reducible refine (refMul_k Y Y _).mono ?_); rintro e wc ⟨rfl, hb⟩; replace H := Lib.hid (H.out.call hb); clear hb)
    | ((fail_if_success have := g6); (fail_if_success have := g6); (with_reducible apply own_alloc intsF.zero H); (case hgd => exact rfl); (case ho => exact rfl); intro w6 g6 H' _ _; replace H := H'; clear H'; go_simp)
    | ((with_reducible apply own_store rowF H); (case hgd => exact rfl); (case ho => exact rfl); (case hx => exact rfl); (case hy => exact rfl); (case hi => first | exact at0 | exact at1 | exact at2 | exact at3 | exact at4 | exact at5 | exact at6 | exact at7 | exact at8 | exact at9); intro ws H' _ _; replace H := H'; clear H'; simp only [List.set_cons_zero] at H; go_simp))
  refine wp_region_noPanic ?_
  refine wp_region_held_drew (S := fun W => W.heap[g5]? = some (Blk 40 .i64 16 (dF ((X * X)).val)) ∧ W.heap[g6]? = some (Blk 40 .i64 16 (dF ((Y * Y)).val))) (by kernel_rfl) (⟨H.out.drew.row 1 rfl, H.out.drew.row 0 rfl⟩) (fun hH => ?_)
  replace H := Lib.hid H.out.drew
  generalize World.drew _ = w8 at *
  refine held_row 0 13 rowF rfl rfl (by kernel_rfl) (by kernel_rfl) (by kernel_rfl) rfl hH rfl rfl (fun _ h => h.1) ?_
  try simp only [Act.put, List.setIfInBounds_toArray, List.set_cons_zero, List.set_cons_succ]
  refine held_row 1 14 rowF rfl rfl (by kernel_rfl) (by kernel_rfl) (by kernel_rfl) rfl hH rfl rfl (fun _ h => h.2) ?_
  try simp only [Act.put, List.setIfInBounds_toArray, List.set_cons_zero, List.set_cons_succ]
  refine held_row 5 18 rowF rfl rfl (by kernel_rfl) (by kernel_rfl) (by kernel_rfl) rfl hH rfl rfl (fun _ h => h.1) ?_
  try simp only [Act.put, List.setIfInBounds_toArray, List.set_cons_zero, List.set_cons_succ]
  refine held_row 6 19 rowF rfl rfl (by kernel_rfl) (by kernel_rfl) (by kernel_rfl) rfl hH rfl rfl (fun _ h => h.2) ?_
  try simp only [Act.put, List.setIfInBounds_toArray, List.set_cons_zero, List.set_cons_succ]
  refine wpAnyH_ready (rs := [2]) (by kernel_rfl) (by simp) ?_
  refine AllReadyH.cons (o := _) rfl (fun K hK => ?_) AllReadyH.nil
  go_simp
  refine (refAdd_k _ _ _).mono ?_
  rintro e wc ⟨rfl, hb⟩
  replace H := Lib.hid (H.out.call hb)
  refine hK.out _ _ (⟨H.out.row 1 rfl, H.out.row 0 rfl⟩) (fun hN => ?_)
  clear hK K hH hb
  have hH := hN
  clear hN
  try simp only [Act.put, List.setIfInBounds_toArray, List.set_cons_zero, List.set_cons_succ]
  refine wpAnyH_ready (rs := [3]) (by kernel_rfl) (by simp) ?_
  refine AllReadyH.cons (o := _) rfl (fun K hK => ?_) AllReadyH.nil
  go_simp
  refine (refInt_k _ (1) (by omega) (by omega)).mono ?_
  rintro e wc ⟨rfl, hb⟩
  replace H := Lib.hid (H.out.call hb)
  refine hK.out _ _ (⟨H.out.row 1 rfl, H.out.row 0 rfl⟩) (fun hN => ?_)
  clear hK K hH hb
  have hH := hN
  clear hN
  try simp only [Act.put, List.setIfInBounds_toArray, List.set_cons_zero, List.set_cons_succ]
  refine wpAnyH_ready (rs := [4]) (by kernel_rfl) (by simp) ?_
  refine AllReadyH.cons (o := _) rfl (fun K hK => ?_) AllReadyH.nil
  go_simp
  refine (refD_k _).mono ?_
  rintro e wc ⟨rfl, hb⟩
  replace H := Lib.hid (H.out.call hb)
  refine hK.out _ _ (⟨H.out.row 1 rfl, H.out.row 0 rfl⟩) (fun hN => ?_)
  clear hK K hH hb
  have hH := hN
  clear hN
  try simp only [Act.put, List.setIfInBounds_toArray, List.set_cons_zero, List.set_cons_succ]
  refine wpAnyH_ready (rs := [7]) (by kernel_rfl) (by simp) ?_
  refine AllReadyH.cons (o := _) rfl (fun K hK => ?_) AllReadyH.nil
  go_simp
  refine (refMul_k _ _ _).mono ?_
  rintro e wc ⟨rfl, hb⟩
  replace H := Lib.hid (H.out.call hb)
  refine hK.out _ _ (⟨H.out.row 1 rfl, H.out.row 0 rfl⟩) (fun hN => ?_)
  clear hK K hH hb
  have hH := hN
  clear hN
  try simp only [Act.put, List.setIfInBounds_toArray, List.set_cons_zero, List.set_cons_succ]
  refine wpAnyH_ready (rs := [8]) (by kernel_rfl) (by simp) ?_
  refine AllReadyH.cons (o := _) rfl (fun K hK => ?_) AllReadyH.nil
  go_simp
  refine (refMul_k _ _ _).mono ?_
  rintro e wc ⟨rfl, hb⟩
  replace H := Lib.hid (H.out.call hb)
  refine hK.out _ _ (⟨H.out.row 1 rfl, H.out.row 0 rfl⟩) (fun hN => ?_)
  clear hK K hH hb
  have hH := hN
  clear hN
  try simp only [Act.put, List.setIfInBounds_toArray, List.set_cons_zero, List.set_cons_succ]
  refine wpAnyH_ready (rs := [9]) (by kernel_rfl) (by simp) ?_
  refine AllReadyH.cons (o := _) rfl (fun K hK => ?_) AllReadyH.nil
  go_simp
  refine (refAdd_k _ _ _).mono ?_
  rintro e wc ⟨rfl, hb⟩
  replace H := Lib.hid (H.out.call hb)
  refine hK.out _ _ (⟨H.out.row 1 rfl, H.out.row 0 rfl⟩) (fun hN => ?_)
  clear hK K hH hb
  have hH := hN
  clear hN
  try simp only [Act.put, List.setIfInBounds_toArray, List.set_cons_zero, List.set_cons_succ]
  refine wpAnyH_ready (rs := [10]) (by kernel_rfl) (by simp) ?_
  refine AllReadyH.cons (o := _) rfl (fun K hK => ?_) AllReadyH.nil
  go_simp
  refine (refSame_b _ _ _ HB.out).mono ?_
  rintro e wc ⟨rfl, hb⟩
  replace H := Lib.hid (H.out.call hb)
  refine hK.out _ _ (⟨H.out.row 1 rfl, H.out.row 0 rfl⟩) (fun hN => ?_)
  clear hK K hH hb
  have hH := hN
  clear hN
  try simp only [Act.put, List.setIfInBounds_toArray, List.set_cons_zero, List.set_cons_succ]
  refine held_value 11 4 (.bool b) rfl rfl (by kernel_rfl) (by kernel_rfl) (by kernel_rfl) rfl hH (fun w hw => by go_simp) ?_
  try simp only [Act.put, List.setIfInBounds_toArray, List.set_cons_zero, List.set_cons_succ]
  try simp only [Act.put]
  refine wpAnyH_done (by kernel_rfl) ?_ _
  refine NoPanic.normal ?_
  clear hH
  go_wp2_with fail
  go_ret
  exact ⟨rfl, H.out.bel⟩
set_option maxRecDepth 8000 in
set_option maxHeartbeats 3200000 in
theorem refPtSame_no {X1 Y1 Z1 X2 Y2 Z2 : K} (w : World) (h : X1 * Z2 ≠ X2 * Z1) :
    Calls Tryd.prog 28 #[QO (t3 16 (dF X1.val) (dF Y1.val) (dF Z1.val)), QO (t3 16 (dF X2.val) (dF Y2.val) (dF Z2.val))] w fun e w' => e = .returned (.bool false) ∧ Below w.heap.size w w' := by
  have HS1 := Lib.hid (fun w => refSame_b (X1 * Z2) (X2 * Z1) w (decide_eq_false h))
  clear h
  have H := Lib.hid (Ow.start w)
  go_enter Tryd.func28, Tryd.ntmps28
  go_wp2_with (first
    | ((fail_if_success have := g2); (with_reducible apply own_box H); (case hgd => exact rfl); (case ho => exact rfl); (case hx => exact rfl); intro w2 g2 H' _ _; replace H := H'; clear H'; go_simp)
    | ((fail_if_success have := g3); (fail_if_success have := g3); (with_reducible apply own_box H); (case hgd => exact rfl); (case ho => exact rfl); (case hx => exact rfl); intro w3 g3 H' _ _; replace H := H'; clear H'; go_simp))
  refine wp_region_noPanic ?_
  refine wp_region_held_drew (S := fun W => W.heap[g2]? = some (Blk 52 .i64 48 ((t3 16 (dF (X1).val) (dF (Y1).val) (dF (Z1).val)))) ∧ W.heap[g3]? = some (Blk 52 .i64 48 ((t3 16 (dF (X2).val) (dF (Y2).val) (dF (Z2).val))))) (by kernel_rfl) (⟨H.out.drew.row 1 rfl, H.out.drew.row 0 rfl⟩) (fun hH => ?_)
  replace H := Lib.hid H.out.drew
  generalize World.drew _ = w8 at *
  refine held_value 0 5 (.pointer (some ⟨g2, 0, none⟩)) rfl rfl (by kernel_rfl) (by kernel_rfl) (by kernel_rfl) rfl hH (fun w hw => by go_simp) ?_
  try simp only [Act.put, List.setIfInBounds_toArray, List.set_cons_zero, List.set_cons_succ]
  refine held_part 1 6 rowF rfl rfl (by kernel_rfl) (by kernel_rfl) (by kernel_rfl) rfl hH rfl rfl part_x16 (fun _ h => h.1) ?_
  try simp only [Act.put, List.setIfInBounds_toArray, List.set_cons_zero, List.set_cons_succ]
  refine held_value 2 7 (.pointer (some ⟨g3, 32, none⟩)) rfl rfl (by kernel_rfl) (by kernel_rfl) (by kernel_rfl) rfl hH (fun w hw => by go_simp) ?_
  try simp only [Act.put, List.setIfInBounds_toArray, List.set_cons_zero, List.set_cons_succ]
  refine held_part 3 8 rowF rfl rfl (by kernel_rfl) (by kernel_rfl) (by kernel_rfl) rfl hH rfl rfl part_z16 (fun _ h => h.2) ?_
  try simp only [Act.put, List.setIfInBounds_toArray, List.set_cons_zero, List.set_cons_succ]
  refine held_value 5 10 (.pointer (some ⟨g3, 0, none⟩)) rfl rfl (by kernel_rfl) (by kernel_rfl) (by kernel_rfl) rfl hH (fun w hw => by go_simp) ?_
  try simp only [Act.put, List.setIfInBounds_toArray, List.set_cons_zero, List.set_cons_succ]
  refine held_part 6 11 rowF rfl rfl (by kernel_rfl) (by kernel_rfl) (by kernel_rfl) rfl hH rfl rfl part_x16 (fun _ h => h.2) ?_
  try simp only [Act.put, List.setIfInBounds_toArray, List.set_cons_zero, List.set_cons_succ]
  refine held_value 7 12 (.pointer (some ⟨g2, 32, none⟩)) rfl rfl (by kernel_rfl) (by kernel_rfl) (by kernel_rfl) rfl hH (fun w hw => by go_simp) ?_
  try simp only [Act.put, List.setIfInBounds_toArray, List.set_cons_zero, List.set_cons_succ]
  refine held_part 8 13 rowF rfl rfl (by kernel_rfl) (by kernel_rfl) (by kernel_rfl) rfl hH rfl rfl part_z16 (fun _ h => h.1) ?_
  try simp only [Act.put, List.setIfInBounds_toArray, List.set_cons_zero, List.set_cons_succ]
  refine wpAnyH_ready (rs := [4]) (by kernel_rfl) (by simp) ?_
  refine AllReadyH.cons (o := _) rfl (fun K hK => ?_) AllReadyH.nil
  go_simp
  refine (refMul_k _ _ _).mono ?_
  rintro e wc ⟨rfl, hb⟩
  replace H := Lib.hid (H.out.call hb)
  refine hK.out _ _ (⟨H.out.row 1 rfl, H.out.row 0 rfl⟩) (fun hN => ?_)
  clear hK K hH hb
  have hH := hN
  clear hN
  try simp only [Act.put, List.setIfInBounds_toArray, List.set_cons_zero, List.set_cons_succ]
  refine wpAnyH_ready (rs := [9]) (by kernel_rfl) (by simp) ?_
  refine AllReadyH.cons (o := _) rfl (fun K hK => ?_) AllReadyH.nil
  go_simp
  refine (refMul_k _ _ _).mono ?_
  rintro e wc ⟨rfl, hb⟩
  replace H := Lib.hid (H.out.call hb)
  refine hK.out _ _ (⟨H.out.row 1 rfl, H.out.row 0 rfl⟩) (fun hN => ?_)
  clear hK K hH hb
  have hH := hN
  clear hN
  try simp only [Act.put, List.setIfInBounds_toArray, List.set_cons_zero, List.set_cons_succ]
  refine wpAnyH_ready (rs := [10]) (by kernel_rfl) (by simp) ?_
  refine AllReadyH.cons (o := _) rfl (fun K hK => ?_) AllReadyH.nil
  go_simp
  refine (HS1.out _).mono ?_
  rintro e wc ⟨rfl, hb⟩
  replace H := Lib.hid (H.out.call hb)
  refine hK.out _ _ (⟨H.out.row 1 rfl, H.out.row 0 rfl⟩) (fun hN => ?_)
  clear hK K hH hb
  have hH := hN
  clear hN
  try simp only [Act.put, List.setIfInBounds_toArray, List.set_cons_zero, List.set_cons_succ]
  refine held_value 11 16 (.bool false) rfl rfl (by kernel_rfl) (by kernel_rfl) (by kernel_rfl) rfl hH (fun w hw => by go_simp) ?_
  try simp only [Act.put, List.setIfInBounds_toArray, List.set_cons_zero, List.set_cons_succ]
  refine held_skip 12 17 rfl rfl (by kernel_rfl) (by kernel_rfl) (by kernel_rfl) rfl hH ?_
  try simp only [Act.put, List.setIfInBounds_toArray, List.set_cons_zero, List.set_cons_succ]
  refine held_skip 13 18 rfl rfl (by kernel_rfl) (by kernel_rfl) (by kernel_rfl) rfl hH ?_
  try simp only [Act.put, List.setIfInBounds_toArray, List.set_cons_zero, List.set_cons_succ]
  refine held_skip 14 19 rfl rfl (by kernel_rfl) (by kernel_rfl) (by kernel_rfl) rfl hH ?_
  try simp only [Act.put, List.setIfInBounds_toArray, List.set_cons_zero, List.set_cons_succ]
  refine held_skip 15 20 rfl rfl (by kernel_rfl) (by kernel_rfl) (by kernel_rfl) rfl hH ?_
  try simp only [Act.put, List.setIfInBounds_toArray, List.set_cons_zero, List.set_cons_succ]
  refine held_skip 16 21 rfl rfl (by kernel_rfl) (by kernel_rfl) (by kernel_rfl) rfl hH ?_
  try simp only [Act.put, List.setIfInBounds_toArray, List.set_cons_zero, List.set_cons_succ]
  refine held_skip 17 22 rfl rfl (by kernel_rfl) (by kernel_rfl) (by kernel_rfl) rfl hH ?_
  try simp only [Act.put, List.setIfInBounds_toArray, List.set_cons_zero, List.set_cons_succ]
  refine held_skip 18 23 rfl rfl (by kernel_rfl) (by kernel_rfl) (by kernel_rfl) rfl hH ?_
  try simp only [Act.put, List.setIfInBounds_toArray, List.set_cons_zero, List.set_cons_succ]
  refine held_skip 19 24 rfl rfl (by kernel_rfl) (by kernel_rfl) (by kernel_rfl) rfl hH ?_
  try simp only [Act.put, List.setIfInBounds_toArray, List.set_cons_zero, List.set_cons_succ]
  refine held_skip 20 25 rfl rfl (by kernel_rfl) (by kernel_rfl) (by kernel_rfl) rfl hH ?_
  try simp only [Act.put, List.setIfInBounds_toArray, List.set_cons_zero, List.set_cons_succ]
  refine held_skip 21 26 rfl rfl (by kernel_rfl) (by kernel_rfl) (by kernel_rfl) rfl hH ?_
  try simp only [Act.put, List.setIfInBounds_toArray, List.set_cons_zero, List.set_cons_succ]
  refine held_skip 22 27 rfl rfl (by kernel_rfl) (by kernel_rfl) (by kernel_rfl) rfl hH ?_
  try simp only [Act.put, List.setIfInBounds_toArray, List.set_cons_zero, List.set_cons_succ]
  refine held_value 23 28 (.bool false) rfl rfl (by kernel_rfl) (by kernel_rfl) (by kernel_rfl) rfl hH (fun w hw => by go_simp) ?_
  try simp only [Act.put, List.setIfInBounds_toArray, List.set_cons_zero, List.set_cons_succ]
  refine held_value 24 4 (.bool false) rfl rfl (by kernel_rfl) (by kernel_rfl) (by kernel_rfl) rfl hH (fun w hw => by go_simp) ?_
  try simp only [Act.put, List.setIfInBounds_toArray, List.set_cons_zero, List.set_cons_succ]
  try simp only [Act.put]
  refine wpAnyH_done (by kernel_rfl) ?_ _
  refine NoPanic.normal ?_
  clear hH
  go_wp2_with fail
  go_ret
  exact ⟨rfl, H.out.bel⟩
set_option maxRecDepth 8000 in
set_option maxHeartbeats 3200000 in
theorem refPtSame_yes {X1 Y1 Z1 X2 Y2 Z2 : K} (w : World) (h : X1 * Z2 = X2 * Z1) (b : Bool) (hb : decide (Y1 * Z2 = Y2 * Z1) = b) :
    Calls Tryd.prog 28 #[QO (t3 16 (dF X1.val) (dF Y1.val) (dF Z1.val)), QO (t3 16 (dF X2.val) (dF Y2.val) (dF Z2.val))] w fun e w' => e = .returned (.bool b) ∧ Below w.heap.size w w' := by
  have HS1 := Lib.hid (fun w => refSame_b (X1 * Z2) (X2 * Z1) w (decide_eq_true h))
  have HB := Lib.hid hb
  clear h hb
  have H := Lib.hid (Ow.start w)
  go_enter Tryd.func28, Tryd.ntmps28
  go_wp2_with (first
    | ((fail_if_success have := g2); (with_reducible apply own_box H); (case hgd => exact rfl); (case ho => exact rfl); (case hx => exact rfl); intro w2 g2 H' _ _; replace H := H'; clear H'; go_simp)
    | ((fail_if_success have := g3); (fail_if_success have := g3); (with_reducible apply own_box H); (case hgd => exact rfl); (case ho => exact rfl); (case hx => exact rfl); intro w3 g3 H' _ _; replace H := H'; clear H'; go_simp))
  refine wp_region_noPanic ?_
  refine wp_region_held_drew (S := fun W => W.heap[g2]? = some (Blk 52 .i64 48 ((t3 16 (dF (X1).val) (dF (Y1).val) (dF (Z1).val)))) ∧ W.heap[g3]? = some (Blk 52 .i64 48 ((t3 16 (dF (X2).val) (dF (Y2).val) (dF (Z2).val))))) (by kernel_rfl) (⟨H.out.drew.row 1 rfl, H.out.drew.row 0 rfl⟩) (fun hH => ?_)
  replace H := Lib.hid H.out.drew
  generalize World.drew _ = w8 at *
  refine held_value 0 5 (.pointer (some ⟨g2, 0, none⟩)) rfl rfl (by kernel_rfl) (by kernel_rfl) (by kernel_rfl) rfl hH (fun w hw => by go_simp) ?_
  try simp only [Act.put, List.setIfInBounds_toArray, List.set_cons_zero, List.set_cons_succ]
  refine held_part 1 6 rowF rfl rfl (by kernel_rfl) (by kernel_rfl) (by kernel_rfl) rfl hH rfl rfl part_x16 (fun _ h => h.1) ?_
  try simp only [Act.put, List.setIfInBounds_toArray, List.set_cons_zero, List.set_cons_succ]
  refine held_value 2 7 (.pointer (some ⟨g3, 32, none⟩)) rfl rfl (by kernel_rfl) (by kernel_rfl) (by kernel_rfl) rfl hH (fun w hw => by go_simp) ?_
  try simp only [Act.put, List.setIfInBounds_toArray, List.set_cons_zero, List.set_cons_succ]
  refine held_part 3 8 rowF rfl rfl (by kernel_rfl) (by kernel_rfl) (by kernel_rfl) rfl hH rfl rfl part_z16 (fun _ h => h.2) ?_
  try simp only [Act.put, List.setIfInBounds_toArray, List.set_cons_zero, List.set_cons_succ]
  refine held_value 5 10 (.pointer (some ⟨g3, 0, none⟩)) rfl rfl (by kernel_rfl) (by kernel_rfl) (by kernel_rfl) rfl hH (fun w hw => by go_simp) ?_
  try simp only [Act.put, List.setIfInBounds_toArray, List.set_cons_zero, List.set_cons_succ]
  refine held_part 6 11 rowF rfl rfl (by kernel_rfl) (by kernel_rfl) (by kernel_rfl) rfl hH rfl rfl part_x16 (fun _ h => h.2) ?_
  try simp only [Act.put, List.setIfInBounds_toArray, List.set_cons_zero, List.set_cons_succ]
  refine held_value 7 12 (.pointer (some ⟨g2, 32, none⟩)) rfl rfl (by kernel_rfl) (by kernel_rfl) (by kernel_rfl) rfl hH (fun w hw => by go_simp) ?_
  try simp only [Act.put, List.setIfInBounds_toArray, List.set_cons_zero, List.set_cons_succ]
  refine held_part 8 13 rowF rfl rfl (by kernel_rfl) (by kernel_rfl) (by kernel_rfl) rfl hH rfl rfl part_z16 (fun _ h => h.1) ?_
  try simp only [Act.put, List.setIfInBounds_toArray, List.set_cons_zero, List.set_cons_succ]
  refine wpAnyH_ready (rs := [4]) (by kernel_rfl) (by simp) ?_
  refine AllReadyH.cons (o := _) rfl (fun K hK => ?_) AllReadyH.nil
  go_simp
  refine (refMul_k _ _ _).mono ?_
  rintro e wc ⟨rfl, hb⟩
  replace H := Lib.hid (H.out.call hb)
  refine hK.out _ _ (⟨H.out.row 1 rfl, H.out.row 0 rfl⟩) (fun hN => ?_)
  clear hK K hH hb
  have hH := hN
  clear hN
  try simp only [Act.put, List.setIfInBounds_toArray, List.set_cons_zero, List.set_cons_succ]
  refine wpAnyH_ready (rs := [9]) (by kernel_rfl) (by simp) ?_
  refine AllReadyH.cons (o := _) rfl (fun K hK => ?_) AllReadyH.nil
  go_simp
  refine (refMul_k _ _ _).mono ?_
  rintro e wc ⟨rfl, hb⟩
  replace H := Lib.hid (H.out.call hb)
  refine hK.out _ _ (⟨H.out.row 1 rfl, H.out.row 0 rfl⟩) (fun hN => ?_)
  clear hK K hH hb
  have hH := hN
  clear hN
  try simp only [Act.put, List.setIfInBounds_toArray, List.set_cons_zero, List.set_cons_succ]
  refine wpAnyH_ready (rs := [10]) (by kernel_rfl) (by simp) ?_
  refine AllReadyH.cons (o := _) rfl (fun K hK => ?_) AllReadyH.nil
  go_simp
  refine (HS1.out _).mono ?_
  rintro e wc ⟨rfl, hb⟩
  replace H := Lib.hid (H.out.call hb)
  refine hK.out _ _ (⟨H.out.row 1 rfl, H.out.row 0 rfl⟩) (fun hN => ?_)
  clear hK K hH hb
  have hH := hN
  clear hN
  try simp only [Act.put, List.setIfInBounds_toArray, List.set_cons_zero, List.set_cons_succ]
  refine held_value 11 16 (.bool true) rfl rfl (by kernel_rfl) (by kernel_rfl) (by kernel_rfl) rfl hH (fun w hw => by go_simp) ?_
  try simp only [Act.put, List.setIfInBounds_toArray, List.set_cons_zero, List.set_cons_succ]
  refine held_value 12 17 (.pointer (some ⟨g2, 16, none⟩)) rfl rfl (by kernel_rfl) (by kernel_rfl) (by kernel_rfl) rfl hH (fun w hw => by go_simp) ?_
  try simp only [Act.put, List.setIfInBounds_toArray, List.set_cons_zero, List.set_cons_succ]
  refine held_part 13 18 rowF rfl rfl (by kernel_rfl) (by kernel_rfl) (by kernel_rfl) rfl hH rfl rfl part_y16 (fun _ h => h.1) ?_
  try simp only [Act.put, List.setIfInBounds_toArray, List.set_cons_zero, List.set_cons_succ]
  refine held_value 14 19 (.pointer (some ⟨g3, 32, none⟩)) rfl rfl (by kernel_rfl) (by kernel_rfl) (by kernel_rfl) rfl hH (fun w hw => by go_simp) ?_
  try simp only [Act.put, List.setIfInBounds_toArray, List.set_cons_zero, List.set_cons_succ]
  refine held_part 15 20 rowF rfl rfl (by kernel_rfl) (by kernel_rfl) (by kernel_rfl) rfl hH rfl rfl part_z16 (fun _ h => h.2) ?_
  try simp only [Act.put, List.setIfInBounds_toArray, List.set_cons_zero, List.set_cons_succ]
  refine held_value 17 22 (.pointer (some ⟨g3, 16, none⟩)) rfl rfl (by kernel_rfl) (by kernel_rfl) (by kernel_rfl) rfl hH (fun w hw => by go_simp) ?_
  try simp only [Act.put, List.setIfInBounds_toArray, List.set_cons_zero, List.set_cons_succ]
  refine held_part 18 23 rowF rfl rfl (by kernel_rfl) (by kernel_rfl) (by kernel_rfl) rfl hH rfl rfl part_y16 (fun _ h => h.2) ?_
  try simp only [Act.put, List.setIfInBounds_toArray, List.set_cons_zero, List.set_cons_succ]
  refine held_value 19 24 (.pointer (some ⟨g2, 32, none⟩)) rfl rfl (by kernel_rfl) (by kernel_rfl) (by kernel_rfl) rfl hH (fun w hw => by go_simp) ?_
  try simp only [Act.put, List.setIfInBounds_toArray, List.set_cons_zero, List.set_cons_succ]
  refine held_part 20 25 rowF rfl rfl (by kernel_rfl) (by kernel_rfl) (by kernel_rfl) rfl hH rfl rfl part_z16 (fun _ h => h.1) ?_
  try simp only [Act.put, List.setIfInBounds_toArray, List.set_cons_zero, List.set_cons_succ]
  refine wpAnyH_ready (rs := [16]) (by kernel_rfl) (by simp) ?_
  refine AllReadyH.cons (o := _) rfl (fun K hK => ?_) AllReadyH.nil
  go_simp
  refine (refMul_k _ _ _).mono ?_
  rintro e wc ⟨rfl, hb⟩
  replace H := Lib.hid (H.out.call hb)
  refine hK.out _ _ (⟨H.out.row 1 rfl, H.out.row 0 rfl⟩) (fun hN => ?_)
  clear hK K hH hb
  have hH := hN
  clear hN
  try simp only [Act.put, List.setIfInBounds_toArray, List.set_cons_zero, List.set_cons_succ]
  refine wpAnyH_ready (rs := [21]) (by kernel_rfl) (by simp) ?_
  refine AllReadyH.cons (o := _) rfl (fun K hK => ?_) AllReadyH.nil
  go_simp
  refine (refMul_k _ _ _).mono ?_
  rintro e wc ⟨rfl, hb⟩
  replace H := Lib.hid (H.out.call hb)
  refine hK.out _ _ (⟨H.out.row 1 rfl, H.out.row 0 rfl⟩) (fun hN => ?_)
  clear hK K hH hb
  have hH := hN
  clear hN
  try simp only [Act.put, List.setIfInBounds_toArray, List.set_cons_zero, List.set_cons_succ]
  refine wpAnyH_ready (rs := [22]) (by kernel_rfl) (by simp) ?_
  refine AllReadyH.cons (o := _) rfl (fun K hK => ?_) AllReadyH.nil
  go_simp
  refine (refSame_b _ _ _ HB.out).mono ?_
  rintro e wc ⟨rfl, hb⟩
  replace H := Lib.hid (H.out.call hb)
  refine hK.out _ _ (⟨H.out.row 1 rfl, H.out.row 0 rfl⟩) (fun hN => ?_)
  clear hK K hH hb
  have hH := hN
  clear hN
  try simp only [Act.put, List.setIfInBounds_toArray, List.set_cons_zero, List.set_cons_succ]
  refine held_value 23 28 (.bool b) rfl rfl (by kernel_rfl) (by kernel_rfl) (by kernel_rfl) rfl hH (fun w hw => by go_simp) ?_
  try simp only [Act.put, List.setIfInBounds_toArray, List.set_cons_zero, List.set_cons_succ]
  refine held_value 24 4 (.bool b) rfl rfl (by kernel_rfl) (by kernel_rfl) (by kernel_rfl) rfl hH (fun w hw => by go_simp) ?_
  try simp only [Act.put, List.setIfInBounds_toArray, List.set_cons_zero, List.set_cons_succ]
  try simp only [Act.put]
  refine wpAnyH_done (by kernel_rfl) ?_ _
  refine NoPanic.normal ?_
  clear hH
  go_wp2_with fail
  go_ret
  exact ⟨rfl, H.out.bel⟩
theorem refPtSame_k {v1 v2 : Nat → Int} {P1 P2 : Pt pN dK} (w : World) (q1 : RfK v1 P1) (q2 : RfK v2 P2) {b : Bool} (hb : decide (P1 = P2) = b) :
    Calls Tryd.prog 28 #[QO v1, QO v2] w fun e w' => e = .returned (.bool b) ∧ Below w.heap.size w w' := by
  obtain ⟨X1, Y1, Z1, rfl, r1⟩ := q1.is
  have R1 := Lib.hid r1
  clear q1 r1
  obtain ⟨X2, Y2, Z2, rfl, r2⟩ := q2.is
  have R2 := Lib.hid r2
  clear q2 r2
  have hs := Rp.same edK R1.out R2.out
  by_cases h : X1 * Z2 = X2 * Z1
  · refine refPtSame_yes w h b ?_
    rw [← hb]
    exact decide_eq_decide.2 ⟨fun e => hs.2 ⟨h, e⟩, fun e => (hs.1 e).2⟩
  · rw [← hb, decide_eq_false (fun e => h (hs.1 e).1)]
    exact refPtSame_no w h
end Go.Proofs.YthdapglpaaigaaaDoor
