/-
 The contracts of the reference's points: Identity, D, On, Neg, Affine, Same. No statement is proved here: lemmas for the walks.
-/
import Derived.Test.YtoeokhfhcpcjlaaGreatDoorBuH
import Derived.Test.YtoeokhfhcpcjlaaGreatDoorBuL
import Derived.Deep.CutRange
set_option maxRecDepth 8000
set_option maxHeartbeats 3200000
namespace Go.Proofs.YtoeokhfhcpcjlaaGreatDoor
open Go.RowKit
theorem z6p (a b : K) (w : World) : Calls Tryz.prog 54 #[FV a.val, FV b.val] w fun e w' => e = .returned (FV (a + b).val) ∧ Below w.heap.size w w' := by
 rw [Fin.val_add]
 exact z56 _ _ w a.isLt b.isLt
theorem z3t (a b : K) (w : World) : Calls Tryz.prog 56 #[FV a.val, FV b.val] w fun e w' => e = .returned (FV (a - b).val) ∧ Below w.heap.size w w' := by
 rw [Fin.sub_def]
 have := refSub_any a.val b.val w a.isLt b.isLt
 rw [Nat.add_comm] at this
 exact this
theorem refInv_k (a : K) (w : World) : Calls Tryz.prog 94 #[FV a.val] w fun e w' => e = .returned (FV (inv a).val) ∧ Below w.heap.size w w' := refInverse_k w
theorem refD_k (w : World) : Calls Tryz.prog 84 #[] w fun e w' => e = .returned (FV dK.val) ∧ Below w.heap.size w w' := by
 have HD := Lib.hid y07
 obtain ⟨d, hd⟩ : ∃ d, dK = d := ⟨_, rfl⟩
 rw [hd] at HD ⊢
 clear hd
 have H := Lib.hid (Ow.start w)
 go_enter Tryz.func84, Tryz.ntmps84
 go_wp2_with (first
  | ((fail_if_success have := g1); (with_reducible apply z0b intsF.zero H); (case hgd | ho => exact rfl); clear H; intro w1 g1 H _ _; go_simp)
  | ((with_reducible refine (z1d _ (-39081) (by omega) (by omega)).mono ?_); rintro e wc ⟨rfl, hb⟩; replace H := hcall H hb; clear hb; rw [HD.out])
  | ((with_reducible apply z0e rowF H); (case hgd | ho | hx | hy => exact rfl); (case hi => repeat first|exact at0|apply atS); clear H; intro ws H _ _; simp only [qb] at H; go_simp))
 exact bodyPost_ret (z0i 0 rowF rfl _ H rfl rfl) rfl ⟨rfl, H.out.bel⟩
theorem z1u (w : World) : Calls Tryz.prog 44 #[] w fun e w' => ∃ r, e = .returned (QO r) ∧ RfK r pzero ∧ Below w.heap.size w w' := by
 have H := Lib.hid (Ow.start w)
 go_enter Tryz.func44, Tryz.ntmps44
 go_wp2_with (first
  | ((fail_if_success have := g1); (with_reducible apply z0b nilQt H); (case hgd | ho => exact rfl); clear H; intro w1 g1 H _ _; go_simp)
  | ((with_reducible apply lay_build_F0); (case hgd | ho => exact rfl); intro _ _; go_simp)
  | ((with_reducible refine (z1d _ 1 (by omega) (by omega)).mono ?_); rintro e wc ⟨rfl, hb⟩; replace H := hcall H hb; clear hb)
  | ((with_reducible apply z1h); (case hgd | ho | hx | hy | hz => exact rfl); intro _ _; go_simp)
  | ((with_reducible apply z0e rowQt H); (case hgd | ho | hx | hy => exact rfl); (case hi => repeat first|exact at0|apply atS); clear H; intro ws H _ _; simp only [qb] at H; go_simp))
 exact bodyPost_ret (z0i 0 rowQt rfl _ H rfl rfl) rfl ⟨_, rfl, ⟨0, _, _, rfl, by rw [z0t]; exact Rp.zero edK⟩, H.out.bel⟩
theorem z5e {v1 : Nat → Int} {P1 : Pt pN dK} (w : World) (q1 : RfK v1 P1) :
  Calls Tryz.prog 52 #[QO v1] w fun e w' => e = .returned (.tuple #[FV P1.x.val, FV P1.y.val]) ∧ Below w.heap.size w w' := by
 obtain ⟨X1, Y1, Z1, rfl, r1⟩ := q1.is
 have R1 := Lib.hid r1
 clear q1 r1
 have HA := Lib.hid (R1.out.affine edK)
 have H := Lib.hid (Ow.start w)
 go_enter Tryz.func52, Tryz.ntmps52
 go_wp2_with (first
  | ((fail_if_success have := g1); (with_reducible apply z0h H); (case hgd | ho | hx => exact rfl); clear H; intro w1 g1 H _ _; go_simp)
  | ((fail_if_success have := g2); (with_reducible apply z0b intsF.zero H); (case hgd | ho => exact rfl); clear H; intro w2 g2 H _ _; go_simp)
  | ((fail_if_success have := g3); (fail_if_success have := g3); (with_reducible apply z0b intsF.zero H); (case hgd | ho => exact rfl); clear H; intro w3 g3 H _ _; go_simp)
  | ((with_reducible apply z4j rowF H); (case hgd | ho | hx => exact rfl); (case hi => repeat first|exact at0|apply atS); (case hp => first | exact z30 | exact z3z | exact z85); intro _ _; go_simp)
  | ((with_reducible refine (refInv_k Z1 _).mono ?_); rintro e wc ⟨rfl, hb⟩; replace H := hcall H hb; clear hb)
  | ((fail_if_success have := g4); (fail_if_success have := g4); (with_reducible apply z0b intsF.zero H); (case hgd | ho => exact rfl); clear H; intro w4 g4 H _ _; go_simp)
  | ((with_reducible apply z0e rowF H); (case hgd | ho | hx | hy => exact rfl); (case hi => repeat first|exact at0|apply atS); clear H; intro ws H _ _; simp only [qb] at H; go_simp))
 refine wp_region_noPanic ?_
 refine wp_region_held_drew (S := fun W => W.heap[g1]? = some (Blk 40 .i64 48 ((t3 16 (dF (X1).val) (dF (Y1).val) (dF (Z1).val)))) ∧ W.heap[g4]? = some (Blk 31 .i64 16 (dF ((inv Z1)).val))) (by kernel_rfl) (⟨H.out.drew.row 3 rfl, H.out.drew.row 0 rfl⟩) (fun hH => ?_)
 replace H := Lib.hid H.out.drew
 generalize World.drew _ = w8 at *
 refine z0a 0 8 (.pointer (some ⟨g1, 0, none⟩)) rfl rfl rfl hH (fun w hw => by go_simp) ?_
 try simp only [Act.put, qa, qb, qc]
 refine z0k 1 9 rowF rfl rfl rfl hH rfl rfl z30 (fun _ h => h.1) ?_
 try simp only [Act.put, qa, qb, qc]
 refine z0f 2 10 rowF rfl rfl rfl hH rfl rfl (fun _ h => h.2) ?_
 try simp only [Act.put, qa, qb, qc]
 refine z0a 4 12 (.pointer (some ⟨g1, 16, none⟩)) rfl rfl rfl hH (fun w hw => by go_simp) ?_
 try simp only [Act.put, qa, qb, qc]
 refine z0k 5 13 rowF rfl rfl rfl hH rfl rfl z3z (fun _ h => h.1) ?_
 try simp only [Act.put, qa, qb, qc]
 refine z0f 6 14 rowF rfl rfl rfl hH rfl rfl (fun _ h => h.2) ?_
 try simp only [Act.put, qa, qb, qc]
 refine rd1 3 rfl fun K hK => ?_
 go_simp
 refine (z0q _ _ _).mono ?_
 rintro e wc ⟨rfl, hb⟩
 replace H := hcall H hb
 clear hH
 refine hK.out _ _ ⟨H.out.row 3 rfl, H.out.row 0 rfl⟩ fun hH => ?_
 clear hK K hb
 try simp only [Act.put, qa, qb, qc]
 refine rd1 7 rfl fun K hK => ?_
 go_simp
 refine (z0q _ _ _).mono ?_
 rintro e wc ⟨rfl, hb⟩
 replace H := hcall H hb
 clear hH
 refine hK.out _ _ ⟨H.out.row 3 rfl, H.out.row 0 rfl⟩ fun hH => ?_
 clear hK K hb
 try simp only [Act.put, qa, qb, qc]
 refine rd1 8 rfl fun K hK => ?_
 refine z0d 2 rowF H.out rfl rfl rfl rfl ?_
 intro ws HS
 simp only [qb, qc] at HS
 replace H := Lib.hid HS
 clear hH
 refine hK.out _ _ ⟨H.out.row 3 rfl, H.out.row 0 rfl⟩ fun hH => ?_
 clear hK K HS
 try simp only [Act.put, qa]
 refine rd1 9 rfl fun K hK => ?_
 refine z0d 1 rowF H.out rfl rfl rfl rfl ?_
 intro ws HS
 simp only [qb, qc] at HS
 replace H := Lib.hid HS
 clear hH
 refine hK.out _ _ ⟨H.out.row 3 rfl, H.out.row 0 rfl⟩ fun hH => ?_
 clear hK K HS
 try simp only [Act.put]
 try simp only [Act.put]
 refine wpAnyH_done (by kernel_rfl) ?_ _
 refine NoPanic.normal ?_
 clear hH
 go_wp2_with fail
 rw [HA.out.1, HA.out.2] at H
 exact bodyPost_ret (z5l 2 1 rowF rfl _ H rfl rfl rfl rfl) rfl ⟨rfl, H.out.bel⟩
end Go.Proofs.YtoeokhfhcpcjlaaGreatDoor
