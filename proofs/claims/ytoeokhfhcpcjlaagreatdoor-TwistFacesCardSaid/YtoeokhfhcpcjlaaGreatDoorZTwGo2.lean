/-
 The contracts of twist's Add, Double, Neg, Identity and Affine. No statement is proved here: lemmas for the walks.
-/
import Derived.Test.YtoeokhfhcpcjlaaGreatDoorBuZ
import Derived.Test.YtoeokhfhcpcjlaaGreatDoorBuQ
import Derived.Deep.CutRange
set_option maxRecDepth 8000
set_option maxHeartbeats 3200000
namespace Go.Proofs.YtoeokhfhcpcjlaaGreatDoor
open Go.RowKit
theorem twIdentity_k (w : World) (hT : Tp w) :
  Calls Tryz.prog 33 #[] w fun e w' => ∃ r, e = .returned (TO r) ∧ TwK r pzero ∧ Below w.heap.size w w' := by
 have HT := Lib.hid hT
 clear hT
 have H := Lib.hid (Ow.start w)
 go_enter Tryz.func33, Tryz.ntmps33
 go_wp2_with (first
  | ((fail_if_success have := g0); (with_reducible apply z0b nilTO H); (case hgd | ho => exact rfl); clear H; intro w0 g0 H _ _; go_simp)
  | ((fail_if_success have := V1); (with_reducible refine (int_k (0) _ (HT.out.below H.out.bel) (by omega) (by omega)).mono ?_); rintro e wc ⟨h1, rfl, hv, hb⟩; replace H := hcall H hb; clear hb; have V1 := Lib.hid hv; clear hv)
  | ((fail_if_success have := V2); (with_reducible refine (int_k (1) _ (HT.out.below H.out.bel) (by omega) (by omega)).mono ?_); rintro e wc ⟨h2, rfl, hv, hb⟩; replace H := hcall H hb; clear hb; have V2 := Lib.hid hv; clear hv)
  | ((with_reducible apply z4w); (case hgd | ho | hx | hy => exact rfl); intro _ _; go_simp)
  | ((with_reducible apply z0e rowTO H); (case hgd | ho | hx | hy => exact rfl); (case hi => repeat first|exact at0|apply atS); clear H; intro ws H _ _; simp only [qb] at H; go_simp))
 exact bodyPost_ret (z0i 0 rowTO rfl _ H rfl rfl) rfl ⟨_, rfl, (TwX.mk2 V1.out V2.out).eq (y1f.trans z4b.symm) (y1g.trans z5w.symm), H.out.bel⟩
end Go.Proofs.YtoeokhfhcpcjlaaGreatDoor
