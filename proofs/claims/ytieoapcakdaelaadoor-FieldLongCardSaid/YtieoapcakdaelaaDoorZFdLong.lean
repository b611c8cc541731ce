/-
  The walk of FieldLong.
-/
import Derived.Test.YtieoapcakdaelaaDoorZFdLong3
namespace Go.Proofs.YtieoapcakdaelaaDoor
open Go.RowKit

set_option maxRecDepth 20000 in
set_option maxHeartbeats 3200000 in
theorem long_far (a b : Nat → BitVec 8) (ad : Option Addr) (n c : Nat) (w : World) (hT : Tp w) (h40 : 40 < n) (_hn : n ≤ maxLen) :
    Calls Tryd.prog 3 #[.agg (AZ .u8 56 (UB a)), .agg (AZ .u8 56 (UB b)), .slice ad n c] w fun e w' => e = .returned (.bool true) ∧ Below w.heap.size w w' := by
  obtain ⟨f, x, hm1, hp1, hv1, hl1, -⟩ := raw_facts a
  have HM1 := Lib.hid hm1
  have HP1 := Lib.hid hp1
  have HV1 := Lib.hid hv1
  clear hm1 hp1 hv1 hl1
  obtain ⟨g, y, hm2, hp2, hv2, hl2, -⟩ := raw_facts b
  have HM2 := Lib.hid hm2
  have HP2 := Lib.hid hp2
  have HV2 := Lib.hid hv2
  clear hm2 hp2 hv2 hl2
  have HT := Lib.hid hT
  clear hT
  have hN : decide ((40 : Int) < (n : Int)) = true := by simp; omega
  have hN' : (40 : Int) < (n : Int) := by omega
  have H := Lib.hid (Ow.start w)
  go_enter Tryd.func3, Tryd.ntmps3
  go_wp2_with (first
    | ((fail_if_success have := g1); (with_reducible apply own_box H); (case hgd => exact rfl); (case ho => exact rfl); (case hx => exact rfl); intro w1 g1 H' _ _; replace H := H'; clear H'; go_simp)
    | ((fail_if_success have := g2); (with_reducible apply own_box H); (case hgd => exact rfl); (case ho => exact rfl); (case hx => exact rfl); intro w2 g2 H' _ _; replace H := H'; clear H'; go_simp)
    | ((with_reducible apply own_load rowB H); (case hgd => exact rfl); (case ho => exact rfl); (case hx => exact rfl); (case hi => first | exact at0 | exact at1 | exact at2 | exact at3 | exact at4 | exact at5 | exact at6); intro _ _; go_simp)
    | ((with_reducible refine (HM1.out _).mono ?_); rintro e wc ⟨rfl, hb⟩; replace H := Lib.hid (H.out.call hb); clear hb)
    | ((with_reducible refine (HM2.out _).mono ?_); rintro e wc ⟨rfl, hb⟩; replace H := Lib.hid (H.out.call hb); clear hb)
    | ((fail_if_success have := g3); (with_reducible apply own_alloc nilE H); (case hgd => exact rfl); (case ho => exact rfl); intro w3 g3 H' _ _; replace H := H'; clear H'; go_simp)
    | ((fail_if_success have := g4); (with_reducible apply own_alloc nilE H); (case hgd => exact rfl); (case ho => exact rfl); intro w4 g4 H' _ _; replace H := H'; clear H'; go_simp)
    | ((with_reducible apply own_store rowE H); (case hgd => exact rfl); (case ho => exact rfl); (case hx => exact rfl); (case hy => exact rfl); (case hi => first | exact at0 | exact at1 | exact at2 | exact at3 | exact at4 | exact at5 | exact at6); intro ws H' _ _; replace H := H'; clear H'; simp only [List.set_cons_zero] at H; go_simp)
    | ((with_reducible apply own_load rowE H); (case hgd => exact rfl); (case ho => exact rfl); (case hx => exact rfl); (case hi => first | exact at0 | exact at1 | exact at2 | exact at3 | exact at4 | exact at5 | exact at6); intro _ _; go_simp)
    | ((with_reducible refine (awake_any _ (HT.out.below H.out.bel)).mono ?_); rintro e wc ⟨rfl, hb⟩; replace H := Lib.hid (H.out.call hb); clear hb))
  go_ret
  exact ⟨rfl, H.out.bel⟩
end Go.Proofs.YtieoapcakdaelaaDoor
