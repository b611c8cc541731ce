/-
  The walk of CombSame. No statement is proved here: lemmas for the walks.
-/
import Derived.Test.YtjcfoilfdmameaaDoorZCbAwake
import Derived.Deep.CutRange
namespace Go.Proofs.YtjcfoilfdmameaaDoor
open Go.RowKit

set_option maxRecDepth 8000 in
set_option maxHeartbeats 3200000 in
theorem sames_eq (a : Int) (w : World) (hT : Tp w) (ha : -9223372036854775808 ≤ a ∧ a ≤ 9223372036854775807) :
    Calls Tryd.prog 3 #[.int .i64 a, .int .i64 a] w fun e w' => e = .returned (.bool true) ∧ Below w.heap.size w w' := by
  have HT := Lib.hid hT
  clear hT
  have H := Lib.hid (Ow.start w)
  go_enter Tryd.func3, Tryd.ntmps3
  go_wp2_with (first
    | ((with_reducible refine (csame_k a a _ ha.1 ha.2 ha.1 ha.2 (z := 1) (if_pos rfl)).mono ?_); rintro e wc ⟨rfl, hb⟩; replace H := Lib.hid (H.out.call hb); clear hb)
    | ((with_reducible refine (awake11_k _ (HT.out.below H.out.bel)).mono ?_); rintro e wc ⟨rfl, hb⟩; replace H := Lib.hid (H.out.call hb); clear hb))
  go_ret
  exact ⟨rfl, H.out.bel⟩
set_option maxRecDepth 8000 in
set_option maxHeartbeats 3200000 in
theorem sames_ne (a b : Int) (w : World) (hT : Tp w) (ha : -9223372036854775808 ≤ a ∧ a ≤ 9223372036854775807) (hb : -9223372036854775808 ≤ b ∧ b ≤ 9223372036854775807) (hne : a < b ∨ b < a) :
    Calls Tryd.prog 3 #[.int .i64 a, .int .i64 b] w fun e w' => e = .returned (.bool true) ∧ Below w.heap.size w w' := by
  have d1 : ¬ (a = b) := by omega
  have HNE := Lib.hid hne
  clear hne
  have HT := Lib.hid hT
  clear hT
  have H := Lib.hid (Ow.start w)
  go_enter Tryd.func3, Tryd.ntmps3
  go_upto_region 4 with fail
  clear d1
  go_wp2_with (first
    | ((fail_if_success have := mab); (with_reducible refine (csame_k a b _ ha.1 ha.2 hb.1 hb.2 (z := 0) (if_neg (by have := HNE.out; omega))).mono ?_); rintro e wc ⟨rfl, hb⟩; replace H := Lib.hid (H.out.call hb); have mab := trivial; clear hb)
    | ((fail_if_success have := mba); (with_reducible refine (csame_k b a _ hb.1 hb.2 ha.1 ha.2 (z := 0) (if_neg (by have := HNE.out; omega))).mono ?_); rintro e wc ⟨rfl, hb⟩; replace H := Lib.hid (H.out.call hb); have mba := trivial; clear hb)
    | ((fail_if_success have := maa); (with_reducible refine (csame_k a a _ ha.1 ha.2 ha.1 ha.2 (z := 1) (if_pos rfl)).mono ?_); rintro e wc ⟨rfl, hb⟩; replace H := Lib.hid (H.out.call hb); have maa := trivial; clear hb)
    | ((with_reducible refine (awake11_k _ (HT.out.below H.out.bel)).mono ?_); rintro e wc ⟨rfl, hb⟩; replace H := Lib.hid (H.out.call hb); clear hb))
  go_ret
  exact ⟨rfl, H.out.bel⟩
theorem sames_walk (a b : Int) (w : World) (hT : Tp w) (ha : -9223372036854775808 ≤ a ∧ a ≤ 9223372036854775807) (hb : -9223372036854775808 ≤ b ∧ b ≤ 9223372036854775807) :
    Calls Tryd.prog 3 #[.int .i64 a, .int .i64 b] w fun e w' => e = .returned (.bool true) ∧ Below w.heap.size w w' := by
  by_cases h : a = b
  · subst h
    exact sames_eq a w hT ha
  · exact sames_ne a b w hT ha hb (by omega)
end Go.Proofs.YtjcfoilfdmameaaDoor
