/-
  The walk of CombNil. No statement is proved here: lemmas for the walks.
-/
import Derived.Test.YtjcfoilfdmameaaDoorZCbAwake
import Derived.Deep.CutRange
namespace Go.Proofs.YtjcfoilfdmameaaDoor
open Go.RowKit

set_option maxRecDepth 8000 in
set_option maxHeartbeats 3200000 in
theorem nils_many {a : Option Addr} {n c : Nat} (i : Int) (w : World) (hT : Tp w) (hn : 20 < n) :
    Calls Tryd.prog 4 #[.int .i64 i, .slice a n c] w fun e w' => e = .returned (.bool true) ∧ Below w.heap.size w w' := by
  have d1 : decide ((20 : Int) < (n : Int)) = true := by simp; omega
  clear hn
  have HT := Lib.hid hT
  clear hT
  have H := Lib.hid (Ow.start w)
  go_enter Tryd.func4, Tryd.ntmps4
  go_wp2_with (first
    | ((with_reducible refine (awake11_k _ (HT.out.below H.out.bel)).mono ?_); rintro e wc ⟨rfl, hb⟩; replace H := Lib.hid (H.out.call hb); clear hb))
  go_ret
  exact ⟨rfl, H.out.bel⟩
set_option maxRecDepth 8000 in
set_option maxHeartbeats 3200000 in
theorem nils_few {a : Option Addr} {n c : Nat} (i : Int) (w : World) (hT : Tp w) (hn : n ≤ 20) :
    Calls Tryd.prog 4 #[.int .i64 i, .slice a n c] w fun e w' => e = .returned (.bool true) ∧ Below w.heap.size w w' := by
  have d1 : decide ((20 : Int) < (n : Int)) = false := by simp; omega
  clear hn
  have HT := Lib.hid hT
  clear hT
  have H := Lib.hid (Ow.start w)
  go_enter Tryd.func4, Tryd.ntmps4
  go_wp2_with (first
    | ((fail_if_success have := m1); (with_reducible refine (tlook_nil _ (HT.out.below H.out.bel) i).mono ?_); rintro e wc ⟨r1, rfl, hb⟩; replace H := Lib.hid (H.out.call hb); have m1 := trivial; clear hb)
    | ((fail_if_success have := g6); (with_reducible apply own_alloc nilPt H); (case hgd => exact rfl); (case ho => exact rfl); intro w6 g6 H' _ _; replace H := H'; clear H'; go_simp)
    | ((with_reducible apply own_store rowPt H); (case hgd => exact rfl); (case ho => exact rfl); (case hx => exact rfl); (case hy => exact rfl); (case hi => first | exact at0 | exact at1 | exact at2 | exact at3 | exact at4 | exact at5 | exact at6 | exact at7 | exact at8 | exact at9); intro ws H' _ _; replace H := H'; clear H'; simp only [List.set_cons_zero] at H; go_simp)
    | ((fail_if_success have := m2); (with_reducible refine (tmult_nil _ (HT.out.below H.out.bel)).mono ?_); rintro e wc ⟨r2, rfl, hb⟩; replace H := Lib.hid (H.out.call hb); have m2 := trivial; clear hb)
    | ((fail_if_success have := g8); (with_reducible apply own_alloc nilPt H); (case hgd => exact rfl); (case ho => exact rfl); intro w8 g8 H' _ _; replace H := H'; clear H'; go_simp)
    | ((fail_if_success have := m3); (with_reducible refine (tlen_nil _).mono ?_); rintro e wc ⟨rfl, hb⟩; replace H := Lib.hid (H.out.call hb); have m3 := trivial; clear hb)
    | ((with_reducible refine (awake11_k _ (HT.out.below H.out.bel)).mono ?_); rintro e wc ⟨rfl, hb⟩; replace H := Lib.hid (H.out.call hb); clear hb))
  go_ret
  exact ⟨rfl, H.out.bel⟩
theorem nils_walk {a : Option Addr} {n c : Nat} (i : Int) (w : World) (hT : Tp w) :
    Calls Tryd.prog 4 #[.int .i64 i, .slice a n c] w fun e w' => e = .returned (.bool true) ∧ Below w.heap.size w w' := by
  by_cases h : 20 < n
  · exact nils_many i w hT h
  · exact nils_few i w hT (by omega)
end Go.Proofs.YtjcfoilfdmameaaDoor
