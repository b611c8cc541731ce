/-
  The walk of CodingEach. No statement is proved here: lemmas for the walks.
-/
import Derived.Test.YtanfobboeehiaaaDoorBuM
import Derived.Test.YtanfobboeehiaaaDoorZClEachN
import Derived.Test.YtanfobboeehiaaaDoorZClEachZ
import Derived.Test.YtanfobboeehiaaaDoorZClEachT
namespace Go.Proofs.YtanfobboeehiaaaDoor
open Go.RowKit

theorem each_walk (u : Nat → BitVec 8) (w : World) (hT : Tp w) :
    Calls Tryd.prog 7 #[.agg (AZ .u8 56 (UB u))] w fun e w' => e = .returned (.bool true) ∧ Below w.heap.size w w' := by
  obtain ⟨x, hx, hu⟩ := bytes_of u 56
  have e : AZ .u8 56 (UB u) = AZ .u8 56 (UB (bt x)) := AZ_congr fun i hi => by
    unfold UB
    rw [hu i hi]
  rw [e]
  have h64 := each_last (v := 64) hx (by decide) (by decide)
  have h129 := each_last (v := 129) hx (by decide) (by decide)
  by_cases h : pN ≤ x
  · obtain ⟨y, hD⟩ := fdec_far hx h
    exact each_walk_far w hT hx rfl rfl rfl rfl (each_high hx h) (each_high hx h) h64 h129 hD
  · obtain ⟨y, hy, hD⟩ := fdec_near hx (by omega)
    cases hi : cdIs y with
    | false => exact each_walk_none w hT hx rfl rfl rfl rfl hi (each_none hx hy hi) (each_none hx hy hi) h64 h129 hD
    | true =>
      by_cases h0 : ab (cdQ y) = 0
      · exact each_walk_zero w hT hx rfl rfl rfl rfl hi (pE_x hi) (decide_eq_true h0) (each_on hy hi) (each_zero hx hy hi h0) h64 h129 hD
      · exact each_walk_two w hT hx rfl rfl rfl rfl hi (pE_x hi) (decide_eq_false h0) (each_on hy hi) (each_neg hy hi h0) h64 h129 hD
end Go.Proofs.YtanfobboeehiaaaDoor
