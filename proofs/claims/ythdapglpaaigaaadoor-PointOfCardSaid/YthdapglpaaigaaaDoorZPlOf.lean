/-
  The walk of PointOf. No statement is proved here: lemmas for the walks.
-/
import Derived.Test.YthdapglpaaigaaaDoorZPlOfOn
import Derived.Test.YthdapglpaaigaaaDoorZPlOfOff
import Derived.Deep.CutRange
namespace Go.Proofs.YthdapglpaaigaaaDoor
open Go.RowKit

theorem of_walk (p q u : Nat → BitVec 8) (y : Int) (w : World) (hT : Tp w) :
    Calls Tryd.prog 3 #[.agg (AZ .u8 56 (UB p)), .agg (AZ .u8 56 (UB q)), .agg (SpotA u y)] w fun e w' => e = .returned (.bool true) ∧ Below w.heap.size w w' := by
  obtain ⟨f, a, m1, n1, hf⟩ := raw_k p
  obtain ⟨g, b, m2, n2, hg⟩ := raw_k q
  by_cases hc : a * a + b * b = 1 + dK * (a * a * (b * b))
  · exact of_on p q u y f g a b w hT m1 m2 n1 n2 hf hg hc
  · exact of_off p q u y f g a b w hT m1 m2 n1 n2 hf hg hc
end Go.Proofs.YthdapglpaaigaaaDoor
