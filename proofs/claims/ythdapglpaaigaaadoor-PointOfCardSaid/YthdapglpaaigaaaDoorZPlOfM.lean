/-
  The walk of PointOf: what it wants. No statement is proved here: lemmas for the walks.
-/
import Derived.Test.YthdapglpaaigaaaDoorZPlAwake
import Derived.Deep.CutRange
namespace Go.Proofs.YthdapglpaaigaaaDoor
open Go.RowKit

theorem neg_on (P : Pt pN dK) : (-P.x) * (-P.x) + P.y * P.y = 1 + dK * ((-P.x) * (-P.x) * (P.y * P.y)) := (pneg P).on
theorem neg_is (P : Pt pN dK) : (⟨-P.x, P.y, neg_on P⟩ : Pt pN dK) = pneg P := rfl
end Go.Proofs.YthdapglpaaigaaaDoor
