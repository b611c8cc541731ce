/-
  The walk of RootWhole. No statement is proved here: lemmas for the walks.
-/
import Derived.Test.YtieoapcakdaelaaDoorZRtWhole0
import Derived.Test.YtieoapcakdaelaaDoorZRtWholeS
import Derived.Test.YtieoapcakdaelaaDoorZRtWholeN
namespace Go.Proofs.YtieoapcakdaelaaDoor
open Go.RowKit

set_option maxRecDepth 20000 in
set_option maxHeartbeats 12800000 in
theorem whole_walk (u : Nat → BitVec 8) (w : World) (hT : Tp w) :
    Calls Tryd.prog 8 #[.agg (AZ .u8 56 (UB u))] w fun e w' => e = .returned (.bool true) ∧ Below w.heap.size w w' := by
  obtain ⟨f, a, hm, _, hv⟩ := raw_k u
  by_cases ha : a = 0
  · subst ha
    exact whole_zero u w hT f hm hv
  · by_cases hq : a ^ (eC + 1) * a ^ (eC + 1) = a
    · exact whole_sq u w hT f a hm hv ha hq
    · exact whole_non u w hT f a hm hv ha hq
end Go.Proofs.YtieoapcakdaelaaDoor
