/-
  The walk of RootScales. No statement is proved here: lemmas for the walks.
-/
import Derived.Test.YtgcdahcmfniceaaDoorZRtScales0
import Derived.Test.YtgcdahcmfniceaaDoorZRtScalesN
namespace Go.Proofs.YtgcdahcmfniceaaDoor
open Go.RowKit

/-- What Made makes of a Raw. -/
theorem raw_m (u : Nat → BitVec 8) : ∃ (f : Nat → Nat) (a : K), (∀ w, Calls Tryd.prog 4 #[.agg (AZ .u8 56 (UB u))] w fun e w' => e = .returned (.tuple #[EV f, .bool true]) ∧ Below w.heap.size w w') ∧ EK f a :=
  ⟨_, ⟨_, Nat.mod_lt _ pN_pos⟩, made_any u, of_v u⟩
set_option maxRecDepth 20000 in
set_option maxHeartbeats 12800000 in
theorem scales_walk (u v z : Nat → BitVec 8) (w : World) (hT : Tp w) :
    Calls Tryd.prog 3 #[.agg (AZ .u8 56 (UB u)), .agg (AZ .u8 56 (UB v)), .agg (AZ .u8 56 (UB z))] w fun e w' => e = .returned (.bool true) ∧ Below w.heap.size w w' := by
  obtain ⟨f, a, hm, hv⟩ := raw_m u
  obtain ⟨g, b, hm2, hv2⟩ := raw_m v
  obtain ⟨k, c, hm3, hv3⟩ := raw_m z
  have hr := fun w hT => ratio_k w hT hv hv2
  by_cases hc : c = 0
  · exact scales_zero u v z w hT f g k a b c _ _ _ _ hm hm2 hm3 hv hv2 hv3 hc hr (fun p q w hT hp hq => ratio_k w hT hp hq)
  · exact scales_non u v z w hT f g k a b c _ _ hm hm2 hm3 hv hv2 hv3 hc hr (fun p q w hT hp hq => by
      have := ratio_k w hT hp hq
      rw [scale_ab a b hc, scale_is a b hc] at this
      exact this)
end Go.Proofs.YtgcdahcmfniceaaDoor
