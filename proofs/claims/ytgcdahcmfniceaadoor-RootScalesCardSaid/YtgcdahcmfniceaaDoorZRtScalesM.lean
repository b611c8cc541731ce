/-
  The walk of RootScales: what it wants. No statement is proved here: lemmas for the walks.
-/
import Derived.Test.YtgcdahcmfniceaaDoorZRtWholeM
import Derived.Test.YtgcdahcmfniceaaDoorZRtBy
import Derived.Deep.CutRange
namespace Go.Proofs.YtgcdahcmfniceaaDoor
open Go.RowKit

theorem rat_scale (x y z : K) : rat eC (x * z) (y * z) = rat eC x y * z ^ (2 * eC + 1) := by
  unfold rat
  rw [show x * z * (y * z) = (x * y) * (z * z) by grind, fp_mul_pow, fp_mul_pow z z, show 2 * eC + 1 = eC + eC + 1 by omega, fp_pow_succ z, fp_pow_add]
  generalize (x * y) ^ eC = p
  generalize z ^ eC = q
  grind
theorem scale_sq (x y : K) {z : K} (hz : z ≠ 0) : rat eC (x * z) (y * z) * rat eC (x * z) (y * z) = rat eC x y * rat eC x y := by
  rw [rat_scale]
  rcases euler prime_pN pN_c hz with e | e <;> rw [e] <;> grind
theorem scale_ab (x y : K) {z : K} (hz : z ≠ 0) : ab (rat eC (x * z) (y * z)) = ab (rat eC x y) := ab_same prime_pN pN_odd (scale_sq x y hz)
theorem scale_is (x y : K) {z : K} (hz : z ≠ 0) : decide (y * z * (rat eC (x * z) (y * z) * rat eC (x * z) (y * z)) = x * z) = decide (y * (rat eC x y * rat eC x y) = x) := by
  rw [scale_sq x y hz]
  generalize rat eC x y * rat eC x y = q
  apply decide_eq_decide.2
  constructor
  · intro h
    refine fp_cancel prime_pN hz ?_
    grind
  · intro h
    rw [← h]
    grind
theorem sq_prod (x y : K) : x * x * (y * y) = x * y * (x * y) := by grind
end Go.Proofs.YtgcdahcmfniceaaDoor
