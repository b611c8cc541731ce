/-
  The walk of RootWhole: what it wants. No statement is proved here: lemmas for the walks.
-/
import Derived.Test.YtgcdahcmfniceaaDoorZRtAwk
import Derived.Test.YtgcdahcmfniceaaDoorZRtTakes
namespace Go.Proofs.YtgcdahcmfniceaaDoor
open Go.RowKit

theorem fp_mul_comm_one (a : K) {b : K} (h : b * a = 1) : a * b = 1 := by grind
theorem zero_sq : (0 : K) = 0 * 0 := by grind
theorem zero_neg : -(0 : K) = 0 * 0 := by grind
theorem sq_case {a : K} (ha : a ≠ 0) (h : a ^ (eC + 1) * a ^ (eC + 1) = a) : (-a) ^ (eC + 1) * (-a) ^ (eC + 1) ≠ -a := fun h2 => by
  have := neg_no_sq prime_pN pN_c (a := (-a) ^ (eC + 1)) (b := a ^ (eC + 1)) (by rw [h2, h])
  exact ha (by rw [← h, this.2]; grind)
theorem non_case {a : K} (ha : a ≠ 0) (h : a ^ (eC + 1) * a ^ (eC + 1) ≠ a) : -a = a ^ (eC + 1) * a ^ (eC + 1) := by
  rw [up_sq] at h ⊢
  rcases euler prime_pN pN_c ha with e | e
  · exact absurd (by rw [e]; grind) h
  · rw [e]
    grind
theorem odd_neg {a : K} (ha : a ≠ 0) : decide ((-a).val % 2 = 1) = !(decide (a.val % 2 = 1)) := by
  have h := neg_odd pN_odd ha
  by_cases e : a.val % 2 = 1
  · rw [decide_eq_true e, decide_eq_false (by omega)]
    rfl
  · rw [decide_eq_false e, decide_eq_true (by omega)]
    rfl
theorem bne_neg (o : Bool) : (o != !o) = true := by cases o <;> rfl
end Go.Proofs.YtgcdahcmfniceaaDoor
