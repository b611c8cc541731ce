/-
  The contract of package root's Power. No statement is proved here: lemmas for the walks.
-/
import Derived.Test.YtgcdahcmfniceaaDoorZRtK
import Derived.Test.YtgcdahcmfniceaaDoorBuR
import Derived.Test.YtgcdahcmfniceaaDoorZRtAbs
namespace Go.Proofs.YtgcdahcmfniceaaDoor
open Go.RowKit

theorem pow_bit (a : K) (x k : Nat) : a ^ (x / 2 ^ k) = a ^ (x / 2 ^ (k + 1)) * a ^ (x / 2 ^ (k + 1)) * (if x / 2 ^ k % 2 = 0 then 1 else a) := by
  have e : x / 2 ^ (k + 1) = x / 2 ^ k / 2 := (half_once x k).symm
  rw [e]
  generalize x / 2 ^ k = y
  rw [← fp_pow_add]
  split
  · rw [show y / 2 + y / 2 = y by omega]
    grind
  · rw [← fp_pow_succ, show y / 2 + y / 2 + 1 = y by omega]
theorem pow_bit0 {a : K} {x k : Nat} (h : x / 2 ^ k % 2 = 0) : a ^ (x / 2 ^ (k + 1)) * a ^ (x / 2 ^ (k + 1)) = a ^ (x / 2 ^ k) := by
  rw [pow_bit a x k, if_pos h]
  grind
theorem pow_bit1 {a : K} {x k : Nat} (h : x / 2 ^ k % 2 = 1) : a ^ (x / 2 ^ (k + 1)) * a ^ (x / 2 ^ (k + 1)) * a = a ^ (x / 2 ^ k) := by rw [pow_bit a x k, if_neg (by omega)]
























































































end Go.Proofs.YtgcdahcmfniceaaDoor
