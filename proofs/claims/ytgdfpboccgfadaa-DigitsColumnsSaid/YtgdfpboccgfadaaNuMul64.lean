/-
  The contracts of math/bits.Mul64 and Len64.
-/
import Derived.Test.YtgdfpboccgfadaaNuLeaf
import Derived.Test.YtgdfpboccgfadaaMulN
import Derived.Lib.Mul64
import Derived.Laws.Bits64b
namespace Go.Proofs.Ytgdfpboccgfadaa
open Go.RowKit

/-- The two halves of a product. -/
def mhi (a b : BitVec 64) : BitVec 64 := BitVec.ofNat 64 (a.toNat * b.toNat / 18446744073709551616)
def mlo (a b : BitVec 64) : BitVec 64 := BitVec.ofNat 64 (a.toNat * b.toNat)
theorem mul_lt (a b : BitVec 64) : a.toNat * b.toNat / 18446744073709551616 < 18446744073709551616 := by
  have h1 : a.toNat ≤ 18446744073709551615 := by have := a.isLt; omega
  have h2 : b.toNat ≤ 18446744073709551615 := by have := b.isLt; omega
  have := Nat.mul_le_mul h1 h2
  omega
theorem mhi_nat (a b : BitVec 64) : (mhi a b).toNat = a.toNat * b.toNat / 18446744073709551616 := by
  unfold mhi; rw [BitVec.toNat_ofNat]; exact Nat.mod_eq_of_lt (mul_lt a b)
theorem mlo_nat (a b : BitVec 64) : (mlo a b).toNat = a.toNat * b.toNat % 18446744073709551616 := by
  unfold mlo; rw [BitVec.toNat_ofNat]




end Go.Proofs.Ytgdfpboccgfadaa
