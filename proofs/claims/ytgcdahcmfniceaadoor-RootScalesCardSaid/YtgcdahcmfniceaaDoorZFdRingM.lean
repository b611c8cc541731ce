/-
  Numbers modulo p: sums and products, plain mathematics. No statement is proved here: lemmas for the walks.
-/
import Derived.Test.YtgcdahcmfniceaaDoorBuE
import Derived.Test.YtgcdahcmfniceaaDoorBuP
namespace Go.Proofs.YtgcdahcmfniceaaDoor

theorem ring_add (x y : Nat) : (x + y) % pN = (y + x) % pN := by rw [Nat.add_comm]
theorem ring_mul (x y : Nat) : x * y % pN = y * x % pN := by rw [Nat.mul_comm]
theorem ring_add3 (x y z : Nat) : ((x + y) % pN + z) % pN = (x + (y + z) % pN) % pN := by rw [Nat.mod_add_mod, Nat.add_mod_mod, Nat.add_assoc]
theorem ring_mul3 (x y z : Nat) : x * y % pN * z % pN = x * (y * z % pN) % pN := by rw [Nat.mod_mul_mod, Nat.mul_mod_mod, Nat.mul_assoc]
theorem ring_dist (x y z : Nat) : (x + y) % pN * z % pN = (x * z % pN + y * z % pN) % pN := by rw [Nat.mod_mul_mod, ← Nat.add_mod, Nat.add_mul]
theorem ring_less {x y : Nat} (hx : x < pN) (hy : y < pN) : ((x + y) % pN + (pN - y)) % pN = x := by
  unfold pN at *
  omega
theorem ring_one {x : Nat} (hx : x < pN) : x * ((1 : Int) % pZ).toNat % pN = x := by rw [pos_one, Nat.mul_one, Nat.mod_eq_of_lt hx]
theorem ring_neg {x : Nat} (hx : x < pN) : (x + (pN - x) % pN) % pN = 0 := by
  unfold pN at *
  omega
theorem ring_zero {x y : Nat} (hx : x < pN) (hy : y < pN) (h : x * y % pN = 0) : x = 0 ∨ y = 0 := by
  rcases euclid prime_726838724295606890549323807888004534353641360687318060281490199180612328166730772686396383698676545930088884461843637361053498018365439 (Nat.dvd_of_mod_eq_zero h) with h1 | h1
  · exact .inl (Nat.eq_zero_of_dvd_of_lt h1 hx)
  · exact .inr (Nat.eq_zero_of_dvd_of_lt h1 hy)
end Go.Proofs.YtgcdahcmfniceaaDoor
