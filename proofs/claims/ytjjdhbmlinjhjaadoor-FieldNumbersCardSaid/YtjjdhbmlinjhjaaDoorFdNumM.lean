/-
  Small numbers modulo p: plain mathematics. No statement is proved here: lemmas for the walks.
-/
import Derived.Test.YtjjdhbmlinjhjaaDoorFdLaw1
namespace Go.Proofs.YtjjdhbmlinjhjaaDoor

theorem int_lt (n : Int) : (n % pZ).toNat < pN := by
  have h1 := Int.emod_lt_of_pos n (show (0 : Int) < pZ by decide)
  have h2 := Int.emod_nonneg n (show pZ ≠ 0 by decide)
  rw [pZ_eq] at h1 h2 ⊢
  omega
theorem int_nat (n : Int) : (((n % pZ).toNat : Nat) : Int) = n % pZ := Int.toNat_of_nonneg (Int.emod_nonneg n (by decide))
theorem num_add (m n : Int) : ((m % pZ).toNat + (n % pZ).toNat) % pN = ((m + n) % pZ).toNat := by
  apply Int.ofNat_inj.1
  rw [int_nat, Int.natCast_emod, Int.natCast_add, int_nat, int_nat, ← pZ_eq, ← Int.add_emod]
theorem num_mul (m n : Int) : (m % pZ).toNat * (n % pZ).toNat % pN = ((m * n) % pZ).toNat := by
  apply Int.ofNat_inj.1
  rw [int_nat, Int.natCast_emod, Int.natCast_mul, int_nat, int_nat, ← pZ_eq, ← Int.mul_emod]
theorem num_sub (m n : Int) : ((m % pZ).toNat + (pN - (n % pZ).toNat)) % pN = ((m - n) % pZ).toNat := by
  have hn := int_lt n
  apply Int.ofNat_inj.1
  rw [int_nat, Int.natCast_emod, Int.natCast_add, Int.natCast_sub (Nat.le_of_lt hn), int_nat, int_nat, ← pZ_eq]
  rw [show m % pZ + (pZ - n % pZ) = (m % pZ - n % pZ) + pZ * 1 by rw [Int.mul_one]; omega, Int.add_mul_emod_self_left, ← Int.sub_emod]
theorem num_same {m n : Int} (h1 : -1073741824 ≤ m) (h2 : m ≤ 1073741824) (h3 : -1073741824 ≤ n) (h4 : n ≤ 1073741824) : (m % pZ).toNat = (n % pZ).toNat ↔ m = n := by
  constructor
  · intro h
    have h5 : m % pZ = n % pZ := by rw [← int_nat m, ← int_nat n, h]
    unfold pZ at h5
    omega
  · intro h; rw [h]
theorem num_dist (x : Nat) (m n : Int) : (x * (m % pZ).toNat % pN + x * (n % pZ).toNat % pN) % pN = x * ((m + n) % pZ).toNat % pN := by
  rw [← num_add, Nat.mul_mod_mod, Nat.mul_add, ← Nat.add_mod]
theorem num_twice (x : Nat) (m n : Int) : x * (m % pZ).toNat % pN * (n % pZ).toNat % pN = x * ((m * n) % pZ).toNat % pN := by
  rw [← num_mul, Nat.mul_mod_mod, Nat.mod_mul_mod, Nat.mul_assoc]
theorem small_mul {m n : Int} (h1 : -1073741824 ≤ m) (h2 : m ≤ 1073741824) (h3 : -1073741824 ≤ n) (h4 : n ≤ 1073741824) : -1152921504606846976 ≤ m * n ∧ m * n ≤ 1152921504606846976 := by
  have h := Nat.mul_le_mul (show m.natAbs ≤ 1073741824 by omega) (show n.natAbs ≤ 1073741824 by omega)
  rw [← Int.natAbs_mul] at h
  omega
end Go.Proofs.YtjjdhbmlinjhjaaDoor
