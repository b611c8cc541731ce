/-
  Bytes as numbers, and numbers as bytes: plain mathematics, no program. No statement is proved here: lemmas for the walks.
-/
import Derived.Test.YtjjdhbmlinjhjaaDoorByte
namespace Go.Proofs.YtjjdhbmlinjhjaaDoor

/-- The number that the first n bytes are. -/
def nB (f : Nat → BitVec 8) : Nat → Nat
  | 0 => 0
  | n + 1 => nB f n + (f n).toNat * 256 ^ n
/-- A number's byte. -/
def bX (x j : Nat) : BitVec 8 := BitVec.ofNat 8 (x / 256 ^ j)
theorem bX_nat (x j : Nat) : (bX x j).toNat = x / 256 ^ j % 256 := by unfold bX; rw [BitVec.toNat_ofNat]
theorem U8_bX (x j : Nat) : U8 (bX x j) = ((x / 256 ^ j % 256 : Nat) : Int) := by unfold U8; rw [bX_nat]
theorem nB_congr {f g : Nat → BitVec 8} : ∀ n, (∀ i, i < n → f i = g i) → nB f n = nB g n
  | 0, _ => rfl
  | n + 1, h => by unfold nB; rw [nB_congr n fun i hi => h i (by omega), h n (by omega)]
theorem nB_lt (f : Nat → BitVec 8) : ∀ n, nB f n < 256 ^ n
  | 0 => by simp [nB]
  | n + 1 => by
    have ih := nB_lt f n
    have hb := (f n).isLt
    unfold nB
    rw [Nat.pow_succ]
    have h2 := Nat.mul_le_mul_right (256 ^ n) (show (f n).toNat ≤ 255 by omega)
    omega
theorem nB_split (f : Nat → BitVec 8) (a : Nat) : ∀ b, nB f (a + b) = nB f a + 256 ^ a * nB (fun j => f (a + j)) b
  | 0 => by simp [nB]
  | b + 1 => by
    rw [← Nat.add_assoc]
    show nB f (a + b) + (f (a + b)).toNat * 256 ^ (a + b) = nB f a + 256 ^ a * (nB (fun j => f (a + j)) b + (f (a + b)).toNat * 256 ^ b)
    rw [nB_split f a b, Nat.mul_add, Nat.pow_add, Nat.mul_left_comm, Nat.add_assoc]
theorem nB_front (f : Nat → BitVec 8) (n : Nat) : nB f (n + 1) = (f 0).toNat + 256 * nB (fun j => f (1 + j)) n := by
  rw [Nat.add_comm n 1, nB_split f 1 n, Nat.pow_one]
  simp [nB]
theorem nB_bX (x : Nat) : ∀ n, nB (bX x) n = x % 256 ^ n
  | 0 => by simp [nB, Nat.mod_one]
  | n + 1 => by
    unfold nB
    rw [nB_bX x n, bX_nat, Nat.pow_succ, Nat.mod_mul, Nat.mul_comm]
theorem bX_nB (f : Nat → BitVec 8) (n i : Nat) (hi : i < n) : bX (nB f n) i = f i := by
  obtain ⟨k, rfl⟩ : ∃ k, n = i + (k + 1) := ⟨n - i - 1, by omega⟩
  apply BitVec.eq_of_toNat_eq
  have hb := (f i).isLt
  rw [bX_nat, nB_split, Nat.add_mul_div_left _ _ (Nat.pow_pos (by omega)), Nat.div_eq_of_lt (nB_lt f i), Nat.zero_add, nB_front, Nat.add_mul_mod_self_left]
  exact Nat.mod_eq_of_lt hb
theorem bX_inj {x y : Nat} (n : Nat) (hx : x < 256 ^ n) (hy : y < 256 ^ n) (h : ∀ i, i < n → bX x i = bX y i) : x = y := by
  have h1 := nB_bX x n
  have h2 := nB_bX y n
  rw [Nat.mod_eq_of_lt hx] at h1
  rw [Nat.mod_eq_of_lt hy] at h2
  rw [← h1, ← h2]
  exact nB_congr n h
/-- Seven bytes of a number. -/
theorem nB_mid (f : Nat → BitVec 8) (i n r : Nat) (hn : n = 7 * i + (7 + r)) : nB f n / 256 ^ (7 * i) = nB (fun j => f (7 * i + j)) 7 + 72057594037927936 * nB (fun j => f (7 * i + 7 + j)) r := by
  subst hn
  rw [nB_split, Nat.add_mul_div_left _ _ (Nat.pow_pos (by omega)), Nat.div_eq_of_lt (nB_lt f _), Nat.zero_add, nB_split]
  congr 3
  funext j
  rw [Nat.add_assoc]
theorem pow_28 (i : Nat) : 268435456 ^ (2 * i) = 256 ^ (7 * i) := by
  rw [show 268435456 = 2 ^ 28 from rfl, show 256 = 2 ^ 8 from rfl, ← Nat.pow_mul, ← Nat.pow_mul]
  congr 1
  omega
theorem pow_56 (i : Nat) : 72057594037927936 ^ i = 256 ^ (7 * i) := by
  rw [show 72057594037927936 = 2 ^ 56 from rfl, show 256 = 2 ^ 8 from rfl, ← Nat.pow_mul, ← Nat.pow_mul]
  congr 1
  omega
end Go.Proofs.YtjjdhbmlinjhjaaDoor
