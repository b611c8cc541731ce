/-
  The contracts of number.addTimes and Mul.
-/
import Derived.Test.YtmnokjapapheiaaNuTrim
import Derived.Test.YtmnokjapapheiaaNuMul64
import Derived.Test.YtmnokjapapheiaaNuBitM
namespace Go.Proofs.Ytmnokjapapheiaa
open Go.RowKit

@[go_sem] theorem u64_add (a b : BitVec 64) : IntKind.u64.wrap (L a + L b) = L (a + b) := by
  rw [IntKind.wrap_u64]
  unfold L
  rw [BitVec.toNat_add]
  show _ = (((a.toNat + b.toNat) % 18446744073709551616 : Nat) : Int)
  omega
/-- What goes over, as a word. -/
def ov (z y x k : Nat) : BitVec 64 := BitVec.ofNat 64 (ovr z y x k)
theorem ov_nat {z y x k : Nat} (hx : x < 18446744073709551616) : (ov z y x k).toNat = ovr z y x k := by
  unfold ov; rw [BitVec.toNat_ofNat]; exact Nat.mod_eq_of_lt (ovr_lt z y x k hx)
theorem ov_zero (z y x : Nat) : ov z y x 0 = 0 := by unfold ov; rw [ovr_zero]; rfl
/-- One step of a product: the word, and what goes over. -/
theorem times_step (z y k : Nat) (x : BitVec 64) :
    adc (adc (mlo x (wd y k)) (wd z k) 0) (ov z y x.toNat k) 0 = wd (z + y * x.toNat) k ∧
    mhi x (wd y k) + cy (adk (mlo x (wd y k)) (wd z k) 0) + cy (adk (adc (mlo x (wd y k)) (wd z k) 0) (ov z y x.toNat k) 0) = ov z y x.toNat (k + 1) := by
  have hx := x.isLt
  have hs := ovr_step z y x.toNat k
  have ho := ovr_lt z y x.toNat k hx
  have ho' := ovr_lt z y x.toNat (k + 1) hx
  have c0 : (cy 0).toNat = 0 := rfl
  have hz := (wd z k).isLt
  have hr := (wd (z + y * x.toNat) k).isLt
  have hl := mlo_nat x (wd y k)
  have hh := mhi_nat x (wd y k)
  have hlb := (mlo x (wd y k)).isLt
  have hhb := (mhi x (wd y k)).isLt
  have hd := Nat.div_add_mod (x.toNat * (wd y k).toNat) 18446744073709551616
  rw [← hl, ← hh] at hd
  rw [Nat.mul_comm (wd y k).toNat] at hs
  generalize x.toNat * (wd y k).toNat = P at *
  have h1 : (adc (mlo x (wd y k)) (wd z k) 0).toNat = ((mlo x (wd y k)).toNat + (wd z k).toNat) % 18446744073709551616 := by
    unfold adc; rw [BitVec.toNat_ofNat, c0, Nat.add_zero]
  have h2 : (cy (adk (mlo x (wd y k)) (wd z k) 0)).toNat = ((mlo x (wd y k)).toNat + (wd z k).toNat) / 18446744073709551616 := by
    rw [cy_of (adk_le _ _ _)]; unfold adk; rw [c0, Nat.add_zero]
  generalize mlo x (wd y k) = lo at *
  generalize mhi x (wd y k) = hi at *
  generalize adk lo (wd z k) 0 = c1 at *
  generalize adc lo (wd z k) 0 = s1 at *
  have h3 : (adc s1 (ov z y x.toNat k) 0).toNat = (s1.toNat + ovr z y x.toNat k) % 18446744073709551616 := by
    unfold adc; rw [BitVec.toNat_ofNat, c0, Nat.add_zero, ov_nat hx]
  have h4 : (cy (adk s1 (ov z y x.toNat k) 0)).toNat = (s1.toNat + ovr z y x.toNat k) / 18446744073709551616 := by
    rw [cy_of (adk_le _ _ _)]; unfold adk; rw [c0, Nat.add_zero, ov_nat hx]
  have hc1 := cy_le c1
  have hc2 := cy_le (adk s1 (ov z y x.toNat k) 0)
  constructor
  · apply BitVec.eq_of_toNat_eq
    rw [h3]
    omega
  · apply BitVec.eq_of_toNat_eq
    rw [BitVec.toNat_add, BitVec.toNat_add, ov_nat hx, h4, h2]
    omega
/-- A row whose words from i on become those of z and y times x. -/
def tim (i : Nat) (y : Nat) (x : BitVec 64) (Z : Nat) : Nat := Z + 2 ^ (64 * i) * (y * x.toNat)
theorem tim_wd (i y : Nat) (x : BitVec 64) (Z k : Nat) : wd (tim i y x Z) (i + k) = wd (Z / 2 ^ (64 * i) + y * x.toNat) k ∧ wd Z (i + k) = wd (Z / 2 ^ (64 * i)) k := by
  have e : Z = 2 ^ (64 * i) * (Z / 2 ^ (64 * i)) + Z % 2 ^ (64 * i) := (Nat.div_add_mod _ _).symm
  have hm := Nat.mod_lt Z (Nat.two_pow_pos (64 * i))
  constructor
  · have e2 : tim i y x Z = 2 ^ (64 * i) * (Z / 2 ^ (64 * i) + y * x.toNat) + Z % 2 ^ (64 * i) := by
      unfold tim
      rw [Nat.mul_add]
      omega
    rw [e2, wd_shift _ _ _ _ hm]
  · conv => lhs; rw [e]
    rw [wd_shift _ _ _ _ hm]
theorem tim_low (i y : Nat) (x : BitVec 64) (Z k : Nat) (hk : k < i) : wd (tim i y x Z) k = wd Z k := by
  have e : Z = 2 ^ (64 * i) * (Z / 2 ^ (64 * i)) + Z % 2 ^ (64 * i) := (Nat.div_add_mod _ _).symm
  have e2 : tim i y x Z = 2 ^ (64 * i) * (Z / 2 ^ (64 * i) + y * x.toNat) + Z % 2 ^ (64 * i) := by
    unfold tim
    rw [Nat.mul_add]
    omega
  rw [e2, wd_low _ _ _ _ hk]
  conv => rhs; rw [e]
  rw [wd_low _ _ _ _ hk]
/-- Behind the last word of b. -/
theorem tim_last {i y m Z : Nat} {x : BitVec 64} (hy : y < 2 ^ (64 * m)) (hZ : Z < 2 ^ (64 * (i + m))) : wd (tim i y x Z) (i + m) = ov (Z / 2 ^ (64 * i)) y x.toNat m ∧ tim i y x Z < 2 ^ (64 * (i + m + 1)) := by
  have hz : Z / 2 ^ (64 * i) < 2 ^ (64 * m) := by
    rw [Nat.div_lt_iff_lt_mul (Nat.two_pow_pos _), ← Nat.pow_add]
    rwa [show 64 * m + 64 * i = 64 * (i + m) by omega]
  obtain ⟨h1, h2⟩ := ovr_last hz hy x.isLt
  constructor
  · rw [(tim_wd i y x Z m).1]
    apply BitVec.eq_of_toNat_eq
    rw [h1, ov_nat x.isLt]
  · have e2 : tim i y x Z = 2 ^ (64 * i) * (Z / 2 ^ (64 * i) + y * x.toNat) + Z % 2 ^ (64 * i) := by
      unfold tim
      have := Nat.div_add_mod Z (2 ^ (64 * i))
      rw [Nat.mul_add]
      omega
    have hm := Nat.mod_lt Z (Nat.two_pow_pos (64 * i))
    have h3 := Nat.mul_le_mul_left (2 ^ (64 * i)) (Nat.succ_le_of_lt h2)
    rw [← Nat.pow_add, show 64 * i + 64 * (m + 1) = 64 * (i + m + 1) by omega, Nat.mul_succ] at h3
    rw [e2]
    omega
end Go.Proofs.Ytmnokjapapheiaa
