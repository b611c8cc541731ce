/-
  The contracts of number.Len and Bit.
-/
import Derived.Test.YtgdfpboccgfadaaNuTrim
import Derived.Test.YtgdfpboccgfadaaNuLen64
namespace Go.Proofs.Ytgdfpboccgfadaa
open Go.RowKit

theorem bl_words {x k : Nat} (h1 : x < 2 ^ (64 * (k + 1))) (h2 : 2 ^ (64 * k) ≤ x) : bl x = 64 * k + bl (wd x k).toNat := by
  have e : (wd x k).toNat = x / 2 ^ (64 * k) := by
    rw [wd_nat, Nat.mod_eq_of_lt]
    rw [Nat.div_lt_iff_lt_mul (Nat.two_pow_pos _), Nat.mul_comm, ← pow64]; exact h1
  have hP := Nat.two_pow_pos (64 * k)
  have hq : 0 < x / 2 ^ (64 * k) := Nat.div_pos h2 hP
  rw [e]
  have hf := bl_fits (x / 2 ^ (64 * k))
  have hl := bl_low hq
  have hp := bl_pos hq
  have ed := Nat.div_add_mod x (2 ^ (64 * k))
  have hm := Nat.mod_lt x hP
  refine bl_eq ?_ (.inr ?_)
  · rw [Nat.pow_add]
    have := Nat.mul_le_mul_left (2 ^ (64 * k)) (Nat.succ_le_of_lt hf)
    rw [Nat.mul_succ] at this
    omega
  · rw [show 64 * k + bl (x / 2 ^ (64 * k)) - 1 = 64 * k + (bl (x / 2 ^ (64 * k)) - 1) by omega, Nat.pow_add]
    have := Nat.mul_le_mul_left (2 ^ (64 * k)) hl
    omega
theorem bl_le64 (a : BitVec 64) : bl a.toNat ≤ 64 := (bl_le _ _).2 a.isLt



































/-- A bit of a number, at any place. -/
def bitI (x : Nat) (i : Int) : Int := if i < 0 then 0 else ((x / 2 ^ i.toNat % 2 : Nat) : Int)
def bit1 (b : BitVec 64) (k : Nat) : BitVec 64 := (shr b k) &&& 1
@[go_sem] theorem and1_bv (a : BitVec 64) : bits .and .u64 (L a) 1 = L (a &&& 1) := and_bv a 1
theorem bit1_nat (x i : Nat) : (bit1 (wd x (i / 64)) (i % 64)).toNat = x / 2 ^ i % 2 := by
  unfold bit1 shr
  have h1 : ((wd x (i / 64)) >>> (i % 64) &&& 1#64).toNat = ((wd x (i / 64)).toNat / 2 ^ (i % 64)) % 2 := by
    rw [BitVec.toNat_and, BitVec.toNat_ushiftRight, Nat.shiftRight_eq_div_pow]
    exact Nat.and_one_is_mod _
  refine h1.trans ?_
  rw [wd_nat]
  have e : 2 ^ i = 2 ^ (64 * (i / 64)) * 2 ^ (i % 64) := by rw [← Nat.pow_add]; congr 1; omega
  rw [e, ← Nat.div_div_eq_div_mul]
  generalize x / 2 ^ (64 * (i / 64)) = z
  have hlt : i % 64 < 64 := Nat.mod_lt _ (by omega)
  generalize i % 64 = s at hlt
  have t1 : (z % 18446744073709551616).testBit s = z.testBit s := by
    rw [show 18446744073709551616 = 2 ^ 64 from rfl, Nat.testBit_mod_two_pow]; simp [hlt]
  rw [Nat.testBit_eq_decide_div_mod_eq, Nat.testBit_eq_decide_div_mod_eq] at t1
  have t2 : z % 18446744073709551616 / 2 ^ s % 2 = 1 ↔ z / 2 ^ s % 2 = 1 := by simpa using t1
  generalize z % 18446744073709551616 / 2 ^ s = u at t2 ⊢
  generalize z / 2 ^ s = v at t2 ⊢
  omega
theorem wrap_one (z : Int) (h0 : 0 ≤ z) (h1 : z ≤ 1) : wrap64 z = z := by simp only [wrap64]; omega
theorem L_nat {b : BitVec 64} {n : Nat} (h : b.toNat = n) : L b = (n : Int) := by subst h; rfl
set_option maxRecDepth 8000 in
set_option maxHeartbeats 1000000 in
theorem bit_any (a : Option Addr) (n c x : Nat) (i : Int) (w : World) (hn : n ≤ 1000000) (hi : i ≤ 9223372036854775807) {B : Nat} (h : Sw w B a n c x) :
    Calls Try.prog 21 #[.slice a n c, .int .i64 i] w fun e w' => e = .returned (.int .i64 (bitI x i)) ∧ w' = w := by
  by_cases h0 : i < 0
  · have He : Hid (bitI x i = 0) := Lib.hid (by simp [bitI, h0])
    have hd : decide (i < 0) = true := by simpa using h0
    clear h
    go_enter Try.func21, Try.ntmps21
    go_wp2
    go_ret
    exact ⟨by rw [He.out]; rfl, rfl⟩
  · obtain ⟨j, rfl⟩ := Int.eq_ofNat_of_zero_le (by omega : 0 ≤ i)
    have hd : decide ((j : Int) < 0) = false := by simp
    have He : Hid (bitI x (j : Int) = L (bit1 (wd x (j / 64)) (j % 64))) := Lib.hid (by rw [L_nat (bit1_nat x j)]; simp [bitI]; omega)
    have hb := (L_bd (bit1 (wd x (j / 64)) (j % 64)))
    have hb1 : L (bit1 (wd x (j / 64)) (j % 64)) ≤ 1 := by rw [L_nat (bit1_nat x j)]; omega
    obtain ⟨q, hq⟩ : ∃ q, j / 64 = q := ⟨_, rfl⟩
    obtain ⟨s, hs⟩ : ∃ s, j % 64 = s := ⟨_, rfl⟩
    have e1 : (j : Int) / 64 = (q : Int) := by omega
    have e2 : (j : Int) % 64 = (s : Int) := by omega
    have hs64 : (s : Int) < 64 := by omega
    rw [hq, hs] at He hb hb1
    have H := Lib.hid h
    have hq2 : q ≤ 1000000000000000000 := by omega
    clear h hq hs h0
    go_enter Try.func21, Try.ntmps21
    go_wp2_with ((with_reducible refine (word_any a n c x q _ (by omega) (by omega) H.out).mono ?_); rintro e w' ⟨rfl, rfl⟩)
    go_ret
    exact ⟨by rw [He.out]; exact congrArg (fun n => Ending.returned (.int .i64 n)) (wrap_one _ hb.1 hb1), rfl⟩
end Go.Proofs.Ytgdfpboccgfadaa
