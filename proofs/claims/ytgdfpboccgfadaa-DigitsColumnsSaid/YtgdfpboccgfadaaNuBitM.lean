/-
  Words of numbers by their bits: shifts, bytes, single bits. Plain mathematics.
-/
import Derived.Test.YtgdfpboccgfadaaMem
namespace Go.Proofs.Ytgdfpboccgfadaa

theorem shl_bit (x : BitVec 64) (k j : Nat) : (shl x k).getLsbD j = (decide (j < 64) && !decide (j < k) && x.getLsbD (j - k)) := by unfold shl; rw [BitVec.getLsbD_shiftLeft]
theorem shr_bit (x : BitVec 64) (k j : Nat) : (shr x k).getLsbD j = x.getLsbD (k + j) := by unfold shr; rw [BitVec.getLsbD_ushiftRight]
theorem modmul_bit (x n s t : Nat) : ((x % 2 ^ n) * 2 ^ s).testBit t = (decide (s ≤ t) && (decide (t - s < n) && x.testBit (t - s))) := by
  rw [Nat.testBit_mul_two_pow, Nat.testBit_mod_two_pow]
/-- What comes into word i of twice a number and a bit. -/
def lowb (x b i : Nat) : BitVec 64 := if i = 0 then BitVec.ofNat 64 b else shr (wd x (i - 1)) 63
theorem lowb_succ (x b i : Nat) : lowb x b (i + 1) = shr (wd x i) 63 := by unfold lowb; rw [if_neg (by omega), Nat.add_sub_cancel]
theorem wd_double (x b i : Nat) (hb : b ≤ 1) : wd (2 * x + b) i = shl (wd x i) 1 ||| lowb x b i := by
  apply BitVec.eq_of_getLsbD_eq
  intro j hj
  rw [wd_bit, BitVec.getLsbD_or, shl_bit, wd_bit]
  have e : 2 * x + b = 2 ^ 1 * x + b := by omega
  rw [e, Nat.two_pow_add_eq_or_of_lt (by omega), Nat.testBit_or, Nat.testBit_two_pow_mul]
  unfold lowb
  by_cases hi : i = 0
  · subst hi
    rw [if_pos rfl, BitVec.getLsbD_ofNat]
    by_cases h0 : j = 0
    · subst h0; simp
    · have : 1 ≤ j := by omega
      have hj1 : j - 1 < 64 := by omega
      have hjj : ¬ j < 1 := by omega
      simp [hj, this, hj1, hjj]
  · rw [if_neg hi, shr_bit, wd_bit]
    have hbz : b.testBit (64 * i + j) = false := Nat.testBit_lt_two_pow (Nat.lt_of_le_of_lt hb (Nat.one_lt_two_pow (by omega)))
    rw [hbz]
    by_cases h0 : j = 0
    · subst h0
      simp
      rw [show 64 * i - 1 = 64 * (i - 1) + 63 by omega]
      simp [show 1 ≤ 64 * i by omega]
    · have h1 : ¬ (63 + j < 64) := by omega
      have h2 : ¬ j < 1 := by omega
      have h3 : j - 1 < 64 := by omega
      have h4 : 64 * i + j ≥ 1 := by omega
      rw [show 64 * i + j - 1 = 64 * i + (j - 1) by omega]
      simp [hj, h1, h2, h3, h4]
theorem wd_down (x y i : Nat) : wd (x / 2 ^ y) i = shr (wd x (i + y / 64)) (y % 64) ||| shl (wd x (i + y / 64 + 1)) (64 - y % 64) := by
  apply BitVec.eq_of_getLsbD_eq
  intro j hj
  rw [wd_bit, Nat.testBit_div_two_pow, BitVec.getLsbD_or, shr_bit, shl_bit, wd_bit, wd_bit]
  by_cases h : y % 64 + j < 64
  · have h1 : j < 64 - y % 64 := by omega
    rw [show 64 * i + j + y = 64 * (i + y / 64) + (y % 64 + j) by omega]
    simp [hj, h, h1]
  · have h1 : ¬ j < 64 - y % 64 := by omega
    have h2 : j - (64 - y % 64) < 64 := by omega
    rw [show 64 * i + j + y = 64 * (i + y / 64 + 1) + (j - (64 - y % 64)) by omega]
    simp [hj, h, h1, h2]
/-- One more word of a number that goes up. -/
theorem wd_up (x i y : Nat) : upd (upd (wd ((x % 2 ^ (64 * i)) * 2 ^ y)) (i + y / 64) (wd ((x % 2 ^ (64 * i)) * 2 ^ y) (i + y / 64) ||| shl (wd x i) (y % 64))) (i + y / 64 + 1) (shr (wd x i) (64 - y % 64)) = wd ((x % 2 ^ (64 * (i + 1))) * 2 ^ y) := by
  funext k
  unfold upd
  apply BitVec.eq_of_getLsbD_eq
  intro j hj
  rw [wd_bit, modmul_bit]
  by_cases h1 : k = i + y / 64 + 1
  · subst h1
    rw [if_pos rfl, shr_bit, wd_bit]
    by_cases h2 : j < y % 64
    · rw [show 64 * (i + y / 64 + 1) + j - y = 64 * i + (64 - y % 64 + j) by omega]
      have h3 : 64 - y % 64 + j < 64 := by omega
      have h4 : y ≤ 64 * (i + y / 64 + 1) + j := by omega
      have h5 : 64 * i + (64 - y % 64 + j) < 64 * (i + 1) := by omega
      simp [hj, h3, h4, h5]
    · have h3 : ¬ 64 - y % 64 + j < 64 := by omega
      have h5 : ¬ 64 * (i + y / 64 + 1) + j - y < 64 * (i + 1) := by omega
      simp [h3, h5]
  · rw [if_neg h1]
    by_cases h2 : k = i + y / 64
    · subst h2
      rw [if_pos rfl, BitVec.getLsbD_or, wd_bit, modmul_bit, shl_bit, wd_bit]
      by_cases h3 : j < y % 64
      · have e : (64 * (i + y / 64) + j - y < 64 * i) = (64 * (i + y / 64) + j - y < 64 * (i + 1)) ∨ ¬ y ≤ 64 * (i + y / 64) + j := by
          by_cases h4 : y ≤ 64 * (i + y / 64) + j
          · left; apply propext; constructor <;> intro <;> omega
          · exact .inr h4
        rcases e with e | e
        · simp [hj, h3, e]
        · simp [h3, e]
      · have h4 : ¬ 64 * (i + y / 64) + j - y < 64 * i := by omega
        have h5 : 64 * (i + y / 64) + j - y < 64 * (i + 1) := by omega
        have h6 : y ≤ 64 * (i + y / 64) + j := by omega
        have h7 : j - y % 64 < 64 := by omega
        have h8 : 64 * i + (j - y % 64) = 64 * (i + y / 64) + j - y := by omega
        simp [hj, h3, h4, h5, h6, h7, h8]
    · rw [if_neg h2, wd_bit, modmul_bit]
      by_cases h3 : k < i + y / 64
      · have e : ¬ y ≤ 64 * k + j ∨ (64 * k + j - y < 64 * i ∧ 64 * k + j - y < 64 * (i + 1)) := by omega
        rcases e with e | ⟨e1, e2⟩
        · simp [e]
        · simp [e1, e2]
      · have e1 : ¬ 64 * k + j - y < 64 * i := by omega
        have e2 : ¬ 64 * k + j - y < 64 * (i + 1) := by omega
        simp [e1, e2]
theorem bt_word (x i : Nat) : low8 (shr (wd x (i / 8)) (i % 8 * 8)) = bt x i := by
  apply BitVec.eq_of_getLsbD_eq
  intro j hj
  unfold low8
  rw [BitVec.getLsbD_setWidth, shr_bit, wd_bit, bt_bit]
  have h1 : i % 8 * 8 + j < 64 := by omega
  rw [show 64 * (i / 8) + (i % 8 * 8 + j) = 8 * i + j by omega]
  simp [h1]
/-- One more byte of a number. -/
theorem wd_of (x i : Nat) : upd (wd (x % 2 ^ (8 * i))) (i / 8) (wd (x % 2 ^ (8 * i)) (i / 8) ||| shl (zx (bt x i)) (i % 8 * 8)) = wd (x % 2 ^ (8 * (i + 1))) := by
  funext k
  unfold upd
  apply BitVec.eq_of_getLsbD_eq
  intro j hj
  rw [wd_bit, Nat.testBit_mod_two_pow]
  by_cases h1 : k = i / 8
  · subst h1
    rw [if_pos rfl, BitVec.getLsbD_or, wd_bit, Nat.testBit_mod_two_pow, shl_bit]
    unfold zx
    rw [BitVec.getLsbD_setWidth, bt_bit]
    by_cases h2 : 64 * (i / 8) + j < 8 * i
    · have h3 : j < i % 8 * 8 := by omega
      have h4 : 64 * (i / 8) + j < 8 * (i + 1) := by omega
      simp [hj, h2, h3, h4]
    · have h3 : ¬ j < i % 8 * 8 := by omega
      by_cases h4 : 64 * (i / 8) + j < 8 * (i + 1)
      · have h5 : j - i % 8 * 8 < 64 := by omega
        have h6 : j - i % 8 * 8 < 8 := by omega
        have h7 : 8 * i + (j - i % 8 * 8) = 64 * (i / 8) + j := by omega
        simp [hj, h2, h3, h4, h5, h6, h7]
      · have h6 : ¬ j - i % 8 * 8 < 8 := by omega
        simp [h2, h4, h6]
  · rw [if_neg h1, wd_bit, Nat.testBit_mod_two_pow]
    have e : (64 * k + j < 8 * i) = (64 * k + j < 8 * (i + 1)) := by apply propext; constructor <;> intro <;> omega
    simp [e]
/-- One more bit, below all others. -/
theorem wd_bit_at (q t : Nat) : upd (wd (q * 2 ^ (t + 1))) (t / 64) (wd (q * 2 ^ (t + 1)) (t / 64) ||| shl 1 (t % 64)) = wd ((2 * q + 1) * 2 ^ t) := by
  have e : (2 * q + 1) * 2 ^ t = q * 2 ^ (t + 1) ||| 2 ^ t := by
    have h := Nat.two_pow_add_eq_or_of_lt (i := t + 1) (b := 2 ^ t) (Nat.pow_lt_pow_right (by omega) (by omega)) q
    rw [Nat.mul_comm q, ← h, Nat.add_mul, Nat.one_mul, Nat.pow_succ]
    congr 1
    rw [Nat.mul_comm 2 q, Nat.mul_comm (q * 2), Nat.mul_comm q 2, Nat.mul_assoc]
  funext k
  unfold upd
  apply BitVec.eq_of_getLsbD_eq
  intro j hj
  rw [e, wd_bit, Nat.testBit_or, Nat.testBit_two_pow]
  by_cases h1 : k = t / 64
  · subst h1
    rw [if_pos rfl, BitVec.getLsbD_or, wd_bit, shl_bit]
    congr 1
    by_cases h2 : t = 64 * (t / 64) + j
    · have h3 : ¬ j < t % 64 := by omega
      have h4 : j - t % 64 = 0 := by omega
      simp [hj, h3, h4, ← h2]
    · have e0 : decide (t = 64 * (t / 64) + j) = false := by simpa using h2
      rw [e0]
      by_cases h3 : j < t % 64
      · simp [hj, h3]
      · obtain ⟨d, hd⟩ : ∃ d, j - t % 64 = d + 1 := ⟨j - t % 64 - 1, by omega⟩
        simp [hj, h3, hd]
  · rw [if_neg h1, wd_bit]
    have h2 : ¬ t = 64 * k + j := by omega
    simp [h2]
end Go.Proofs.Ytgdfpboccgfadaa
