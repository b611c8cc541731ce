/-
  Elements modulo p as eight limbs of 56 bits: plain mathematics, no program. No statement is proved here: lemmas for the walks.
-/
import Derived.Test.YtjjdhbmlinjhjaaDoorFdLeaf
namespace Go.Proofs.YtjjdhbmlinjhjaaDoor

/-- The number that n limbs are. -/
def lv (f : Nat → Nat) : Nat → Nat
  | 0 => 0
  | n + 1 => lv f n + f n * 72057594037927936 ^ n
def Lim (f : Nat → Nat) : Prop := ∀ i, i < 8 → f i < 72057594037927940
theorem lv_congr {f g : Nat → Nat} : ∀ n, (∀ i, i < n → f i = g i) → lv f n = lv g n
  | 0, _ => rfl
  | n + 1, h => by unfold lv; rw [lv_congr n fun i hi => h i (by omega), h n (by omega)]
theorem lv_add (f g : Nat → Nat) : ∀ n, lv (fun i => f i + g i) n = lv f n + lv g n
  | 0 => rfl
  | n + 1 => by unfold lv; rw [lv_add f g n, Nat.add_mul]; omega
/-- What goes over comes in one limb on: b times 1 and 2^224 is there more than ahead. -/
theorem lv_carry (f : Nat → Nat) (b : Nat) : ∀ n, lv f n + b + (if 4 ≤ n then b * 72057594037927936 ^ 4 else 0) = lv (dgC f b) n + ovC f b n * 72057594037927936 ^ n
  | 0 => by simp [lv, ovC]
  | n + 1 => by
    have ih := lv_carry f b n
    have hd : dgC f b n = (f n + ovC f b n) % 72057594037927936 := rfl
    have ho : ovC f b (n + 1) = (f n + ovC f b n) / 72057594037927936 + if n = 3 then b else 0 := rfl
    have hx := Nat.mod_add_div (f n + ovC f b n) 72057594037927936
    rw [← hd] at hx
    have hp : 72057594037927936 ^ (n + 1) = 72057594037927936 ^ n * 72057594037927936 := Nat.pow_succ _ _
    unfold lv
    rw [ho, hp]
    generalize (f n + ovC f b n) / 72057594037927936 = q at *
    have h2 : f n * 72057594037927936 ^ n + ovC f b n * 72057594037927936 ^ n = dgC f b n * 72057594037927936 ^ n + q * (72057594037927936 ^ n * 72057594037927936) := by
      rw [← Nat.add_mul, ← hx, Nat.add_mul]
      congr 1
      rw [Nat.mul_comm 72057594037927936 q, Nat.mul_assoc, Nat.mul_comm 72057594037927936]
    by_cases h3 : n = 3
    · subst h3
      rw [if_neg (by omega)] at ih
      rw [if_pos (by omega), if_pos rfl, Nat.add_mul]
      omega
    · rw [if_neg h3]
      simp only [Nat.add_zero]
      by_cases h4 : 4 ≤ n
      · rw [if_pos h4] at ih
        rw [if_pos (by omega)]
        omega
      · rw [if_neg h4] at ih
        rw [if_neg (by omega)]
        omega
theorem dgC_lt (f : Nat → Nat) (b i : Nat) : dgC f b i < 72057594037927936 := Nat.mod_lt _ (by omega)
theorem ovC_le {f : Nat → Nat} (h : ∀ i, i < 8 → f i < 288230376151711740) : ∀ i, i ≤ 8 → ovC f 0 i ≤ 3
  | 0, _ => by simp [ovC]
  | i + 1, hi => by
    have ih := ovC_le h i (by omega)
    have hf := h i (by omega)
    show (f i + ovC f 0 i) / 72057594037927936 + (if i = 3 then 0 else 0) ≤ 3
    rw [show (if i = 3 then 0 else 0) = 0 by split <;> rfl]
    omega
/-- What went over comes in again. -/
def wrapF (l : Nat → Nat) (o : Nat) : Nat → Nat := fun i => if i = 0 then l i + o else if i = 4 then l i + o else l i
theorem lv_eight (f : Nat → Nat) : lv f 8 = f 0 + f 1 * 72057594037927936 ^ 1 + f 2 * 72057594037927936 ^ 2 + f 3 * 72057594037927936 ^ 3 + f 4 * 72057594037927936 ^ 4 + f 5 * 72057594037927936 ^ 5 + f 6 * 72057594037927936 ^ 6 + f 7 * 72057594037927936 ^ 7 := by
  simp only [lv]
  rw [Nat.zero_add, Nat.pow_zero, Nat.mul_one]
theorem wrap_gen (o l0 l1 l2 l3 l4 l5 l6 l7 b1 b2 b3 b4 b5 b6 b7 : Nat) : l0 + o + l1 * b1 + l2 * b2 + l3 * b3 + (l4 + o) * b4 + l5 * b5 + l6 * b6 + l7 * b7 = l0 + l1 * b1 + l2 * b2 + l3 * b3 + l4 * b4 + l5 * b5 + l6 * b6 + l7 * b7 + o * (1 + b4) := by
  rw [Nat.add_mul, Nat.mul_add, Nat.mul_one]
  omega
theorem wrapF_at (l : Nat → Nat) (o : Nat) : wrapF l o 0 = l 0 + o ∧ wrapF l o 1 = l 1 ∧ wrapF l o 2 = l 2 ∧ wrapF l o 3 = l 3 ∧ wrapF l o 4 = l 4 + o ∧ wrapF l o 5 = l 5 ∧ wrapF l o 6 = l 6 ∧ wrapF l o 7 = l 7 := ⟨rfl, rfl, rfl, rfl, rfl, rfl, rfl, rfl⟩
theorem lv_wrapF (l : Nat → Nat) (o : Nat) : lv (wrapF l o) 8 = lv l 8 + o * (1 + 72057594037927936 ^ 4) := by
  obtain ⟨h0, h1, h2, h3, h4, h5, h6, h7⟩ := wrapF_at l o
  rw [lv_eight, lv_eight, h0, h1, h2, h3, h4, h5, h6, h7]
  exact wrap_gen o (l 0) (l 1) (l 2) (l 3) (l 4) (l 5) (l 6) (l 7) _ _ _ _ _ _ _
theorem pN_limbs : pN + 1 + 72057594037927936 ^ 4 = 72057594037927936 ^ 8 := by decide +kernel
theorem carry_none {x y e : Nat} (h : x + 0 + e = y) (he : e = 0) : x = y := by omega
theorem wrap_sum {x y o p a b : Nat} (hp : p + 1 + a = b) (h : x = y + o * b) : x = y + o * (1 + a) + o * p := by
  rw [h, ← hp, Nat.mul_add, Nat.mul_add, Nat.mul_add]
  omega
/-- A carry and a wrap leave the same, divided by p. -/
theorem wrap_carry (f : Nat → Nat) : lv f 8 = lv (wrapF (dgC f 0) (ovC f 0 8)) 8 + ovC f 0 8 * pN := by
  have h := carry_none (lv_carry f 0 8) (by rw [if_pos (by omega), Nat.zero_mul])
  rw [lv_wrapF]
  exact wrap_sum pN_limbs h
theorem wrap_lim {l : Nat → Nat} {o : Nat} (hl : ∀ i, l i < 72057594037927936) (ho : o ≤ 3) : Lim (wrapF l o) := fun i _ => by
  have := hl i
  unfold wrapF
  by_cases h0 : i = 0
  · rw [if_pos h0]; omega
  · rw [if_neg h0]
    by_cases h4 : i = 4
    · rw [if_pos h4]; omega
    · rw [if_neg h4]; omega
end Go.Proofs.YtjjdhbmlinjhjaaDoor
