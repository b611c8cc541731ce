/-
  Lemmas for the walks, several texts in one. No statement is proved here.
-/
import Derived.Test.YtgdfpboccgfadaaBuA
import Derived.Laws.MakeOwn
import Derived.Laws.AppendOwnNone
import Derived.Laws.CopyOwn
import Derived.Deep.MidRow
import Derived.Deep.QuietTactic
import Derived.Deep.LoopGhost
import Derived.BigQuiet
import Derived.WalkMore
import Derived.ScopeJumps
import Derived.ArgAppend
import Derived.Test.YtgdfpboccgfadaaBuB
import Derived.Great.BuildSlice
import Derived.Laws.Externs
import Derived.Test.YtgdfpboccgfadaaZMulN
import Derived.Lib.Mul64
import Derived.Laws.Bits64b
import Derived.Lib.Strings
import Derived.Lib.Slices
import Derived.Lib.Small
import Derived.Lib.Walk
import Derived.Lib.BitFns
import Derived.WalkLawsBesides
import Derived.Lib.MinMax
/-
  Numbers as digits of 64 and of 8 bits: plain mathematics, no program. No statement is proved here: lemmas for the walks.
-/
namespace Go.Proofs.Ytgdfpboccgfadaa

/-- The i-th word, and the i-th byte, of a number. -/
def wd (x i : Nat) : BitVec 64 := BitVec.ofNat 64 (x / 2 ^ (64 * i))
def bt (x i : Nat) : BitVec 8 := BitVec.ofNat 8 (x / 2 ^ (8 * i))
/-- How many bits a number has; how many digits of b bits. -/
def bl (x : Nat) : Nat := if x = 0 then 0 else x.log2 + 1
def dl (b x : Nat) : Nat := (bl x + (b - 1)) / b
theorem bl_le (x k : Nat) : bl x ≤ k ↔ x < 2 ^ k := by
  unfold bl
  by_cases h : x = 0
  · subst h; simp [Nat.two_pow_pos]
  · rw [if_neg h]
    exact Nat.log2_lt h
theorem dl_le (b x k : Nat) (hb : 0 < b) : dl b x ≤ k ↔ x < 2 ^ (b * k) := by
  rw [← bl_le]
  unfold dl
  rw [← Nat.lt_succ_iff, Nat.div_lt_iff_lt_mul hb, Nat.succ_mul, Nat.mul_comm k b]
  omega
theorem dl_zero (b : Nat) (hb : 0 < b) : dl b 0 = 0 := Nat.le_zero.1 ((dl_le b 0 0 hb).2 (by simp))
theorem fits_dl (b x : Nat) (hb : 0 < b) : x < 2 ^ (b * dl b x) := (dl_le b x _ hb).1 (Nat.le_refl _)
theorem bl_zero : bl 0 = 0 := rfl
theorem bl_fits (x : Nat) : x < 2 ^ bl x := (bl_le x _).1 (Nat.le_refl _)
theorem bl_pos {x : Nat} (h : 0 < x) : 0 < bl x := by
  unfold bl
  rw [if_neg (by omega)]
  omega
theorem bl_low {x : Nat} (h : 0 < x) : 2 ^ (bl x - 1) ≤ x := by
  unfold bl
  rw [if_neg (by omega), Nat.add_sub_cancel]
  exact Nat.log2_self_le (by omega)
theorem bl_eq {x k : Nat} (h1 : x < 2 ^ k) (h2 : k = 0 ∨ 2 ^ (k - 1) ≤ x) : bl x = k := by
  have h3 := (bl_le x k).2 h1
  rcases h2 with rfl | h2
  · omega
  · by_cases h : bl x ≤ k - 1
    · have := (bl_le x _).1 h; omega
    · omega
theorem dl_eq {b x k : Nat} (hb : 0 < b) (h1 : x < 2 ^ (b * k)) (h2 : k = 0 ∨ 2 ^ (b * (k - 1)) ≤ x) : dl b x = k := by
  have h3 := (dl_le b x k hb).2 h1
  rcases h2 with rfl | h2
  · omega
  · by_cases h : dl b x ≤ k - 1
    · have := (dl_le b x _ hb).1 h; omega
    · omega
theorem dl_low {b x : Nat} (hb : 0 < b) (h : 0 < dl b x) : 2 ^ (b * (dl b x - 1)) ≤ x := by
  by_cases h1 : x < 2 ^ (b * (dl b x - 1))
  · have := (dl_le b x _ hb).2 h1; omega
  · omega
theorem dl_pos {b x : Nat} (hb : 0 < b) : 0 < dl b x ↔ 0 < x := by
  constructor
  · intro h
    have := dl_low hb h
    have := Nat.two_pow_pos (b * (dl b x - 1))
    omega
  · intro h
    by_cases h1 : dl b x ≤ 0
    · have := (dl_le b x 0 hb).1 h1; simp at this; omega
    · omega

theorem wd_nat (x i : Nat) : (wd x i).toNat = x / 2 ^ (64 * i) % 18446744073709551616 := by
  unfold wd; rw [BitVec.toNat_ofNat]
theorem bt_nat (x i : Nat) : (bt x i).toNat = x / 2 ^ (8 * i) % 256 := by
  unfold bt; rw [BitVec.toNat_ofNat]
theorem wd_bit (x i j : Nat) : (wd x i).getLsbD j = (decide (j < 64) && x.testBit (64 * i + j)) := by
  unfold wd; rw [BitVec.getLsbD_ofNat, Nat.testBit_div_two_pow, Nat.add_comm]
theorem bt_bit (x i j : Nat) : (bt x i).getLsbD j = (decide (j < 8) && x.testBit (8 * i + j)) := by
  unfold bt; rw [BitVec.getLsbD_ofNat, Nat.testBit_div_two_pow, Nat.add_comm]
theorem wd_over {x n i : Nat} (h : x < 2 ^ (64 * n)) (hi : n ≤ i) : wd x i = 0 := by
  unfold wd
  rw [Nat.div_eq_of_lt (Nat.lt_of_lt_of_le h (Nat.pow_le_pow_right (by omega) (by omega)))]
  rfl
theorem bt_over {x n i : Nat} (h : x < 2 ^ (8 * n)) (hi : n ≤ i) : bt x i = 0 := by
  unfold bt
  rw [Nat.div_eq_of_lt (Nat.lt_of_lt_of_le h (Nat.pow_le_pow_right (by omega) (by omega)))]
  rfl
theorem wd_zero (i : Nat) : wd 0 i = 0 := wd_over (n := 0) (by simp) (Nat.zero_le _)
theorem bt_zero (i : Nat) : bt 0 i = 0 := bt_over (n := 0) (by simp) (Nat.zero_le _)
theorem pow_split (b i : Nat) : 2 ^ (b * (i + 1)) = 2 ^ (b * i) * 2 ^ b := by rw [Nat.mul_succ, Nat.pow_add]
theorem pow64 (i : Nat) : 2 ^ (64 * (i + 1)) = 2 ^ (64 * i) * 18446744073709551616 := pow_split 64 i
theorem pow8 (i : Nat) : 2 ^ (8 * (i + 1)) = 2 ^ (8 * i) * 256 := pow_split 8 i
/-- The highest digit is 0 just if one digit less is enough. -/
theorem wd_top {x n : Nat} (h : x < 2 ^ (64 * (n + 1))) : wd x n = 0 ↔ x < 2 ^ (64 * n) := by
  have e : (wd x n).toNat = x / 2 ^ (64 * n) := by
    rw [wd_nat, Nat.mod_eq_of_lt]
    rw [Nat.div_lt_iff_lt_mul (Nat.two_pow_pos _), Nat.mul_comm, ← pow64]; exact h
  constructor
  · intro h0
    rw [h0] at e
    have e' : 0 = x / 2 ^ (64 * n) := e
    exact Nat.lt_of_div_eq_zero (Nat.two_pow_pos _) e'.symm
  · intro h0
    exact wd_over h0 (Nat.le_refl _)
theorem bt_top {x n : Nat} (h : x < 2 ^ (8 * (n + 1))) : bt x n = 0 ↔ x < 2 ^ (8 * n) := by
  have e : (bt x n).toNat = x / 2 ^ (8 * n) := by
    rw [bt_nat, Nat.mod_eq_of_lt]
    rw [Nat.div_lt_iff_lt_mul (Nat.two_pow_pos _), Nat.mul_comm, ← pow8]; exact h
  constructor
  · intro h0
    rw [h0] at e
    have e' : 0 = x / 2 ^ (8 * n) := e
    exact Nat.lt_of_div_eq_zero (Nat.two_pow_pos _) e'.symm
  · intro h0
    exact bt_over h0 (Nat.le_refl _)
/-- A number is told by its digits. -/
theorem eq_of_bits {x y n : Nat} (hx : x < 2 ^ n) (hy : y < 2 ^ n) (h : ∀ i, i < n → x.testBit i = y.testBit i) : x = y := by
  apply Nat.eq_of_testBit_eq
  intro i
  by_cases hi : i < n
  · exact h i hi
  · rw [Nat.testBit_lt_two_pow (Nat.lt_of_lt_of_le hx (Nat.pow_le_pow_right (by omega) (by omega))), Nat.testBit_lt_two_pow (Nat.lt_of_lt_of_le hy (Nat.pow_le_pow_right (by omega) (by omega)))]
theorem eq_of_words {x y n : Nat} (hx : x < 2 ^ (64 * n)) (hy : y < 2 ^ (64 * n)) (h : ∀ i, i < n → wd x i = wd y i) : x = y := by
  refine eq_of_bits hx hy fun i hi => ?_
  have h1 := congrArg (fun b => b.getLsbD (i % 64)) (h (i / 64) (by omega))
  simp only [wd_bit] at h1
  rw [show 64 * (i / 64) + i % 64 = i by omega] at h1
  simpa [Nat.mod_lt] using h1
/-- Any words, and any bytes, are a number's. -/
theorem words_of (f : Nat → BitVec 64) : ∀ n, ∃ x, x < 2 ^ (64 * n) ∧ ∀ i, i < n → wd x i = f i
  | 0 => ⟨0, by simp, fun i h => by omega⟩
  | n + 1 => by
    obtain ⟨x, hx, h⟩ := words_of f n
    refine ⟨2 ^ (64 * n) * (f n).toNat + x, ?_, fun i hi => ?_⟩
    · rw [pow64]
      have h1 : (f n).toNat + 1 ≤ 18446744073709551616 := (f n).isLt
      have := Nat.mul_le_mul_left (2 ^ (64 * n)) h1
      rw [Nat.mul_add] at this
      omega
    · apply BitVec.eq_of_getLsbD_eq
      intro j hj
      rw [wd_bit, Nat.two_pow_add_eq_or_of_lt hx, Nat.testBit_or, Nat.testBit_two_pow_mul]
      by_cases e : i = n
      · subst e
        rw [Nat.testBit_lt_two_pow (Nat.lt_of_lt_of_le hx (Nat.pow_le_pow_right (by omega) (by omega : 64 * i ≤ 64 * i + j)))]
        simp [hj, BitVec.testBit_toNat]
      · have h2 := congrArg (fun b => b.getLsbD j) (h i (by omega))
        simp only [wd_bit] at h2
        have : ¬ 64 * i + j ≥ 64 * n := by omega
        simp [hj, this] at h2 ⊢
        exact h2
theorem bytes_of (f : Nat → BitVec 8) : ∀ n, ∃ x, x < 2 ^ (8 * n) ∧ ∀ i, i < n → bt x i = f i
  | 0 => ⟨0, by simp, fun i h => by omega⟩
  | n + 1 => by
    obtain ⟨x, hx, h⟩ := bytes_of f n
    refine ⟨2 ^ (8 * n) * (f n).toNat + x, ?_, fun i hi => ?_⟩
    · rw [pow8]
      have h1 : (f n).toNat + 1 ≤ 256 := (f n).isLt
      have := Nat.mul_le_mul_left (2 ^ (8 * n)) h1
      rw [Nat.mul_add] at this
      omega
    · apply BitVec.eq_of_getLsbD_eq
      intro j hj
      rw [bt_bit, Nat.two_pow_add_eq_or_of_lt hx, Nat.testBit_or, Nat.testBit_two_pow_mul]
      by_cases e : i = n
      · subst e
        rw [Nat.testBit_lt_two_pow (Nat.lt_of_lt_of_le hx (Nat.pow_le_pow_right (by omega) (by omega : 8 * i ≤ 8 * i + j)))]
        simp [hj, BitVec.testBit_toNat]
      · have h2 := congrArg (fun b => b.getLsbD j) (h i (by omega))
        simp only [bt_bit] at h2
        have : ¬ 8 * i + j ≥ 8 * n := by omega
        simp [hj, this] at h2 ⊢
        exact h2

/-- The first i of one row, the others of another one. -/
def mix {α : Type} (i : Nat) (f g : Nat → α) : Nat → α := fun k => if k < i then f k else g k
theorem mix_zero {α : Type} (f g : Nat → α) : mix 0 f g = g := by funext k; simp [mix]
theorem mix_at {α : Type} (i : Nat) (f g : Nat → α) : mix i f g i = g i := by simp [mix]
theorem mix_upd (i : Nat) (f g : Nat → BitVec 64) : upd (mix i f g) i (f i) = mix (i + 1) f g := by
  funext k
  unfold upd mix
  by_cases e : k = i
  · subst e; simp
  · by_cases h : k < i
    · rw [if_neg e, if_pos h, if_pos (by omega)]
    · rw [if_neg e, if_neg h, if_neg (by omega)]
theorem mix_all {α : Type} (n : Nat) (f g : Nat → α) (k : Nat) (h : k < n) : mix n f g k = f k := by simp [mix, h]

/-! Sums -/
/-- What goes over into word i of a sum. -/
def car (x y i : Nat) : Nat := (x % 2 ^ (64 * i) + y % 2 ^ (64 * i)) / 2 ^ (64 * i)
theorem car_zero (x y : Nat) : car x y 0 = 0 := by simp [car, Nat.mod_one]
theorem car_le (x y i : Nat) : car x y i ≤ 1 := by
  unfold car
  have h1 := Nat.mod_lt x (Nat.two_pow_pos (64 * i))
  have h2 := Nat.mod_lt y (Nat.two_pow_pos (64 * i))
  apply Nat.le_of_lt_succ
  rw [Nat.div_lt_iff_lt_mul (Nat.two_pow_pos _)]
  omega
theorem sum_parts (x y P B : Nat) (hP : 0 < P) (_hB : 0 < B) : (x + y) / P % B = (x / P % B + y / P % B + (x % P + y % P) / P) % B ∧ (x % (P * B) + y % (P * B)) / (P * B) = (x / P % B + y / P % B + (x % P + y % P) / P) / B := by
  have e1 : (x + y) / P = x / P + y / P + (x % P + y % P) / P := by
    have : x + y = P * (x / P + y / P) + (x % P + y % P) := by
      rw [Nat.mul_add]; have := Nat.div_add_mod x P; have := Nat.div_add_mod y P; omega
    rw [this, Nat.mul_add_div hP]
  constructor
  · rw [e1, Nat.add_mod, Nat.add_mod (x / P)]
    simp [Nat.add_mod]
  · rw [Nat.mod_mul, Nat.mod_mul, ← Nat.div_div_eq_div_mul]
    congr 1
    have : x % P + P * (x / P % B) + (y % P + P * (y / P % B)) = P * (x / P % B + y / P % B) + (x % P + y % P) := by rw [Nat.mul_add]; omega
    rw [this, Nat.mul_add_div hP]
theorem wd_add (x y i : Nat) : (wd (x + y) i).toNat = ((wd x i).toNat + (wd y i).toNat + car x y i) % 18446744073709551616 := by
  rw [wd_nat, wd_nat, wd_nat]
  exact (sum_parts x y _ _ (Nat.two_pow_pos _) (by omega)).1
theorem car_succ (x y i : Nat) : car x y (i + 1) = ((wd x i).toNat + (wd y i).toNat + car x y i) / 18446744073709551616 := by
  rw [wd_nat, wd_nat]
  show (_ % 2 ^ (64 * (i + 1)) + _ % 2 ^ (64 * (i + 1))) / 2 ^ (64 * (i + 1)) = _
  rw [pow64]
  exact (sum_parts x y _ _ (Nat.two_pow_pos _) (by omega)).2
/-- The last word of a sum. -/
theorem wd_last {x y n : Nat} (hx : x < 2 ^ (64 * n)) (hy : y < 2 ^ (64 * n)) : (wd (x + y) n).toNat = car x y n := by
  rw [wd_add, wd_over hx (Nat.le_refl _), wd_over hy (Nat.le_refl _)]
  have := car_le x y n
  simp
  omega
theorem add_fits {x y n : Nat} (hx : x < 2 ^ (64 * n)) (hy : y < 2 ^ (64 * n)) : x + y < 2 ^ (64 * (n + 1)) := by
  rw [pow64]; omega

/-! Differences -/
def bor (x y i : Nat) : Nat := if x % 2 ^ (64 * i) < y % 2 ^ (64 * i) then 1 else 0
theorem bor_zero (x y : Nat) : bor x y 0 = 0 := by simp [bor, Nat.mod_one]
theorem bor_le (x y i : Nat) : bor x y i ≤ 1 := by unfold bor; split <;> omega
theorem dif_parts (x y P B : Nat) (hP : 0 < P) (hB : 0 < B) (h : y ≤ x) (hc : B = 18446744073709551616) : (x - y) / P % B = (x / P % B + B - y / P % B - (if x % P < y % P then 1 else 0)) % B ∧ ((x % (P * B) < y % (P * B)) ↔ x / P % B < y / P % B + (if x % P < y % P then 1 else 0)) := by
  have hxm := Nat.mod_lt x hP
  have hym := Nat.mod_lt y hP
  have ex := Nat.div_add_mod x P
  have ey := Nat.div_add_mod y P
  have e1 : (x - y) / P = x / P - y / P - (if x % P < y % P then 1 else 0) := by
    have hq : y / P ≤ x / P := Nat.div_le_div_right h
    by_cases hlt : x % P < y % P
    · rw [if_pos hlt]
      have hq' : y / P + 1 ≤ x / P := by
        rcases Nat.lt_or_ge (y / P) (x / P) with h1 | h1
        · exact h1
        · have : y / P = x / P := by omega
          rw [this] at ey; omega
      have e : x - y = P * (x / P - y / P - 1) + (P + x % P - y % P) := by
        rw [Nat.mul_sub, Nat.mul_sub, Nat.mul_one]
        have := Nat.mul_le_mul_left P hq'
        rw [Nat.mul_add, Nat.mul_one] at this
        omega
      rw [e, Nat.mul_add_div hP, Nat.div_eq_of_lt (by omega : P + x % P - y % P < P)]
      omega
    · rw [if_neg hlt]
      have e : x - y = P * (x / P - y / P) + (x % P - y % P) := by
        rw [Nat.mul_sub]
        have := Nat.mul_le_mul_left P hq
        omega
      rw [e, Nat.mul_add_div hP, Nat.div_eq_of_lt (by omega : x % P - y % P < P)]
      omega
  have hq : y / P + (if x % P < y % P then 1 else 0) ≤ x / P := by
    have hq : y / P ≤ x / P := Nat.div_le_div_right h
    split
    · rename_i hlt
      rcases Nat.lt_or_ge (y / P) (x / P) with h1 | h1
      · omega
      · have : y / P = x / P := by omega
        rw [this] at ey; omega
    · omega
  generalize hb : (if x % P < y % P then 1 else 0) = b at *
  have hb1 : b ≤ 1 := by rw [← hb]; split <;> omega
  constructor
  · rw [e1, hc]
    omega
  · rw [Nat.mod_mul, Nat.mod_mul]
    have hsx := Nat.mod_lt (x / P) hB
    generalize x / P % B = u at *
    generalize y / P % B = v at *
    generalize x % P = r at *
    generalize y % P = s at *
    constructor
    · intro h1
      rcases Nat.lt_trichotomy u v with h2 | h2 | h2
      · omega
      · subst h2
        rw [if_pos (by omega)] at hb
        omega
      · have := Nat.mul_le_mul_left P h2
        rw [Nat.mul_succ] at this
        omega
    · intro h1
      by_cases h2 : u < v
      · have := Nat.mul_le_mul_left P h2
        rw [Nat.mul_succ] at this
        omega
      · have : u = v := by omega
        subst this
        split at hb
        · omega
        · omega
theorem wd_sub {x y : Nat} (h : y ≤ x) (i : Nat) : (wd (x - y) i).toNat = ((wd x i).toNat + 18446744073709551616 - (wd y i).toNat - bor x y i) % 18446744073709551616 := by
  rw [wd_nat, wd_nat, wd_nat]
  exact (dif_parts x y _ _ (Nat.two_pow_pos _) (by omega) h rfl).1
theorem bor_succ {x y : Nat} (h : y ≤ x) (i : Nat) : bor x y (i + 1) = if (wd x i).toNat < (wd y i).toNat + bor x y i then 1 else 0 := by
  have := (dif_parts x y _ _ (Nat.two_pow_pos (64 * i)) (by omega) h rfl).2
  rw [wd_nat, wd_nat]
  unfold bor
  rw [pow64]
  by_cases h1 : x % (2 ^ (64 * i) * 18446744073709551616) < y % (2 ^ (64 * i) * 18446744073709551616)
  · rw [if_pos h1, if_pos (this.1 h1)]
  · rw [if_neg h1, if_neg (fun h2 => h1 (this.2 h2))]

/-! Products: what x times b, onto z, has gone over -/
def ovr (z y x i : Nat) : Nat := (z % 2 ^ (64 * i) + y % 2 ^ (64 * i) * x) / 2 ^ (64 * i)
theorem ovr_zero (z y x : Nat) : ovr z y x 0 = 0 := by simp [ovr, Nat.mod_one]
theorem ovr_lt (z y x i : Nat) (hx : x < 18446744073709551616) : ovr z y x i < 18446744073709551616 := by
  unfold ovr
  have hP := Nat.two_pow_pos (64 * i)
  have h1 := Nat.mod_lt z hP
  have h2 := Nat.mod_lt y hP
  rw [Nat.div_lt_iff_lt_mul hP]
  generalize 2 ^ (64 * i) = P at *
  generalize y % P = r at *
  have : r * x ≤ (P - 1) * 18446744073709551615 := Nat.mul_le_mul (by omega) (by omega)
  rw [Nat.sub_mul] at this
  have h3 : 1 * 18446744073709551615 ≤ P * 18446744073709551615 := Nat.mul_le_mul_right _ (by omega)
  omega
theorem ovr_step (z y x i : Nat) : (wd z i).toNat + (wd y i).toNat * x + ovr z y x i = (wd (z + y * x) i).toNat + 18446744073709551616 * ovr z y x (i + 1) := by
  rw [wd_nat, wd_nat, wd_nat]
  unfold ovr
  rw [pow64]
  have hP := Nat.two_pow_pos (64 * i)
  generalize 2 ^ (64 * i) = P at *
  have hB : 0 < 18446744073709551616 := by omega
  generalize 18446744073709551616 = B at *
  have e1 : (z + y * x) / P = z / P + y / P * x + (z % P + y % P * x) / P := by
    have h1 : z + y * x = P * (z / P + y / P * x) + (z % P + y % P * x) := by
      have hz := Nat.div_add_mod z P
      have hy : (P * (y / P) + y % P) * x = y * x := by rw [Nat.div_add_mod]
      rw [Nat.add_mul] at hy
      rw [Nat.mul_add, ← Nat.mul_assoc]
      omega
    rw [h1, Nat.mul_add_div hP]
  have e2 : (z % (P * B) + y % (P * B) * x) / (P * B) = (z / P % B + y / P % B * x + (z % P + y % P * x) / P) / B := by
    rw [Nat.mod_mul, Nat.mod_mul, ← Nat.div_div_eq_div_mul]
    congr 1
    have : z % P + P * (z / P % B) + (y % P + P * (y / P % B)) * x = P * (z / P % B + y / P % B * x) + (z % P + y % P * x) := by
      rw [Nat.add_mul, Nat.mul_add, ← Nat.mul_assoc]; omega
    rw [this, Nat.mul_add_div hP]
  rw [e1, e2]
  generalize (z % P + y % P * x) / P = o at *
  generalize z / P = u at *
  generalize y / P = v at *
  have : (u + v * x + o) % B = (u % B + v % B * x + o) % B := by
    simp [Nat.add_mod, Nat.mul_mod]
  rw [this]
  have := Nat.div_add_mod (u % B + v % B * x + o) B
  omega
/-- Behind the last word of b. -/
theorem ovr_last {z y x m : Nat} (hz : z < 2 ^ (64 * m)) (hy : y < 2 ^ (64 * m)) (hx : x < 18446744073709551616) : (wd (z + y * x) m).toNat = ovr z y x m ∧ z + y * x < 2 ^ (64 * (m + 1)) := by
  have h := ovr_lt z y x m hx
  unfold ovr at h ⊢
  rw [Nat.mod_eq_of_lt hz, Nat.mod_eq_of_lt hy] at h ⊢
  rw [wd_nat, Nat.mod_eq_of_lt h]
  refine ⟨rfl, ?_⟩
  rw [pow64, Nat.mul_comm (2 ^ _)]
  exact (Nat.div_lt_iff_lt_mul (Nat.two_pow_pos _)).1 h
/-- Words from i on are those of what is there. -/
theorem wd_shift (z t i k : Nat) (hz : z < 2 ^ (64 * i)) : wd (2 ^ (64 * i) * t + z) (i + k) = wd t k := by
  unfold wd
  rw [show 64 * (i + k) = 64 * i + 64 * k by omega, Nat.pow_add, ← Nat.div_div_eq_div_mul, Nat.mul_add_div (Nat.two_pow_pos _), Nat.div_eq_of_lt hz, Nat.add_zero]
theorem wd_low (z t i k : Nat) (hk : k < i) : wd (2 ^ (64 * i) * t + z) k = wd z k := by
  obtain ⟨d, rfl⟩ : ∃ d, i = k + (d + 1) := ⟨i - k - 1, by omega⟩
  unfold wd
  rw [show 64 * (k + (d + 1)) = 64 * k + 64 * (d + 1) by omega, Nat.pow_add, Nat.mul_assoc, Nat.mul_add_div (Nat.two_pow_pos _), show 64 * (d + 1) = 64 + 64 * d by omega, Nat.pow_add, Nat.mul_assoc]
  apply BitVec.eq_of_toNat_eq
  rw [BitVec.toNat_ofNat, BitVec.toNat_ofNat, Nat.mul_add_mod]

/-! Order -/
def cmp (x y : Nat) : Int := if x < y then -1 else if y < x then 1 else 0
theorem cmp_lt {x y : Nat} (h : x < y) : cmp x y = -1 := by simp [cmp, h]
theorem cmp_gt {x y : Nat} (h : y < x) : cmp x y = 1 := by
  have : ¬ x < y := by omega
  simp [cmp, h, this]
theorem cmp_eq (x : Nat) : cmp x x = 0 := by simp [cmp]
theorem div_step (x P B : Nat) : x / P = B * (x / (P * B)) + x / P % B := by
  rw [← Nat.div_div_eq_div_mul]
  exact (Nat.div_add_mod _ _).symm
theorem cmp_step_lt {x y i : Nat} (h : x / 2 ^ (64 * (i + 1)) = y / 2 ^ (64 * (i + 1))) (hd : (wd x i).toNat < (wd y i).toNat) : x < y := by
  rw [wd_nat, wd_nat] at hd
  rw [pow64] at h
  have h1 := div_step x (2 ^ (64 * i)) 18446744073709551616
  have h2 := div_step y (2 ^ (64 * i)) 18446744073709551616
  rw [h] at h1
  rcases Nat.lt_or_ge x y with h3 | h3
  · exact h3
  · have := Nat.div_le_div_right (c := 2 ^ (64 * i)) h3
    omega
theorem cmp_step_eq {x y i : Nat} (h : x / 2 ^ (64 * (i + 1)) = y / 2 ^ (64 * (i + 1))) (hd : (wd x i).toNat = (wd y i).toNat) : x / 2 ^ (64 * i) = y / 2 ^ (64 * i) := by
  rw [wd_nat, wd_nat] at hd
  rw [pow64] at h
  have h1 := div_step x (2 ^ (64 * i)) 18446744073709551616
  have h2 := div_step y (2 ^ (64 * i)) 18446744073709551616
  rw [h] at h1
  omega
theorem cmp8_step_lt {x y i : Nat} (h : x / 2 ^ (8 * (i + 1)) = y / 2 ^ (8 * (i + 1))) (hd : (bt x i).toNat < (bt y i).toNat) : x < y := by
  rw [bt_nat, bt_nat] at hd
  rw [pow8] at h
  have h1 := div_step x (2 ^ (8 * i)) 256
  have h2 := div_step y (2 ^ (8 * i)) 256
  rw [h] at h1
  rcases Nat.lt_or_ge x y with h3 | h3
  · exact h3
  · have := Nat.div_le_div_right (c := 2 ^ (8 * i)) h3
    omega
theorem cmp8_step_eq {x y i : Nat} (h : x / 2 ^ (8 * (i + 1)) = y / 2 ^ (8 * (i + 1))) (hd : (bt x i).toNat = (bt y i).toNat) : x / 2 ^ (8 * i) = y / 2 ^ (8 * i) := by
  rw [bt_nat, bt_nat] at hd
  rw [pow8] at h
  have h1 := div_step x (2 ^ (8 * i)) 256
  have h2 := div_step y (2 ^ (8 * i)) 256
  rw [h] at h1
  omega
end Go.Proofs.Ytgdfpboccgfadaa

/-
  Rows of bytes and of words in memory: what a walk knows of them, make, append, copy. No statement is proved here: lemmas for the walks.
-/
namespace Go.Proofs.Ytgdfpboccgfadaa
open Go.RowKit

section
variable {w W W' : World} {l : List (Nat × Obj)}
end

section
variable {w : World} {ops : Array Oper} {rest : List Oper} {o : Oper} {act : Act} {Q : Exit → Act → World → Prop}
end
section
variable {w W : World} {b n : Nat} {f : Nat → BitVec 8}
end
section
variable {ops : Array Oper} {rest : List Oper} {o : Oper} {a : Act} {w : World} {Q : Exit → Act → World → Prop}
end
section
variable {w : World} {ops : Array Oper} {rest : List Oper} {o : Oper} {act : Act} {Q : Exit → Act → World → Prop}
end

theorem info64 : (Try.prog.info? 48).map (fun i => (i.zero, i.size, i.bytes)) = some (some (.int .u64 0), 1, 8) := by kernel_rfl
theorem info_u64 : ∃ i, Try.prog.info? 48 = some i ∧ i.zero = some (.int .u64 0) ∧ i.size = 1 ∧ i.bytes = 8 := by
  cases hq : Try.prog.info? 48 with
  | none => have := info64; simp [hq] at this
  | some i =>
    have := info64
    simp [hq] at this
    exact ⟨i, rfl, this.1, this.2.1, this.2.2⟩
theorem A_zero (n : Nat) : A n (fun _ => 0) = Array.replicate n (.int .u64 0) := by
  apply Array.ext_getElem?
  intro j
  by_cases hj : j < n
  · rw [A_get n _ j hj]
    simp [hj]
    rfl
  · rw [Array.getElem?_eq_none (by simpa [A_size] using hj), Array.getElem?_eq_none (by simpa using hj)]
theorem made_u64 (n : Nat) : madeCells (Value.int .u64 0).cells n = A n fun _ => 0 := by
  rw [A_zero]
  unfold madeCells
  apply Array.ext_getElem?
  intro j
  simp only [Array.getElem?_map, Array.getElem?_replicate]
  by_cases h : j < n
  · simp [h, Value.cells, Nat.mod_one]
  · simp [h]
theorem run_make_u64 (w : World) (l : Nat) (hc : l ≤ 1000000) : (Instr.makeSlice 33 (.int .i64 (l : Int)) (.int .i64 (l : Int))).run Try.prog w = .ok (.slice (some ⟨w.heap.size, 0, none⟩) l l) (w.alloc (.cells (A l fun _ => 0) 48)) := by
  obtain ⟨i, hi, hz, hs, hb⟩ := info_u64
  have h := run_makeSlice (P := Try.prog) w 33 48 i (.int .u64 0) Try.underlying33 hi hz .i64 .i64 (l : Int) (l : Int) (by omega) (by omega) (by rw [hs, Int.toNat_natCast]; omega) (by rw [hb]; omega) (by omega)
  rw [hs, Int.toNat_natCast, Nat.mul_one, made_u64] at h
  exact h
/-- A row of n words lies in block b. -/
def RowW (w : World) (b n : Nat) (f : Nat → BitVec 64) : Prop := w.heap[b]? = some (.cells (A n f) 48)
section
variable {w W : World} {b n : Nat} {f : Nat → BitVec 64}
theorem RowW.lt (h : RowW w b n f) : b < w.heap.size := row_lt h
theorem RowW.cell (h : RowW w b n f) (i : Nat) (hi : i < n) : w.cell? ⟨b, i, none⟩ = some (V (f i)) := by rw [cell_of_row _ _ _ _ _ _ h, A_get _ _ _ hi]
theorem RowW.thaw (h : RowW w b n f) (i : Nat) : w.frozen? ⟨b, i, none⟩ = false := frozen_of_row _ _ _ _ _ h
theorem RowW.below {B : Nat} (h : RowW w b n f) (hb : Below B w W) (hB : b < B) : RowW W b n f := (hb.block _ hB).trans h
theorem RowW.drew (h : RowW w b n f) : RowW w.drew b n f := h
theorem RowW.alloc (h : RowW w b n f) (o : Obj) : RowW (w.alloc o) b n f := (heap_alloc_past _ _ _ h.lt).trans h
theorem RowW.setCell (h : RowW w b n f) (i : Nat) (v : BitVec 64) : RowW (w.setCell ⟨b, i, none⟩ (V v)) b n (upd f i v) := by
  have := heap_setCell_same w b i _ _ (V v) h
  rwa [A_set] at this
theorem RowW.other (h : RowW w b n f) (g i : Nat) (v : Value) (hne : b ≠ g) : RowW (w.setCell ⟨g, i, none⟩ v) b n f := by
  unfold RowW
  rw [heap_setCell_other _ _ _ _ (by show b ≠ g; exact hne)]
  exact h
theorem RowW.congr {f' : Nat → BitVec 64} (h : RowW w b n f) (hf : ∀ i, i < n → f i = f' i) : RowW w b n f' := by
  unfold RowW at h ⊢
  rw [h, A_congr hf]
theorem RowW.new (w : World) (n : Nat) (f : Nat → BitVec 64) : RowW (w.alloc (.cells (A n f) 48)) w.heap.size n f := heap_alloc_last _ _
end
/-- A slice of n words, nil let in, that are the number x, and that lies below block B. -/
structure Sw (w : World) (B : Nat) (a : Option Addr) (n c x : Nat) : Prop where
  le : n ≤ c
  nil : a = none → c = 0
  low : ∀ ad, a = some ad → 0 < n → ∃ b o, ad = ⟨b, o, none⟩ ∧ b < B ∧ ∀ i, i < n → w.cell? ⟨b, o + i, none⟩ = some (V (wd x i))
  fits : x < 2 ^ (64 * n)
section
variable {w w' : World} {B : Nat} {a : Option Addr} {n c x : Nat}
theorem Sw.get (h : Sw w B a n c x) (i : Nat) (hi : i < n) : ∃ b o, a = some ⟨b, o, none⟩ ∧ b < B ∧ w.cell? ⟨b, o + i, none⟩ = some (V (wd x i)) := by
  cases ha : a with
  | none =>
    have h1 := h.nil ha
    have h2 := h.le
    exfalso; omega
  | some ad =>
    obtain ⟨b, o, rfl, hb, hc⟩ := h.low ad ha (by omega)
    exact ⟨b, o, rfl, hb, hc i hi⟩
theorem Sw.below (h : Sw w B a n c x) (hb : Below B w w') : Sw w' B a n c x :=
  ⟨h.le, h.nil, fun ad ha h0 => by
    obtain ⟨b, o, rfl, hlt, hc⟩ := h.low ad ha h0
    exact ⟨b, o, rfl, hlt, fun i hi => (hb.cell (p := ⟨b, o + i, none⟩) hlt).trans (hc i hi)⟩, h.fits⟩
theorem Sw.more {B' : Nat} (h : Sw w B a n c x) (hB : B ≤ B') : Sw w B' a n c x :=
  ⟨h.le, h.nil, fun ad ha h0 => by
    obtain ⟨b, o, rfl, hlt, hc⟩ := h.low ad ha h0
    exact ⟨b, o, rfl, by omega, hc⟩, h.fits⟩
theorem Sw.call (h : Sw w w.heap.size a n c x) (hb : Below w.heap.size w w') : Sw w' w'.heap.size a n c x := (h.below hb).more hb.size
/-- Noughts at the end are left away. -/
theorem Sw.cut (h : Sw w B a n c x) : Sw w B a (dl 64 x) (dl 64 x) x := by
  have hk := (dl_le 64 x n (by omega)).2 h.fits
  refine ⟨Nat.le_refl _, fun ha => ?_, fun ad ha h0 => ?_, fits_dl 64 x (by omega)⟩
  · have h1 := h.nil ha
    have h2 := h.le
    omega
  · obtain ⟨b, o, rfl, hlt, hc⟩ := h.low ad ha (by omega)
    exact ⟨b, o, rfl, hlt, fun i hi => hc i (by omega)⟩
theorem Sw.zero (w : World) (B : Nat) : Sw w B none 0 0 0 := ⟨Nat.le_refl _, fun _ => rfl, (fun _ e _ => by cases e), by simp⟩
theorem RowW.sw {g N n x : Nat} (h : RowW w g N (wd x)) (hN : n ≤ N) (hx : x < 2 ^ (64 * n)) (hB : g < B) : Sw w B (some ⟨g, 0, none⟩) n n x :=
  ⟨Nat.le_refl _, (fun e => by cases e), fun ad e _ => ⟨g, 0, (Option.some.inj e).symm, hB, fun i hi => by rw [Nat.zero_add]; exact h.cell i (by omega)⟩, hx⟩
end
/-- A slice of n bytes that are the number x. -/
structure Sb (w : World) (B : Nat) (a : Option Addr) (n c x : Nat) : Prop where
  sl : Sl w B a n c (bt x)
  fits : x < 2 ^ (8 * n)
section
variable {w w' : World} {B : Nat} {a : Option Addr} {n c x : Nat}
theorem Sb.below (h : Sb w B a n c x) (hb : Below B w w') : Sb w' B a n c x := ⟨h.sl.below hb, h.fits⟩
theorem Sb.more {B' : Nat} (h : Sb w B a n c x) (hB : B ≤ B') : Sb w B' a n c x := ⟨h.sl.more hB, h.fits⟩
theorem Sb.call (h : Sb w w.heap.size a n c x) (hb : Below w.heap.size w w') : Sb w' w'.heap.size a n c x := (h.below hb).more hb.size
theorem Sb.cut (h : Sb w B a n c x) : Sb w B a (dl 8 x) c x := by
  have hk := (dl_le 8 x n (by omega)).2 h.fits
  refine ⟨⟨by have := h.sl.le; omega, h.sl.nil, fun ad ha h0 => ?_⟩, fits_dl 8 x (by omega)⟩
  obtain ⟨b, o, rfl, hlt, hc⟩ := h.sl.low ad ha (by omega)
  exact ⟨b, o, rfl, hlt, fun i hi => hc i (by omega)⟩
end
/-- v is a new row of words, just as many as x wants, that are x. -/
def Got (w W : World) (v : Value) (x : Nat) : Prop := ∃ g N, v = .slice (some ⟨g, 0, none⟩) (dl 64 x) (dl 64 x) ∧ w.heap.size ≤ g ∧ RowW W g N (wd x) ∧ dl 64 x ≤ N ∧ Below w.heap.size w W
theorem Got.open {w W : World} {v : Value} {x : Nat} (h : Got w W v x) : ∃ a, v = .slice a (dl 64 x) (dl 64 x) ∧ Sw W W.heap.size a (dl 64 x) (dl 64 x) x ∧ Below w.heap.size w W := by
  obtain ⟨g, N, rfl, hg, hr, hN, hb⟩ := h
  exact ⟨_, rfl, hr.sw hN (fits_dl 64 x (by omega)) hr.lt, hb⟩
/-- v is bytes, just as many as x wants, that are x. -/
def GotB (w W : World) (v : Value) (x : Nat) : Prop := ∃ a c, v = .slice a (dl 8 x) c ∧ Sb W W.heap.size a (dl 8 x) c x ∧ Below w.heap.size w W

section
variable {ops : Array Oper} {rest : List Oper} {o : Oper} {a : Act} {w : World} {Q : Exit → Act → World → Prop}
theorem lay_makeW (hgd : o.guard = none) {x y : Operand} (ho : o.op = .makeSlice 33 x y) {l : Nat} (hx : a.eval x = .int .i64 (l : Int)) (hy : a.eval y = .int .i64 (l : Int)) (hc : l ≤ 1000000)
    (k : ∀ K : Act → World → Prop, (∀ a w, wpList Try.prog ops Q rest a w → K a w) → K (a.put o.dst (.slice (some ⟨w.heap.size, 0, none⟩) l l)) (w.alloc (.cells (A l fun _ => 0) 48))) : wpList Try.prog ops Q (o :: rest) a w :=
  wpList_plain hgd fun K hK => by
    unfold Oper.wp execOp
    simp only [ho, hx, hy, Sem.run_bind, run_make_u64 w l hc, Result.andThen_ok]
    exact k K hK
end
end Go.Proofs.Ytgdfpboccgfadaa

/-
  A slice of bytes that are a number, in regions that draw their order. No statement is proved here: lemmas for the walks.
-/
namespace Go.Proofs.Ytgdfpboccgfadaa
open Go.RowKit

theorem Sb.drew {w : World} {a : Option Addr} {n c x : Nat} (h : Sb w w.heap.size a n c x) : Sb w.drew w.drew.heap.size a n c x := ⟨h.sl.drew, h.fits⟩
section
variable {P : Program} {o : Oper} {a : Act} {w w0 : World} {l : List (Nat × Obj)} {K : Act → World → Prop} {Q : Exit → Act → World → Prop} {t : TypeId} {k : IntKind} {n : Nat}
/-- A slice of one byte is made. -/
theorem own_wp_byte (dd : Tmp) (hd : o.dst = some dd) {v : Nat} (hv : v < 256) (H : Ow w0 w l) (ho : o.op = .buildSlice 22 1 #[(0, .const (.int .u8 (v : Int)))])
    (h : ∀ w' g, Ow w0 w' ((g, .cells #[.int .u8 (v : Int)] 5) :: l) → Sb w' w'.heap.size (some ⟨g, 0, none⟩) 1 1 v → Below w.heap.size w w' → K (a.put (some dd) (.slice (some ⟨g, 0, none⟩) 1 1)) w') : o.wp Try.prog a w K Q := by
  obtain ⟨i, hi, hz, hs, _⟩ := info_u8
  refine Go.wp_buildSlice 22 5 1 _ ho #[.int .u8 (v : Int)] i _ Try.underlying22 hi hz (by rw [hs]; decide) (by rw [hs]; decide) (by rw [hs]; simp [Instr.fill, Act.eval, Array.range, Value.cells]; exact Array.ext (by simp) (fun j h1 h2 => by obtain rfl : j = 0 := (by simpa using h2); simp)) ?_
  rw [hd]
  refine h _ _ (H.alloc _) ⟨⟨Nat.le_refl _, (fun e => by cases e), fun ad e _ => ⟨w.heap.size, 0, (Option.some.inj e).symm, by simp, fun j hj => ?_⟩⟩, hv⟩ (below_alloc _ _)
  obtain rfl : j = 0 := by omega
  have : U (bt v 0) = .int .u8 (v : Int) := congrArg (Value.int .u8) (by
    show ((bt v 0).toNat : Int) = _
    rw [bt_nat, Nat.mul_zero, Nat.pow_zero, Nat.div_one, Nat.mod_eq_of_lt hv])
  rw [this]
  simp
end
end Go.Proofs.Ytgdfpboccgfadaa

/-
  Words of numbers by their bits: shifts, bytes, single bits. Plain mathematics.
-/
namespace Go.Proofs.Ytgdfpboccgfadaa

theorem shl_bit (x : BitVec 64) (k j : Nat) : (shl x k).getLsbD j = (decide (j < 64) && !decide (j < k) && x.getLsbD (j - k)) := by unfold shl; rw [BitVec.getLsbD_shiftLeft]
theorem shr_bit (x : BitVec 64) (k j : Nat) : (shr x k).getLsbD j = x.getLsbD (k + j) := by unfold shr; rw [BitVec.getLsbD_ushiftRight]
theorem modmul_bit (x n s t : Nat) : ((x % 2 ^ n) * 2 ^ s).testBit t = (decide (s ≤ t) && (decide (t - s < n) && x.testBit (t - s))) := by
  rw [Nat.testBit_mul_two_pow, Nat.testBit_mod_two_pow]
/-- What comes into word i of twice a number and a bit. -/
def lowb (x b i : Nat) : BitVec 64 := if i = 0 then BitVec.ofNat 64 b else shr (wd x (i - 1)) 63
theorem lowb_succ (x b i : Nat) : lowb x b (i + 1) = shr (wd x i) 63 := by unfold lowb; rw [if_neg (by omega), Nat.add_sub_cancel]
theorem wd_double (x b i : Nat) (hb : b ≤ 1) : wd (2 * x + b) i = shl (wd x i) 1 ||| lowb x b i := by
  apply BitVec.eq_of_getLsbD_eq
  intro j hj
  rw [wd_bit, BitVec.getLsbD_or, shl_bit, wd_bit]
  have e : 2 * x + b = 2 ^ 1 * x + b := by omega
  rw [e, Nat.two_pow_add_eq_or_of_lt (by omega), Nat.testBit_or, Nat.testBit_two_pow_mul]
  unfold lowb
  by_cases hi : i = 0
  · subst hi
    rw [if_pos rfl, BitVec.getLsbD_ofNat]
    by_cases h0 : j = 0
    · subst h0; simp
    · have : 1 ≤ j := by omega
      have hj1 : j - 1 < 64 := by omega
      have hjj : ¬ j < 1 := by omega
      simp [hj, this, hj1, hjj]
  · rw [if_neg hi, shr_bit, wd_bit]
    have hbz : b.testBit (64 * i + j) = false := Nat.testBit_lt_two_pow (Nat.lt_of_le_of_lt hb (Nat.one_lt_two_pow (by omega)))
    rw [hbz]
    by_cases h0 : j = 0
    · subst h0
      simp
      rw [show 64 * i - 1 = 64 * (i - 1) + 63 by omega]
      simp [show 1 ≤ 64 * i by omega]
    · have h1 : ¬ (63 + j < 64) := by omega
      have h2 : ¬ j < 1 := by omega
      have h3 : j - 1 < 64 := by omega
      have h4 : 64 * i + j ≥ 1 := by omega
      rw [show 64 * i + j - 1 = 64 * i + (j - 1) by omega]
      simp [hj, h1, h2, h3, h4]
theorem wd_down (x y i : Nat) : wd (x / 2 ^ y) i = shr (wd x (i + y / 64)) (y % 64) ||| shl (wd x (i + y / 64 + 1)) (64 - y % 64) := by
  apply BitVec.eq_of_getLsbD_eq
  intro j hj
  rw [wd_bit, Nat.testBit_div_two_pow, BitVec.getLsbD_or, shr_bit, shl_bit, wd_bit, wd_bit]
  by_cases h : y % 64 + j < 64
  · have h1 : j < 64 - y % 64 := by omega
    rw [show 64 * i + j + y = 64 * (i + y / 64) + (y % 64 + j) by omega]
    simp [hj, h, h1]
  · have h1 : ¬ j < 64 - y % 64 := by omega
    have h2 : j - (64 - y % 64) < 64 := by omega
    rw [show 64 * i + j + y = 64 * (i + y / 64 + 1) + (j - (64 - y % 64)) by omega]
    simp [hj, h, h1, h2]
/-- One more word of a number that goes up. -/
theorem wd_up (x i y : Nat) : upd (upd (wd ((x % 2 ^ (64 * i)) * 2 ^ y)) (i + y / 64) (wd ((x % 2 ^ (64 * i)) * 2 ^ y) (i + y / 64) ||| shl (wd x i) (y % 64))) (i + y / 64 + 1) (shr (wd x i) (64 - y % 64)) = wd ((x % 2 ^ (64 * (i + 1))) * 2 ^ y) := by
  funext k
  unfold upd
  apply BitVec.eq_of_getLsbD_eq
  intro j hj
  rw [wd_bit, modmul_bit]
  by_cases h1 : k = i + y / 64 + 1
  · subst h1
    rw [if_pos rfl, shr_bit, wd_bit]
    by_cases h2 : j < y % 64
    · rw [show 64 * (i + y / 64 + 1) + j - y = 64 * i + (64 - y % 64 + j) by omega]
      have h3 : 64 - y % 64 + j < 64 := by omega
      have h4 : y ≤ 64 * (i + y / 64 + 1) + j := by omega
      have h5 : 64 * i + (64 - y % 64 + j) < 64 * (i + 1) := by omega
      simp [hj, h3, h4, h5]
    · have h3 : ¬ 64 - y % 64 + j < 64 := by omega
      have h5 : ¬ 64 * (i + y / 64 + 1) + j - y < 64 * (i + 1) := by omega
      simp [h3, h5]
  · rw [if_neg h1]
    by_cases h2 : k = i + y / 64
    · subst h2
      rw [if_pos rfl, BitVec.getLsbD_or, wd_bit, modmul_bit, shl_bit, wd_bit]
      by_cases h3 : j < y % 64
      · have e : (64 * (i + y / 64) + j - y < 64 * i) = (64 * (i + y / 64) + j - y < 64 * (i + 1)) ∨ ¬ y ≤ 64 * (i + y / 64) + j := by
          by_cases h4 : y ≤ 64 * (i + y / 64) + j
          · left; apply propext; constructor <;> intro <;> omega
          · exact .inr h4
        rcases e with e | e
        · simp [hj, h3, e]
        · simp [h3, e]
      · have h4 : ¬ 64 * (i + y / 64) + j - y < 64 * i := by omega
        have h5 : 64 * (i + y / 64) + j - y < 64 * (i + 1) := by omega
        have h6 : y ≤ 64 * (i + y / 64) + j := by omega
        have h7 : j - y % 64 < 64 := by omega
        have h8 : 64 * i + (j - y % 64) = 64 * (i + y / 64) + j - y := by omega
        simp [hj, h3, h4, h5, h6, h7, h8]
    · rw [if_neg h2, wd_bit, modmul_bit]
      by_cases h3 : k < i + y / 64
      · have e : ¬ y ≤ 64 * k + j ∨ (64 * k + j - y < 64 * i ∧ 64 * k + j - y < 64 * (i + 1)) := by omega
        rcases e with e | ⟨e1, e2⟩
        · simp [e]
        · simp [e1, e2]
      · have e1 : ¬ 64 * k + j - y < 64 * i := by omega
        have e2 : ¬ 64 * k + j - y < 64 * (i + 1) := by omega
        simp [e1, e2]
theorem bt_word (x i : Nat) : low8 (shr (wd x (i / 8)) (i % 8 * 8)) = bt x i := by
  apply BitVec.eq_of_getLsbD_eq
  intro j hj
  unfold low8
  rw [BitVec.getLsbD_setWidth, shr_bit, wd_bit, bt_bit]
  have h1 : i % 8 * 8 + j < 64 := by omega
  rw [show 64 * (i / 8) + (i % 8 * 8 + j) = 8 * i + j by omega]
  simp [h1]
/-- One more byte of a number. -/
theorem wd_of (x i : Nat) : upd (wd (x % 2 ^ (8 * i))) (i / 8) (wd (x % 2 ^ (8 * i)) (i / 8) ||| shl (zx (bt x i)) (i % 8 * 8)) = wd (x % 2 ^ (8 * (i + 1))) := by
  funext k
  unfold upd
  apply BitVec.eq_of_getLsbD_eq
  intro j hj
  rw [wd_bit, Nat.testBit_mod_two_pow]
  by_cases h1 : k = i / 8
  · subst h1
    rw [if_pos rfl, BitVec.getLsbD_or, wd_bit, Nat.testBit_mod_two_pow, shl_bit]
    unfold zx
    rw [BitVec.getLsbD_setWidth, bt_bit]
    by_cases h2 : 64 * (i / 8) + j < 8 * i
    · have h3 : j < i % 8 * 8 := by omega
      have h4 : 64 * (i / 8) + j < 8 * (i + 1) := by omega
      simp [hj, h2, h3, h4]
    · have h3 : ¬ j < i % 8 * 8 := by omega
      by_cases h4 : 64 * (i / 8) + j < 8 * (i + 1)
      · have h5 : j - i % 8 * 8 < 64 := by omega
        have h6 : j - i % 8 * 8 < 8 := by omega
        have h7 : 8 * i + (j - i % 8 * 8) = 64 * (i / 8) + j := by omega
        simp [hj, h2, h3, h4, h5, h6, h7]
      · have h6 : ¬ j - i % 8 * 8 < 8 := by omega
        simp [h2, h4, h6]
  · rw [if_neg h1, wd_bit, Nat.testBit_mod_two_pow]
    have e : (64 * k + j < 8 * i) = (64 * k + j < 8 * (i + 1)) := by apply propext; constructor <;> intro <;> omega
    simp [e]
/-- One more bit, below all others. -/
theorem wd_bit_at (q t : Nat) : upd (wd (q * 2 ^ (t + 1))) (t / 64) (wd (q * 2 ^ (t + 1)) (t / 64) ||| shl 1 (t % 64)) = wd ((2 * q + 1) * 2 ^ t) := by
  have e : (2 * q + 1) * 2 ^ t = q * 2 ^ (t + 1) ||| 2 ^ t := by
    have h := Nat.two_pow_add_eq_or_of_lt (i := t + 1) (b := 2 ^ t) (Nat.pow_lt_pow_right (by omega) (by omega)) q
    rw [Nat.mul_comm q, ← h, Nat.add_mul, Nat.one_mul, Nat.pow_succ]
    congr 1
    rw [Nat.mul_comm 2 q, Nat.mul_comm (q * 2), Nat.mul_comm q 2, Nat.mul_assoc]
  funext k
  unfold upd
  apply BitVec.eq_of_getLsbD_eq
  intro j hj
  rw [e, wd_bit, Nat.testBit_or, Nat.testBit_two_pow]
  by_cases h1 : k = t / 64
  · subst h1
    rw [if_pos rfl, BitVec.getLsbD_or, wd_bit, shl_bit]
    congr 1
    by_cases h2 : t = 64 * (t / 64) + j
    · have h3 : ¬ j < t % 64 := by omega
      have h4 : j - t % 64 = 0 := by omega
      simp [hj, h3, h4, ← h2]
    · have e0 : decide (t = 64 * (t / 64) + j) = false := by simpa using h2
      rw [e0]
      by_cases h3 : j < t % 64
      · simp [hj, h3]
      · obtain ⟨d, hd⟩ : ∃ d, j - t % 64 = d + 1 := ⟨j - t % 64 - 1, by omega⟩
        simp [hj, h3, hd]
  · rw [if_neg h1, wd_bit]
    have h2 : ¬ t = 64 * k + j := by omega
    simp [h2]
end Go.Proofs.Ytgdfpboccgfadaa

/-
  Contracts of the small functions of number, and of what stands for math/bits.Add64 and Sub64.
-/
namespace Go.Proofs.Ytgdfpboccgfadaa
open Go.RowKit

/-! Carries: 0 or 1 -/
def cy (k : Nat) : BitVec 64 := if k = 0 then 0 else 1
theorem cy_le (k : Nat) : (cy k).toNat ≤ 1 := by unfold cy; split <;> decide
theorem cy_of {k : Nat} (h : k ≤ 1) : (cy k).toNat = k := by
  rcases (by omega : k = 0 ∨ k = 1) with rfl | rfl <;> rfl
def adc (a b : BitVec 64) (k : Nat) : BitVec 64 := BitVec.ofNat 64 (a.toNat + b.toNat + (cy k).toNat)
def adk (a b : BitVec 64) (k : Nat) : Nat := (a.toNat + b.toNat + (cy k).toNat) / 18446744073709551616
def sbb (a b : BitVec 64) (k : Nat) : BitVec 64 := BitVec.ofNat 64 (a.toNat + 18446744073709551616 - b.toNat - (cy k).toNat)
def sbk (a b : BitVec 64) (k : Nat) : Nat := if a.toNat < b.toNat + (cy k).toNat then 1 else 0
theorem adk_le (a b : BitVec 64) (k : Nat) : adk a b k ≤ 1 := by
  have := a.isLt; have := b.isLt; have := cy_le k
  unfold adk; omega
theorem sbk_le (a b : BitVec 64) (k : Nat) : sbk a b k ≤ 1 := by unfold sbk; split <;> omega
theorem V_eq {a : BitVec 64} {n : Nat} (h : a.toNat = n) : V a = .int .u64 (n : Int) := by subst h; rfl
def sub64E : Array Value → Sem Value := fun args => do
  let (x, y, b) ← Extern.MathBitsCarry.three "Sub64" args
  pure (Extern.MathBitsCarry.pair ((x + Extern.MathBitsCarry.m64 - y - b) % Extern.MathBitsCarry.m64) (if x < y + b then 1 else 0))
theorem run_sub64E {P : Program} (x y b : Nat) (hb : b ≤ 1) (w : World) :
    (sub64E #[.int .u64 x, .int .u64 y, .int .u64 b]).run P w =
      .ok (.tuple #[.int .u64 (((x + 18446744073709551616 - y - b) % 18446744073709551616 : Nat) : Int), .int .u64 ((if x < y + b then 1 else 0 : Nat) : Int)]) w := by
  have : b = 0 ∨ b = 1 := by omega
  rcases this with rfl | rfl <;> rfl
@[go_sem] theorem add64_run (a b : BitVec 64) (k : Nat) (w : World) : (callFunc 49 #[V a, V b, V (cy k)]).run Try.prog w = .ok (.value (.tuple #[V (adc a b k), V (cy (adk a b k))])) w := by
  have h := run_callFunc_extern (P := Try.prog) Try.func49 (by kernel_rfl) (by kernel_rfl) (by kernel_rfl) (e := add64Entry) (by kernel_rfl) #[V a, V b, V (cy k)] w
  rw [h]
  have h1 := a.isLt; have h2 := b.isLt; have h3 := cy_le k
  show (Sem.run Try.prog (add64Entry #[.int .u64 (a.toNat : Int), .int .u64 (b.toNat : Int), .int .u64 ((cy k).toNat : Int)]) w).andThen _ = _
  rw [run_add64 _ _ _ (by omega) (by omega) (by omega) (by omega)]
  have e1 : V (adc a b k) = .int .u64 (((a.toNat : Int) + b.toNat + (cy k).toNat) % 18446744073709551616) := by
    rw [V_eq (n := (a.toNat + b.toNat + (cy k).toNat) % 18446744073709551616) (by unfold adc; rw [BitVec.toNat_ofNat])]
    congr 1
  have e2 : V (cy (adk a b k)) = .int .u64 (((a.toNat : Int) + b.toNat + (cy k).toNat) / 18446744073709551616) := by
    rw [V_eq (cy_of (adk_le a b k))]
    congr 1
  rw [e1, e2]
  rfl
@[go_sem] theorem add64_run0 (a b : BitVec 64) (w : World) : (callFunc 49 #[V a, V b, .int .u64 0]).run Try.prog w = .ok (.value (.tuple #[V (adc a b 0), V (cy (adk a b 0))])) w := add64_run a b 0 w










/-- place. -/
theorem nplace_any (i : Nat) (w : World) (hi : i ≤ 10000000) (k : Nat) (hk : i % 8 * 8 = k) :
    Calls Try.prog 37 #[.int .i64 i] w fun e w' => e = .returned (.int .i64 (k : Int)) ∧ w' = w := by
  go_enter Try.func37, Try.ntmps37
  go_wp2
  go_ret
  exact ⟨congrArg (fun n => Ending.returned (.int .i64 n)) (by subst hk; show (i : Int) % 8 * 8 = _; simp), rfl⟩

/-- word: beyond the end a number goes on with noughts. -/
theorem word_any (a : Option Addr) (n c x i : Nat) (w : World) (_hi : i ≤ 1000000000000000000) (_hn : n ≤ 1000000) {B : Nat} (h : Sw w B a n c x) :
    Calls Try.prog 42 #[.slice a n c, .int .i64 i] w fun e w' => e = .returned (V (wd x i)) ∧ w' = w := by
  by_cases hlt : i < n
  · obtain ⟨b, o, rfl, _, hc⟩ := h.get i hlt
    have hid : decide ((i : Int) < (n : Int)) = true := by simp; omega
    have hlt' : (i : Int) < (n : Int) := by omega
    clear h
    go_enter Try.func42, Try.ntmps42
    go_wp2
    go_ret
    exact ⟨rfl, rfl⟩
  · have hid : decide ((i : Int) < (n : Int)) = false := by simp; omega
    have hz : wd x i = 0 := wd_over h.fits (by omega)
    rw [hz]
    clear h hz
    go_enter Try.func42, Try.ntmps42
    go_wp2
    go_ret
    exact ⟨rfl, rfl⟩
end Go.Proofs.Ytgdfpboccgfadaa

/-
  The contract of number.trim.
-/
namespace Go.Proofs.Ytgdfpboccgfadaa
open Go.RowKit

theorem L_zero : L 0 = 0 := rfl
theorem L_eq0 (a : BitVec 64) (h : a = 0) : (L a == 0) = true := by subst h; rfl
theorem L_ne0 (a : BitVec 64) (h : a ≠ 0) : (L a == 0) = false := by
  rw [beq_eq_false_iff_ne]
  intro e
  exact h (L_inj.1 (e.trans L_zero.symm))
/-- What holds at trim's label. -/
def TrimAt (a : Option Addr) (n c x k : Nat) (act : Act) : Prop := k ≤ n ∧ x < 2 ^ (64 * k) ∧ ∃ u4 u5 u6 u7 u8 u9 u10 u11 u12 u13 u14 u15 u16 u17 u18 u19 u20 u21 : Value,
  act = { tmps := #[.slice a n c, undef, .slice none 0 0, .int .i64 (k : Int), u4, u5, u6, u7, u8, u9, u10, u11, u12, u13, u14, u15, u16, u17, u18, u19, u20, u21], defers := [] }
set_option maxRecDepth 100000 in
set_option maxHeartbeats 1000000 in
theorem trim_any (a : Option Addr) (n c x : Nat) (w : World) (hn : n ≤ 1000000) {B : Nat} (h : Sw w B a n c x) :
    Calls Try.prog 38 #[.slice a n c] w fun e w' => e = .returned (.slice a (dl 64 x) (dl 64 x)) ∧ w' = w := by
  have hle := h.le
  go_enter Try.func38, Try.ntmps38
  go_wp2
  refine wp_scope_jumps 0 (fun a' w' => w' = w ∧ ∃ k, TrimAt a n c x k a') (fun a' _ => (intOf (a'.tmps.getD 3 undef)).toNat) rfl ?_ ?_
  · have step : x < 2 ^ (64 * n) := h.fits
    have H := Lib.hid h
    clear h
    rcases Nat.eq_zero_or_pos n with h0 | h0
    · subst h0
      have e : dl 64 x = 0 := Nat.le_zero.1 ((dl_le 64 x 0 (by omega)).2 step)
      have He := Lib.hid e
      clear e step
      go_wp2
      go_step3
      go_wp2
      simp only [Exit.jump]
      go_ret
      exact ⟨by rw [He.out]; rfl, rfl⟩
    · obtain ⟨j, rfl⟩ : ∃ j, n = j + 1 := ⟨n - 1, by omega⟩
      obtain ⟨b, o, rfl, _, hc⟩ := H.out.get j (by omega)
      have hj : (j : Int) < (j : Int) + 1 := by omega
      by_cases hz : wd x j = 0
      · have hL := L_eq0 _ hz
        have hs := (wd_top step).1 hz
        have Hs := Lib.hid hs
        clear hs hz step
        go_wp2
        go_step3
        go_wp2
        go_step3
        exact ⟨rfl, rfl, j, by omega, Hs.out, _, _, _, _, _, _, _, _, _, _, _, _, _, _, _, _, _, _, rfl⟩
      · have hL := L_ne0 _ hz
        have e : dl 64 x = j + 1 := dl_eq (by omega) step (.inr (by
          rcases Nat.lt_or_ge x (2 ^ (64 * j)) with h1 | h1
          · exact absurd ((wd_top step).2 h1) hz
          · exact h1))
        have He := Lib.hid e
        clear e step hz
        go_wp2
        go_step3
        go_wp2
        simp only [Exit.jump]
        go_ret
        exact ⟨by rw [He.out]; rfl, rfl⟩
  · rintro a' w' ⟨rfl, k, hk, hx, u4, u5, u6, u7, u8, u9, u10, u11, u12, u13, u14, u15, u16, u17, u18, u19, u20, u21, rfl⟩
    have step : x < 2 ^ (64 * k) := hx
    have H := Lib.hid h
    clear h
    rcases Nat.eq_zero_or_pos k with h0 | h0
    · subst h0
      have e : dl 64 x = 0 := Nat.le_zero.1 ((dl_le 64 x 0 (by omega)).2 step)
      have He := Lib.hid e
      clear e step hx
      go_wp2
      simp only [Exit.jump]
      go_ret
      exact ⟨by rw [He.out]; rfl, rfl⟩
    · obtain ⟨j, rfl⟩ : ∃ j, k = j + 1 := ⟨k - 1, by omega⟩
      obtain ⟨b, o, rfl, _, hc⟩ := H.out.get j (by omega)
      have hj : (j : Int) < (n : Int) := by omega
      by_cases hz : wd x j = 0
      · have hL := L_eq0 _ hz
        have hs := (wd_top step).1 hz
        have Hs := Lib.hid hs
        clear hs hz step hx
        go_wp2
        go_step3
        refine ⟨rfl, ⟨rfl, j, by omega, Hs.out, _, _, _, _, _, _, _, _, _, _, _, _, _, _, _, _, _, _, rfl⟩, ?_⟩
        simp [intOf]
      · have hL := L_ne0 _ hz
        have e : dl 64 x = j + 1 := dl_eq (by omega) step (.inr (by
          rcases Nat.lt_or_ge x (2 ^ (64 * j)) with h1 | h1
          · exact absurd ((wd_top step).2 h1) hz
          · exact h1))
        have He := Lib.hid e
        clear e step hz hx
        go_wp2
        simp only [Exit.jump]
        go_ret
        exact ⟨by rw [He.out]; rfl, rfl⟩
end Go.Proofs.Ytgdfpboccgfadaa

/-
  The contracts of math/bits.Mul64 and Len64.
-/
namespace Go.Proofs.Ytgdfpboccgfadaa
open Go.RowKit

/-- The two halves of a product. -/
def mhi (a b : BitVec 64) : BitVec 64 := BitVec.ofNat 64 (a.toNat * b.toNat / 18446744073709551616)
def mlo (a b : BitVec 64) : BitVec 64 := BitVec.ofNat 64 (a.toNat * b.toNat)
theorem mul_lt (a b : BitVec 64) : a.toNat * b.toNat / 18446744073709551616 < 18446744073709551616 := by
  have h1 : a.toNat ≤ 18446744073709551615 := by have := a.isLt; omega
  have h2 : b.toNat ≤ 18446744073709551615 := by have := b.isLt; omega
  have := Nat.mul_le_mul h1 h2
  omega
theorem mhi_nat (a b : BitVec 64) : (mhi a b).toNat = a.toNat * b.toNat / 18446744073709551616 := by
  unfold mhi; rw [BitVec.toNat_ofNat]; exact Nat.mod_eq_of_lt (mul_lt a b)
theorem mlo_nat (a b : BitVec 64) : (mlo a b).toNat = a.toNat * b.toNat % 18446744073709551616 := by
  unfold mlo; rw [BitVec.toNat_ofNat]




end Go.Proofs.Ytgdfpboccgfadaa

/-
  The contract of math/bits.Len64.
-/
namespace Go.Proofs.Ytgdfpboccgfadaa
open Go.RowKit
@[go_sem high] theorem len8_lt {P : Program} (w : World) (t : TypeId) (k : IntKind) (i : Int) (h : P.underlying t = some .string) (h0 : 0 ≤ i) (h1 : i < 256) :
    (Instr.index t (.string Lib.len8tab) (.int k i)).run P w = .ok (.int .u8 (Lib.len8 i)) w := Lib.run_index_len8tab w t k i h h0 (by omega)
theorem wrap_wrap (m : Nat) (h : m ≤ 8) : wrap64 (wrap64 (m : Int)) = (m : Int) := by
  simp only [wrap64]
  omega
theorem nwrap_sum (k m : Nat) (hk : k ≤ 56) (h : m ≤ 8) : wrap64 ((k : Int) + wrap64 (m : Int)) = ((k + m : Nat) : Int) := by
  simp only [wrap64]
  omega
theorem len8_sum (x y : Int) (k P : Nat) (h0 : 0 ≤ y) (h1 : y < 256) (hk : k ≤ 56) (hs : x.toNat < 18446744073709551616 → Lib.bitLen x.toNat = k + Lib.bitLen (x.toNat / P)) (hx : x.toNat < 18446744073709551616) (hy : y = ((x.toNat / P : Nat) : Int)) :
    wrap64 ((k : Int) + wrap64 (Lib.len8 y)) = (Lib.bitLen x.toNat : Int) := by
  rw [hs hx, Lib.len8_of y h0 (by omega)]
  have l := Lib.bitLen_le8' y h0 (by omega)
  subst hy
  rw [Int.toNat_natCast] at l ⊢
  exact nwrap_sum _ _ hk l






























theorem bitLen_bl (x : Nat) (hx : x < 18446744073709551616) : Lib.bitLen x = bl x := by
  have key : ∀ (f x : Nat), x < 2 ^ f → Lib.bitLenAux f x = bl x := by
    intro f
    induction f with
    | zero => intro x hx; simp at hx; subst hx; rfl
    | succ f ih =>
      intro x hx
      rw [Lib.bitLenAux]
      by_cases h0 : x = 0
      · rw [if_pos h0, h0]; rfl
      · rw [if_neg h0, ih (x / 2) (by rw [Nat.pow_succ] at hx; omega)]
        refine (bl_eq ?_ (.inr ?_)).symm
        · have := bl_fits (x / 2)
          rw [Nat.add_comm, Nat.pow_succ]; omega
        · rw [Nat.add_sub_cancel_left]
          by_cases h1 : x / 2 = 0
          · rw [h1, bl_zero]; omega
          · have := bl_low (x := x / 2) (by omega)
            have hp := bl_pos (x := x / 2) (by omega)
            obtain ⟨k, hk⟩ : ∃ k, bl (x / 2) = k + 1 := ⟨bl (x / 2) - 1, by omega⟩
            rw [hk] at this ⊢
            rw [Nat.add_sub_cancel] at this
            rw [Nat.pow_succ]; omega
  exact key 64 x hx





end Go.Proofs.Ytgdfpboccgfadaa

/-
  The contracts of number.Len and Bit.
-/
namespace Go.Proofs.Ytgdfpboccgfadaa
open Go.RowKit

theorem bl_words {x k : Nat} (h1 : x < 2 ^ (64 * (k + 1))) (h2 : 2 ^ (64 * k) ≤ x) : bl x = 64 * k + bl (wd x k).toNat := by
  have e : (wd x k).toNat = x / 2 ^ (64 * k) := by
    rw [wd_nat, Nat.mod_eq_of_lt]
    rw [Nat.div_lt_iff_lt_mul (Nat.two_pow_pos _), Nat.mul_comm, ← pow64]; exact h1
  have hP := Nat.two_pow_pos (64 * k)
  have hq : 0 < x / 2 ^ (64 * k) := Nat.div_pos h2 hP
  rw [e]
  have hf := bl_fits (x / 2 ^ (64 * k))
  have hl := bl_low hq
  have hp := bl_pos hq
  have ed := Nat.div_add_mod x (2 ^ (64 * k))
  have hm := Nat.mod_lt x hP
  refine bl_eq ?_ (.inr ?_)
  · rw [Nat.pow_add]
    have := Nat.mul_le_mul_left (2 ^ (64 * k)) (Nat.succ_le_of_lt hf)
    rw [Nat.mul_succ] at this
    omega
  · rw [show 64 * k + bl (x / 2 ^ (64 * k)) - 1 = 64 * k + (bl (x / 2 ^ (64 * k)) - 1) by omega, Nat.pow_add]
    have := Nat.mul_le_mul_left (2 ^ (64 * k)) hl
    omega
theorem bl_le64 (a : BitVec 64) : bl a.toNat ≤ 64 := (bl_le _ _).2 a.isLt



































/-- A bit of a number, at any place. -/
def bitI (x : Nat) (i : Int) : Int := if i < 0 then 0 else ((x / 2 ^ i.toNat % 2 : Nat) : Int)
def bit1 (b : BitVec 64) (k : Nat) : BitVec 64 := (shr b k) &&& 1
@[go_sem] theorem and1_bv (a : BitVec 64) : bits .and .u64 (L a) 1 = L (a &&& 1) := and_bv a 1
theorem bit1_nat (x i : Nat) : (bit1 (wd x (i / 64)) (i % 64)).toNat = x / 2 ^ i % 2 := by
  unfold bit1 shr
  have h1 : ((wd x (i / 64)) >>> (i % 64) &&& 1#64).toNat = ((wd x (i / 64)).toNat / 2 ^ (i % 64)) % 2 := by
    rw [BitVec.toNat_and, BitVec.toNat_ushiftRight, Nat.shiftRight_eq_div_pow]
    exact Nat.and_one_is_mod _
  refine h1.trans ?_
  rw [wd_nat]
  have e : 2 ^ i = 2 ^ (64 * (i / 64)) * 2 ^ (i % 64) := by rw [← Nat.pow_add]; congr 1; omega
  rw [e, ← Nat.div_div_eq_div_mul]
  generalize x / 2 ^ (64 * (i / 64)) = z
  have hlt : i % 64 < 64 := Nat.mod_lt _ (by omega)
  generalize i % 64 = s at hlt
  have t1 : (z % 18446744073709551616).testBit s = z.testBit s := by
    rw [show 18446744073709551616 = 2 ^ 64 from rfl, Nat.testBit_mod_two_pow]; simp [hlt]
  rw [Nat.testBit_eq_decide_div_mod_eq, Nat.testBit_eq_decide_div_mod_eq] at t1
  have t2 : z % 18446744073709551616 / 2 ^ s % 2 = 1 ↔ z / 2 ^ s % 2 = 1 := by simpa using t1
  generalize z % 18446744073709551616 / 2 ^ s = u at t2 ⊢
  generalize z / 2 ^ s = v at t2 ⊢
  omega
theorem wrap_one (z : Int) (h0 : 0 ≤ z) (h1 : z ≤ 1) : wrap64 z = z := by simp only [wrap64]; omega
theorem L_nat {b : BitVec 64} {n : Nat} (h : b.toNat = n) : L b = (n : Int) := by subst h; rfl
set_option maxRecDepth 8000 in
set_option maxHeartbeats 1000000 in
theorem bit_any (a : Option Addr) (n c x : Nat) (i : Int) (w : World) (hn : n ≤ 1000000) (hi : i ≤ 9223372036854775807) {B : Nat} (h : Sw w B a n c x) :
    Calls Try.prog 21 #[.slice a n c, .int .i64 i] w fun e w' => e = .returned (.int .i64 (bitI x i)) ∧ w' = w := by
  by_cases h0 : i < 0
  · have He : Hid (bitI x i = 0) := Lib.hid (by simp [bitI, h0])
    have hd : decide (i < 0) = true := by simpa using h0
    clear h
    go_enter Try.func21, Try.ntmps21
    go_wp2
    go_ret
    exact ⟨by rw [He.out]; rfl, rfl⟩
  · obtain ⟨j, rfl⟩ := Int.eq_ofNat_of_zero_le (by omega : 0 ≤ i)
    have hd : decide ((j : Int) < 0) = false := by simp
    have He : Hid (bitI x (j : Int) = L (bit1 (wd x (j / 64)) (j % 64))) := Lib.hid (by rw [L_nat (bit1_nat x j)]; simp [bitI]; omega)
    have hb := (L_bd (bit1 (wd x (j / 64)) (j % 64)))
    have hb1 : L (bit1 (wd x (j / 64)) (j % 64)) ≤ 1 := by rw [L_nat (bit1_nat x j)]; omega
    obtain ⟨q, hq⟩ : ∃ q, j / 64 = q := ⟨_, rfl⟩
    obtain ⟨s, hs⟩ : ∃ s, j % 64 = s := ⟨_, rfl⟩
    have e1 : (j : Int) / 64 = (q : Int) := by omega
    have e2 : (j : Int) % 64 = (s : Int) := by omega
    have hs64 : (s : Int) < 64 := by omega
    rw [hq, hs] at He hb hb1
    have H := Lib.hid h
    have hq2 : q ≤ 1000000000000000000 := by omega
    clear h hq hs h0
    go_enter Try.func21, Try.ntmps21
    go_wp2_with ((with_reducible refine (word_any a n c x q _ (by omega) (by omega) H.out).mono ?_); rintro e w' ⟨rfl, rfl⟩)
    go_ret
    exact ⟨by rw [He.out]; exact congrArg (fun n => Ending.returned (.int .i64 n)) (wrap_one _ hb.1 hb1), rfl⟩
end Go.Proofs.Ytgdfpboccgfadaa

/-
  The contract of number.up.
-/
namespace Go.Proofs.Ytgdfpboccgfadaa
open Go.RowKit

theorem up_fits {x n s : Nat} (hx : x < 2 ^ (64 * n)) : x * 2 ^ s < 2 ^ (64 * (n + s / 64 + 1)) := by
  refine Nat.lt_of_lt_of_le (Nat.mul_lt_mul_of_pos_right hx (Nat.two_pow_pos s)) ?_
  rw [← Nat.pow_add]
  exact Nat.pow_le_pow_right (by omega) (by omega)
set_option maxRecDepth 8000 in
set_option maxHeartbeats 1000000 in
theorem nup_any (a : Option Addr) (n c x s : Nat) (w : World) (hn : n ≤ 400000) (hs : s ≤ 10000000) (h : Sw w w.heap.size a n c x) :
    Calls Try.prog 48 #[.slice a n c, .int .i64 s] w fun e w' => ∃ v, e = .returned v ∧ Got w w' v (x * 2 ^ s) := by
  obtain ⟨q, hq⟩ : ∃ q, s / 64 = q := ⟨_, rfl⟩
  obtain ⟨r, hr⟩ : ∃ r, s % 64 = r := ⟨_, rfl⟩
  obtain ⟨t, ht⟩ : ∃ t, 64 - r = t := ⟨_, rfl⟩
  have Hf := Lib.hid (up_fits (s := s) h.fits)
  have HW := Lib.hid (fun i => wd_up x i s)
  rw [hq] at Hf
  rw [hq, hr, ht] at HW
  have Hx := Lib.hid (Nat.mod_eq_of_lt h.fits)
  have H := Lib.hid h
  have e1 : (s : Int) / 64 = (q : Int) := by omega
  have e2 : (s : Int) % 64 = (r : Int) := by omega
  have e3 : (64 : Int) - (r : Int) = (t : Int) := by omega
  have q6 : (q : Int) ≤ 400000 := by omega
  have r64 : (r : Int) < 64 := by omega
  have t64 : (t : Int) ≤ 64 := by omega
  have q6' : q ≤ 400000 := by omega
  have eN : Hid ((n : Int) + (q : Int) + 1 = ((n + q + 1 : Nat) : Int)) := Lib.hid (by omega)
  clear h hq hr ht
  go_enter Try.func48, Try.ntmps48
  go_wp2_with (first
    | ((with_reducible apply lay_makeW); (case hgd => exact rfl); (case ho => exact rfl); (case hx => exact congrArg (Value.int .i64) eN.out); (case hy => exact congrArg (Value.int .i64) eN.out); (case hc => omega); intro _ _; go_simp))
  clear eN
  go_loopw [22] (fun v wr => ∃ i : Nat, i ≤ n ∧ v = .int .i64 i ∧ RowW wr w.heap.size (n + q + 1) (wd (x % 2 ^ (64 * i) * 2 ^ s)) ∧ Below w.heap.size w wr) (fun v _ => n - (intOf v).toNat)
  case atStart => exact ⟨0, by omega, rfl, (RowW.new _ _ _).congr fun k _ => by rw [Nat.mul_zero, Nat.pow_zero, Nat.mod_one, Nat.zero_mul, wd_zero]; rfl, (Below.refl _ _).alloc (Nat.le_refl _) _⟩
  case round =>
    obtain ⟨i, hi, rfl, HR, HB⟩ := hrel
    by_cases hlt : i < n
    · have hid : decide ((i : Int) < (n : Int)) = true := by simp; omega
      obtain ⟨b, o, rfl, hbB, hcell⟩ := (H.out.below HB).get i hlt
      have H1 := Lib.hid HR
      have H2 := Lib.hid HB
      clear HR HB
      go_wp2_with fail
      refine wp_region_still_tail 11 (by kernel_rfl) (by kernel_rfl) ?_
      change wpStill _ _ wr.drew (fun a' => wpList _ _ _ _ a' wr.drew) _ _
      have D1 := Lib.hid H1.out.drew
      have D2 := Lib.hid (Below.drew H2.out)
      clear H1 H2 hcell
      generalize wr.drew = w2 at *
      obtain ⟨p, hp⟩ : ∃ p, i + q = p := ⟨_, rfl⟩
      have pN : (p : Int) < (n : Int) + (q : Int) + 1 := by omega
      have pN1 : (p : Int) + 1 < (n : Int) + (q : Int) + 1 := by omega
      have f1 : IntKind.i64.wrap (p : Int) = (p : Int) := IntWalk.i64_in _ (by omega)
      have f2 : (i : Int) + (q : Int) = (p : Int) := by omega
      have hc := D1.out.cell p (by omega)
      have hz := D1.out.thaw p
      have hz1 := D1.out.thaw (p + 1)
      have D3 := Lib.hid (D1.out.setCell p (wd (x % 2 ^ (64 * i) * 2 ^ s) p ||| shl (wd x i) r))
      have hz2 := D3.out.thaw (p + 1)
      have hc2 := D3.out.cell (p + 1) (by omega)
      have Hp := Lib.hid hp
      clear hp
      simp only [List.take_succ_cons, List.take_zero, List.drop_succ_cons, List.drop_zero]
      iterate 11 still_step
      refine wpStill_nil ?_
      go_wp2_with fail
      go_roundw
      case rel =>
        refine ⟨i + 1, by omega, by go_num, ?_, (D2.out.setCell (Nat.le_refl _) _).setCell (Nat.le_refl _) _⟩
        have h := D3.out.setCell (p + 1) (shr (wd x i) t)
        have e := HW.out i
        rw [Hp.out] at e
        rw [← e]
        exact h
      case measure => simp [intOf]; omega
    · obtain rfl : i = n := by omega
      rw [Hx.out] at HR
      have H1 := Lib.hid HR
      have H2 := Lib.hid HB
      clear HR HB
      go_wp2_with ((with_reducible refine (trim_any _ _ _ (x * 2 ^ s) _ (by omega) (H1.out.sw (Nat.le_refl _) Hf.out H1.out.lt)).mono ?_); rintro e w' ⟨rfl, rfl⟩)
      go_ret
      exact ⟨_, rfl, w.heap.size, i + q + 1, rfl, Nat.le_refl _, H1.out, (dl_le 64 _ _ (by omega)).2 Hf.out, H2.out⟩
end Go.Proofs.Ytgdfpboccgfadaa

/-
  The contract of number.down.
-/
namespace Go.Proofs.Ytgdfpboccgfadaa
open Go.RowKit

theorem down_fits {x n s K : Nat} (hx : x < 2 ^ (64 * n)) (hK : n ≤ K + s / 64) : x / 2 ^ s < 2 ^ (64 * K) := by
  rw [Nat.div_lt_iff_lt_mul (Nat.two_pow_pos _), ← Nat.pow_add]
  exact Nat.lt_of_lt_of_le hx (Nat.pow_le_pow_right (by omega) (by omega))
set_option maxRecDepth 8000 in
set_option maxHeartbeats 1000000 in
theorem down_any (a : Option Addr) (n c x s : Nat) (w : World) (hn : n ≤ 400000) (hs : s ≤ 10000000) (h : Sw w w.heap.size a n c x) :
    Calls Try.prog 47 #[.slice a n c, .int .i64 s] w fun e w' => ∃ v, e = .returned v ∧ Got w w' v (x / 2 ^ s) := by
  obtain ⟨q, hq⟩ : ∃ q, s / 64 = q := ⟨_, rfl⟩
  obtain ⟨r, hr⟩ : ∃ r, s % 64 = r := ⟨_, rfl⟩
  obtain ⟨t, ht⟩ : ∃ t, 64 - r = t := ⟨_, rfl⟩
  obtain ⟨K, hK⟩ : ∃ K, n - q = K := ⟨_, rfl⟩
  have Hf := Lib.hid (down_fits (K := K) (s := s) h.fits (by omega))
  have HW := Lib.hid (fun i => wd_down x s i)
  rw [hq, hr, ht] at HW
  have H := Lib.hid h
  have e1 : (s : Int) / 64 = (q : Int) := by omega
  have e2 : (s : Int) % 64 = (r : Int) := by omega
  have e3 : (64 : Int) - (r : Int) = (t : Int) := by omega
  have hmx : max 0 ((n : Int) - (q : Int)) = (K : Int) := by omega
  have q6 : (q : Int) ≤ 400000 := by omega
  have r64 : (r : Int) < 64 := by omega
  have t64 : (t : Int) ≤ 64 := by omega
  have K6 : K ≤ 400000 := by omega
  have q6' : q ≤ 400000 := by omega
  clear h hq hr ht hK
  go_enter Try.func47, Try.ntmps47
  go_wp2_with (first
    | ((with_reducible apply lay_makeW); (case hgd => exact rfl); (case ho => exact rfl); (case hx => exact rfl); (case hy => exact rfl); (case hc => omega); intro _ _; go_simp))
  clear hmx
  go_loopw [21] (fun v wr => ∃ i : Nat, i ≤ K ∧ v = .int .i64 i ∧ RowW wr w.heap.size K (mix i (wd (x / 2 ^ s)) fun _ => 0) ∧ Below w.heap.size w wr) (fun v _ => K - (intOf v).toNat)
  case atStart => exact ⟨0, by omega, rfl, by rw [mix_zero]; exact RowW.new _ _ _, (Below.refl _ _).alloc (Nat.le_refl _) _⟩
  case round =>
    obtain ⟨i, hi, rfl, HR, HB⟩ := hrel
    by_cases hlt : i < K
    · have hid : decide ((i : Int) < (K : Int)) = true := by simp; omega
      have iK : (i : Int) < (K : Int) := by omega
      have H1 := Lib.hid HR
      have H2 := Lib.hid HB
      clear HR HB
      go_wp2_with fail
      refine wp_region_still_tail 20 (by kernel_rfl) (by kernel_rfl) ?_
      change wpStill _ _ wr.drew (fun a' => wpList _ _ _ _ a' wr.drew) _ _
      have D1 := Lib.hid H1.out.drew
      have D2 := Lib.hid (Below.drew H2.out)
      clear H1 H2
      generalize wr.drew = w2 at *
      have G := Lib.hid (H.out.below D2.out)
      have hc := D1.out.cell i hlt
      have hz := D1.out.thaw i
      obtain ⟨p, hp⟩ : ∃ p, i + q = p := ⟨_, rfl⟩
      have f1 : IntKind.i64.wrap ((i : Int) + (q : Int)) = (p : Int) := (IntWalk.i64_in _ (by omega)).trans (by omega)
      have f2 : IntKind.i64.wrap ((p : Int) + 1) = ((p + 1 : Nat) : Int) := (IntWalk.i64_in _ (by omega)).trans (by omega)
      have f3 : IntKind.i64.wrap (t : Int) = (t : Int) := IntWalk.i64_in _ (by omega)
      have Hp := Lib.hid hp
      have p6 : p ≤ 1000000 := by omega
      clear hp
      simp only [List.take_succ_cons, List.take_zero, List.drop_succ_cons, List.drop_zero]
      iterate 6 still_step
      still_call (word_any a n c x p _ (by omega) (by omega) G.out)
      iterate 7 still_step
      still_call (word_any a n c x (p + 1) _ (by omega) (by omega) G.out)
      iterate 5 still_step
      refine wpStill_nil ?_
      clear f1 f2 f3
      go_wp2_with fail
      go_roundw
      case rel =>
        refine ⟨i + 1, by omega, by go_num, ?_, D2.out.setCell (Nat.le_refl _) _⟩
        have h := D1.out.setCell i (wd (x / 2 ^ s) i)
        rw [mix_upd, HW.out, Hp.out] at h
        exact h
      case measure => simp [intOf]; omega
    · obtain rfl : i = K := by omega
      have H1 := Lib.hid (HR.congr fun j hj => mix_all _ _ _ j hj)
      have H2 := Lib.hid HB
      clear HR HB
      go_wp2_with ((with_reducible refine (trim_any _ _ _ (x / 2 ^ s) _ (by omega) (H1.out.sw (Nat.le_refl _) Hf.out H1.out.lt)).mono ?_); rintro e w' ⟨rfl, rfl⟩)
      go_ret
      exact ⟨_, rfl, w.heap.size, i, rfl, Nat.le_refl _, H1.out, (dl_le 64 _ _ (by omega)).2 Hf.out, H2.out⟩
end Go.Proofs.Ytgdfpboccgfadaa

/-
  The contract of number.Shift.
-/
namespace Go.Proofs.Ytgdfpboccgfadaa
open Go.RowKit

/-- A number whose bits go up, or down. -/
def shf (x : Nat) (s : Int) : Nat := if s < 0 then x / 2 ^ (-s).toNat else x * 2 ^ s.toNat
set_option maxRecDepth 8000 in
set_option maxHeartbeats 1000000 in
theorem shift_bad (a : Option Addr) (n c : Nat) (s : Int) (w : World) (hs : s < -65536 ∨ 65536 < s) :
    Calls Try.prog 39 #[.slice a n c, .int .i64 s] w fun e w' => e = .returned (.tuple #[.slice none 0 0, .int .i64 10]) ∧ w' = w := by
  rcases hs with hs | hs
  · have h1 : decide (s < -65536) = true := by simpa using hs
    go_enter Try.func39, Try.ntmps39
    go_wp2
    go_ret2
    exact ⟨rfl, rfl⟩
  · have h1 : decide (s < -65536) = false := by simp; omega
    have h2 : decide (65536 < s) = true := by simpa using hs
    go_enter Try.func39, Try.ntmps39
    go_wp2
    go_ret2
    exact ⟨rfl, rfl⟩
set_option maxRecDepth 8000 in
set_option maxHeartbeats 1000000 in
theorem shift_any (a : Option Addr) (n c x : Nat) (s : Int) (w : World) (hn : n ≤ 400000) (h1 : -65536 ≤ s) (h2 : s ≤ 65536) (h : Sw w w.heap.size a n c x) :
    Calls Try.prog 39 #[.slice a n c, .int .i64 s] w fun e w' => ∃ v, e = .returned (.tuple #[v, .int .i64 0]) ∧ Got w w' v (shf x s) := by
  have d1 : decide (s < -65536) = false := by simp; omega
  have d2 : decide (65536 < s) = false := by simp; omega
  have H := Lib.hid h
  clear h
  by_cases h0 : s < 0
  · have d3 : decide (s < 0) = true := by simpa using h0
    obtain ⟨t, ht⟩ : ∃ t : Nat, (-s).toNat = t := ⟨_, rfl⟩
    obtain rfl : s = -(t : Int) := by omega
    have Hs : Hid (shf x (-(t : Int)) = x / 2 ^ t) := Lib.hid (by unfold shf; rw [if_pos h0, ht])
    have t6 : t ≤ 65536 := by omega
    have e1 : - -(t : Int) = (t : Int) := by omega
    clear ht
    go_enter Try.func39, Try.ntmps39
    go_wp2_with ((with_reducible refine (down_any a n c x t _ (by omega) (by omega) H.out).mono ?_); rintro e w' ⟨v, rfl, hv⟩; have hv := Lib.hid hv)
    go_ret2
    exact ⟨_, rfl, by rw [Hs.out]; exact hv.out⟩
  · have d3 : decide (s < 0) = false := by simp; omega
    obtain ⟨t, ht⟩ : ∃ t : Nat, s.toNat = t := ⟨_, rfl⟩
    obtain rfl : s = (t : Int) := by omega
    have Hs : Hid (shf x (t : Int) = x * 2 ^ t) := Lib.hid (by unfold shf; rw [if_neg h0, ht])
    have t6 : t ≤ 65536 := by omega
    clear ht h0
    go_enter Try.func39, Try.ntmps39
    go_wp2_with ((with_reducible refine (nup_any a n c x t _ (by omega) (by omega) H.out).mono ?_); rintro e w' ⟨v, rfl, hv⟩; have hv := Lib.hid hv)
    go_ret2
    exact ⟨_, rfl, by rw [Hs.out]; exact hv.out⟩
end Go.Proofs.Ytgdfpboccgfadaa
