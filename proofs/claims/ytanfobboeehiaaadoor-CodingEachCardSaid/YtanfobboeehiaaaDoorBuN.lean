/-
  Lemmas for the walks, several texts in one. No statement is proved here.
-/
import Derived.Test.YtanfobboeehiaaaDoorBuA
import Derived.Laws.MakeOwn
import Derived.Laws.AppendOwnNone
import Derived.Laws.CopyOwn
import Derived.Deep.MidRow
import Derived.Deep.QuietTactic
import Derived.Deep.LoopGhost
import Derived.BigQuiet
import Derived.WalkMore
import Derived.ScopeJumps
import Derived.ArgAppend
import Derived.Test.YtanfobboeehiaaaDoorBuB
import Derived.Great.BuildSlice
import Derived.Laws.IdiomCopy
import Derived.Lib.AppendZerosOnto
import Derived.Laws.Externs
import Derived.Test.YtanfobboeehiaaaDoorBuD
import Derived.Lib.Mul64
import Derived.Laws.Bits64b
import Derived.Lib.Strings
import Derived.Lib.Slices
import Derived.Lib.Small
import Derived.Lib.Walk
import Derived.Lib.BitFns
import Derived.WalkLawsBesides
import Derived.Lib.MinMax
/-
  Numbers as digits of 64 and of 8 bits: plain mathematics, no program. No statement is proved here: lemmas for the walks.
-/
namespace Go.Proofs.YtanfobboeehiaaaDoor

/-- The i-th word, and the i-th byte, of a number. -/
def wd (x i : Nat) : BitVec 64 := BitVec.ofNat 64 (x / 2 ^ (64 * i))
def bt (x i : Nat) : BitVec 8 := BitVec.ofNat 8 (x / 2 ^ (8 * i))
/-- How many bits a number has; how many digits of b bits. -/
def bl (x : Nat) : Nat := if x = 0 then 0 else x.log2 + 1
def dl (b x : Nat) : Nat := (bl x + (b - 1)) / b
theorem bl_le (x k : Nat) : bl x ≤ k ↔ x < 2 ^ k := by
  unfold bl
  by_cases h : x = 0
  · subst h; simp [Nat.two_pow_pos]
  · rw [if_neg h]
    exact Nat.log2_lt h
theorem dl_le (b x k : Nat) (hb : 0 < b) : dl b x ≤ k ↔ x < 2 ^ (b * k) := by
  rw [← bl_le]
  unfold dl
  rw [← Nat.lt_succ_iff, Nat.div_lt_iff_lt_mul hb, Nat.succ_mul, Nat.mul_comm k b]
  omega
theorem dl_zero (b : Nat) (hb : 0 < b) : dl b 0 = 0 := Nat.le_zero.1 ((dl_le b 0 0 hb).2 (by simp))
theorem fits_dl (b x : Nat) (hb : 0 < b) : x < 2 ^ (b * dl b x) := (dl_le b x _ hb).1 (Nat.le_refl _)
theorem bl_zero : bl 0 = 0 := rfl
theorem bl_fits (x : Nat) : x < 2 ^ bl x := (bl_le x _).1 (Nat.le_refl _)
theorem bl_pos {x : Nat} (h : 0 < x) : 0 < bl x := by
  unfold bl
  rw [if_neg (by omega)]
  omega
theorem bl_low {x : Nat} (h : 0 < x) : 2 ^ (bl x - 1) ≤ x := by
  unfold bl
  rw [if_neg (by omega), Nat.add_sub_cancel]
  exact Nat.log2_self_le (by omega)
theorem bl_eq {x k : Nat} (h1 : x < 2 ^ k) (h2 : k = 0 ∨ 2 ^ (k - 1) ≤ x) : bl x = k := by
  have h3 := (bl_le x k).2 h1
  rcases h2 with rfl | h2
  · omega
  · by_cases h : bl x ≤ k - 1
    · have := (bl_le x _).1 h; omega
    · omega
theorem dl_eq {b x k : Nat} (hb : 0 < b) (h1 : x < 2 ^ (b * k)) (h2 : k = 0 ∨ 2 ^ (b * (k - 1)) ≤ x) : dl b x = k := by
  have h3 := (dl_le b x k hb).2 h1
  rcases h2 with rfl | h2
  · omega
  · by_cases h : dl b x ≤ k - 1
    · have := (dl_le b x _ hb).1 h; omega
    · omega
theorem dl_low {b x : Nat} (hb : 0 < b) (h : 0 < dl b x) : 2 ^ (b * (dl b x - 1)) ≤ x := by
  by_cases h1 : x < 2 ^ (b * (dl b x - 1))
  · have := (dl_le b x _ hb).2 h1; omega
  · omega
theorem dl_pos {b x : Nat} (hb : 0 < b) : 0 < dl b x ↔ 0 < x := by
  constructor
  · intro h
    have := dl_low hb h
    have := Nat.two_pow_pos (b * (dl b x - 1))
    omega
  · intro h
    by_cases h1 : dl b x ≤ 0
    · have := (dl_le b x 0 hb).1 h1; simp at this; omega
    · omega

theorem wd_nat (x i : Nat) : (wd x i).toNat = x / 2 ^ (64 * i) % 18446744073709551616 := by
  unfold wd; rw [BitVec.toNat_ofNat]
theorem bt_nat (x i : Nat) : (bt x i).toNat = x / 2 ^ (8 * i) % 256 := by
  unfold bt; rw [BitVec.toNat_ofNat]
theorem wd_bit (x i j : Nat) : (wd x i).getLsbD j = (decide (j < 64) && x.testBit (64 * i + j)) := by
  unfold wd; rw [BitVec.getLsbD_ofNat, Nat.testBit_div_two_pow, Nat.add_comm]
theorem bt_bit (x i j : Nat) : (bt x i).getLsbD j = (decide (j < 8) && x.testBit (8 * i + j)) := by
  unfold bt; rw [BitVec.getLsbD_ofNat, Nat.testBit_div_two_pow, Nat.add_comm]
theorem wd_over {x n i : Nat} (h : x < 2 ^ (64 * n)) (hi : n ≤ i) : wd x i = 0 := by
  unfold wd
  rw [Nat.div_eq_of_lt (Nat.lt_of_lt_of_le h (Nat.pow_le_pow_right (by omega) (by omega)))]
  rfl
theorem bt_over {x n i : Nat} (h : x < 2 ^ (8 * n)) (hi : n ≤ i) : bt x i = 0 := by
  unfold bt
  rw [Nat.div_eq_of_lt (Nat.lt_of_lt_of_le h (Nat.pow_le_pow_right (by omega) (by omega)))]
  rfl
theorem wd_zero (i : Nat) : wd 0 i = 0 := wd_over (n := 0) (by simp) (Nat.zero_le _)
theorem bt_zero (i : Nat) : bt 0 i = 0 := bt_over (n := 0) (by simp) (Nat.zero_le _)
theorem pow_split (b i : Nat) : 2 ^ (b * (i + 1)) = 2 ^ (b * i) * 2 ^ b := by rw [Nat.mul_succ, Nat.pow_add]
theorem pow64 (i : Nat) : 2 ^ (64 * (i + 1)) = 2 ^ (64 * i) * 18446744073709551616 := pow_split 64 i
theorem pow8 (i : Nat) : 2 ^ (8 * (i + 1)) = 2 ^ (8 * i) * 256 := pow_split 8 i
/-- The highest digit is 0 just if one digit less is enough. -/
theorem wd_top {x n : Nat} (h : x < 2 ^ (64 * (n + 1))) : wd x n = 0 ↔ x < 2 ^ (64 * n) := by
  have e : (wd x n).toNat = x / 2 ^ (64 * n) := by
    rw [wd_nat, Nat.mod_eq_of_lt]
    rw [Nat.div_lt_iff_lt_mul (Nat.two_pow_pos _), Nat.mul_comm, ← pow64]; exact h
  constructor
  · intro h0
    rw [h0] at e
    have e' : 0 = x / 2 ^ (64 * n) := e
    exact Nat.lt_of_div_eq_zero (Nat.two_pow_pos _) e'.symm
  · intro h0
    exact wd_over h0 (Nat.le_refl _)
theorem bt_top {x n : Nat} (h : x < 2 ^ (8 * (n + 1))) : bt x n = 0 ↔ x < 2 ^ (8 * n) := by
  have e : (bt x n).toNat = x / 2 ^ (8 * n) := by
    rw [bt_nat, Nat.mod_eq_of_lt]
    rw [Nat.div_lt_iff_lt_mul (Nat.two_pow_pos _), Nat.mul_comm, ← pow8]; exact h
  constructor
  · intro h0
    rw [h0] at e
    have e' : 0 = x / 2 ^ (8 * n) := e
    exact Nat.lt_of_div_eq_zero (Nat.two_pow_pos _) e'.symm
  · intro h0
    exact bt_over h0 (Nat.le_refl _)
/-- A number is told by its digits. -/
theorem eq_of_bits {x y n : Nat} (hx : x < 2 ^ n) (hy : y < 2 ^ n) (h : ∀ i, i < n → x.testBit i = y.testBit i) : x = y := by
  apply Nat.eq_of_testBit_eq
  intro i
  by_cases hi : i < n
  · exact h i hi
  · rw [Nat.testBit_lt_two_pow (Nat.lt_of_lt_of_le hx (Nat.pow_le_pow_right (by omega) (by omega))), Nat.testBit_lt_two_pow (Nat.lt_of_lt_of_le hy (Nat.pow_le_pow_right (by omega) (by omega)))]
theorem eq_of_words {x y n : Nat} (hx : x < 2 ^ (64 * n)) (hy : y < 2 ^ (64 * n)) (h : ∀ i, i < n → wd x i = wd y i) : x = y := by
  refine eq_of_bits hx hy fun i hi => ?_
  have h1 := congrArg (fun b => b.getLsbD (i % 64)) (h (i / 64) (by omega))
  simp only [wd_bit] at h1
  rw [show 64 * (i / 64) + i % 64 = i by omega] at h1
  simpa [Nat.mod_lt] using h1
/-- Any words, and any bytes, are a number's. -/
theorem words_of (f : Nat → BitVec 64) : ∀ n, ∃ x, x < 2 ^ (64 * n) ∧ ∀ i, i < n → wd x i = f i
  | 0 => ⟨0, by simp, fun i h => by omega⟩
  | n + 1 => by
    obtain ⟨x, hx, h⟩ := words_of f n
    refine ⟨2 ^ (64 * n) * (f n).toNat + x, ?_, fun i hi => ?_⟩
    · rw [pow64]
      have h1 : (f n).toNat + 1 ≤ 18446744073709551616 := (f n).isLt
      have := Nat.mul_le_mul_left (2 ^ (64 * n)) h1
      rw [Nat.mul_add] at this
      omega
    · apply BitVec.eq_of_getLsbD_eq
      intro j hj
      rw [wd_bit, Nat.two_pow_add_eq_or_of_lt hx, Nat.testBit_or, Nat.testBit_two_pow_mul]
      by_cases e : i = n
      · subst e
        rw [Nat.testBit_lt_two_pow (Nat.lt_of_lt_of_le hx (Nat.pow_le_pow_right (by omega) (by omega : 64 * i ≤ 64 * i + j)))]
        simp [hj, BitVec.testBit_toNat]
      · have h2 := congrArg (fun b => b.getLsbD j) (h i (by omega))
        simp only [wd_bit] at h2
        have : ¬ 64 * i + j ≥ 64 * n := by omega
        simp [hj, this] at h2 ⊢
        exact h2
theorem bytes_of (f : Nat → BitVec 8) : ∀ n, ∃ x, x < 2 ^ (8 * n) ∧ ∀ i, i < n → bt x i = f i
  | 0 => ⟨0, by simp, fun i h => by omega⟩
  | n + 1 => by
    obtain ⟨x, hx, h⟩ := bytes_of f n
    refine ⟨2 ^ (8 * n) * (f n).toNat + x, ?_, fun i hi => ?_⟩
    · rw [pow8]
      have h1 : (f n).toNat + 1 ≤ 256 := (f n).isLt
      have := Nat.mul_le_mul_left (2 ^ (8 * n)) h1
      rw [Nat.mul_add] at this
      omega
    · apply BitVec.eq_of_getLsbD_eq
      intro j hj
      rw [bt_bit, Nat.two_pow_add_eq_or_of_lt hx, Nat.testBit_or, Nat.testBit_two_pow_mul]
      by_cases e : i = n
      · subst e
        rw [Nat.testBit_lt_two_pow (Nat.lt_of_lt_of_le hx (Nat.pow_le_pow_right (by omega) (by omega : 8 * i ≤ 8 * i + j)))]
        simp [hj, BitVec.testBit_toNat]
      · have h2 := congrArg (fun b => b.getLsbD j) (h i (by omega))
        simp only [bt_bit] at h2
        have : ¬ 8 * i + j ≥ 8 * n := by omega
        simp [hj, this] at h2 ⊢
        exact h2

/-- The first i of one row, the others of another one. -/
def mix {α : Type} (i : Nat) (f g : Nat → α) : Nat → α := fun k => if k < i then f k else g k
theorem mix_zero {α : Type} (f g : Nat → α) : mix 0 f g = g := by funext k; simp [mix]
theorem mix_at {α : Type} (i : Nat) (f g : Nat → α) : mix i f g i = g i := by simp [mix]
theorem mix_upd (i : Nat) (f g : Nat → BitVec 64) : upd (mix i f g) i (f i) = mix (i + 1) f g := by
  funext k
  unfold upd mix
  by_cases e : k = i
  · subst e; simp
  · by_cases h : k < i
    · rw [if_neg e, if_pos h, if_pos (by omega)]
    · rw [if_neg e, if_neg h, if_neg (by omega)]
theorem mix_all {α : Type} (n : Nat) (f g : Nat → α) (k : Nat) (h : k < n) : mix n f g k = f k := by simp [mix, h]

/-! Sums -/
/-- What goes over into word i of a sum. -/
def car (x y i : Nat) : Nat := (x % 2 ^ (64 * i) + y % 2 ^ (64 * i)) / 2 ^ (64 * i)
theorem car_zero (x y : Nat) : car x y 0 = 0 := by simp [car, Nat.mod_one]
theorem car_le (x y i : Nat) : car x y i ≤ 1 := by
  unfold car
  have h1 := Nat.mod_lt x (Nat.two_pow_pos (64 * i))
  have h2 := Nat.mod_lt y (Nat.two_pow_pos (64 * i))
  apply Nat.le_of_lt_succ
  rw [Nat.div_lt_iff_lt_mul (Nat.two_pow_pos _)]
  omega
theorem sum_parts (x y P B : Nat) (hP : 0 < P) (_hB : 0 < B) : (x + y) / P % B = (x / P % B + y / P % B + (x % P + y % P) / P) % B ∧ (x % (P * B) + y % (P * B)) / (P * B) = (x / P % B + y / P % B + (x % P + y % P) / P) / B := by
  have e1 : (x + y) / P = x / P + y / P + (x % P + y % P) / P := by
    have : x + y = P * (x / P + y / P) + (x % P + y % P) := by
      rw [Nat.mul_add]; have := Nat.div_add_mod x P; have := Nat.div_add_mod y P; omega
    rw [this, Nat.mul_add_div hP]
  constructor
  · rw [e1, Nat.add_mod, Nat.add_mod (x / P)]
    simp [Nat.add_mod]
  · rw [Nat.mod_mul, Nat.mod_mul, ← Nat.div_div_eq_div_mul]
    congr 1
    have : x % P + P * (x / P % B) + (y % P + P * (y / P % B)) = P * (x / P % B + y / P % B) + (x % P + y % P) := by rw [Nat.mul_add]; omega
    rw [this, Nat.mul_add_div hP]
theorem wd_add (x y i : Nat) : (wd (x + y) i).toNat = ((wd x i).toNat + (wd y i).toNat + car x y i) % 18446744073709551616 := by
  rw [wd_nat, wd_nat, wd_nat]
  exact (sum_parts x y _ _ (Nat.two_pow_pos _) (by omega)).1
theorem car_succ (x y i : Nat) : car x y (i + 1) = ((wd x i).toNat + (wd y i).toNat + car x y i) / 18446744073709551616 := by
  rw [wd_nat, wd_nat]
  show (_ % 2 ^ (64 * (i + 1)) + _ % 2 ^ (64 * (i + 1))) / 2 ^ (64 * (i + 1)) = _
  rw [pow64]
  exact (sum_parts x y _ _ (Nat.two_pow_pos _) (by omega)).2
/-- The last word of a sum. -/
theorem wd_last {x y n : Nat} (hx : x < 2 ^ (64 * n)) (hy : y < 2 ^ (64 * n)) : (wd (x + y) n).toNat = car x y n := by
  rw [wd_add, wd_over hx (Nat.le_refl _), wd_over hy (Nat.le_refl _)]
  have := car_le x y n
  simp
  omega
theorem add_fits {x y n : Nat} (hx : x < 2 ^ (64 * n)) (hy : y < 2 ^ (64 * n)) : x + y < 2 ^ (64 * (n + 1)) := by
  rw [pow64]; omega

/-! Differences -/
def bor (x y i : Nat) : Nat := if x % 2 ^ (64 * i) < y % 2 ^ (64 * i) then 1 else 0
theorem bor_zero (x y : Nat) : bor x y 0 = 0 := by simp [bor, Nat.mod_one]
theorem bor_le (x y i : Nat) : bor x y i ≤ 1 := by unfold bor; split <;> omega
theorem dif_parts (x y P B : Nat) (hP : 0 < P) (hB : 0 < B) (h : y ≤ x) (hc : B = 18446744073709551616) : (x - y) / P % B = (x / P % B + B - y / P % B - (if x % P < y % P then 1 else 0)) % B ∧ ((x % (P * B) < y % (P * B)) ↔ x / P % B < y / P % B + (if x % P < y % P then 1 else 0)) := by
  have hxm := Nat.mod_lt x hP
  have hym := Nat.mod_lt y hP
  have ex := Nat.div_add_mod x P
  have ey := Nat.div_add_mod y P
  have e1 : (x - y) / P = x / P - y / P - (if x % P < y % P then 1 else 0) := by
    have hq : y / P ≤ x / P := Nat.div_le_div_right h
    by_cases hlt : x % P < y % P
    · rw [if_pos hlt]
      have hq' : y / P + 1 ≤ x / P := by
        rcases Nat.lt_or_ge (y / P) (x / P) with h1 | h1
        · exact h1
        · have : y / P = x / P := by omega
          rw [this] at ey; omega
      have e : x - y = P * (x / P - y / P - 1) + (P + x % P - y % P) := by
        rw [Nat.mul_sub, Nat.mul_sub, Nat.mul_one]
        have := Nat.mul_le_mul_left P hq'
        rw [Nat.mul_add, Nat.mul_one] at this
        omega
      rw [e, Nat.mul_add_div hP, Nat.div_eq_of_lt (by omega : P + x % P - y % P < P)]
      omega
    · rw [if_neg hlt]
      have e : x - y = P * (x / P - y / P) + (x % P - y % P) := by
        rw [Nat.mul_sub]
        have := Nat.mul_le_mul_left P hq
        omega
      rw [e, Nat.mul_add_div hP, Nat.div_eq_of_lt (by omega : x % P - y % P < P)]
      omega
  have hq : y / P + (if x % P < y % P then 1 else 0) ≤ x / P := by
    have hq : y / P ≤ x / P := Nat.div_le_div_right h
    split
    · rename_i hlt
      rcases Nat.lt_or_ge (y / P) (x / P) with h1 | h1
      · omega
      · have : y / P = x / P := by omega
        rw [this] at ey; omega
    · omega
  generalize hb : (if x % P < y % P then 1 else 0) = b at *
  have hb1 : b ≤ 1 := by rw [← hb]; split <;> omega
  constructor
  · rw [e1, hc]
    omega
  · rw [Nat.mod_mul, Nat.mod_mul]
    have hsx := Nat.mod_lt (x / P) hB
    generalize x / P % B = u at *
    generalize y / P % B = v at *
    generalize x % P = r at *
    generalize y % P = s at *
    constructor
    · intro h1
      rcases Nat.lt_trichotomy u v with h2 | h2 | h2
      · omega
      · subst h2
        rw [if_pos (by omega)] at hb
        omega
      · have := Nat.mul_le_mul_left P h2
        rw [Nat.mul_succ] at this
        omega
    · intro h1
      by_cases h2 : u < v
      · have := Nat.mul_le_mul_left P h2
        rw [Nat.mul_succ] at this
        omega
      · have : u = v := by omega
        subst this
        split at hb
        · omega
        · omega
theorem wd_sub {x y : Nat} (h : y ≤ x) (i : Nat) : (wd (x - y) i).toNat = ((wd x i).toNat + 18446744073709551616 - (wd y i).toNat - bor x y i) % 18446744073709551616 := by
  rw [wd_nat, wd_nat, wd_nat]
  exact (dif_parts x y _ _ (Nat.two_pow_pos _) (by omega) h rfl).1
theorem bor_succ {x y : Nat} (h : y ≤ x) (i : Nat) : bor x y (i + 1) = if (wd x i).toNat < (wd y i).toNat + bor x y i then 1 else 0 := by
  have := (dif_parts x y _ _ (Nat.two_pow_pos (64 * i)) (by omega) h rfl).2
  rw [wd_nat, wd_nat]
  unfold bor
  rw [pow64]
  by_cases h1 : x % (2 ^ (64 * i) * 18446744073709551616) < y % (2 ^ (64 * i) * 18446744073709551616)
  · rw [if_pos h1, if_pos (this.1 h1)]
  · rw [if_neg h1, if_neg (fun h2 => h1 (this.2 h2))]

/-! Products: what x times b, onto z, has gone over -/
def ovr (z y x i : Nat) : Nat := (z % 2 ^ (64 * i) + y % 2 ^ (64 * i) * x) / 2 ^ (64 * i)
theorem ovr_zero (z y x : Nat) : ovr z y x 0 = 0 := by simp [ovr, Nat.mod_one]
theorem ovr_lt (z y x i : Nat) (hx : x < 18446744073709551616) : ovr z y x i < 18446744073709551616 := by
  unfold ovr
  have hP := Nat.two_pow_pos (64 * i)
  have h1 := Nat.mod_lt z hP
  have h2 := Nat.mod_lt y hP
  rw [Nat.div_lt_iff_lt_mul hP]
  generalize 2 ^ (64 * i) = P at *
  generalize y % P = r at *
  have : r * x ≤ (P - 1) * 18446744073709551615 := Nat.mul_le_mul (by omega) (by omega)
  rw [Nat.sub_mul] at this
  have h3 : 1 * 18446744073709551615 ≤ P * 18446744073709551615 := Nat.mul_le_mul_right _ (by omega)
  omega
theorem ovr_step (z y x i : Nat) : (wd z i).toNat + (wd y i).toNat * x + ovr z y x i = (wd (z + y * x) i).toNat + 18446744073709551616 * ovr z y x (i + 1) := by
  rw [wd_nat, wd_nat, wd_nat]
  unfold ovr
  rw [pow64]
  have hP := Nat.two_pow_pos (64 * i)
  generalize 2 ^ (64 * i) = P at *
  have hB : 0 < 18446744073709551616 := by omega
  generalize 18446744073709551616 = B at *
  have e1 : (z + y * x) / P = z / P + y / P * x + (z % P + y % P * x) / P := by
    have h1 : z + y * x = P * (z / P + y / P * x) + (z % P + y % P * x) := by
      have hz := Nat.div_add_mod z P
      have hy : (P * (y / P) + y % P) * x = y * x := by rw [Nat.div_add_mod]
      rw [Nat.add_mul] at hy
      rw [Nat.mul_add, ← Nat.mul_assoc]
      omega
    rw [h1, Nat.mul_add_div hP]
  have e2 : (z % (P * B) + y % (P * B) * x) / (P * B) = (z / P % B + y / P % B * x + (z % P + y % P * x) / P) / B := by
    rw [Nat.mod_mul, Nat.mod_mul, ← Nat.div_div_eq_div_mul]
    congr 1
    have : z % P + P * (z / P % B) + (y % P + P * (y / P % B)) * x = P * (z / P % B + y / P % B * x) + (z % P + y % P * x) := by
      rw [Nat.add_mul, Nat.mul_add, ← Nat.mul_assoc]; omega
    rw [this, Nat.mul_add_div hP]
  rw [e1, e2]
  generalize (z % P + y % P * x) / P = o at *
  generalize z / P = u at *
  generalize y / P = v at *
  have : (u + v * x + o) % B = (u % B + v % B * x + o) % B := by
    simp [Nat.add_mod, Nat.mul_mod]
  rw [this]
  have := Nat.div_add_mod (u % B + v % B * x + o) B
  omega
/-- Behind the last word of b. -/
theorem ovr_last {z y x m : Nat} (hz : z < 2 ^ (64 * m)) (hy : y < 2 ^ (64 * m)) (hx : x < 18446744073709551616) : (wd (z + y * x) m).toNat = ovr z y x m ∧ z + y * x < 2 ^ (64 * (m + 1)) := by
  have h := ovr_lt z y x m hx
  unfold ovr at h ⊢
  rw [Nat.mod_eq_of_lt hz, Nat.mod_eq_of_lt hy] at h ⊢
  rw [wd_nat, Nat.mod_eq_of_lt h]
  refine ⟨rfl, ?_⟩
  rw [pow64, Nat.mul_comm (2 ^ _)]
  exact (Nat.div_lt_iff_lt_mul (Nat.two_pow_pos _)).1 h
/-- Words from i on are those of what is there. -/
theorem wd_shift (z t i k : Nat) (hz : z < 2 ^ (64 * i)) : wd (2 ^ (64 * i) * t + z) (i + k) = wd t k := by
  unfold wd
  rw [show 64 * (i + k) = 64 * i + 64 * k by omega, Nat.pow_add, ← Nat.div_div_eq_div_mul, Nat.mul_add_div (Nat.two_pow_pos _), Nat.div_eq_of_lt hz, Nat.add_zero]
theorem wd_low (z t i k : Nat) (hk : k < i) : wd (2 ^ (64 * i) * t + z) k = wd z k := by
  obtain ⟨d, rfl⟩ : ∃ d, i = k + (d + 1) := ⟨i - k - 1, by omega⟩
  unfold wd
  rw [show 64 * (k + (d + 1)) = 64 * k + 64 * (d + 1) by omega, Nat.pow_add, Nat.mul_assoc, Nat.mul_add_div (Nat.two_pow_pos _), show 64 * (d + 1) = 64 + 64 * d by omega, Nat.pow_add, Nat.mul_assoc]
  apply BitVec.eq_of_toNat_eq
  rw [BitVec.toNat_ofNat, BitVec.toNat_ofNat, Nat.mul_add_mod]

/-! Order -/
def cmp (x y : Nat) : Int := if x < y then -1 else if y < x then 1 else 0
theorem cmp_lt {x y : Nat} (h : x < y) : cmp x y = -1 := by simp [cmp, h]
theorem cmp_gt {x y : Nat} (h : y < x) : cmp x y = 1 := by
  have : ¬ x < y := by omega
  simp [cmp, h, this]
theorem cmp_eq (x : Nat) : cmp x x = 0 := by simp [cmp]
theorem div_step (x P B : Nat) : x / P = B * (x / (P * B)) + x / P % B := by
  rw [← Nat.div_div_eq_div_mul]
  exact (Nat.div_add_mod _ _).symm
theorem cmp_step_lt {x y i : Nat} (h : x / 2 ^ (64 * (i + 1)) = y / 2 ^ (64 * (i + 1))) (hd : (wd x i).toNat < (wd y i).toNat) : x < y := by
  rw [wd_nat, wd_nat] at hd
  rw [pow64] at h
  have h1 := div_step x (2 ^ (64 * i)) 18446744073709551616
  have h2 := div_step y (2 ^ (64 * i)) 18446744073709551616
  rw [h] at h1
  rcases Nat.lt_or_ge x y with h3 | h3
  · exact h3
  · have := Nat.div_le_div_right (c := 2 ^ (64 * i)) h3
    omega
theorem cmp_step_eq {x y i : Nat} (h : x / 2 ^ (64 * (i + 1)) = y / 2 ^ (64 * (i + 1))) (hd : (wd x i).toNat = (wd y i).toNat) : x / 2 ^ (64 * i) = y / 2 ^ (64 * i) := by
  rw [wd_nat, wd_nat] at hd
  rw [pow64] at h
  have h1 := div_step x (2 ^ (64 * i)) 18446744073709551616
  have h2 := div_step y (2 ^ (64 * i)) 18446744073709551616
  rw [h] at h1
  omega
theorem cmp8_step_lt {x y i : Nat} (h : x / 2 ^ (8 * (i + 1)) = y / 2 ^ (8 * (i + 1))) (hd : (bt x i).toNat < (bt y i).toNat) : x < y := by
  rw [bt_nat, bt_nat] at hd
  rw [pow8] at h
  have h1 := div_step x (2 ^ (8 * i)) 256
  have h2 := div_step y (2 ^ (8 * i)) 256
  rw [h] at h1
  rcases Nat.lt_or_ge x y with h3 | h3
  · exact h3
  · have := Nat.div_le_div_right (c := 2 ^ (8 * i)) h3
    omega
theorem cmp8_step_eq {x y i : Nat} (h : x / 2 ^ (8 * (i + 1)) = y / 2 ^ (8 * (i + 1))) (hd : (bt x i).toNat = (bt y i).toNat) : x / 2 ^ (8 * i) = y / 2 ^ (8 * i) := by
  rw [bt_nat, bt_nat] at hd
  rw [pow8] at h
  have h1 := div_step x (2 ^ (8 * i)) 256
  have h2 := div_step y (2 ^ (8 * i)) 256
  rw [h] at h1
  omega
end Go.Proofs.YtanfobboeehiaaaDoor

/-
  Rows of bytes and of words in memory: what a walk knows of them, make, append, copy. No statement is proved here: lemmas for the walks.
-/
namespace Go.Proofs.YtanfobboeehiaaaDoor
open Go.RowKit

section
variable {w W W' : World} {l : List (Nat × Obj)}
end

section
variable {w : World} {ops : Array Oper} {rest : List Oper} {o : Oper} {act : Act} {Q : Exit → Act → World → Prop}
end
section
variable {w W : World} {b n : Nat} {f : Nat → BitVec 8}
end
section
variable {ops : Array Oper} {rest : List Oper} {o : Oper} {a : Act} {w : World} {Q : Exit → Act → World → Prop}
end
section
variable {w : World} {ops : Array Oper} {rest : List Oper} {o : Oper} {act : Act} {Q : Exit → Act → World → Prop}
end

theorem info64 : (Tryd.prog.info? 25).map (fun i => (i.zero, i.size, i.bytes)) = some (some (.int .u64 0), 1, 8) := by kernel_rfl
theorem info_u64 : ∃ i, Tryd.prog.info? 25 = some i ∧ i.zero = some (.int .u64 0) ∧ i.size = 1 ∧ i.bytes = 8 := by
  cases hq : Tryd.prog.info? 25 with
  | none => have := info64; simp [hq] at this
  | some i =>
    have := info64
    simp [hq] at this
    exact ⟨i, rfl, this.1, this.2.1, this.2.2⟩
theorem A_zero (n : Nat) : A n (fun _ => 0) = Array.replicate n (.int .u64 0) := by
  apply Array.ext_getElem?
  intro j
  by_cases hj : j < n
  · rw [A_get n _ j hj]
    simp [hj]
    rfl
  · rw [Array.getElem?_eq_none (by simpa [A_size] using hj), Array.getElem?_eq_none (by simpa using hj)]
theorem made_u64 (n : Nat) : madeCells (Value.int .u64 0).cells n = A n fun _ => 0 := by
  rw [A_zero]
  unfold madeCells
  apply Array.ext_getElem?
  intro j
  simp only [Array.getElem?_map, Array.getElem?_replicate]
  by_cases h : j < n
  · simp [h, Value.cells, Nat.mod_one]
  · simp [h]





/-- A row of n words lies in block b. -/
def RowW (w : World) (b n : Nat) (f : Nat → BitVec 64) : Prop := w.heap[b]? = some (.cells (A n f) 25)
section
variable {w W : World} {b n : Nat} {f : Nat → BitVec 64}
theorem RowW.lt (h : RowW w b n f) : b < w.heap.size := row_lt h
theorem RowW.cell (h : RowW w b n f) (i : Nat) (hi : i < n) : w.cell? ⟨b, i, none⟩ = some (V (f i)) := by rw [cell_of_row _ _ _ _ _ _ h, A_get _ _ _ hi]
theorem RowW.thaw (h : RowW w b n f) (i : Nat) : w.frozen? ⟨b, i, none⟩ = false := frozen_of_row _ _ _ _ _ h
theorem RowW.below {B : Nat} (h : RowW w b n f) (hb : Below B w W) (hB : b < B) : RowW W b n f := (hb.block _ hB).trans h
theorem RowW.drew (h : RowW w b n f) : RowW w.drew b n f := h
theorem RowW.alloc (h : RowW w b n f) (o : Obj) : RowW (w.alloc o) b n f := (heap_alloc_past _ _ _ h.lt).trans h
theorem RowW.setCell (h : RowW w b n f) (i : Nat) (v : BitVec 64) : RowW (w.setCell ⟨b, i, none⟩ (V v)) b n (upd f i v) := by
  have := heap_setCell_same w b i _ _ (V v) h
  rwa [A_set] at this
theorem RowW.other (h : RowW w b n f) (g i : Nat) (v : Value) (hne : b ≠ g) : RowW (w.setCell ⟨g, i, none⟩ v) b n f := by
  unfold RowW
  rw [heap_setCell_other _ _ _ _ (by show b ≠ g; exact hne)]
  exact h
theorem RowW.congr {f' : Nat → BitVec 64} (h : RowW w b n f) (hf : ∀ i, i < n → f i = f' i) : RowW w b n f' := by
  unfold RowW at h ⊢
  rw [h, A_congr hf]
theorem RowW.new (w : World) (n : Nat) (f : Nat → BitVec 64) : RowW (w.alloc (.cells (A n f) 25)) w.heap.size n f := heap_alloc_last _ _
end
/-- A slice of n words, nil let in, that are the number x, and that lies below block B. -/
structure Sw (w : World) (B : Nat) (a : Option Addr) (n c x : Nat) : Prop where
  le : n ≤ c
  nil : a = none → c = 0
  low : ∀ ad, a = some ad → 0 < n → ∃ b o, ad = ⟨b, o, none⟩ ∧ b < B ∧ ∀ i, i < n → w.cell? ⟨b, o + i, none⟩ = some (V (wd x i))
  fits : x < 2 ^ (64 * n)
section
variable {w w' : World} {B : Nat} {a : Option Addr} {n c x : Nat}
theorem Sw.get (h : Sw w B a n c x) (i : Nat) (hi : i < n) : ∃ b o, a = some ⟨b, o, none⟩ ∧ b < B ∧ w.cell? ⟨b, o + i, none⟩ = some (V (wd x i)) := by
  cases ha : a with
  | none =>
    have h1 := h.nil ha
    have h2 := h.le
    exfalso; omega
  | some ad =>
    obtain ⟨b, o, rfl, hb, hc⟩ := h.low ad ha (by omega)
    exact ⟨b, o, rfl, hb, hc i hi⟩
theorem Sw.below (h : Sw w B a n c x) (hb : Below B w w') : Sw w' B a n c x :=
  ⟨h.le, h.nil, fun ad ha h0 => by
    obtain ⟨b, o, rfl, hlt, hc⟩ := h.low ad ha h0
    exact ⟨b, o, rfl, hlt, fun i hi => (hb.cell (p := ⟨b, o + i, none⟩) hlt).trans (hc i hi)⟩, h.fits⟩
theorem Sw.more {B' : Nat} (h : Sw w B a n c x) (hB : B ≤ B') : Sw w B' a n c x :=
  ⟨h.le, h.nil, fun ad ha h0 => by
    obtain ⟨b, o, rfl, hlt, hc⟩ := h.low ad ha h0
    exact ⟨b, o, rfl, by omega, hc⟩, h.fits⟩
theorem Sw.call (h : Sw w w.heap.size a n c x) (hb : Below w.heap.size w w') : Sw w' w'.heap.size a n c x := (h.below hb).more hb.size
/-- Noughts at the end are left away. -/
theorem Sw.cut (h : Sw w B a n c x) : Sw w B a (dl 64 x) (dl 64 x) x := by
  have hk := (dl_le 64 x n (by omega)).2 h.fits
  refine ⟨Nat.le_refl _, fun ha => ?_, fun ad ha h0 => ?_, fits_dl 64 x (by omega)⟩
  · have h1 := h.nil ha
    have h2 := h.le
    omega
  · obtain ⟨b, o, rfl, hlt, hc⟩ := h.low ad ha (by omega)
    exact ⟨b, o, rfl, hlt, fun i hi => hc i (by omega)⟩
theorem Sw.zero (w : World) (B : Nat) : Sw w B none 0 0 0 := ⟨Nat.le_refl _, fun _ => rfl, (fun _ e _ => by cases e), by simp⟩
theorem RowW.sw {g N n x : Nat} (h : RowW w g N (wd x)) (hN : n ≤ N) (hx : x < 2 ^ (64 * n)) (hB : g < B) : Sw w B (some ⟨g, 0, none⟩) n n x :=
  ⟨Nat.le_refl _, (fun e => by cases e), fun ad e _ => ⟨g, 0, (Option.some.inj e).symm, hB, fun i hi => by rw [Nat.zero_add]; exact h.cell i (by omega)⟩, hx⟩
end
/-- A slice of n bytes that are the number x. -/
structure Sb (w : World) (B : Nat) (a : Option Addr) (n c x : Nat) : Prop where
  sl : Sl w B a n c (bt x)
  fits : x < 2 ^ (8 * n)
section
variable {w w' : World} {B : Nat} {a : Option Addr} {n c x : Nat}
theorem Sb.below (h : Sb w B a n c x) (hb : Below B w w') : Sb w' B a n c x := ⟨h.sl.below hb, h.fits⟩
theorem Sb.more {B' : Nat} (h : Sb w B a n c x) (hB : B ≤ B') : Sb w B' a n c x := ⟨h.sl.more hB, h.fits⟩
theorem Sb.call (h : Sb w w.heap.size a n c x) (hb : Below w.heap.size w w') : Sb w' w'.heap.size a n c x := (h.below hb).more hb.size
theorem Sb.cut (h : Sb w B a n c x) : Sb w B a (dl 8 x) c x := by
  have hk := (dl_le 8 x n (by omega)).2 h.fits
  refine ⟨⟨by have := h.sl.le; omega, h.sl.nil, fun ad ha h0 => ?_⟩, fits_dl 8 x (by omega)⟩
  obtain ⟨b, o, rfl, hlt, hc⟩ := h.sl.low ad ha (by omega)
  exact ⟨b, o, rfl, hlt, fun i hi => hc i (by omega)⟩
end
/-- v is a new row of words, just as many as x wants, that are x. -/
def Got (w W : World) (v : Value) (x : Nat) : Prop := ∃ g N, v = .slice (some ⟨g, 0, none⟩) (dl 64 x) (dl 64 x) ∧ w.heap.size ≤ g ∧ RowW W g N (wd x) ∧ dl 64 x ≤ N ∧ Below w.heap.size w W
theorem Got.open {w W : World} {v : Value} {x : Nat} (h : Got w W v x) : ∃ a, v = .slice a (dl 64 x) (dl 64 x) ∧ Sw W W.heap.size a (dl 64 x) (dl 64 x) x ∧ Below w.heap.size w W := by
  obtain ⟨g, N, rfl, hg, hr, hN, hb⟩ := h
  exact ⟨_, rfl, hr.sw hN (fits_dl 64 x (by omega)) hr.lt, hb⟩
/-- v is bytes, just as many as x wants, that are x. -/
def GotB (w W : World) (v : Value) (x : Nat) : Prop := ∃ a c, v = .slice a (dl 8 x) c ∧ Sb W W.heap.size a (dl 8 x) c x ∧ Below w.heap.size w W

section
variable {ops : Array Oper} {rest : List Oper} {o : Oper} {a : Act} {w : World} {Q : Exit → Act → World → Prop}






end
end Go.Proofs.YtanfobboeehiaaaDoor

/-
  A slice of bytes that are a number, in regions that draw their order. No statement is proved here: lemmas for the walks.
-/
namespace Go.Proofs.YtanfobboeehiaaaDoor
open Go.RowKit

theorem Sb.drew {w : World} {a : Option Addr} {n c x : Nat} (h : Sb w w.heap.size a n c x) : Sb w.drew w.drew.heap.size a n c x := ⟨h.sl.drew, h.fits⟩
section
variable {P : Program} {o : Oper} {a : Act} {w w0 : World} {l : List (Nat × Obj)} {K : Act → World → Prop} {Q : Exit → Act → World → Prop} {t : TypeId} {k : IntKind} {n : Nat}
/-- A slice of one byte is made. -/
theorem own_wp_byte (dd : Tmp) (hd : o.dst = some dd) {v : Nat} (hv : v < 256) (H : Ow w0 w l) (ho : o.op = .buildSlice 34 1 #[(0, .const (.int .u8 (v : Int)))])
    (h : ∀ w' g, Ow w0 w' ((g, .cells #[.int .u8 (v : Int)] 5) :: l) → Sb w' w'.heap.size (some ⟨g, 0, none⟩) 1 1 v → Below w.heap.size w w' → K (a.put (some dd) (.slice (some ⟨g, 0, none⟩) 1 1)) w') : o.wp Tryd.prog a w K Q := by
  obtain ⟨i, hi, hz, hs, _⟩ := info_u8
  refine Go.wp_buildSlice 34 5 1 _ ho #[.int .u8 (v : Int)] i _ Tryd.underlying34 hi hz (by rw [hs]; decide) (by rw [hs]; decide) (by rw [hs]; simp [Instr.fill, Act.eval, Array.range, Value.cells]; exact Array.ext (by simp) (fun j h1 h2 => by obtain rfl : j = 0 := (by simpa using h2); simp)) ?_
  rw [hd]
  refine h _ _ (H.alloc _) ⟨⟨Nat.le_refl _, (fun e => by cases e), fun ad e _ => ⟨w.heap.size, 0, (Option.some.inj e).symm, by simp, fun j hj => ?_⟩⟩, hv⟩ (below_alloc _ _)
  obtain rfl : j = 0 := by omega
  have : U (bt v 0) = .int .u8 (v : Int) := congrArg (Value.int .u8) (by
    show ((bt v 0).toNat : Int) = _
    rw [bt_nat, Nat.mul_zero, Nat.pow_zero, Nat.div_one, Nat.mod_eq_of_lt hv])
  rw [this]
  simp
end
end Go.Proofs.YtanfobboeehiaaaDoor

/-
  Rows of bytes and of words that an append makes anew: what lies in them, to the last cell; a byte stored. No statement is proved here: lemmas for the walks.
-/
namespace Go.Proofs.YtanfobboeehiaaaDoor
open Go.RowKit

/-- A block of n bytes. -/
abbrev YB (n : Nat) (f : Nat → BitVec 8) : Obj := Blk 5 .u8 n (UB f)
theorem AB_AZ (n : Nat) (f : Nat → BitVec 8) : AB n f = AZ .u8 n (UB f) := by
  apply Array.ext_getElem?
  intro j
  by_cases hj : j < n
  · rw [AB_get n _ j hj, AZ_get _ n _ j hj]
    rfl
  · rw [Array.getElem?_eq_none (by simpa [AB_size] using hj), Array.getElem?_eq_none (by simpa [AZ_size] using hj)]
theorem rowB_blk {w : World} {g n : Nat} {f : Nat → BitVec 8} (h : RowB w g n f) : w.heap[g]? = some (YB n f) := by
  unfold RowB at h
  rw [h, AB_AZ]
  rfl
theorem blk_rowB {w : World} {g n : Nat} {f : Nat → BitVec 8} (h : w.heap[g]? = some (YB n f)) : RowB w g n f := by
  unfold RowB
  rw [h, AB_AZ]
  rfl
theorem UB_upd (g : Nat → BitVec 8) (i : Nat) (v : BitVec 8) : updZ (UB g) i (U8 v) = UB (upd8 g i v) := by
  funext j
  unfold updZ upd8 UB
  by_cases h : j = i
  · rw [if_pos h]; show _ = U8 (if j = i then v else g j); rw [if_pos h]
  · rw [if_neg h]; show _ = U8 (if j = i then v else g j); rw [if_neg h]
theorem oneB : IsOne Tryd.prog 5 .u8 := ⟨Tryd.underlying5, by kernel_rfl⟩
theorem Ow.slb {w W : World} {l : List (Nat × Obj)} (h : Ow w W l) (i : Nat) {g n N c : Nat} {f : Nat → BitVec 8} (hi : l[i]? = some (g, YB N f)) (hn : n ≤ N) (hc : n ≤ c) : Sl W W.heap.size (some ⟨g, 0, none⟩) n c f :=
  ⟨hc, (fun e => by cases e), fun ad e _ => ⟨g, 0, (Option.some.inj e).symm, lt_row (h.row i hi), fun j hj => by rw [Nat.zero_add]; exact h.cell i hi j (by omega)⟩⟩
theorem zeros_at (z : Value) (hz : z.cells = #[z]) (n j : Nat) : (Builtin.zeroCells z.cells n)[j]? = if j < n then some z else none := by
  rw [hz]
  unfold Builtin.zeroCells
  rw [Array.getElem?_map]
  by_cases h : j < n
  · simp [h, Nat.mod_one]
  · simp [h]
/-- What was there, what is new, and noughts behind. -/
theorem AZ_grown {k : IntKind} {f : Nat → Int} {n m cap : Nat} {z : Value} (hz : z.cells = #[z]) (hz0 : z = .int k 0) (olds news : List Value) (hlo : olds.length = n) (hln : news.length = m) (ho : ∀ j, j < n → olds[j]? = some (.int k (f j)))
    (hn : ∀ j, j < m → news[j]? = some (.int k (f (n + j)))) (h0 : ∀ j, n + m ≤ j → f j = 0) (hc : n + m ≤ cap) : olds.toArray ++ news.toArray ++ Builtin.zeroCells z.cells (cap - (n + m)) = AZ k cap f := by
  apply Array.ext_getElem?
  intro j
  rw [Array.getElem?_append]
  by_cases h1 : j < n + m
  · rw [if_pos (by simp [hlo, hln]; omega), AZ_get _ _ _ _ (by omega), Array.getElem?_append]
    by_cases h2 : j < n
    · rw [if_pos (by simp [hlo]; omega), List.getElem?_toArray, ho j h2]
    · rw [if_neg (by simp [hlo]; omega), List.getElem?_toArray]
      obtain ⟨d, rfl⟩ : ∃ d, j = n + d := ⟨j - n, by omega⟩
      rw [show n + d - olds.toArray.size = d by simp [hlo], hn d (by omega)]
  · rw [if_neg (by simp [hlo, hln]; omega), zeros_at z hz]
    by_cases h2 : j < cap
    · rw [if_pos (by simp [hlo, hln]; omega), AZ_get _ _ _ _ h2, h0 j (by omega), hz0]
    · rw [if_neg (by simp [hlo, hln]; omega), Array.getElem?_eq_none (by rw [AZ_size]; omega)]
theorem AZ_list (k : IntKind) (n : Nat) (f : Nat → Int) : (AZ k n f).toList.length = n ∧ ∀ j, j < n → (AZ k n f).toList[j]? = some (.int k (f j)) :=
  ⟨by rw [Array.length_toList, AZ_size], fun j hj => by rw [Array.getElem?_toList, AZ_get _ _ _ _ hj]⟩
theorem list_cell {k : IntKind} {n : Nat} {f : Nat → Int} {w : World} {b o : Nat} (h : ∀ j, j < n → w.cell? ⟨b, o + j, none⟩ = some (.int k (f j))) (j : Nat) (v : Value) (hv : (AZ k n f).toList[j]? = some v) : w.cell? ((⟨b, o, none⟩ : Addr).add j) = some v := by
  have hj : j < n := by
    rcases Nat.lt_or_ge j n with h' | h'
    · exact h'
    · rw [List.getElem?_eq_none (by rw [(AZ_list k n f).1]; exact h')] at hv; cases hv
  rw [(AZ_list k n f).2 j hj] at hv
  obtain rfl := Option.some.inj hv
  rw [Addr.add_mid]
  exact h j hj
section
variable {w : World} {t e : TypeId} {k : IntKind}
/-- An append that has no room: the new row, to the last cell. -/
theorem run_grown (ht : Tryd.prog.underlying t = some (.slice e)) (hi : ∃ i, Tryd.prog.info? e = some i ∧ i.zero = some (.int k 0) ∧ i.size = 1 ∧ i.bytes ≤ 8) {b o b' o' n c m c' : Nat} {f : Nat → Int} (hn : ∀ j, j < n → w.cell? ⟨b, o + j, none⟩ = some (.int k (f j)))
    (hm : ∀ j, j < m → w.cell? ⟨b', o' + j, none⟩ = some (.int k (f (n + j)))) (h0 : ∀ j, n + m ≤ j → f j = 0) (hg : c < n + m) (hs : n + m ≤ 1000000) (ty : TypeId) :
    ∃ cap, n + m ≤ cap ∧ (Builtin.append_ #[t, t] ty #[.slice (some ⟨b, o, none⟩) n c, .slice (some ⟨b', o', none⟩) m c']).run Tryd.prog w = .ok (.slice (some ⟨w.heap.size, 0, none⟩) (n + m) cap) (w.drew.alloc (Blk e k cap f)) := by
  obtain ⟨i, hi, hz, hs1, hb⟩ := hi
  have hg2 := grownCap_ge w (n + m) c e
  have h := run_append_grow (P := Tryd.prog) w t ty e i (.int k 0) ht hi hz ⟨b, o, none⟩ n c (AZ k n f).toList (by rw [hs1, Nat.mul_one]; exact (AZ_list k n f).1) (list_cell hn) ⟨b', o', none⟩ m c' (AZ k m fun j => f (n + j)).toList (by rw [hs1, Nat.mul_one]; exact (AZ_list _ _ _).1) (list_cell hm) hg (by omega)
    (growslice_fits hg (by have := Nat.mul_le_mul hs hb; omega))
  rw [AZ_grown (k := k) (f := f) rfl rfl _ _ (AZ_list k n f).1 (AZ_list _ _ _).1 (AZ_list k n f).2 (AZ_list _ m _).2 h0 hg2] at h
  exact ⟨_, hg2, h⟩
end
section
variable {w : World}
theorem info_b : ∃ i, Tryd.prog.info? 5 = some i ∧ i.zero = some (.int .u8 0) ∧ i.size = 1 ∧ i.bytes ≤ 8 := by
  obtain ⟨i, h1, h2, h3, h4⟩ := info_u8
  exact ⟨i, h1, h2, h3, by omega⟩
theorem info_w : ∃ i, Tryd.prog.info? 25 = some i ∧ i.zero = some (.int .u64 0) ∧ i.size = 1 ∧ i.bytes ≤ 8 := by
  obtain ⟨i, h1, h2, h3, h4⟩ := info_u64
  exact ⟨i, h1, h2, h3, by omega⟩
/-- Noughts are appended where there is no room. -/
theorem run_zeros {a : Option Addr} {n c m : Nat} {f : Nat → BitVec 8} (hs : Sl w w.heap.size a n c f) (h0 : ∀ j, n ≤ j → f j = 0) (hm : 0 < m) (hg : c < n + m) (hl : n + m ≤ 1000000) (ty : TypeId) :
    ∃ cap, n + m ≤ cap ∧ (Builtin.append_ #[34, 3] ty #[.slice a n c, .int .i64 (m : Int)]).run Tryd.prog w = .ok (.slice (some ⟨w.heap.size, 0, none⟩) (n + m) cap) (w.drew.alloc (YB cap f)) := by
  obtain ⟨i, hi, hz, hs1, hb⟩ := info_u8
  have hg2 := grownCap_ge w (n + m) c 5
  have hcell : ∀ b o, a = some ⟨b, o, none⟩ → ∀ j, j < n → w.cell? ⟨b, o + j, none⟩ = some (.int .u8 (UB f j)) := fun b o e j hj => by
    obtain ⟨b1, o1, e1, _, hc⟩ := hs.get j hj
    rw [e] at e1
    cases e1
    exact hc
  have hold : (Builtin.firstCells i.size n (.slice a n c)).run Tryd.prog w.drew = .ok (AZ .u8 n (UB f)).toList.toArray w.drew := by
    cases n with
    | zero =>
      have e : (AZ .u8 0 (UB f)).toList.toArray = #[] := by
        apply Array.eq_empty_of_size_eq_zero
        simp [AZ_size]
      rw [e]
      cases a with
      | none => exact run_firstCells_none _ _ _ _ _
      | some ad => exact run_firstCells_some (P := Tryd.prog) w.drew i.size 0 ad 0 c [] (by simp) (fun j v h => by simp at h)
    | succ n =>
      obtain ⟨b, o, rfl, _, _⟩ := hs.get 0 (by omega)
      exact run_firstCells_some (P := Tryd.prog) w.drew i.size (n + 1) ⟨b, o, none⟩ (n + 1) c _ (by rw [hs1, Nat.mul_one]; exact (AZ_list _ _ _).1) (list_cell (w := w.drew) (hcell b o rfl))
  have h := Lib.run_append_grow_zeros (P := Tryd.prog) w 34 3 ty 5 i (.int .u8 0) .i64 .i64 Tryd.underlying34 Tryd.underlying3 hi hz a n c (AZ .u8 n (UB f)).toList hold m hm (by omega) hg (by omega) (by rw [hb]; omega)
    (growslice_fits hg (by rw [hb]; omega))
  have e : (AZ .u8 n (UB f)).toList.toArray ++ Builtin.zeroCells (Value.int .u8 0).cells m ++ Builtin.zeroCells (Value.int .u8 0).cells (grownCap w (n + m) c 5 - (n + m)) = AZ .u8 (grownCap w (n + m) c 5) (UB f) := by
    have e1 : Builtin.zeroCells (Value.int .u8 0).cells m = (AZ .u8 m fun j => UB f (n + j)).toList.toArray := by
      rw [Array.toArray_toList]
      apply Array.ext_getElem?
      intro j
      rw [zeros_at _ rfl]
      by_cases hj : j < m
      · rw [if_pos hj, AZ_get _ _ _ _ hj]
        unfold UB
        rw [h0 _ (by omega)]
        rfl
      · rw [if_neg hj, Array.getElem?_eq_none (by rw [AZ_size]; omega)]
    rw [e1]
    exact AZ_grown rfl rfl _ _ (AZ_list _ _ _).1 (AZ_list _ _ _).1 (AZ_list _ n _).2 (AZ_list _ m _).2 (fun j hj => by unfold UB; rw [h0 j (by omega)]; rfl) hg2
  rw [e] at h
  exact ⟨_, hg2, h⟩
end
section
variable {ops : Array Oper} {rest : List Oper} {o : Oper} {a : Act} {w w0 : World} {l : List (Nat × Obj)} {Q : Exit → Act → World → Prop}
theorem Ow.grew (H : Ow w0 w l) (b : Obj) : Ow w0 (w.drew.alloc b) ((w.heap.size, b) :: l) := H.drew.alloc b
theorem own_zeros (H : Hid (Ow w0 w l)) (hgd : o.guard = none) {s x : Operand} (ho : o.op = .call { callee := .builtin .append, args := #[s, x], argTypes := #[34, 3] }) {ad : Option Addr} {n c m : Nat} (hs : a.eval s = .slice ad n c) (hx : a.eval x = .int .i64 (m : Int))
    {f : Nat → BitVec 8} (hS : Sl w w.heap.size ad n c f) (h0 : ∀ j, n ≤ j → f j = 0) (hm : 0 < m) {N : Nat} (hN : n + m = N) (hg : c < N) (hl : N ≤ 1000000)
    (h : ∀ w' g cap, Hid (N ≤ cap) → Hid (Ow w0 w' ((g, YB cap f) :: l)) → ∀ K : Act → World → Prop, (∀ a w, wpList Tryd.prog ops Q rest a w → K a w) → K (a.put o.dst (.slice (some ⟨g, 0, none⟩) N cap)) w') : wpList Tryd.prog ops Q (o :: rest) a w :=
  wpList_plain hgd fun K hK => by
    subst hN
    obtain ⟨cap, hcap, hr⟩ := run_zeros hS h0 hm hg hl o.type
    exact Lib.wp_append_run w s x _ _ ho _ _ hs hx _ _ hr (h _ _ cap (Lib.hid hcap) (Lib.hid (H.out.grew _)) K hK)
/-- One word is appended where there is no room. -/
theorem own_grown {t : TypeId} (ht : Tryd.prog.underlying t = some (.slice 25)) {f : Nat → Int} {n N : Nat} (hN : n + 1 = N) (H : Hid (Ow w0 w l)) (hgd : o.guard = none) {s x : Operand} (ho : o.op = .call { callee := .builtin .append, args := #[s, x], argTypes := #[t, t] }) {b b' c' : Nat} (hs : a.eval s = .slice (some ⟨b, 0, none⟩) n n) (hx : a.eval x = .slice (some ⟨b', 0, none⟩) 1 c')
    (hn : ∀ j, j < n → w.cell? ⟨b, 0 + j, none⟩ = some (.int .u64 (f j))) (hm : ∀ j, j < 1 → w.cell? ⟨b', 0 + j, none⟩ = some (.int .u64 (f (n + j)))) (h0 : ∀ j, n + 1 ≤ j → f j = 0) (hl : N ≤ 1000000)
    (h : ∀ w' g cap, Hid (N ≤ cap) → Hid (Ow w0 w' ((g, Blk 25 .u64 cap f) :: l)) → ∀ K : Act → World → Prop, (∀ a w, wpList Tryd.prog ops Q rest a w → K a w) → K (a.put o.dst (.slice (some ⟨g, 0, none⟩) N cap)) w') : wpList Tryd.prog ops Q (o :: rest) a w :=
  wpList_plain hgd fun K hK => by
    subst hN
    obtain ⟨cap, hcap, hr⟩ := run_grown (w := w) ht info_w hn hm h0 (Nat.lt_succ_self n) hl o.type
    exact Lib.wp_append_run w s x _ _ ho _ _ hs hx _ _ hr (h _ _ cap (Lib.hid hcap) (Lib.hid (H.out.grew _)) K hK)
theorem own_makeB (H : Hid (Ow w0 w l)) (hgd : o.guard = none) {x y : Operand} (ho : o.op = .makeSlice 34 x y) {m : Nat} (hx : a.eval x = .int .i64 (m : Int)) (hy : a.eval y = .int .i64 (m : Int)) (hc : m ≤ 1000000)
    (h : ∀ w' g, Hid (Ow w0 w' ((g, YB m fun _ => 0) :: l)) → ∀ K : Act → World → Prop, (∀ a w, wpList Tryd.prog ops Q rest a w → K a w) → K (a.put o.dst (.slice (some ⟨g, 0, none⟩) m m)) w') : wpList Tryd.prog ops Q (o :: rest) a w :=
  wpList_plain hgd fun K hK => by
    unfold Oper.wp execOp
    have e := run_make_u8 w m m (Nat.le_refl _) hc
    rw [AB_AZ] at e
    simp only [ho, hx, hy, Sem.run_bind, e, Result.andThen_ok]
    exact h _ _ (Lib.hid (H.out.alloc _)) K hK
theorem own_putb {i : Nat} (H : Hid (Ow w0 w l)) (hgd : o.guard = none) {x y : Operand} (ho : o.op = .store 5 x y) {g j n : Nat} (hx : a.eval x = .pointer (some ⟨g, j, none⟩)) {v : BitVec 8} {f : Nat → BitVec 8} (hy : a.eval y = U v)
    (hi : l[i]? = some (g, YB n f)) (hj : j < n) (h : ∀ w', Hid (Ow w0 w' (l.set i (g, YB n (upd8 f j v)))) → ∀ K : Act → World → Prop, (∀ a w, wpList Tryd.prog ops Q rest a w → K a w) → K (a.put o.dst undef) w') : wpList Tryd.prog ops Q (o :: rest) a w :=
  own_put oneB H hgd ho hx hy hi hj fun w' H' => h w' (by rw [UB_upd] at H'; exact H')
theorem own_getb {i : Nat} (H : Hid (Ow w0 w l)) (hgd : o.guard = none) {x : Operand} (ho : o.op = .load 5 x) {g j n : Nat} (hx : a.eval x = .pointer (some ⟨g, j, none⟩)) {f : Nat → BitVec 8}
    (hi : l[i]? = some (g, YB n f)) (hj : j < n) (h : ∀ K : Act → World → Prop, (∀ a w, wpList Tryd.prog ops Q rest a w → K a w) → K (a.put o.dst (U (f j))) w) : wpList Tryd.prog ops Q (o :: rest) a w :=
  own_get oneB H hgd ho hx hi hj h
end
end Go.Proofs.YtanfobboeehiaaaDoor

/-
  Words of numbers by their bits: shifts, bytes, single bits. Plain mathematics.
-/
namespace Go.Proofs.YtanfobboeehiaaaDoor

theorem shl_bit (x : BitVec 64) (k j : Nat) : (shl x k).getLsbD j = (decide (j < 64) && !decide (j < k) && x.getLsbD (j - k)) := by unfold shl; rw [BitVec.getLsbD_shiftLeft]
theorem shr_bit (x : BitVec 64) (k j : Nat) : (shr x k).getLsbD j = x.getLsbD (k + j) := by unfold shr; rw [BitVec.getLsbD_ushiftRight]
theorem modmul_bit (x n s t : Nat) : ((x % 2 ^ n) * 2 ^ s).testBit t = (decide (s ≤ t) && (decide (t - s < n) && x.testBit (t - s))) := by
  rw [Nat.testBit_mul_two_pow, Nat.testBit_mod_two_pow]
/-- What comes into word i of twice a number and a bit. -/
def lowb (x b i : Nat) : BitVec 64 := if i = 0 then BitVec.ofNat 64 b else shr (wd x (i - 1)) 63
theorem lowb_succ (x b i : Nat) : lowb x b (i + 1) = shr (wd x i) 63 := by unfold lowb; rw [if_neg (by omega), Nat.add_sub_cancel]
theorem wd_double (x b i : Nat) (hb : b ≤ 1) : wd (2 * x + b) i = shl (wd x i) 1 ||| lowb x b i := by
  apply BitVec.eq_of_getLsbD_eq
  intro j hj
  rw [wd_bit, BitVec.getLsbD_or, shl_bit, wd_bit]
  have e : 2 * x + b = 2 ^ 1 * x + b := by omega
  rw [e, Nat.two_pow_add_eq_or_of_lt (by omega), Nat.testBit_or, Nat.testBit_two_pow_mul]
  unfold lowb
  by_cases hi : i = 0
  · subst hi
    rw [if_pos rfl, BitVec.getLsbD_ofNat]
    by_cases h0 : j = 0
    · subst h0; simp
    · have : 1 ≤ j := by omega
      have hj1 : j - 1 < 64 := by omega
      have hjj : ¬ j < 1 := by omega
      simp [hj, this, hj1, hjj]
  · rw [if_neg hi, shr_bit, wd_bit]
    have hbz : b.testBit (64 * i + j) = false := Nat.testBit_lt_two_pow (Nat.lt_of_le_of_lt hb (Nat.one_lt_two_pow (by omega)))
    rw [hbz]
    by_cases h0 : j = 0
    · subst h0
      simp
      rw [show 64 * i - 1 = 64 * (i - 1) + 63 by omega]
      simp [show 1 ≤ 64 * i by omega]
    · have h1 : ¬ (63 + j < 64) := by omega
      have h2 : ¬ j < 1 := by omega
      have h3 : j - 1 < 64 := by omega
      have h4 : 64 * i + j ≥ 1 := by omega
      rw [show 64 * i + j - 1 = 64 * i + (j - 1) by omega]
      simp [hj, h1, h2, h3, h4]
theorem wd_down (x y i : Nat) : wd (x / 2 ^ y) i = shr (wd x (i + y / 64)) (y % 64) ||| shl (wd x (i + y / 64 + 1)) (64 - y % 64) := by
  apply BitVec.eq_of_getLsbD_eq
  intro j hj
  rw [wd_bit, Nat.testBit_div_two_pow, BitVec.getLsbD_or, shr_bit, shl_bit, wd_bit, wd_bit]
  by_cases h : y % 64 + j < 64
  · have h1 : j < 64 - y % 64 := by omega
    rw [show 64 * i + j + y = 64 * (i + y / 64) + (y % 64 + j) by omega]
    simp [hj, h, h1]
  · have h1 : ¬ j < 64 - y % 64 := by omega
    have h2 : j - (64 - y % 64) < 64 := by omega
    rw [show 64 * i + j + y = 64 * (i + y / 64 + 1) + (j - (64 - y % 64)) by omega]
    simp [hj, h, h1, h2]
/-- One more word of a number that goes up. -/
theorem wd_up (x i y : Nat) : upd (upd (wd ((x % 2 ^ (64 * i)) * 2 ^ y)) (i + y / 64) (wd ((x % 2 ^ (64 * i)) * 2 ^ y) (i + y / 64) ||| shl (wd x i) (y % 64))) (i + y / 64 + 1) (shr (wd x i) (64 - y % 64)) = wd ((x % 2 ^ (64 * (i + 1))) * 2 ^ y) := by
  funext k
  unfold upd
  apply BitVec.eq_of_getLsbD_eq
  intro j hj
  rw [wd_bit, modmul_bit]
  by_cases h1 : k = i + y / 64 + 1
  · subst h1
    rw [if_pos rfl, shr_bit, wd_bit]
    by_cases h2 : j < y % 64
    · rw [show 64 * (i + y / 64 + 1) + j - y = 64 * i + (64 - y % 64 + j) by omega]
      have h3 : 64 - y % 64 + j < 64 := by omega
      have h4 : y ≤ 64 * (i + y / 64 + 1) + j := by omega
      have h5 : 64 * i + (64 - y % 64 + j) < 64 * (i + 1) := by omega
      simp [hj, h3, h4, h5]
    · have h3 : ¬ 64 - y % 64 + j < 64 := by omega
      have h5 : ¬ 64 * (i + y / 64 + 1) + j - y < 64 * (i + 1) := by omega
      simp [h3, h5]
  · rw [if_neg h1]
    by_cases h2 : k = i + y / 64
    · subst h2
      rw [if_pos rfl, BitVec.getLsbD_or, wd_bit, modmul_bit, shl_bit, wd_bit]
      by_cases h3 : j < y % 64
      · have e : (64 * (i + y / 64) + j - y < 64 * i) = (64 * (i + y / 64) + j - y < 64 * (i + 1)) ∨ ¬ y ≤ 64 * (i + y / 64) + j := by
          by_cases h4 : y ≤ 64 * (i + y / 64) + j
          · left; apply propext; constructor <;> intro <;> omega
          · exact .inr h4
        rcases e with e | e
        · simp [hj, h3, e]
        · simp [h3, e]
      · have h4 : ¬ 64 * (i + y / 64) + j - y < 64 * i := by omega
        have h5 : 64 * (i + y / 64) + j - y < 64 * (i + 1) := by omega
        have h6 : y ≤ 64 * (i + y / 64) + j := by omega
        have h7 : j - y % 64 < 64 := by omega
        have h8 : 64 * i + (j - y % 64) = 64 * (i + y / 64) + j - y := by omega
        simp [hj, h3, h4, h5, h6, h7, h8]
    · rw [if_neg h2, wd_bit, modmul_bit]
      by_cases h3 : k < i + y / 64
      · have e : ¬ y ≤ 64 * k + j ∨ (64 * k + j - y < 64 * i ∧ 64 * k + j - y < 64 * (i + 1)) := by omega
        rcases e with e | ⟨e1, e2⟩
        · simp [e]
        · simp [e1, e2]
      · have e1 : ¬ 64 * k + j - y < 64 * i := by omega
        have e2 : ¬ 64 * k + j - y < 64 * (i + 1) := by omega
        simp [e1, e2]
theorem bt_word (x i : Nat) : low8 (shr (wd x (i / 8)) (i % 8 * 8)) = bt x i := by
  apply BitVec.eq_of_getLsbD_eq
  intro j hj
  unfold low8
  rw [BitVec.getLsbD_setWidth, shr_bit, wd_bit, bt_bit]
  have h1 : i % 8 * 8 + j < 64 := by omega
  rw [show 64 * (i / 8) + (i % 8 * 8 + j) = 8 * i + j by omega]
  simp [h1]
/-- One more byte of a number. -/
theorem wd_of (x i : Nat) : upd (wd (x % 2 ^ (8 * i))) (i / 8) (wd (x % 2 ^ (8 * i)) (i / 8) ||| shl (zx (bt x i)) (i % 8 * 8)) = wd (x % 2 ^ (8 * (i + 1))) := by
  funext k
  unfold upd
  apply BitVec.eq_of_getLsbD_eq
  intro j hj
  rw [wd_bit, Nat.testBit_mod_two_pow]
  by_cases h1 : k = i / 8
  · subst h1
    rw [if_pos rfl, BitVec.getLsbD_or, wd_bit, Nat.testBit_mod_two_pow, shl_bit]
    unfold zx
    rw [BitVec.getLsbD_setWidth, bt_bit]
    by_cases h2 : 64 * (i / 8) + j < 8 * i
    · have h3 : j < i % 8 * 8 := by omega
      have h4 : 64 * (i / 8) + j < 8 * (i + 1) := by omega
      simp [hj, h2, h3, h4]
    · have h3 : ¬ j < i % 8 * 8 := by omega
      by_cases h4 : 64 * (i / 8) + j < 8 * (i + 1)
      · have h5 : j - i % 8 * 8 < 64 := by omega
        have h6 : j - i % 8 * 8 < 8 := by omega
        have h7 : 8 * i + (j - i % 8 * 8) = 64 * (i / 8) + j := by omega
        simp [hj, h2, h3, h4, h5, h6, h7]
      · have h6 : ¬ j - i % 8 * 8 < 8 := by omega
        simp [h2, h4, h6]
  · rw [if_neg h1, wd_bit, Nat.testBit_mod_two_pow]
    have e : (64 * k + j < 8 * i) = (64 * k + j < 8 * (i + 1)) := by apply propext; constructor <;> intro <;> omega
    simp [e]
/-- One more bit, below all others. -/
theorem wd_bit_at (q t : Nat) : upd (wd (q * 2 ^ (t + 1))) (t / 64) (wd (q * 2 ^ (t + 1)) (t / 64) ||| shl 1 (t % 64)) = wd ((2 * q + 1) * 2 ^ t) := by
  have e : (2 * q + 1) * 2 ^ t = q * 2 ^ (t + 1) ||| 2 ^ t := by
    have h := Nat.two_pow_add_eq_or_of_lt (i := t + 1) (b := 2 ^ t) (Nat.pow_lt_pow_right (by omega) (by omega)) q
    rw [Nat.mul_comm q, ← h, Nat.add_mul, Nat.one_mul, Nat.pow_succ]
    congr 1
    rw [Nat.mul_comm 2 q, Nat.mul_comm (q * 2), Nat.mul_comm q 2, Nat.mul_assoc]
  funext k
  unfold upd
  apply BitVec.eq_of_getLsbD_eq
  intro j hj
  rw [e, wd_bit, Nat.testBit_or, Nat.testBit_two_pow]
  by_cases h1 : k = t / 64
  · subst h1
    rw [if_pos rfl, BitVec.getLsbD_or, wd_bit, shl_bit]
    congr 1
    by_cases h2 : t = 64 * (t / 64) + j
    · have h3 : ¬ j < t % 64 := by omega
      have h4 : j - t % 64 = 0 := by omega
      simp [hj, h3, h4, ← h2]
    · have e0 : decide (t = 64 * (t / 64) + j) = false := by simpa using h2
      rw [e0]
      by_cases h3 : j < t % 64
      · simp [hj, h3]
      · obtain ⟨d, hd⟩ : ∃ d, j - t % 64 = d + 1 := ⟨j - t % 64 - 1, by omega⟩
        simp [hj, h3, hd]
  · rw [if_neg h1, wd_bit]
    have h2 : ¬ t = 64 * k + j := by omega
    simp [h2]
end Go.Proofs.YtanfobboeehiaaaDoor

/-
  Contracts of the small functions of number, and of what stands for math/bits.Add64 and Sub64.
-/
namespace Go.Proofs.YtanfobboeehiaaaDoor
open Go.RowKit

/-! Carries: 0 or 1 -/
def cy (k : Nat) : BitVec 64 := if k = 0 then 0 else 1
theorem cy_le (k : Nat) : (cy k).toNat ≤ 1 := by unfold cy; split <;> decide
theorem cy_of {k : Nat} (h : k ≤ 1) : (cy k).toNat = k := by
  rcases (by omega : k = 0 ∨ k = 1) with rfl | rfl <;> rfl
def adc (a b : BitVec 64) (k : Nat) : BitVec 64 := BitVec.ofNat 64 (a.toNat + b.toNat + (cy k).toNat)
def adk (a b : BitVec 64) (k : Nat) : Nat := (a.toNat + b.toNat + (cy k).toNat) / 18446744073709551616
def sbb (a b : BitVec 64) (k : Nat) : BitVec 64 := BitVec.ofNat 64 (a.toNat + 18446744073709551616 - b.toNat - (cy k).toNat)
def sbk (a b : BitVec 64) (k : Nat) : Nat := if a.toNat < b.toNat + (cy k).toNat then 1 else 0
theorem adk_le (a b : BitVec 64) (k : Nat) : adk a b k ≤ 1 := by
  have := a.isLt; have := b.isLt; have := cy_le k
  unfold adk; omega
theorem sbk_le (a b : BitVec 64) (k : Nat) : sbk a b k ≤ 1 := by unfold sbk; split <;> omega
theorem V_eq {a : BitVec 64} {n : Nat} (h : a.toNat = n) : V a = .int .u64 (n : Int) := by subst h; rfl
def sub64E : Array Value → Sem Value := fun args => do
  let (x, y, b) ← Extern.MathBitsCarry.three "Sub64" args
  pure (Extern.MathBitsCarry.pair ((x + Extern.MathBitsCarry.m64 - y - b) % Extern.MathBitsCarry.m64) (if x < y + b then 1 else 0))
theorem run_sub64E {P : Program} (x y b : Nat) (hb : b ≤ 1) (w : World) :
    (sub64E #[.int .u64 x, .int .u64 y, .int .u64 b]).run P w =
      .ok (.tuple #[.int .u64 (((x + 18446744073709551616 - y - b) % 18446744073709551616 : Nat) : Int), .int .u64 ((if x < y + b then 1 else 0 : Nat) : Int)]) w := by
  have : b = 0 ∨ b = 1 := by omega
  rcases this with rfl | rfl <;> rfl
@[go_sem] theorem add64_run (a b : BitVec 64) (k : Nat) (w : World) : (callFunc 111 #[V a, V b, V (cy k)]).run Tryd.prog w = .ok (.value (.tuple #[V (adc a b k), V (cy (adk a b k))])) w := by
  have h := run_callFunc_extern (P := Tryd.prog) Tryd.func111 (by kernel_rfl) (by kernel_rfl) (by kernel_rfl) (e := add64Entry) (by kernel_rfl) #[V a, V b, V (cy k)] w
  rw [h]
  have h1 := a.isLt; have h2 := b.isLt; have h3 := cy_le k
  show (Sem.run Tryd.prog (add64Entry #[.int .u64 (a.toNat : Int), .int .u64 (b.toNat : Int), .int .u64 ((cy k).toNat : Int)]) w).andThen _ = _
  rw [run_add64 _ _ _ (by omega) (by omega) (by omega) (by omega)]
  have e1 : V (adc a b k) = .int .u64 (((a.toNat : Int) + b.toNat + (cy k).toNat) % 18446744073709551616) := by
    rw [V_eq (n := (a.toNat + b.toNat + (cy k).toNat) % 18446744073709551616) (by unfold adc; rw [BitVec.toNat_ofNat])]
    congr 1
  have e2 : V (cy (adk a b k)) = .int .u64 (((a.toNat : Int) + b.toNat + (cy k).toNat) / 18446744073709551616) := by
    rw [V_eq (cy_of (adk_le a b k))]
    congr 1
  rw [e1, e2]
  rfl
@[go_sem] theorem add64_run0 (a b : BitVec 64) (w : World) : (callFunc 111 #[V a, V b, .int .u64 0]).run Tryd.prog w = .ok (.value (.tuple #[V (adc a b 0), V (cy (adk a b 0))])) w := add64_run a b 0 w






































end Go.Proofs.YtanfobboeehiaaaDoor

/-
  The contract of number.trim.
-/
namespace Go.Proofs.YtanfobboeehiaaaDoor
open Go.RowKit

theorem L_zero : L 0 = 0 := rfl
theorem L_eq0 (a : BitVec 64) (h : a = 0) : (L a == 0) = true := by subst h; rfl
theorem L_ne0 (a : BitVec 64) (h : a ≠ 0) : (L a == 0) = false := by
  rw [beq_eq_false_iff_ne]
  intro e
  exact h (L_inj.1 (e.trans L_zero.symm))
/-- What holds at trim's label. -/
def TrimAt (a : Option Addr) (n c x k : Nat) (act : Act) : Prop := k ≤ n ∧ x < 2 ^ (64 * k) ∧ ∃ u4 u5 u6 u7 u8 u9 u10 u11 u12 u13 u14 u15 u16 u17 u18 u19 u20 u21 : Value,
  act = { tmps := #[.slice a n c, undef, .slice none 0 0, .int .i64 (k : Int), u4, u5, u6, u7, u8, u9, u10, u11, u12, u13, u14, u15, u16, u17, u18, u19, u20, u21], defers := [] }




















































































end Go.Proofs.YtanfobboeehiaaaDoor

/-
  The contracts of math/bits.Mul64 and Len64.
-/
namespace Go.Proofs.YtanfobboeehiaaaDoor
open Go.RowKit

/-- The two halves of a product. -/
def mhi (a b : BitVec 64) : BitVec 64 := BitVec.ofNat 64 (a.toNat * b.toNat / 18446744073709551616)
def mlo (a b : BitVec 64) : BitVec 64 := BitVec.ofNat 64 (a.toNat * b.toNat)
theorem mul_lt (a b : BitVec 64) : a.toNat * b.toNat / 18446744073709551616 < 18446744073709551616 := by
  have h1 : a.toNat ≤ 18446744073709551615 := by have := a.isLt; omega
  have h2 : b.toNat ≤ 18446744073709551615 := by have := b.isLt; omega
  have := Nat.mul_le_mul h1 h2
  omega
theorem mhi_nat (a b : BitVec 64) : (mhi a b).toNat = a.toNat * b.toNat / 18446744073709551616 := by
  unfold mhi; rw [BitVec.toNat_ofNat]; exact Nat.mod_eq_of_lt (mul_lt a b)
theorem mlo_nat (a b : BitVec 64) : (mlo a b).toNat = a.toNat * b.toNat % 18446744073709551616 := by
  unfold mlo; rw [BitVec.toNat_ofNat]
theorem mul64_any (a b : BitVec 64) (w : World) :
    Calls Tryd.prog 99 #[V a, V b] w fun e w' => e = .returned (.tuple #[V (mhi a b), V (mlo a b)]) ∧ w' = w := by
  rw [V_eq (mhi_nat a b), V_eq (mlo_nat a b)]
  exact mul64_nat a.toNat b.toNat a.isLt b.isLt w
end Go.Proofs.YtanfobboeehiaaaDoor

/-
  The contract of math/bits.Len64.
-/
namespace Go.Proofs.YtanfobboeehiaaaDoor
open Go.RowKit
@[go_sem high] theorem len8_lt {P : Program} (w : World) (t : TypeId) (k : IntKind) (i : Int) (h : P.underlying t = some .string) (h0 : 0 ≤ i) (h1 : i < 256) :
    (Instr.index t (.string Lib.len8tab) (.int k i)).run P w = .ok (.int .u8 (Lib.len8 i)) w := Lib.run_index_len8tab w t k i h h0 (by omega)
theorem wrap_wrap (m : Nat) (h : m ≤ 8) : wrap64 (wrap64 (m : Int)) = (m : Int) := by
  simp only [wrap64]
  omega
theorem nwrap_sum (k m : Nat) (hk : k ≤ 56) (h : m ≤ 8) : wrap64 ((k : Int) + wrap64 (m : Int)) = ((k + m : Nat) : Int) := by
  simp only [wrap64]
  omega
theorem len8_sum (x y : Int) (k P : Nat) (h0 : 0 ≤ y) (h1 : y < 256) (hk : k ≤ 56) (hs : x.toNat < 18446744073709551616 → Lib.bitLen x.toNat = k + Lib.bitLen (x.toNat / P)) (hx : x.toNat < 18446744073709551616) (hy : y = ((x.toNat / P : Nat) : Int)) :
    wrap64 ((k : Int) + wrap64 (Lib.len8 y)) = (Lib.bitLen x.toNat : Int) := by
  rw [hs hx, Lib.len8_of y h0 (by omega)]
  have l := Lib.bitLen_le8' y h0 (by omega)
  subst hy
  rw [Int.toNat_natCast] at l ⊢
  exact nwrap_sum _ _ hk l






























theorem bitLen_bl (x : Nat) (hx : x < 18446744073709551616) : Lib.bitLen x = bl x := by
  have key : ∀ (f x : Nat), x < 2 ^ f → Lib.bitLenAux f x = bl x := by
    intro f
    induction f with
    | zero => intro x hx; simp at hx; subst hx; rfl
    | succ f ih =>
      intro x hx
      rw [Lib.bitLenAux]
      by_cases h0 : x = 0
      · rw [if_pos h0, h0]; rfl
      · rw [if_neg h0, ih (x / 2) (by rw [Nat.pow_succ] at hx; omega)]
        refine (bl_eq ?_ (.inr ?_)).symm
        · have := bl_fits (x / 2)
          rw [Nat.add_comm, Nat.pow_succ]; omega
        · rw [Nat.add_sub_cancel_left]
          by_cases h1 : x / 2 = 0
          · rw [h1, bl_zero]; omega
          · have := bl_low (x := x / 2) (by omega)
            have hp := bl_pos (x := x / 2) (by omega)
            obtain ⟨k, hk⟩ : ∃ k, bl (x / 2) = k + 1 := ⟨bl (x / 2) - 1, by omega⟩
            rw [hk] at this ⊢
            rw [Nat.add_sub_cancel] at this
            rw [Nat.pow_succ]; omega
  exact key 64 x hx





end Go.Proofs.YtanfobboeehiaaaDoor

/-
  The contracts of number.Len and Bit.
-/
namespace Go.Proofs.YtanfobboeehiaaaDoor
open Go.RowKit

theorem bl_words {x k : Nat} (h1 : x < 2 ^ (64 * (k + 1))) (h2 : 2 ^ (64 * k) ≤ x) : bl x = 64 * k + bl (wd x k).toNat := by
  have e : (wd x k).toNat = x / 2 ^ (64 * k) := by
    rw [wd_nat, Nat.mod_eq_of_lt]
    rw [Nat.div_lt_iff_lt_mul (Nat.two_pow_pos _), Nat.mul_comm, ← pow64]; exact h1
  have hP := Nat.two_pow_pos (64 * k)
  have hq : 0 < x / 2 ^ (64 * k) := Nat.div_pos h2 hP
  rw [e]
  have hf := bl_fits (x / 2 ^ (64 * k))
  have hl := bl_low hq
  have hp := bl_pos hq
  have ed := Nat.div_add_mod x (2 ^ (64 * k))
  have hm := Nat.mod_lt x hP
  refine bl_eq ?_ (.inr ?_)
  · rw [Nat.pow_add]
    have := Nat.mul_le_mul_left (2 ^ (64 * k)) (Nat.succ_le_of_lt hf)
    rw [Nat.mul_succ] at this
    omega
  · rw [show 64 * k + bl (x / 2 ^ (64 * k)) - 1 = 64 * k + (bl (x / 2 ^ (64 * k)) - 1) by omega, Nat.pow_add]
    have := Nat.mul_le_mul_left (2 ^ (64 * k)) hl
    omega
theorem bl_le64 (a : BitVec 64) : bl a.toNat ≤ 64 := (bl_le _ _).2 a.isLt



































/-- A bit of a number, at any place. -/
def bitI (x : Nat) (i : Int) : Int := if i < 0 then 0 else ((x / 2 ^ i.toNat % 2 : Nat) : Int)
def bit1 (b : BitVec 64) (k : Nat) : BitVec 64 := (shr b k) &&& 1
@[go_sem] theorem and1_bv (a : BitVec 64) : bits .and .u64 (L a) 1 = L (a &&& 1) := and_bv a 1
theorem bit1_nat (x i : Nat) : (bit1 (wd x (i / 64)) (i % 64)).toNat = x / 2 ^ i % 2 := by
  unfold bit1 shr
  have h1 : ((wd x (i / 64)) >>> (i % 64) &&& 1#64).toNat = ((wd x (i / 64)).toNat / 2 ^ (i % 64)) % 2 := by
    rw [BitVec.toNat_and, BitVec.toNat_ushiftRight, Nat.shiftRight_eq_div_pow]
    exact Nat.and_one_is_mod _
  refine h1.trans ?_
  rw [wd_nat]
  have e : 2 ^ i = 2 ^ (64 * (i / 64)) * 2 ^ (i % 64) := by rw [← Nat.pow_add]; congr 1; omega
  rw [e, ← Nat.div_div_eq_div_mul]
  generalize x / 2 ^ (64 * (i / 64)) = z
  have hlt : i % 64 < 64 := Nat.mod_lt _ (by omega)
  generalize i % 64 = s at hlt
  have t1 : (z % 18446744073709551616).testBit s = z.testBit s := by
    rw [show 18446744073709551616 = 2 ^ 64 from rfl, Nat.testBit_mod_two_pow]; simp [hlt]
  rw [Nat.testBit_eq_decide_div_mod_eq, Nat.testBit_eq_decide_div_mod_eq] at t1
  have t2 : z % 18446744073709551616 / 2 ^ s % 2 = 1 ↔ z / 2 ^ s % 2 = 1 := by simpa using t1
  generalize z % 18446744073709551616 / 2 ^ s = u at t2 ⊢
  generalize z / 2 ^ s = v at t2 ⊢
  omega
theorem wrap_one (z : Int) (h0 : 0 ≤ z) (h1 : z ≤ 1) : wrap64 z = z := by simp only [wrap64]; omega
theorem L_nat {b : BitVec 64} {n : Nat} (h : b.toNat = n) : L b = (n : Int) := by subst h; rfl






























end Go.Proofs.YtanfobboeehiaaaDoor

/-
  The contract of number.up.
-/
namespace Go.Proofs.YtanfobboeehiaaaDoor
open Go.RowKit

theorem up_fits {x n s : Nat} (hx : x < 2 ^ (64 * n)) : x * 2 ^ s < 2 ^ (64 * (n + s / 64 + 1)) := by
  refine Nat.lt_of_lt_of_le (Nat.mul_lt_mul_of_pos_right hx (Nat.two_pow_pos s)) ?_
  rw [← Nat.pow_add]
  exact Nat.pow_le_pow_right (by omega) (by omega)













































































end Go.Proofs.YtanfobboeehiaaaDoor

/-
  The contract of number.down.
-/
namespace Go.Proofs.YtanfobboeehiaaaDoor
open Go.RowKit

theorem down_fits {x n s K : Nat} (hx : x < 2 ^ (64 * n)) (hK : n ≤ K + s / 64) : x / 2 ^ s < 2 ^ (64 * K) := by
  rw [Nat.div_lt_iff_lt_mul (Nat.two_pow_pos _), ← Nat.pow_add]
  exact Nat.lt_of_lt_of_le hx (Nat.pow_le_pow_right (by omega) (by omega))












































































end Go.Proofs.YtanfobboeehiaaaDoor

/-
  The contract of number.Shift.
-/
namespace Go.Proofs.YtanfobboeehiaaaDoor
open Go.RowKit

/-- A number whose bits go up, or down. -/
def shf (x : Nat) (s : Int) : Nat := if s < 0 then x / 2 ^ (-s).toNat else x * 2 ^ s.toNat














































end Go.Proofs.YtanfobboeehiaaaDoor

/-
  The laws' comparison of bytes: whether two slices are the same. No statement is proved here: lemmas for the walks.
-/
namespace Go.Proofs.YtanfobboeehiaaaDoor
open Go.RowKit

theorem U8_neq {a b : BitVec 8} (h : a ≠ b) : (U8 a != U8 b) = true := by
  rw [bne_iff_ne]
  exact fun e => h (U8_inj.1 e)
set_option maxRecDepth 8000 in
set_option maxHeartbeats 3200000 in
theorem same_sl (a a' : Option Addr) (n c c' : Nat) (f g : Nat → BitVec 8) (w : World) (hn : n ≤ 100000) (h1 : Sl w w.heap.size a n c f) (h2 : Sl w w.heap.size a' n c' g) (he : ∀ i, i < n → f i = g i) :
    Calls Tryd.prog 9 #[.slice a n c, .slice a' n c'] w fun e w' => e = .returned (.bool true) ∧ Below w.heap.size w w' := by
  have H1 := Lib.hid h1
  have H2 := Lib.hid h2
  have HE := Lib.hid he
  clear he
  clear h1 h2
  have hn' : (n : Int) ≤ 100000 := by omega
  go_enter Tryd.func9, Tryd.ntmps9
  go_wp2_with fail
  go_loopw [5] (fun v wr => ∃ i : Nat, i ≤ n ∧ v = .int .i64 i ∧ Below w.heap.size w wr) (fun v _ => n - (intOf v).toNat)
  case atStart => exact ⟨0, by omega, rfl, Below.refl _ _⟩
  case round =>
    obtain ⟨i, hi, rfl, HR⟩ := hrel
    by_cases hlt : i < n
    · have hid : decide ((i : Int) < (n : Int)) = true := by simp; omega
      obtain ⟨b, o, rfl, hbB, hcell⟩ := (H1.out.below HR).get i hlt
      obtain ⟨b', o', rfl, hbB', hcell'⟩ := (H2.out.below HR).get i hlt
      have HH := Lib.hid HR
      clear HR
      go_wp2_with fail
      refine wp_region_still_lit (by kernel_rfl) (by kernel_rfl) ?_
      have HD := Lib.hid (Below.drew HH.out)
      have hc : wr.drew.cell? ⟨b, o + i, none⟩ = some (U (f i)) := hcell
      have hc' : wr.drew.cell? ⟨b', o' + i, none⟩ = some (U (f i)) := by rw [HE.out i hlt]; exact hcell'
      clear HH hcell hcell'
      change wpStill _ _ wr.drew (fun a' => Exit.then _ _ Exit.normal a' wr.drew) _ _
      generalize wr.drew = w2 at *
      have hlt' : (i : Int) < (n : Int) := by omega
      iterate 9 still_step
      refine wpStill_nil ?_
      go_wp2_with fail
      go_roundw
      case rel => exact ⟨i + 1, by omega, by go_num, HD.out⟩
      case measure => simp [intOf]; omega
    · obtain rfl : i = n := by omega
      have HH := Lib.hid HR
      clear HR
      go_wp2_with fail
      go_ret
      exact ⟨rfl, HH.out⟩
set_option maxRecDepth 8000 in
set_option maxHeartbeats 3200000 in
theorem differ_sl (a a' : Option Addr) (n c c' : Nat) (f g : Nat → BitVec 8) (w : World) (hn : n ≤ 100000) (h1 : Sl w w.heap.size a n c f) (h2 : Sl w w.heap.size a' n c' g) (j : Nat) (hj : j < n) (hne : f j ≠ g j) (he : ∀ i, i < j → f i = g i) :
    Calls Tryd.prog 9 #[.slice a n c, .slice a' n c'] w fun e w' => e = .returned (.bool false) ∧ Below w.heap.size w w' := by
  have H1 := Lib.hid h1
  have H2 := Lib.hid h2
  have HE := Lib.hid he
  have HN := Lib.hid (U8_neq hne)
  clear he hne
  clear h1 h2
  have hn' : (n : Int) ≤ 100000 := by omega
  go_enter Tryd.func9, Tryd.ntmps9
  go_wp2_with fail
  go_loopw [5] (fun v wr => ∃ i : Nat, i ≤ j ∧ v = .int .i64 i ∧ Below w.heap.size w wr) (fun v _ => n - (intOf v).toNat)
  case atStart => exact ⟨0, by omega, rfl, Below.refl _ _⟩
  case round =>
    obtain ⟨i, hi, rfl, HR⟩ := hrel
    have hlt : i < n := by omega
    by_cases hij : i < j
    · have hg : g i = f i := (HE.out i hij).symm
      have hid : decide ((i : Int) < (n : Int)) = true := by simp; omega
      obtain ⟨b, o, rfl, hbB, hcell⟩ := (H1.out.below HR).get i hlt
      obtain ⟨b', o', rfl, hbB', hcell'⟩ := (H2.out.below HR).get i hlt
      rw [hg] at hcell'
      clear hg
      have HH := Lib.hid HR
      clear HR
      go_wp2_with fail
      refine wp_region_still_lit (by kernel_rfl) (by kernel_rfl) ?_
      have HD := Lib.hid (Below.drew HH.out)
      have hc : wr.drew.cell? ⟨b, o + i, none⟩ = some (U (f i)) := hcell
      have hc' : wr.drew.cell? ⟨b', o' + i, none⟩ = some (U (f i)) := hcell'
      clear HH hcell hcell'
      change wpStill _ _ wr.drew (fun a' => Exit.then _ _ Exit.normal a' wr.drew) _ _
      generalize wr.drew = w2 at *
      have hlt' : (i : Int) < (n : Int) := by omega
      iterate 9 still_step
      refine wpStill_nil ?_
      go_wp2_with fail
      go_roundw
      case rel => exact ⟨i + 1, by omega, by go_num, HD.out⟩
      case measure => simp [intOf]; omega
    · obtain rfl : i = j := by omega
      have hne := HN.out
      have hid : decide ((i : Int) < (n : Int)) = true := by simp; omega
      obtain ⟨b, o, rfl, hbB, hcell⟩ := (H1.out.below HR).get i hlt
      obtain ⟨b', o', rfl, hbB', hcell'⟩ := (H2.out.below HR).get i hlt
      have HH := Lib.hid HR
      clear HR
      go_wp2_with fail
      refine wp_region_still_lit (by kernel_rfl) (by kernel_rfl) ?_
      have HD := Lib.hid (Below.drew HH.out)
      have hc : wr.drew.cell? ⟨b, o + i, none⟩ = some (U (f i)) := hcell
      have hc' : wr.drew.cell? ⟨b', o' + i, none⟩ = some (U (g i)) := hcell'
      clear HH hcell hcell'
      change wpStill _ _ wr.drew (fun a' => Exit.then _ _ Exit.normal a' wr.drew) _ _
      generalize wr.drew = w2 at *
      have hlt' : (i : Int) < (n : Int) := by omega
      iterate 9 still_step
      refine wpStill_nil ?_
      go_wp2_with fail
      go_ret
      exact ⟨rfl, HD.out⟩
theorem other_sl (a a' : Option Addr) (n m c c' : Nat) (w : World) (h : n ≠ m) :
    Calls Tryd.prog 9 #[.slice a n c, .slice a' m c'] w fun e w' => e = .returned (.bool false) ∧ Below w.heap.size w w' := by
  have hd : ((n : Int) != (m : Int)) = true := by rw [bne_iff_ne]; omega
  go_enter Tryd.func9, Tryd.ntmps9
  go_wp2_with fail
  go_ret
  exact ⟨rfl, Below.refl _ _⟩
theorem eq_of_bytes {x y n : Nat} (hx : x < 2 ^ (8 * n)) (hy : y < 2 ^ (8 * n)) (h : ∀ i, i < n → bt x i = bt y i) : x = y := by
  refine eq_of_bits hx hy fun i hi => ?_
  have h1 := congrArg (fun b => b.getLsbD (i % 8)) (h (i / 8) (by omega))
  simp only [bt_bit] at h1
  rw [show 8 * (i / 8) + i % 8 = i by omega] at h1
  simpa [Nat.mod_lt] using h1
/-- The first place where two rows part. -/
theorem first_diff (f g : Nat → BitVec 8) : ∀ n, (∀ i, i < n → f i = g i) ∨ ∃ j, j < n ∧ f j ≠ g j ∧ ∀ i, i < j → f i = g i
  | 0 => .inl fun i hi => absurd hi (by omega)
  | n + 1 => by
    rcases first_diff f g n with h | ⟨j, hj, h1, h2⟩
    · by_cases e : f n = g n
      · exact .inl fun i hi => by
          rcases (by omega : i < n ∨ i = n) with h3 | rfl
          · exact h i h3
          · exact e
      · exact .inr ⟨n, by omega, e, h⟩
    · exact .inr ⟨j, by omega, h1, h2⟩
/-- Numbers are compared by as many bytes. -/
theorem cmp_same (a a' : Option Addr) (n c c' x y : Nat) (w : World) (hn : n ≤ 100000) (h1 : Sb w w.heap.size a n c x) (h2 : Sb w w.heap.size a' n c' y) :
    Calls Tryd.prog 9 #[.slice a n c, .slice a' n c'] w fun e w' => e = .returned (.bool (decide (x = y))) ∧ Below w.heap.size w w' := by
  rcases first_diff (bt x) (bt y) n with h | ⟨j, hj, hne, he⟩
  · rw [decide_eq_true (eq_of_bytes h1.fits h2.fits h)]
    exact same_sl a a' n c c' _ _ w hn h1.sl h2.sl h
  · rw [decide_eq_false (fun e => hne (by rw [e]))]
    exact differ_sl a a' n c c' _ _ w hn h1.sl h2.sl j hj hne he
end Go.Proofs.YtanfobboeehiaaaDoor

/-
  Division bit by bit: plain mathematics; make with its world named. No statement is proved here: lemmas for the walks.
-/
namespace Go.Proofs.YtanfobboeehiaaaDoor
open Go.RowKit

theorem half_step (x t : Nat) : x / 2 ^ t = 2 * (x / 2 ^ (t + 1)) + x / 2 ^ t % 2 := by
  rw [Nat.pow_succ, ← Nat.div_div_eq_div_mul]
  omega
theorem div_bit_lt {x y t : Nat} (h : 2 * (x / 2 ^ (t + 1) % y) + x / 2 ^ t % 2 < y) : x / 2 ^ t % y = 2 * (x / 2 ^ (t + 1) % y) + x / 2 ^ t % 2 ∧ x / 2 ^ t / y = 2 * (x / 2 ^ (t + 1) / y) := by
  have hs := half_step x t
  generalize x / 2 ^ t % 2 = b at *
  generalize x / 2 ^ (t + 1) = u at *
  have hd := Nat.div_add_mod u y
  have e : x / 2 ^ t = y * (2 * (u / y)) + (2 * (u % y) + b) := by
    rw [hs, Nat.mul_left_comm]
    omega
  have hy : 0 < y := by omega
  rw [e, Nat.mul_add_mod, Nat.mod_eq_of_lt h, Nat.mul_add_div hy, Nat.div_eq_of_lt h]
  exact ⟨rfl, rfl⟩
theorem div_bit_ge {x y t : Nat} (hy : 0 < y) (h : y ≤ 2 * (x / 2 ^ (t + 1) % y) + x / 2 ^ t % 2) : x / 2 ^ t % y = 2 * (x / 2 ^ (t + 1) % y) + x / 2 ^ t % 2 - y ∧ x / 2 ^ t / y = 2 * (x / 2 ^ (t + 1) / y) + 1 := by
  have hs := half_step x t
  have hb : x / 2 ^ t % 2 < 2 := Nat.mod_lt _ (by omega)
  generalize x / 2 ^ t % 2 = b at *
  generalize x / 2 ^ (t + 1) = u at *
  have hd := Nat.div_add_mod u y
  have hm := Nat.mod_lt u hy
  have hr : 2 * (u % y) + b - y < y := by omega
  have e : x / 2 ^ t = y * (2 * (u / y) + 1) + (2 * (u % y) + b - y) := by
    rw [hs, Nat.mul_add, Nat.mul_left_comm, Nat.mul_one]
    omega
  rw [e, Nat.mul_add_mod, Nat.mod_eq_of_lt hr, Nat.mul_add_div hy, Nat.div_eq_of_lt hr]
  exact ⟨rfl, rfl⟩
/-- What is left at once is less than b. -/
theorem div_start {x y S : Nat} (hy : 0 < y) (hS : bl x + 1 ≤ S + bl y) : x / 2 ^ S < y := by
  have hl := bl_low hy
  have hp := bl_pos hy
  rw [Nat.div_lt_iff_lt_mul (Nat.two_pow_pos _)]
  refine Nat.lt_of_lt_of_le (bl_fits x) ?_
  refine Nat.le_trans ?_ (Nat.mul_le_mul_right _ hl)
  rw [← Nat.pow_add]
  exact Nat.pow_le_pow_right (by omega) (by omega)
theorem div_fits {x y S : Nat} (hy : 0 < y) (h : x / 2 ^ S < y) : x / y < 2 ^ (64 * (S / 64 + 1)) := by
  rw [Nat.div_lt_iff_lt_mul (Nat.two_pow_pos _)] at h
  rw [Nat.div_lt_iff_lt_mul hy]
  refine Nat.lt_of_lt_of_le h ?_
  rw [Nat.mul_comm]
  exact Nat.mul_le_mul_right _ (Nat.pow_le_pow_right (by omega) (by omega))
section
variable {ops : Array Oper} {rest : List Oper} {o : Oper} {a : Act} {w : World} {Q : Exit → Act → World → Prop}



end
end Go.Proofs.YtanfobboeehiaaaDoor
