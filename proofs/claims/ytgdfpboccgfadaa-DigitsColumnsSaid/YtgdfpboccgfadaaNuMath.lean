/-
  Numbers as digits of 64 and of 8 bits: plain mathematics, no program. No statement is proved here: lemmas for the walks.
-/
import Derived.Test.YtgdfpboccgfadaaKecBits
namespace Go.Proofs.Ytgdfpboccgfadaa

/-- The i-th word, and the i-th byte, of a number. -/
def wd (x i : Nat) : BitVec 64 := BitVec.ofNat 64 (x / 2 ^ (64 * i))
def bt (x i : Nat) : BitVec 8 := BitVec.ofNat 8 (x / 2 ^ (8 * i))
/-- How many bits a number has; how many digits of b bits. -/
def bl (x : Nat) : Nat := if x = 0 then 0 else x.log2 + 1
def dl (b x : Nat) : Nat := (bl x + (b - 1)) / b
theorem bl_le (x k : Nat) : bl x ≤ k ↔ x < 2 ^ k := by
  unfold bl
  by_cases h : x = 0
  · subst h; simp [Nat.two_pow_pos]
  · rw [if_neg h]
    exact Nat.log2_lt h
theorem dl_le (b x k : Nat) (hb : 0 < b) : dl b x ≤ k ↔ x < 2 ^ (b * k) := by
  rw [← bl_le]
  unfold dl
  rw [← Nat.lt_succ_iff, Nat.div_lt_iff_lt_mul hb, Nat.succ_mul, Nat.mul_comm k b]
  omega
theorem dl_zero (b : Nat) (hb : 0 < b) : dl b 0 = 0 := Nat.le_zero.1 ((dl_le b 0 0 hb).2 (by simp))
theorem fits_dl (b x : Nat) (hb : 0 < b) : x < 2 ^ (b * dl b x) := (dl_le b x _ hb).1 (Nat.le_refl _)
theorem bl_zero : bl 0 = 0 := rfl
theorem bl_fits (x : Nat) : x < 2 ^ bl x := (bl_le x _).1 (Nat.le_refl _)
theorem bl_pos {x : Nat} (h : 0 < x) : 0 < bl x := by
  unfold bl
  rw [if_neg (by omega)]
  omega
theorem bl_low {x : Nat} (h : 0 < x) : 2 ^ (bl x - 1) ≤ x := by
  unfold bl
  rw [if_neg (by omega), Nat.add_sub_cancel]
  exact Nat.log2_self_le (by omega)
theorem bl_eq {x k : Nat} (h1 : x < 2 ^ k) (h2 : k = 0 ∨ 2 ^ (k - 1) ≤ x) : bl x = k := by
  have h3 := (bl_le x k).2 h1
  rcases h2 with rfl | h2
  · omega
  · by_cases h : bl x ≤ k - 1
    · have := (bl_le x _).1 h; omega
    · omega
theorem dl_eq {b x k : Nat} (hb : 0 < b) (h1 : x < 2 ^ (b * k)) (h2 : k = 0 ∨ 2 ^ (b * (k - 1)) ≤ x) : dl b x = k := by
  have h3 := (dl_le b x k hb).2 h1
  rcases h2 with rfl | h2
  · omega
  · by_cases h : dl b x ≤ k - 1
    · have := (dl_le b x _ hb).1 h; omega
    · omega
theorem dl_low {b x : Nat} (hb : 0 < b) (h : 0 < dl b x) : 2 ^ (b * (dl b x - 1)) ≤ x := by
  by_cases h1 : x < 2 ^ (b * (dl b x - 1))
  · have := (dl_le b x _ hb).2 h1; omega
  · omega
theorem dl_pos {b x : Nat} (hb : 0 < b) : 0 < dl b x ↔ 0 < x := by
  constructor
  · intro h
    have := dl_low hb h
    have := Nat.two_pow_pos (b * (dl b x - 1))
    omega
  · intro h
    by_cases h1 : dl b x ≤ 0
    · have := (dl_le b x 0 hb).1 h1; simp at this; omega
    · omega

theorem wd_nat (x i : Nat) : (wd x i).toNat = x / 2 ^ (64 * i) % 18446744073709551616 := by
  unfold wd; rw [BitVec.toNat_ofNat]
theorem bt_nat (x i : Nat) : (bt x i).toNat = x / 2 ^ (8 * i) % 256 := by
  unfold bt; rw [BitVec.toNat_ofNat]
theorem wd_bit (x i j : Nat) : (wd x i).getLsbD j = (decide (j < 64) && x.testBit (64 * i + j)) := by
  unfold wd; rw [BitVec.getLsbD_ofNat, Nat.testBit_div_two_pow, Nat.add_comm]
theorem bt_bit (x i j : Nat) : (bt x i).getLsbD j = (decide (j < 8) && x.testBit (8 * i + j)) := by
  unfold bt; rw [BitVec.getLsbD_ofNat, Nat.testBit_div_two_pow, Nat.add_comm]
theorem wd_over {x n i : Nat} (h : x < 2 ^ (64 * n)) (hi : n ≤ i) : wd x i = 0 := by
  unfold wd
  rw [Nat.div_eq_of_lt (Nat.lt_of_lt_of_le h (Nat.pow_le_pow_right (by omega) (by omega)))]
  rfl
theorem bt_over {x n i : Nat} (h : x < 2 ^ (8 * n)) (hi : n ≤ i) : bt x i = 0 := by
  unfold bt
  rw [Nat.div_eq_of_lt (Nat.lt_of_lt_of_le h (Nat.pow_le_pow_right (by omega) (by omega)))]
  rfl
theorem wd_zero (i : Nat) : wd 0 i = 0 := wd_over (n := 0) (by simp) (Nat.zero_le _)
theorem bt_zero (i : Nat) : bt 0 i = 0 := bt_over (n := 0) (by simp) (Nat.zero_le _)
theorem pow_split (b i : Nat) : 2 ^ (b * (i + 1)) = 2 ^ (b * i) * 2 ^ b := by rw [Nat.mul_succ, Nat.pow_add]
theorem pow64 (i : Nat) : 2 ^ (64 * (i + 1)) = 2 ^ (64 * i) * 18446744073709551616 := pow_split 64 i
theorem pow8 (i : Nat) : 2 ^ (8 * (i + 1)) = 2 ^ (8 * i) * 256 := pow_split 8 i
/-- The highest digit is 0 just if one digit less is enough. -/
theorem wd_top {x n : Nat} (h : x < 2 ^ (64 * (n + 1))) : wd x n = 0 ↔ x < 2 ^ (64 * n) := by
  have e : (wd x n).toNat = x / 2 ^ (64 * n) := by
    rw [wd_nat, Nat.mod_eq_of_lt]
    rw [Nat.div_lt_iff_lt_mul (Nat.two_pow_pos _), Nat.mul_comm, ← pow64]; exact h
  constructor
  · intro h0
    rw [h0] at e
    have e' : 0 = x / 2 ^ (64 * n) := e
    exact Nat.lt_of_div_eq_zero (Nat.two_pow_pos _) e'.symm
  · intro h0
    exact wd_over h0 (Nat.le_refl _)
theorem bt_top {x n : Nat} (h : x < 2 ^ (8 * (n + 1))) : bt x n = 0 ↔ x < 2 ^ (8 * n) := by
  have e : (bt x n).toNat = x / 2 ^ (8 * n) := by
    rw [bt_nat, Nat.mod_eq_of_lt]
    rw [Nat.div_lt_iff_lt_mul (Nat.two_pow_pos _), Nat.mul_comm, ← pow8]; exact h
  constructor
  · intro h0
    rw [h0] at e
    have e' : 0 = x / 2 ^ (8 * n) := e
    exact Nat.lt_of_div_eq_zero (Nat.two_pow_pos _) e'.symm
  · intro h0
    exact bt_over h0 (Nat.le_refl _)
/-- A number is told by its digits. -/
theorem eq_of_bits {x y n : Nat} (hx : x < 2 ^ n) (hy : y < 2 ^ n) (h : ∀ i, i < n → x.testBit i = y.testBit i) : x = y := by
  apply Nat.eq_of_testBit_eq
  intro i
  by_cases hi : i < n
  · exact h i hi
  · rw [Nat.testBit_lt_two_pow (Nat.lt_of_lt_of_le hx (Nat.pow_le_pow_right (by omega) (by omega))), Nat.testBit_lt_two_pow (Nat.lt_of_lt_of_le hy (Nat.pow_le_pow_right (by omega) (by omega)))]
theorem eq_of_words {x y n : Nat} (hx : x < 2 ^ (64 * n)) (hy : y < 2 ^ (64 * n)) (h : ∀ i, i < n → wd x i = wd y i) : x = y := by
  refine eq_of_bits hx hy fun i hi => ?_
  have h1 := congrArg (fun b => b.getLsbD (i % 64)) (h (i / 64) (by omega))
  simp only [wd_bit] at h1
  rw [show 64 * (i / 64) + i % 64 = i by omega] at h1
  simpa [Nat.mod_lt] using h1
/-- Any words, and any bytes, are a number's. -/
theorem words_of (f : Nat → BitVec 64) : ∀ n, ∃ x, x < 2 ^ (64 * n) ∧ ∀ i, i < n → wd x i = f i
  | 0 => ⟨0, by simp, fun i h => by omega⟩
  | n + 1 => by
    obtain ⟨x, hx, h⟩ := words_of f n
    refine ⟨2 ^ (64 * n) * (f n).toNat + x, ?_, fun i hi => ?_⟩
    · rw [pow64]
      have h1 : (f n).toNat + 1 ≤ 18446744073709551616 := (f n).isLt
      have := Nat.mul_le_mul_left (2 ^ (64 * n)) h1
      rw [Nat.mul_add] at this
      omega
    · apply BitVec.eq_of_getLsbD_eq
      intro j hj
      rw [wd_bit, Nat.two_pow_add_eq_or_of_lt hx, Nat.testBit_or, Nat.testBit_two_pow_mul]
      by_cases e : i = n
      · subst e
        rw [Nat.testBit_lt_two_pow (Nat.lt_of_lt_of_le hx (Nat.pow_le_pow_right (by omega) (by omega : 64 * i ≤ 64 * i + j)))]
        simp [hj, BitVec.testBit_toNat]
      · have h2 := congrArg (fun b => b.getLsbD j) (h i (by omega))
        simp only [wd_bit] at h2
        have : ¬ 64 * i + j ≥ 64 * n := by omega
        simp [hj, this] at h2 ⊢
        exact h2
theorem bytes_of (f : Nat → BitVec 8) : ∀ n, ∃ x, x < 2 ^ (8 * n) ∧ ∀ i, i < n → bt x i = f i
  | 0 => ⟨0, by simp, fun i h => by omega⟩
  | n + 1 => by
    obtain ⟨x, hx, h⟩ := bytes_of f n
    refine ⟨2 ^ (8 * n) * (f n).toNat + x, ?_, fun i hi => ?_⟩
    · rw [pow8]
      have h1 : (f n).toNat + 1 ≤ 256 := (f n).isLt
      have := Nat.mul_le_mul_left (2 ^ (8 * n)) h1
      rw [Nat.mul_add] at this
      omega
    · apply BitVec.eq_of_getLsbD_eq
      intro j hj
      rw [bt_bit, Nat.two_pow_add_eq_or_of_lt hx, Nat.testBit_or, Nat.testBit_two_pow_mul]
      by_cases e : i = n
      · subst e
        rw [Nat.testBit_lt_two_pow (Nat.lt_of_lt_of_le hx (Nat.pow_le_pow_right (by omega) (by omega : 8 * i ≤ 8 * i + j)))]
        simp [hj, BitVec.testBit_toNat]
      · have h2 := congrArg (fun b => b.getLsbD j) (h i (by omega))
        simp only [bt_bit] at h2
        have : ¬ 8 * i + j ≥ 8 * n := by omega
        simp [hj, this] at h2 ⊢
        exact h2

/-- The first i of one row, the others of another one. -/
def mix {α : Type} (i : Nat) (f g : Nat → α) : Nat → α := fun k => if k < i then f k else g k
theorem mix_zero {α : Type} (f g : Nat → α) : mix 0 f g = g := by funext k; simp [mix]
theorem mix_at {α : Type} (i : Nat) (f g : Nat → α) : mix i f g i = g i := by simp [mix]
theorem mix_upd (i : Nat) (f g : Nat → BitVec 64) : upd (mix i f g) i (f i) = mix (i + 1) f g := by
  funext k
  unfold upd mix
  by_cases e : k = i
  · subst e; simp
  · by_cases h : k < i
    · rw [if_neg e, if_pos h, if_pos (by omega)]
    · rw [if_neg e, if_neg h, if_neg (by omega)]
theorem mix_all {α : Type} (n : Nat) (f g : Nat → α) (k : Nat) (h : k < n) : mix n f g k = f k := by simp [mix, h]

/-! Sums -/
/-- What goes over into word i of a sum. -/
def car (x y i : Nat) : Nat := (x % 2 ^ (64 * i) + y % 2 ^ (64 * i)) / 2 ^ (64 * i)
theorem car_zero (x y : Nat) : car x y 0 = 0 := by simp [car, Nat.mod_one]
theorem car_le (x y i : Nat) : car x y i ≤ 1 := by
  unfold car
  have h1 := Nat.mod_lt x (Nat.two_pow_pos (64 * i))
  have h2 := Nat.mod_lt y (Nat.two_pow_pos (64 * i))
  apply Nat.le_of_lt_succ
  rw [Nat.div_lt_iff_lt_mul (Nat.two_pow_pos _)]
  omega
theorem sum_parts (x y P B : Nat) (hP : 0 < P) (_hB : 0 < B) : (x + y) / P % B = (x / P % B + y / P % B + (x % P + y % P) / P) % B ∧ (x % (P * B) + y % (P * B)) / (P * B) = (x / P % B + y / P % B + (x % P + y % P) / P) / B := by
  have e1 : (x + y) / P = x / P + y / P + (x % P + y % P) / P := by
    have : x + y = P * (x / P + y / P) + (x % P + y % P) := by
      rw [Nat.mul_add]; have := Nat.div_add_mod x P; have := Nat.div_add_mod y P; omega
    rw [this, Nat.mul_add_div hP]
  constructor
  · rw [e1, Nat.add_mod, Nat.add_mod (x / P)]
    simp [Nat.add_mod]
  · rw [Nat.mod_mul, Nat.mod_mul, ← Nat.div_div_eq_div_mul]
    congr 1
    have : x % P + P * (x / P % B) + (y % P + P * (y / P % B)) = P * (x / P % B + y / P % B) + (x % P + y % P) := by rw [Nat.mul_add]; omega
    rw [this, Nat.mul_add_div hP]
theorem wd_add (x y i : Nat) : (wd (x + y) i).toNat = ((wd x i).toNat + (wd y i).toNat + car x y i) % 18446744073709551616 := by
  rw [wd_nat, wd_nat, wd_nat]
  exact (sum_parts x y _ _ (Nat.two_pow_pos _) (by omega)).1
theorem car_succ (x y i : Nat) : car x y (i + 1) = ((wd x i).toNat + (wd y i).toNat + car x y i) / 18446744073709551616 := by
  rw [wd_nat, wd_nat]
  show (_ % 2 ^ (64 * (i + 1)) + _ % 2 ^ (64 * (i + 1))) / 2 ^ (64 * (i + 1)) = _
  rw [pow64]
  exact (sum_parts x y _ _ (Nat.two_pow_pos _) (by omega)).2
/-- The last word of a sum. -/
theorem wd_last {x y n : Nat} (hx : x < 2 ^ (64 * n)) (hy : y < 2 ^ (64 * n)) : (wd (x + y) n).toNat = car x y n := by
  rw [wd_add, wd_over hx (Nat.le_refl _), wd_over hy (Nat.le_refl _)]
  have := car_le x y n
  simp
  omega
theorem add_fits {x y n : Nat} (hx : x < 2 ^ (64 * n)) (hy : y < 2 ^ (64 * n)) : x + y < 2 ^ (64 * (n + 1)) := by
  rw [pow64]; omega

/-! Differences -/
def bor (x y i : Nat) : Nat := if x % 2 ^ (64 * i) < y % 2 ^ (64 * i) then 1 else 0
theorem bor_zero (x y : Nat) : bor x y 0 = 0 := by simp [bor, Nat.mod_one]
theorem bor_le (x y i : Nat) : bor x y i ≤ 1 := by unfold bor; split <;> omega
theorem dif_parts (x y P B : Nat) (hP : 0 < P) (hB : 0 < B) (h : y ≤ x) (hc : B = 18446744073709551616) : (x - y) / P % B = (x / P % B + B - y / P % B - (if x % P < y % P then 1 else 0)) % B ∧ ((x % (P * B) < y % (P * B)) ↔ x / P % B < y / P % B + (if x % P < y % P then 1 else 0)) := by
  have hxm := Nat.mod_lt x hP
  have hym := Nat.mod_lt y hP
  have ex := Nat.div_add_mod x P
  have ey := Nat.div_add_mod y P
  have e1 : (x - y) / P = x / P - y / P - (if x % P < y % P then 1 else 0) := by
    have hq : y / P ≤ x / P := Nat.div_le_div_right h
    by_cases hlt : x % P < y % P
    · rw [if_pos hlt]
      have hq' : y / P + 1 ≤ x / P := by
        rcases Nat.lt_or_ge (y / P) (x / P) with h1 | h1
        · exact h1
        · have : y / P = x / P := by omega
          rw [this] at ey; omega
      have e : x - y = P * (x / P - y / P - 1) + (P + x % P - y % P) := by
        rw [Nat.mul_sub, Nat.mul_sub, Nat.mul_one]
        have := Nat.mul_le_mul_left P hq'
        rw [Nat.mul_add, Nat.mul_one] at this
        omega
      rw [e, Nat.mul_add_div hP, Nat.div_eq_of_lt (by omega : P + x % P - y % P < P)]
      omega
    · rw [if_neg hlt]
      have e : x - y = P * (x / P - y / P) + (x % P - y % P) := by
        rw [Nat.mul_sub]
        have := Nat.mul_le_mul_left P hq
        omega
      rw [e, Nat.mul_add_div hP, Nat.div_eq_of_lt (by omega : x % P - y % P < P)]
      omega
  have hq : y / P + (if x % P < y % P then 1 else 0) ≤ x / P := by
    have hq : y / P ≤ x / P := Nat.div_le_div_right h
    split
    · rename_i hlt
      rcases Nat.lt_or_ge (y / P) (x / P) with h1 | h1
      · omega
      · have : y / P = x / P := by omega
        rw [this] at ey; omega
    · omega
  generalize hb : (if x % P < y % P then 1 else 0) = b at *
  have hb1 : b ≤ 1 := by rw [← hb]; split <;> omega
  constructor
  · rw [e1, hc]
    omega
  · rw [Nat.mod_mul, Nat.mod_mul]
    have hsx := Nat.mod_lt (x / P) hB
    generalize x / P % B = u at *
    generalize y / P % B = v at *
    generalize x % P = r at *
    generalize y % P = s at *
    constructor
    · intro h1
      rcases Nat.lt_trichotomy u v with h2 | h2 | h2
      · omega
      · subst h2
        rw [if_pos (by omega)] at hb
        omega
      · have := Nat.mul_le_mul_left P h2
        rw [Nat.mul_succ] at this
        omega
    · intro h1
      by_cases h2 : u < v
      · have := Nat.mul_le_mul_left P h2
        rw [Nat.mul_succ] at this
        omega
      · have : u = v := by omega
        subst this
        split at hb
        · omega
        · omega
theorem wd_sub {x y : Nat} (h : y ≤ x) (i : Nat) : (wd (x - y) i).toNat = ((wd x i).toNat + 18446744073709551616 - (wd y i).toNat - bor x y i) % 18446744073709551616 := by
  rw [wd_nat, wd_nat, wd_nat]
  exact (dif_parts x y _ _ (Nat.two_pow_pos _) (by omega) h rfl).1
theorem bor_succ {x y : Nat} (h : y ≤ x) (i : Nat) : bor x y (i + 1) = if (wd x i).toNat < (wd y i).toNat + bor x y i then 1 else 0 := by
  have := (dif_parts x y _ _ (Nat.two_pow_pos (64 * i)) (by omega) h rfl).2
  rw [wd_nat, wd_nat]
  unfold bor
  rw [pow64]
  by_cases h1 : x % (2 ^ (64 * i) * 18446744073709551616) < y % (2 ^ (64 * i) * 18446744073709551616)
  · rw [if_pos h1, if_pos (this.1 h1)]
  · rw [if_neg h1, if_neg (fun h2 => h1 (this.2 h2))]

/-! Products: what x times b, onto z, has gone over -/
def ovr (z y x i : Nat) : Nat := (z % 2 ^ (64 * i) + y % 2 ^ (64 * i) * x) / 2 ^ (64 * i)
theorem ovr_zero (z y x : Nat) : ovr z y x 0 = 0 := by simp [ovr, Nat.mod_one]
theorem ovr_lt (z y x i : Nat) (hx : x < 18446744073709551616) : ovr z y x i < 18446744073709551616 := by
  unfold ovr
  have hP := Nat.two_pow_pos (64 * i)
  have h1 := Nat.mod_lt z hP
  have h2 := Nat.mod_lt y hP
  rw [Nat.div_lt_iff_lt_mul hP]
  generalize 2 ^ (64 * i) = P at *
  generalize y % P = r at *
  have : r * x ≤ (P - 1) * 18446744073709551615 := Nat.mul_le_mul (by omega) (by omega)
  rw [Nat.sub_mul] at this
  have h3 : 1 * 18446744073709551615 ≤ P * 18446744073709551615 := Nat.mul_le_mul_right _ (by omega)
  omega
theorem ovr_step (z y x i : Nat) : (wd z i).toNat + (wd y i).toNat * x + ovr z y x i = (wd (z + y * x) i).toNat + 18446744073709551616 * ovr z y x (i + 1) := by
  rw [wd_nat, wd_nat, wd_nat]
  unfold ovr
  rw [pow64]
  have hP := Nat.two_pow_pos (64 * i)
  generalize 2 ^ (64 * i) = P at *
  have hB : 0 < 18446744073709551616 := by omega
  generalize 18446744073709551616 = B at *
  have e1 : (z + y * x) / P = z / P + y / P * x + (z % P + y % P * x) / P := by
    have h1 : z + y * x = P * (z / P + y / P * x) + (z % P + y % P * x) := by
      have hz := Nat.div_add_mod z P
      have hy : (P * (y / P) + y % P) * x = y * x := by rw [Nat.div_add_mod]
      rw [Nat.add_mul] at hy
      rw [Nat.mul_add, ← Nat.mul_assoc]
      omega
    rw [h1, Nat.mul_add_div hP]
  have e2 : (z % (P * B) + y % (P * B) * x) / (P * B) = (z / P % B + y / P % B * x + (z % P + y % P * x) / P) / B := by
    rw [Nat.mod_mul, Nat.mod_mul, ← Nat.div_div_eq_div_mul]
    congr 1
    have : z % P + P * (z / P % B) + (y % P + P * (y / P % B)) * x = P * (z / P % B + y / P % B * x) + (z % P + y % P * x) := by
      rw [Nat.add_mul, Nat.mul_add, ← Nat.mul_assoc]; omega
    rw [this, Nat.mul_add_div hP]
  rw [e1, e2]
  generalize (z % P + y % P * x) / P = o at *
  generalize z / P = u at *
  generalize y / P = v at *
  have : (u + v * x + o) % B = (u % B + v % B * x + o) % B := by
    simp [Nat.add_mod, Nat.mul_mod]
  rw [this]
  have := Nat.div_add_mod (u % B + v % B * x + o) B
  omega
/-- Behind the last word of b. -/
theorem ovr_last {z y x m : Nat} (hz : z < 2 ^ (64 * m)) (hy : y < 2 ^ (64 * m)) (hx : x < 18446744073709551616) : (wd (z + y * x) m).toNat = ovr z y x m ∧ z + y * x < 2 ^ (64 * (m + 1)) := by
  have h := ovr_lt z y x m hx
  unfold ovr at h ⊢
  rw [Nat.mod_eq_of_lt hz, Nat.mod_eq_of_lt hy] at h ⊢
  rw [wd_nat, Nat.mod_eq_of_lt h]
  refine ⟨rfl, ?_⟩
  rw [pow64, Nat.mul_comm (2 ^ _)]
  exact (Nat.div_lt_iff_lt_mul (Nat.two_pow_pos _)).1 h
/-- Words from i on are those of what is there. -/
theorem wd_shift (z t i k : Nat) (hz : z < 2 ^ (64 * i)) : wd (2 ^ (64 * i) * t + z) (i + k) = wd t k := by
  unfold wd
  rw [show 64 * (i + k) = 64 * i + 64 * k by omega, Nat.pow_add, ← Nat.div_div_eq_div_mul, Nat.mul_add_div (Nat.two_pow_pos _), Nat.div_eq_of_lt hz, Nat.add_zero]
theorem wd_low (z t i k : Nat) (hk : k < i) : wd (2 ^ (64 * i) * t + z) k = wd z k := by
  obtain ⟨d, rfl⟩ : ∃ d, i = k + (d + 1) := ⟨i - k - 1, by omega⟩
  unfold wd
  rw [show 64 * (k + (d + 1)) = 64 * k + 64 * (d + 1) by omega, Nat.pow_add, Nat.mul_assoc, Nat.mul_add_div (Nat.two_pow_pos _), show 64 * (d + 1) = 64 + 64 * d by omega, Nat.pow_add, Nat.mul_assoc]
  apply BitVec.eq_of_toNat_eq
  rw [BitVec.toNat_ofNat, BitVec.toNat_ofNat, Nat.mul_add_mod]

/-! Order -/
def cmp (x y : Nat) : Int := if x < y then -1 else if y < x then 1 else 0
theorem cmp_lt {x y : Nat} (h : x < y) : cmp x y = -1 := by simp [cmp, h]
theorem cmp_gt {x y : Nat} (h : y < x) : cmp x y = 1 := by
  have : ¬ x < y := by omega
  simp [cmp, h, this]
theorem cmp_eq (x : Nat) : cmp x x = 0 := by simp [cmp]
theorem div_step (x P B : Nat) : x / P = B * (x / (P * B)) + x / P % B := by
  rw [← Nat.div_div_eq_div_mul]
  exact (Nat.div_add_mod _ _).symm
theorem cmp_step_lt {x y i : Nat} (h : x / 2 ^ (64 * (i + 1)) = y / 2 ^ (64 * (i + 1))) (hd : (wd x i).toNat < (wd y i).toNat) : x < y := by
  rw [wd_nat, wd_nat] at hd
  rw [pow64] at h
  have h1 := div_step x (2 ^ (64 * i)) 18446744073709551616
  have h2 := div_step y (2 ^ (64 * i)) 18446744073709551616
  rw [h] at h1
  rcases Nat.lt_or_ge x y with h3 | h3
  · exact h3
  · have := Nat.div_le_div_right (c := 2 ^ (64 * i)) h3
    omega
theorem cmp_step_eq {x y i : Nat} (h : x / 2 ^ (64 * (i + 1)) = y / 2 ^ (64 * (i + 1))) (hd : (wd x i).toNat = (wd y i).toNat) : x / 2 ^ (64 * i) = y / 2 ^ (64 * i) := by
  rw [wd_nat, wd_nat] at hd
  rw [pow64] at h
  have h1 := div_step x (2 ^ (64 * i)) 18446744073709551616
  have h2 := div_step y (2 ^ (64 * i)) 18446744073709551616
  rw [h] at h1
  omega
theorem cmp8_step_lt {x y i : Nat} (h : x / 2 ^ (8 * (i + 1)) = y / 2 ^ (8 * (i + 1))) (hd : (bt x i).toNat < (bt y i).toNat) : x < y := by
  rw [bt_nat, bt_nat] at hd
  rw [pow8] at h
  have h1 := div_step x (2 ^ (8 * i)) 256
  have h2 := div_step y (2 ^ (8 * i)) 256
  rw [h] at h1
  rcases Nat.lt_or_ge x y with h3 | h3
  · exact h3
  · have := Nat.div_le_div_right (c := 2 ^ (8 * i)) h3
    omega
theorem cmp8_step_eq {x y i : Nat} (h : x / 2 ^ (8 * (i + 1)) = y / 2 ^ (8 * (i + 1))) (hd : (bt x i).toNat = (bt y i).toNat) : x / 2 ^ (8 * i) = y / 2 ^ (8 * i) := by
  rw [bt_nat, bt_nat] at hd
  rw [pow8] at h
  have h1 := div_step x (2 ^ (8 * i)) 256
  have h2 := div_step y (2 ^ (8 * i)) 256
  rw [h] at h1
  omega
end Go.Proofs.Ytgdfpboccgfadaa
