/-
  Numbers as digits: plain ones, those that may be below 0, those most of which are 0, and columns. No statement is proved here: numbers alone.
-/
import Derived.Test.YtgdfpboccgfadaaBuN
namespace Go.Proofs.Ytgdfpboccgfadaa

/-- The i-th bit. -/
def tb (x i : Nat) : Nat := x / 2 ^ i % 2
theorem tb_lt (x i : Nat) : tb x i < 2 := Nat.mod_lt _ (by omega)
theorem tb_over {x n i : Nat} (h : x < 2 ^ n) (hi : n ≤ i) : tb x i = 0 := by
  unfold tb
  rw [Nat.div_eq_of_lt (Nat.lt_of_lt_of_le h (Nat.pow_le_pow_right (by omega) hi))]
/-- So many bits, each so far behind the one ahead, the first one times 1. -/
def tog (x f a : Nat) : Nat → Nat
  | 0 => 0
  | k + 1 => tog x f a k + tb x (f + k * a) * 2 ^ k
theorem tog_lt (x f a : Nat) : ∀ k, tog x f a k < 2 ^ k
  | 0 => by simp [tog]
  | k + 1 => by
    have h1 := tog_lt x f a k
    have h2 := tb_lt x (f + k * a)
    unfold tog
    rw [Nat.pow_succ]
    rcases (by omega : tb x (f + k * a) = 0 ∨ tb x (f + k * a) = 1) with e | e <;> rw [e] <;> omega
theorem tog_one (x f : Nat) : ∀ k, tog x f 1 k = x / 2 ^ f % 2 ^ k
  | 0 => by simp [tog, Nat.mod_one]
  | k + 1 => by
    unfold tog
    rw [tog_one x f k, Nat.mod_pow_succ, Nat.mul_comm (2 ^ k)]
    congr 2
    unfold tb
    rw [Nat.mul_one, Nat.pow_add, Nat.div_div_eq_div_mul]
/-- The same, from the last bit on, behind t steps. -/
def togD (x f a n : Nat) : Nat → Nat
  | 0 => 0
  | t + 1 => 2 * togD x f a n t + tb x (f + (n - 1 - t) * a)
theorem togD_step (x f a n : Nat) : ∀ t, t ≤ n → tog x f a n = tog x f a (n - t) + 2 ^ (n - t) * togD x f a n t
  | 0, _ => by simp [togD]
  | t + 1, h => by
    rw [togD_step x f a n t (by omega)]
    obtain ⟨m, hm⟩ : ∃ m, n - t = m + 1 := ⟨n - t - 1, by omega⟩
    have e1 : n - (t + 1) = m := by omega
    have e2 : n - 1 - t = m := by omega
    rw [hm, e1, togD, e2, tog, Nat.pow_succ]
    generalize 2 ^ m = P
    generalize tb x (f + m * a) = u
    generalize togD x f a n t = d
    rw [Nat.mul_add, Nat.mul_comm u P, ← Nat.mul_assoc]
    omega
theorem togD_all (x f a n : Nat) : togD x f a n n = tog x f a n := by
  rw [togD_step x f a n n (Nat.le_refl _), Nat.sub_self]
  simp [tog]
theorem togD_lt (x f a n : Nat) : ∀ t, togD x f a n t < 2 ^ t
  | 0 => by simp [togD]
  | t + 1 => by
    have h1 := togD_lt x f a n t
    have h2 := tb_lt x (f + (n - 1 - t) * a)
    unfold togD
    rw [Nat.pow_succ]
    omega
/-- What digits, each of b bits, are together. -/
def vl (f : Nat → Int) (b : Nat) : Nat → Int
  | 0 => 0
  | m + 1 => vl f b m + f m * 2 ^ (b * m)
theorem vl_congr {f g : Nat → Int} (b : Nat) : ∀ m, (∀ i, i < m → f i = g i) → vl f b m = vl g b m
  | 0, _ => rfl
  | m + 1, h => by
    unfold vl
    rw [vl_congr b m fun i hi => h i (by omega), h m (by omega)]
theorem ipow_add (a b : Nat) : (2 : Int) ^ (a + b) = 2 ^ a * 2 ^ b := Int.pow_add 2 a b
theorem nat_pow (n : Nat) : ((2 ^ n : Nat) : Int) = 2 ^ n := by simp
/-- Plain digits. -/
def pl (x k i : Nat) : Nat := x / 2 ^ (i * k) % 2 ^ k
theorem pl_tog (x k i : Nat) : tog x (i * k) 1 k = pl x k i := tog_one x (i * k) k
theorem pl_lt (x k i : Nat) : pl x k i < 2 ^ k := Nat.mod_lt _ (Nat.two_pow_pos _)
theorem pl_over {x n k i : Nat} (h : x < 2 ^ n) (hi : n ≤ i * k) : pl x k i = 0 := by
  unfold pl
  rw [Nat.div_eq_of_lt (Nat.lt_of_lt_of_le h (Nat.pow_le_pow_right (by omega) hi)), Nat.zero_mod]
theorem pl_step (x k i : Nat) : x % 2 ^ (k * (i + 1)) = x % 2 ^ (k * i) + pl x k i * 2 ^ (k * i) := by
  unfold pl
  rw [Nat.mul_succ, Nat.pow_add, Nat.mod_mul, Nat.mul_comm i k, Nat.mul_comm (2 ^ (k * i))]
theorem pl_vl (x k : Nat) : ∀ m, vl (fun i => ((pl x k i : Nat) : Int)) k m = ((x % 2 ^ (k * m) : Nat) : Int)
  | 0 => by simp [vl, Nat.mod_one]
  | m + 1 => by
    unfold vl
    rw [pl_vl x k m, pl_step]
    push_cast
    rfl
theorem pl_all {x n k m : Nat} (h : x < 2 ^ n) (hm : n ≤ k * m) : vl (fun i => ((pl x k i : Nat) : Int)) k m = (x : Int) := by
  rw [pl_vl, Nat.mod_eq_of_lt (Nat.lt_of_lt_of_le h (Nat.pow_le_pow_right (by omega) hm))]
/-- What goes over to the i-th of the digits that may be below 0. -/
def sov (x k : Nat) : Nat → Nat
  | 0 => 0
  | i + 1 => (pl x k i + sov x k i + 2 ^ (k - 1)) / 2 ^ k
theorem half_pow {k : Nat} (hk : 1 ≤ k) : 2 ^ k = 2 * 2 ^ (k - 1) := by
  obtain ⟨j, rfl⟩ : ∃ j, k = j + 1 := ⟨k - 1, by omega⟩
  rw [Nat.pow_succ, Nat.add_sub_cancel]
  omega
/-- What goes over: 1, if half of 2^k is reached. -/
theorem over_if {k s : Nat} (hk : 1 ≤ k) (hs : s ≤ 2 ^ k) : (s + 2 ^ (k - 1)) / 2 ^ k = if 2 ^ (k - 1) ≤ s then 1 else 0 := by
  have h0 := Nat.two_pow_pos (k - 1)
  rw [half_pow hk] at hs ⊢
  generalize 2 ^ (k - 1) = h at *
  split
  · rw [Nat.div_eq_iff (by omega)]
    omega
  · rw [Nat.div_eq_of_lt (by omega)]
theorem sov_le (x : Nat) {k : Nat} (hk : 1 ≤ k) : ∀ i, sov x k i ≤ 1
  | 0 => by simp [sov]
  | i + 1 => by
    have h1 := sov_le x hk i
    have h2 := pl_lt x k i
    unfold sov
    rw [over_if hk (by omega)]
    split <;> omega
/-- Digits that may be below 0. -/
def sdg (x k i : Nat) : Int := ((pl x k i + sov x k i : Nat) : Int) - ((sov x k (i + 1) : Nat) : Int) * 2 ^ k
theorem sdg_bd (x : Nat) {k : Nat} (hk : 1 ≤ k) (i : Nat) : -2 ^ (k - 1) ≤ sdg x k i ∧ sdg x k i < 2 ^ (k - 1) := by
  have h1 := sov_le x hk i
  have h2 := pl_lt x k i
  obtain ⟨s, es⟩ : ∃ s, pl x k i + sov x k i = s := ⟨_, rfl⟩
  have hs : s ≤ 2 ^ k := by omega
  unfold sdg
  rw [sov, es, over_if hk hs, ← nat_pow, ← nat_pow]
  rw [half_pow hk] at hs ⊢
  have h0 := Nat.two_pow_pos (k - 1)
  clear h1 h2 es
  generalize 2 ^ (k - 1) = h at *
  by_cases hc : h ≤ s
  · rw [if_pos hc]
    omega
  · rw [if_neg hc]
    omega
theorem sdg_vl (x : Nat) {k : Nat} : ∀ m, vl (sdg x k) k m = ((x % 2 ^ (k * m) : Nat) : Int) - ((sov x k m : Nat) : Int) * 2 ^ (k * m)
  | 0 => by simp [vl, sov, Nat.mod_one]
  | m + 1 => by
    unfold vl
    rw [sdg_vl x m, pl_step]
    unfold sdg
    rw [Nat.mul_succ, ipow_add]
    push_cast
    generalize (2 : Int) ^ (k * m) = P
    generalize (2 : Int) ^ k = B
    generalize ((sov x k m : Nat) : Int) = a
    generalize ((sov x k (m + 1) : Nat) : Int) = b
    generalize ((pl x k m : Nat) : Int) = c
    generalize (x : Int) % P = d
    grind
theorem sov_last {x n k m : Nat} (h : x < 2 ^ n) (hm : n ≤ m * k) (hk : 2 ≤ k) : sov x k (m + 1) = 0 := by
  have h1 := sov_le x (k := k) (by omega) m
  unfold sov
  rw [pl_over h hm, over_if (by omega) (Nat.le_trans (by omega : 0 + sov x k m ≤ 1) (Nat.two_pow_pos k)), if_neg]
  have : 2 ^ 1 ≤ 2 ^ (k - 1) := Nat.pow_le_pow_right (by omega) (by omega)
  omega
theorem sdg_all {x n k m : Nat} (h : x < 2 ^ n) (hm : n ≤ m * k) (hk : 2 ≤ k) : vl (sdg x k) k (m + 1) = (x : Int) := by
  rw [sdg_vl, sov_last h hm hk, Nat.mod_eq_of_lt (Nat.lt_of_lt_of_le h (Nat.pow_le_pow_right (by omega) (by rw [Nat.mul_succ, Nat.mul_comm k m]; omega)))]
  simp
theorem sdg_last {x n k m : Nat} (h : x < 2 ^ n) (hm : n ≤ m * k) (hk : 2 ≤ k) : sdg x k m = ((sov x k m : Nat) : Int) := by
  unfold sdg
  rw [sov_last h hm hk, pl_over h hm]
  simp
/-- The first place behind the bits that the last odd digit stands for, and what goes over. -/
def nst (x k : Nat) : Nat → Nat × Nat
  | 0 => (0, 0)
  | i + 1 => if i < (nst x k i).1 ∨ tb x i = (nst x k i).2 then nst x k i else (i + k, (x / 2 ^ i % 2 ^ k + (nst x k i).2 + 2 ^ (k - 1)) / 2 ^ k)
def nfr (x k i : Nat) : Nat := (nst x k i).1
def nov (x k i : Nat) : Nat := (nst x k i).2
/-- Its digit is 0. -/
def nz (x k i : Nat) : Prop := i < nfr x k i ∨ tb x i = nov x k i
instance (x k i : Nat) : Decidable (nz x k i) := inferInstanceAs (Decidable (_ ∨ _))
/-- Digits most of which are 0. -/
def ndg (x k i : Nat) : Int := if nz x k i then 0 else ((x / 2 ^ i % 2 ^ k + nov x k i : Nat) : Int) - ((nov x k (i + 1) : Nat) : Int) * 2 ^ k
theorem nfr_zero (x k : Nat) : nfr x k 0 = 0 := rfl
theorem nov_zero (x k : Nat) : nov x k 0 = 0 := rfl
theorem nfr_skip {x k i : Nat} (h : nz x k i) : nfr x k (i + 1) = nfr x k i ∧ nov x k (i + 1) = nov x k i := by
  have h' : i < (nst x k i).1 ∨ tb x i = (nst x k i).2 := h
  unfold nfr nov
  rw [nst, if_pos h']
  exact ⟨rfl, rfl⟩
theorem nfr_take {x k i : Nat} (h : ¬ nz x k i) : nfr x k (i + 1) = i + k ∧ nov x k (i + 1) = (x / 2 ^ i % 2 ^ k + nov x k i + 2 ^ (k - 1)) / 2 ^ k := by
  have h' : ¬ (i < (nst x k i).1 ∨ tb x i = (nst x k i).2) := h
  unfold nfr nov
  rw [nst, if_neg h']
  exact ⟨rfl, rfl⟩
/-- What is left of a number behind its lowest digit. -/
def cutN (k n : Nat) : Nat := if n % 2 = 1 then (if 2 ^ (k - 1) ≤ n % 2 ^ k then (n + (2 ^ k - n % 2 ^ k)) / 2 else (n - n % 2 ^ k) / 2) else n / 2
def left (x k : Nat) : Nat → Nat
  | 0 => x
  | i + 1 => cutN k (left x k i)
def lowD (k n : Nat) : Int := if n % 2 = 1 then (if 2 ^ (k - 1) ≤ n % 2 ^ k then ((n % 2 ^ k : Nat) : Int) - 2 ^ k else ((n % 2 ^ k : Nat) : Int)) else 0
theorem bit_split (x i : Nat) : x / 2 ^ i = 2 * (x / 2 ^ (i + 1)) + tb x i := by
  unfold tb
  rw [Nat.pow_succ, ← Nat.div_div_eq_div_mul]
  omega
theorem mod_parity (n : Nat) {k : Nat} (hk : 1 ≤ k) : n % 2 ^ k % 2 = n % 2 := by
  rw [half_pow hk]
  exact Nat.mod_mul_right_mod n 2 (2 ^ (k - 1))
theorem cutN_eq (n : Nat) {k : Nat} (hk : 1 ≤ k) : (n : Int) = lowD k n + 2 * ((cutN k n : Nat) : Int) := by
  have hm := mod_parity n hk
  have hd := Nat.mod_add_div n (2 ^ k)
  have hl := Nat.mod_lt n (Nat.two_pow_pos k)
  unfold cutN lowD
  rw [← nat_pow]
  rw [half_pow hk] at *
  generalize 2 ^ (k - 1) = h at *
  generalize n % (2 * h) = r at *
  generalize n / (2 * h) = q at *
  rw [Nat.mul_assoc] at hd
  generalize h * q = z at *
  split
  · split <;> omega
  · omega
/-- The way through the bits, and the way through what is left, are one. -/
theorem nst_left (x : Nat) {k : Nat} (hk : 2 ≤ k) : ∀ i, nov x k i ≤ 1 ∧ left x k i = (x / 2 ^ max i (nfr x k i) + nov x k i) * 2 ^ (max i (nfr x k i) - i)
  | 0 => by simp [nov_zero, nfr_zero, left]
  | i + 1 => by
    obtain ⟨h1, h2⟩ := nst_left x hk i
    have hb := bit_split x i
    have hbl := tb_lt x i
    by_cases hz : nz x k i
    · obtain ⟨e1, e2⟩ := nfr_skip hz
      rw [e1, e2]
      refine ⟨h1, ?_⟩
      by_cases hf : i < nfr x k i
      · rw [Nat.max_eq_right (by omega)] at h2 ⊢
        obtain ⟨m, hm⟩ : ∃ m, nfr x k i - i = m + 1 := ⟨nfr x k i - i - 1, by omega⟩
        have hm' : nfr x k i - (i + 1) = m := by omega
        rw [hm, Nat.pow_succ, ← Nat.mul_assoc] at h2
        rw [hm']
        unfold left
        rw [h2]
        unfold cutN
        rw [if_neg (by omega)]
        omega
      · have ht : tb x i = nov x k i := hz.resolve_left hf
        rw [Nat.max_eq_left (by omega)] at h2 ⊢
        rw [Nat.sub_self, Nat.pow_zero, Nat.mul_one] at h2 ⊢
        unfold left
        rw [h2]
        unfold cutN
        rw [if_neg (by omega)]
        omega
    · obtain ⟨e1, e2⟩ := nfr_take hz
      have hf : ¬ i < nfr x k i := fun h => hz (.inl h)
      have ht : ¬ tb x i = nov x k i := fun h => hz (.inr h)
      rw [e1, e2]
      rw [Nat.max_eq_left (by omega), Nat.sub_self, Nat.pow_zero, Nat.mul_one] at h2
      rw [Nat.max_eq_right (by omega)]
      have e3 : i + k - (i + 1) = k - 1 := by omega
      rw [e3, Nat.pow_add, ← Nat.div_div_eq_div_mul]
      unfold left
      rw [h2]
      have hp := mod_parity (x / 2 ^ i) (k := k) (by omega)
      have hd := Nat.mod_add_div (x / 2 ^ i) (2 ^ k)
      have hl := Nat.mod_lt (x / 2 ^ i) (Nat.two_pow_pos k)
      have hh := half_pow (k := k) (by omega)
      have hs : x / 2 ^ i % 2 ^ k + nov x k i < 2 ^ k := by omega
      rw [over_if (by omega) (Nat.le_of_lt hs)]
      have hmod : (x / 2 ^ i + nov x k i) % 2 ^ k = x / 2 ^ i % 2 ^ k + nov x k i := by
        rw [Nat.add_mod, Nat.mod_eq_of_lt (a := nov x k i) (by omega), Nat.mod_eq_of_lt hs]
      have hodd : (x / 2 ^ i + nov x k i) % 2 = 1 := by omega
      have hle : x / 2 ^ i % 2 ^ k ≤ x / 2 ^ i := Nat.mod_le _ _
      unfold cutN
      rw [hmod, if_pos hodd]
      clear hmod hodd hp hb hbl ht h2 e1 e2 e3
      generalize x / 2 ^ i / 2 ^ k = q at *
      generalize x / 2 ^ i % 2 ^ k = r at *
      generalize x / 2 ^ i = y at *
      generalize nov x k i = o at *
      rw [hh, Nat.mul_assoc] at hd
      rw [Nat.add_mul, hh, Nat.mul_comm q]
      by_cases hc : 2 ^ (k - 1) ≤ r + o
      · rw [if_pos hc, if_pos hc]
        generalize 2 ^ (k - 1) * q = z at *
        generalize 2 ^ (k - 1) = h at *
        omega
      · rw [if_neg hc, if_neg hc]
        generalize 2 ^ (k - 1) * q = z at *
        generalize 2 ^ (k - 1) = h at *
        omega
theorem nov_le (x : Nat) {k : Nat} (hk : 2 ≤ k) (i : Nat) : nov x k i ≤ 1 := (nst_left x hk i).1
theorem ndg_left (x : Nat) {k : Nat} (hk : 2 ≤ k) (i : Nat) : ndg x k i = lowD k (left x k i) := by
  obtain ⟨h1, h2⟩ := nst_left x hk i
  have hb := bit_split x i
  have hbl := tb_lt x i
  unfold ndg lowD
  by_cases hz : nz x k i
  · rw [if_pos hz, if_neg]
    by_cases hf : i < nfr x k i
    · rw [Nat.max_eq_right (by omega)] at h2
      obtain ⟨m, hm⟩ : ∃ m, nfr x k i - i = m + 1 := ⟨nfr x k i - i - 1, by omega⟩
      rw [hm, Nat.pow_succ, ← Nat.mul_assoc] at h2
      omega
    · have ht : tb x i = nov x k i := hz.resolve_left hf
      rw [Nat.max_eq_left (by omega), Nat.sub_self, Nat.pow_zero, Nat.mul_one] at h2
      omega
  · have hf : ¬ i < nfr x k i := fun h => hz (.inl h)
    have ht : ¬ tb x i = nov x k i := fun h => hz (.inr h)
    rw [Nat.max_eq_left (by omega), Nat.sub_self, Nat.pow_zero, Nat.mul_one] at h2
    have hp := mod_parity (x / 2 ^ i) (k := k) (by omega)
    have hl := Nat.mod_lt (x / 2 ^ i) (Nat.two_pow_pos k)
    have hh := half_pow (k := k) (by omega)
    have hs : x / 2 ^ i % 2 ^ k + nov x k i < 2 ^ k := by omega
    have hmod : (x / 2 ^ i + nov x k i) % 2 ^ k = x / 2 ^ i % 2 ^ k + nov x k i := by
      rw [Nat.add_mod, Nat.mod_eq_of_lt (a := nov x k i) (by omega), Nat.mod_eq_of_lt hs]
    have hodd : (x / 2 ^ i + nov x k i) % 2 = 1 := by omega
    rw [if_neg hz, (nfr_take hz).2, over_if (by omega) (Nat.le_of_lt hs), h2, hmod, if_pos hodd]
    split <;> simp
theorem left_vl (x : Nat) {k : Nat} (hk : 2 ≤ k) : ∀ i, vl (ndg x k) 1 i + ((left x k i : Nat) : Int) * 2 ^ i = (x : Int)
  | 0 => by simp [vl, left]
  | i + 1 => by
    have h1 := left_vl x hk i
    have h2 := cutN_eq (left x k i) (k := k) (by omega)
    unfold vl left
    rw [ndg_left x hk i, Nat.one_mul, Int.pow_succ]
    generalize (2 : Int) ^ i = P at *
    generalize vl (ndg x k) 1 i = v at *
    generalize lowD k (left x k i) = d at *
    generalize ((cutN k (left x k i) : Nat) : Int) = c at *
    rw [h2] at h1
    grind
theorem cutN_le {k n e : Nat} (hk : 2 ≤ k) (h : n ≤ 2 ^ (e + 1)) : cutN k n ≤ 2 ^ e := by
  have hm := mod_parity n (k := k) (by omega)
  have hd := Nat.mod_add_div n (2 ^ k)
  have hl := Nat.mod_lt n (Nat.two_pow_pos k)
  have hh := half_pow (k := k) (by omega)
  have hh2 := half_pow (k := k - 1) (by omega)
  rw [Nat.pow_succ] at h
  unfold cutN
  split
  · split
    · rename_i h1 h2
      rcases Nat.lt_or_ge e k with hek | hek
      · have hn : n < 2 ^ k := by
          have h3 : 2 ^ e ≤ 2 ^ (k - 1) := Nat.pow_le_pow_right (by omega) (by omega)
          omega
        rw [Nat.mod_eq_of_lt hn] at *
        rcases (by omega : e = k - 1 ∨ e + 1 ≤ k - 1) with rfl | he
        · omega
        · have h3 : 2 ^ (e + 1) ≤ 2 ^ (k - 1) := Nat.pow_le_pow_right (by omega) he
          rw [Nat.pow_succ] at h3
          omega
      · obtain ⟨f, rfl⟩ : ∃ f, e = k + f := ⟨e - k, by omega⟩
        rw [Nat.pow_add] at h ⊢
        have h4 : n / 2 ^ k < 2 * 2 ^ f := by
          rcases Nat.lt_or_ge (n / 2 ^ k) (2 * 2 ^ f) with h' | h'
          · exact h'
          · exfalso
            have h5 : 2 ^ k * (2 * 2 ^ f) ≤ 2 ^ k * (n / 2 ^ k) := Nat.mul_le_mul_left _ h'
            rw [show 2 ^ k * (2 * 2 ^ f) = 2 ^ k * 2 ^ f * 2 by rw [Nat.mul_comm 2 (2 ^ f), Nat.mul_assoc]] at h5
            omega
        have h6 : 2 ^ k * (n / 2 ^ k + 1) ≤ 2 ^ k * (2 * 2 ^ f) := Nat.mul_le_mul_left _ h4
        rw [Nat.mul_succ, show 2 ^ k * (2 * 2 ^ f) = 2 * (2 ^ k * 2 ^ f) by rw [Nat.mul_left_comm]] at h6
        generalize 2 ^ k * (n / 2 ^ k) = u at *
        generalize 2 ^ k * 2 ^ f = v at *
        omega
    · omega
  · omega
theorem left_le {x : Nat} {k n : Nat} (hk : 2 ≤ k) (hx : x < 2 ^ n) : ∀ i, i ≤ n → left x k i ≤ 2 ^ (n - i)
  | 0, _ => Nat.le_of_lt hx
  | i + 1, h => by
    have h1 := left_le hk hx i (by omega)
    obtain ⟨m, hm⟩ : ∃ m, n - i = m + 1 := ⟨n - i - 1, by omega⟩
    have hm' : n - (i + 1) = m := by omega
    rw [hm] at h1
    rw [hm']
    exact cutN_le hk h1
theorem left_end {x : Nat} {k n : Nat} (hk : 2 ≤ k) (hx : x < 2 ^ n) : left x k (n + 1) = 0 := by
  have h1 := left_le hk hx n (Nat.le_refl _)
  rw [Nat.sub_self, Nat.pow_zero] at h1
  have h2 : 2 ^ 1 ≤ 2 ^ (k - 1) := Nat.pow_le_pow_right (by omega) (by omega)
  have h3 := half_pow (k := k) (by omega)
  unfold left cutN
  rcases (by omega : left x k n = 0 ∨ left x k n = 1) with e | e
  · rw [e]
    simp
  · rw [e, Nat.mod_eq_of_lt (a := 1) (by omega), Nat.mod_eq_of_lt (a := 1) (by omega), if_pos rfl, if_neg (by omega)]
theorem ndg_all {x : Nat} {k n : Nat} (hk : 2 ≤ k) (hx : x < 2 ^ n) : vl (ndg x k) 1 (n + 1) = (x : Int) := by
  have h := left_vl x hk (n + 1)
  rw [left_end hk hx] at h
  simpa using h
/-- A digit that is not 0 is odd, within its bounds, and far enough behind the one ahead. -/
theorem ndg_odd (x : Nat) {k : Nat} (hk : 2 ≤ k) (i : Nat) : ndg x k i = 0 ∨ (ndg x k i % 2 = 1 ∧ -2 ^ (k - 1) ≤ ndg x k i ∧ ndg x k i ≤ 2 ^ (k - 1) ∧ nfr x k i ≤ i ∧ nfr x k (i + 1) = i + k) := by
  by_cases hz : nz x k i
  · exact .inl (by unfold ndg; rw [if_pos hz])
  · right
    have hf : ¬ i < nfr x k i := fun h => hz (.inl h)
    have e := ndg_left x hk i
    have hp := mod_parity (left x k i) (k := k) (by omega)
    have hl := Nat.mod_lt (left x k i) (Nat.two_pow_pos k)
    have hh := half_pow (k := k) (by omega)
    have h2 : 2 ^ 1 ≤ 2 ^ (k - 1) := Nat.pow_le_pow_right (by omega) (by omega)
    have hh2 := half_pow (k := k - 1) (by omega)
    have hne : left x k i % 2 = 1 := by
      obtain ⟨h1, h2⟩ := nst_left x hk i
      have hb := bit_split x i
      have hbl := tb_lt x i
      have ht : ¬ tb x i = nov x k i := fun h => hz (.inr h)
      rw [Nat.max_eq_left (by omega), Nat.sub_self, Nat.pow_zero, Nat.mul_one] at h2
      omega
    refine ⟨?_, ?_, ?_, by omega, (nfr_take hz).1⟩ <;> rw [e] <;> unfold lowD <;> rw [if_pos hne] <;> (try rw [← nat_pow]) <;> (try rw [← nat_pow]) <;> split <;> omega
theorem ndg_skip {x k i : Nat} (h : ndg x k i = 0) (hk : 2 ≤ k) : nfr x k (i + 1) = nfr x k i := by
  by_cases hz : nz x k i
  · exact (nfr_skip hz).1
  · exfalso
    have hf : ¬ i < nfr x k i := fun h => hz (.inl h)
    have e := ndg_left x hk i
    have hp := mod_parity (left x k i) (k := k) (by omega)
    have hl := Nat.mod_lt (left x k i) (Nat.two_pow_pos k)
    have hne : left x k i % 2 = 1 := by
      obtain ⟨h1, h2⟩ := nst_left x hk i
      have hb := bit_split x i
      have hbl := tb_lt x i
      have ht : ¬ tb x i = nov x k i := fun h => hz (.inr h)
      rw [Nat.max_eq_left (by omega), Nat.sub_self, Nat.pow_zero, Nat.mul_one] at h2
      omega
    rw [h] at e
    unfold lowD at e
    rw [if_pos hne, ← nat_pow] at e
    split at e <;> omega
/-- What is told of digits from the last one on, behind t steps. -/
def hiD (f : Nat → Int) (b m : Nat) : Nat → Nat
  | 0 => 0
  | t + 1 => hiD f b m t * 2 ^ b + (max (f (m - 1 - t)) 0).toNat
def loD (f : Nat → Int) (b m : Nat) : Nat → Nat
  | 0 => 0
  | t + 1 => loD f b m t * 2 ^ b + (max (-f (m - 1 - t)) 0).toNat
theorem hi_lo (f : Nat → Int) (b m : Nat) : ∀ t, t ≤ m → vl f b m = vl f b (m - t) + (((hiD f b m t : Nat) : Int) - ((loD f b m t : Nat) : Int)) * 2 ^ (b * (m - t))
  | 0, _ => by simp [hiD, loD]
  | t + 1, h => by
    rw [hi_lo f b m t (by omega)]
    obtain ⟨j, hj⟩ : ∃ j, m - t = j + 1 := ⟨m - t - 1, by omega⟩
    have e1 : m - (t + 1) = j := by omega
    have e2 : m - 1 - t = j := by omega
    rw [hj, e1, hiD, loD, e2, vl, Nat.mul_succ, ipow_add]
    push_cast
    have e3 : max (f j) 0 - max (-f j) 0 = f j := by omega
    have e4 : max (max (f j) 0) 0 = max (f j) 0 := by omega
    have e5 : max (max (-f j) 0) 0 = max (-f j) 0 := by omega
    try simp only [e4, e5]
    generalize (2 : Int) ^ (b * j) = P
    generalize (2 : Int) ^ b = B
    generalize max (f j) 0 = u at *
    generalize max (-f j) 0 = v at *
    generalize ((hiD f b m t : Nat) : Int) = p
    generalize ((loD f b m t : Nat) : Int) = q
    generalize vl f b j = z
    grind
theorem hi_lo_all {f : Nat → Int} {b m x : Nat} (h : vl f b m = (x : Int)) : hiD f b m m = x + loD f b m m := by
  have := hi_lo f b m m (Nat.le_refl _)
  rw [h, Nat.sub_self] at this
  simp [vl] at this
  omega
theorem hi_lt {f : Nat → Int} {b m : Nat} (hb : 1 ≤ b) (hf : ∀ i, i < m → f i ≤ 256) : ∀ t, t ≤ m → hiD f b m t + 256 ≤ 256 * 2 ^ (b * t)
  | 0, _ => by simp [hiD]
  | t + 1, h => by
    have h1 := hi_lt hb hf t (by omega)
    have h2 := hf (m - 1 - t) (by omega)
    have h3 := half_pow hb
    have h4 := Nat.two_pow_pos (b - 1)
    unfold hiD
    rw [Nat.mul_succ, Nat.pow_add, ← Nat.mul_assoc]
    have h5 := Nat.mul_le_mul_right (2 ^ b) h1
    rw [Nat.add_mul] at h5
    omega
theorem lo_lt {f : Nat → Int} {b m : Nat} (hb : 1 ≤ b) (hf : ∀ i, i < m → -256 ≤ f i) : ∀ t, t ≤ m → loD f b m t + 256 ≤ 256 * 2 ^ (b * t)
  | 0, _ => by simp [loD]
  | t + 1, h => by
    have h1 := lo_lt hb hf t (by omega)
    have h2 := hf (m - 1 - t) (by omega)
    have h3 := half_pow hb
    have h4 := Nat.two_pow_pos (b - 1)
    unfold loD
    rw [Nat.mul_succ, Nat.pow_add, ← Nat.mul_assoc]
    have h5 := Nat.mul_le_mul_right (2 ^ b) h1
    rw [Nat.add_mul] at h5
    omega
end Go.Proofs.Ytgdfpboccgfadaa
