/-
  Prime numbers: Euclid's law, and a certificate (Pocklington's). Plain mathematics, no program. No statement is proved here.
-/
import Derived.WalkKit
namespace Go.Proofs.YtjjdhbmlinjhjaaDoor

/-- n is a prime number. -/
def prime (n : Nat) : Prop := 1 < n ∧ ∀ d, d ∣ n → d = 1 ∨ d = n
theorem euclid {p a b : Nat} (hp : prime p) (h : p ∣ a * b) : p ∣ a ∨ p ∣ b := by
  rcases hp.2 (Nat.gcd p a) (Nat.gcd_dvd_left p a) with h1 | h1
  · right
    exact Nat.Coprime.dvd_of_dvd_mul_left h1 h
  · left
    rw [← h1]
    exact Nat.gcd_dvd_right p a
/-- A least divisor. -/
theorem least_div : ∀ n : Nat, 1 < n → ∃ q, prime q ∧ q ∣ n ∧ ∀ d, 1 < d → d ∣ n → q ≤ d := by
  have key : ∀ (k n : Nat), 1 < n → (∀ d, 1 < d → d < n - k → ¬ d ∣ n) → k + 2 ≤ n → ∃ q, 1 < q ∧ q ∣ n ∧ ∀ d, 1 < d → d ∣ n → q ≤ d := by
    intro k
    induction k with
    | zero =>
      intro n hn h _
      exact ⟨n, hn, Nat.dvd_refl n, fun d hd hdn => Nat.le_of_not_lt fun hlt => h d hd (by omega) hdn⟩
    | succ k ih =>
      intro n hn h hk
      by_cases hd : (n - (k + 1)) ∣ n
      · exact ⟨n - (k + 1), by omega, hd, fun d hd1 hdn => Nat.le_of_not_lt fun hlt => h d hd1 hlt hdn⟩
      · refine ih n hn (fun d hd1 hd2 => ?_) (by omega)
        rcases (by omega : d < n - (k + 1) ∨ d = n - (k + 1)) with h1 | h1
        · exact h d hd1 h1
        · rw [h1]; exact hd
  intro n hn
  obtain ⟨q, h1, h2, h3⟩ := key (n - 2) n hn (fun d hd1 hd2 => by omega) (by omega)
  refine ⟨q, ⟨h1, fun d hd => ?_⟩, h2, h3⟩
  have hd0 : 0 < d := Nat.pos_of_dvd_of_pos hd (by omega)
  rcases (by omega : d = 1 ∨ 1 < d) with h4 | h4
  · exact .inl h4
  · right
    exact Nat.le_antisymm (Nat.le_of_dvd (by omega) hd) (h3 d h4 (Nat.dvd_trans hd h2))
/-- A prime divisor of a product is one of its prime factors. -/
theorem in_list {q : Nat} (hq : prime q) : ∀ l : List Nat, (∀ x ∈ l, prime x) → q ∣ l.foldr (· * ·) 1 → q ∈ l
  | [], _, h => by
    have h1 := Nat.le_of_dvd (by omega) (show q ∣ 1 from h)
    have := hq.1
    omega
  | x :: l, hl, h => by
    rcases euclid hq (show q ∣ x * l.foldr (· * ·) 1 from h) with h1 | h1
    · rcases (hl x (by simp)).2 q h1 with h2 | h2
      · have := hq.1; omega
      · rw [h2]; simp
    · exact List.mem_cons_of_mem _ (in_list hq l (fun y hy => hl y (List.mem_cons_of_mem _ hy)) h1)

/-! Powers modulo a number -/
theorem pow_mod_eq {a b n : Nat} (h : a % n = b % n) (k : Nat) : a ^ k % n = b ^ k % n := by rw [Nat.pow_mod, h, ← Nat.pow_mod]
theorem pow_one_mod {c n m : Nat} (h : c ^ m % n = 1 % n) (k : Nat) : c ^ (m * k) % n = 1 % n := by
  rw [Nat.pow_mul, pow_mod_eq h k, Nat.one_pow]
/-- What is left of an exponent. -/
theorem pow_rest {c n d F : Nat} (hF : c ^ F % n = 1 % n) (hd : c ^ d % n = 1 % n) : c ^ (F % d) % n = 1 % n := by
  have e := Nat.div_add_mod F d
  have h1 : c ^ F = c ^ (d * (F / d)) * c ^ (F % d) := by rw [← Nat.pow_add, e]
  rw [h1, Nat.mul_mod, pow_one_mod hd, ← Nat.mul_mod, Nat.one_mul] at hF
  exact hF
theorem least_exp {c n F : Nat} (hF : c ^ F % n = 1 % n) : ∀ d, 0 < d → c ^ d % n = 1 % n → ∃ m, 0 < m ∧ m ≤ d ∧ c ^ m % n = 1 % n ∧ m ∣ F := by
  intro d
  induction d using Nat.strongRecOn with
  | _ d ih =>
    intro h0 h1
    rcases Nat.eq_zero_or_pos (F % d) with h2 | h2
    · exact ⟨d, h0, Nat.le_refl _, h1, Nat.dvd_of_mod_eq_zero h2⟩
    · have hlt := Nat.mod_lt F h0
      obtain ⟨m, h3, h4, h5, h6⟩ := ih (F % d) hlt h2 (pow_rest hF h1)
      exact ⟨m, h3, by omega, h5, h6⟩
/-- Powers below the order are all different. -/
theorem order_full {c n F : Nat} {qs : List Nat} (_hq : ∀ x ∈ qs, prime x) (hprod : ∀ q, prime q → q ∣ F → q ∈ qs) (hF : c ^ F % n = 1 % n) (hne : ∀ q ∈ qs, c ^ (F / q) % n ≠ 1 % n) (d : Nat) (h0 : 0 < d) (hd : d < F) : c ^ d % n ≠ 1 % n := by
  intro h1
  obtain ⟨m, h2, h3, h4, s, hs⟩ := least_exp hF d h0 h1
  have hs1 : 1 < s := by
    rcases (by omega : s = 0 ∨ s = 1 ∨ 1 < s) with h | h | h
    · rw [h, Nat.mul_zero] at hs; omega
    · rw [h, Nat.mul_one] at hs; omega
    · exact h
  obtain ⟨q, hqp, ⟨t, ht⟩, _⟩ := least_div s hs1
  have hqF : q ∣ F := ⟨m * t, by rw [hs, ht, Nat.mul_left_comm]⟩
  have hq0 : 0 < q := by have := hqp.1; omega
  have e : F / q = m * t := by
    rw [hs, ht, Nat.mul_left_comm, Nat.mul_div_cancel_left _ hq0]
  refine hne q (hprod q hqp hqF) ?_
  rw [e]
  exact pow_one_mod h4 t
/-- c can be taken away where it has a power that is 1. -/
theorem cancel_pow {c n F i j : Nat} (_hn : 1 < n) (h0 : 0 < F) (hF : c ^ F % n = 1 % n) (hij : i ≤ j) (h : c ^ i % n = c ^ j % n) : c ^ (j - i) % n = 1 % n := by
  -- c ^ (F * i - i) turns c ^ i to 1
  have hFi : i ≤ F * i := Nat.le_mul_of_pos_left _ h0
  have e1 : c ^ (F * i - i) * c ^ i % n = 1 % n := by
    rw [← Nat.pow_add, Nat.sub_add_cancel hFi]
    exact pow_one_mod hF i
  have e2 : c ^ (F * i - i) * c ^ j % n = 1 % n := by
    rw [Nat.mul_mod, ← h, ← Nat.mul_mod]
    exact e1
  rw [← Nat.pow_add, show F * i - i + j = F * i + (j - i) by omega, Nat.pow_add, Nat.mul_mod, pow_one_mod hF i, ← Nat.mul_mod, Nat.one_mul] at e2
  exact e2
/-- As many different numbers below r as F: F is at most r. -/
theorem pigeon {F r : Nat} (f : Nat → Nat) (hlt : ∀ i, i < F → f i < r) (hinj : ∀ i j, i < j → j < F → f i ≠ f j) : F ≤ r := by
  have h1 : ((List.range F).map f).Nodup := by
    rw [List.Nodup, List.pairwise_map]
    refine List.Pairwise.imp_of_mem ?_ (List.pairwise_lt_range (n := F))
    intro a b _ hb hab
    exact hinj a b hab (List.mem_range.1 hb)
  have h2 : ∀ x ∈ (List.range F).map f, x ∈ List.range r := by
    intro x hx
    obtain ⟨i, hi, rfl⟩ := List.mem_map.1 hx
    exact List.mem_range.2 (hlt i (List.mem_range.1 hi))
  have := List.Nodup.length_le_of_subset h1 h2
  simpa using this

/-! Powers modulo a number, reckoned -/
def pm (n : Nat) : Nat → Nat → Nat → Nat → Nat
  | 0, _, _, acc => acc
  | k + 1, b, e, acc => pm n k (b * b % n) (e / 2) (if e % 2 = 1 then acc * b % n else acc)
theorem pm_eq (n : Nat) : ∀ k b e acc, e < 2 ^ k → pm n k b e acc % n = acc * b ^ e % n
  | 0, b, e, acc, h => by
    obtain rfl : e = 0 := by simpa using h
    simp [pm]
  | k + 1, b, e, acc, h => by
    unfold pm
    rw [pm_eq n k _ _ _ (by rw [Nat.pow_succ] at h; omega)]
    have e1 : b ^ e = (b * b) ^ (e / 2) * b ^ (e % 2) := by
      conv => lhs; rw [← Nat.div_add_mod e 2, Nat.pow_add, Nat.pow_mul, Nat.pow_two]
    rw [e1]
    by_cases h1 : e % 2 = 1
    · rw [if_pos h1, h1, Nat.pow_one]
      rw [Nat.mul_mod, Nat.mod_mod, pow_mod_eq (Nat.mod_mod (b * b) n), ← Nat.mul_mod]
      congr 1
      rw [Nat.mul_assoc, Nat.mul_comm b]
    · rw [if_neg h1, show e % 2 = 0 by omega, Nat.pow_zero, Nat.mul_one, Nat.mul_mod, pow_mod_eq (Nat.mod_mod (b * b) n), ← Nat.mul_mod]
/-- Pocklington's certificate: F, whose prime factors are qs, divides N - 1 and is greater than N's root. -/
theorem pock (N F R a k : Nat) (qs : List Nat) (hq : ∀ x ∈ qs, prime x) (hF : qs.foldr (· * ·) 1 = F) (hN : N = F * R + 1) (hbig : N < F * F) (h1 : pm N k a (F * R) 1 % N = 1) (hk : F * R < 2 ^ k)
    (hg : ∀ q ∈ qs, Nat.gcd (pm N k a (F / q * R) 1 % N + (N - 1)) N = 1) : prime N := by
  have hF0 : 0 < F := by
    rcases Nat.eq_zero_or_pos F with h | h
    · rw [h] at hbig; omega
    · exact h
  have hF1 : 1 < F := by
    rcases (by omega : F = 1 ∨ 1 < F) with h | h
    · rw [h] at hbig; omega
    · exact h
  have hR0 : 0 < R := by
    rcases Nat.eq_zero_or_pos R with h | h
    · rw [h, Nat.mul_zero] at hN
      rw [hN, Nat.mod_one] at h1
      omega
    · exact h
  have hN1 : 1 < N := by
    have := Nat.mul_pos hF0 hR0
    omega
  obtain ⟨r, hr, hrN, hmin⟩ := least_div N hN1
  have h1' : a ^ (F * R) % N = 1 % N := by
    have := pm_eq N k a (F * R) 1 hk
    rw [h1, Nat.one_mul] at this
    rw [← this, Nat.mod_eq_of_lt hN1]
  have down : ∀ x : Nat, x % N % r = x % r := fun x => Nat.mod_mod_of_dvd x hrN
  have hc : (a ^ R) ^ F % r = 1 % r := by
    rw [← Nat.pow_mul, Nat.mul_comm R F, ← down, h1', down]
  have hr1 := hr.1
  have hne : ∀ q ∈ qs, (a ^ R) ^ (F / q) % r ≠ 1 % r := by
    intro q hqm h2
    have hle : F / q * R < 2 ^ k := Nat.lt_of_le_of_lt (Nat.mul_le_mul_right _ (Nat.div_le_self _ _)) hk
    have h3 := pm_eq N k a (F / q * R) 1 hle
    rw [Nat.one_mul] at h3
    have hd : r ∣ Nat.gcd (pm N k a (F / q * R) 1 % N + (N - 1)) N := by
      refine Nat.dvd_gcd ?_ hrN
      rw [h3]
      apply Nat.dvd_of_mod_eq_zero
      rw [Nat.add_mod, down, Nat.mul_comm (F / q) R, Nat.pow_mul, h2, ← Nat.add_mod, show 1 + (N - 1) = N by omega]
      exact Nat.mod_eq_zero_of_dvd hrN
    rw [hg q hqm] at hd
    have := Nat.le_of_dvd (by omega) hd
    omega
  have hprod : ∀ q, prime q → q ∣ F → q ∈ qs := fun q hqp hqF => in_list hqp qs hq (by rw [hF]; exact hqF)
  have hFr : F ≤ r := pigeon (fun i => (a ^ R) ^ i % r) (fun i _ => Nat.mod_lt _ (by omega)) fun i j hij hj he =>
    order_full hq hprod hc hne (j - i) (by omega) (by omega) (cancel_pow hr1 hF0 hc (by omega) he)
  -- a number whose least divisor is beyond its root is prime
  refine ⟨hN1, fun d hd => ?_⟩
  have hd0 : 0 < d := Nat.pos_of_dvd_of_pos hd (by omega)
  rcases (by omega : d = 1 ∨ 1 < d) with h4 | h4
  · exact .inl h4
  · right
    obtain ⟨t, ht⟩ := hd
    rcases (by omega : t = 0 ∨ t = 1 ∨ 1 < t) with h5 | h5 | h5
    · rw [h5, Nat.mul_zero] at ht; omega
    · rw [h5, Nat.mul_one] at ht; exact ht.symm
    · have h6 := hmin d h4 ⟨t, ht⟩
      have h7 := hmin t h5 ⟨d, by rw [ht, Nat.mul_comm]⟩
      have h8 : F * F ≤ d * t := Nat.mul_le_mul (Nat.le_trans hFr h6) (Nat.le_trans hFr h7)
      omega
/-- Small numbers: no divisor up to the root. -/
def tri (n : Nat) : Nat → Nat → Bool
  | 0, _ => true
  | k + 1, d => (n % d != 0) && tri n k (d + 1)
theorem tri_eq (n : Nat) : ∀ k d, tri n k d = true → ∀ x, d ≤ x → x < d + k → ¬ x ∣ n
  | 0, d, _, x, h1, h2 => by omega
  | k + 1, d, h, x, h1, h2 => by
    unfold tri at h
    rw [Bool.and_eq_true] at h
    rcases (by omega : x = d ∨ d + 1 ≤ x) with h3 | h3
    · subst h3
      intro h4
      have := Nat.mod_eq_zero_of_dvd h4
      simp [this] at h
    · exact tri_eq n k (d + 1) h.2 x h3 (by omega)
theorem small_prime (n k : Nat) (hn : 1 < n) (hk : n < (k + 2) * (k + 2)) (h : tri n k 2 = true) : prime n := by
  obtain ⟨q, hq, hqn, hmin⟩ := least_div n hn
  refine ⟨hn, fun d hd => ?_⟩
  have hd0 : 0 < d := Nat.pos_of_dvd_of_pos hd (by omega)
  rcases (by omega : d = 1 ∨ 1 < d) with h4 | h4
  · exact .inl h4
  · right
    obtain ⟨t, ht⟩ := hd
    rcases (by omega : t = 0 ∨ t = 1 ∨ 1 < t) with h5 | h5 | h5
    · rw [h5, Nat.mul_zero] at ht; omega
    · rw [h5, Nat.mul_one] at ht; exact ht.symm
    · have h6 := hmin d h4 ⟨t, ht⟩
      have h7 := hmin t h5 ⟨d, by rw [ht, Nat.mul_comm]⟩
      have h8 : q * q ≤ d * t := Nat.mul_le_mul h6 h7
      have hq1 := hq.1
      have hqk : q < 2 + k := by
        refine Nat.lt_of_not_le fun hge => ?_
        have := Nat.mul_le_mul hge hge
        rw [Nat.add_comm 2 k] at this
        omega
      exact absurd hqn (tri_eq n k 2 h q (by omega) hqk)
end Go.Proofs.YtjjdhbmlinjhjaaDoor
