/- Lemmas; no statement is proved here. -/
import Derived.WalkKit
namespace Go.Proofs.YtgjbonikbmgfmaaGreatDoor
def prime (n : Nat) : Prop := 1 < n ∧ ∀ d, d ∣ n → d = 1 ∨ d = n
theorem y3d {p a b : Nat} (hp : prime p) (h : p ∣ a * b) : p ∣ a ∨ p ∣ b := by
 rcases hp.2 (Nat.gcd p a) (Nat.gcd_dvd_left p a) with h1 | h1
 ·right
  exact Nat.Coprime.dvd_of_dvd_mul_left h1 h
 ·left
  rw [← h1]
  exact Nat.gcd_dvd_right p a
theorem z93 : ∀ n : Nat, 1 < n → ∃ q, prime q ∧ q ∣ n ∧ ∀ d, 1 < d → d ∣ n → q ≤ d := by
 have key : ∀ (k n : Nat), 1 < n → (∀ d, 1 < d → d < n - k → ¬ d ∣ n) → k + 2 ≤ n → ∃ q, 1 < q ∧ q ∣ n ∧ ∀ d, 1 < d → d ∣ n → q ≤ d := by
  intro k
  induction k with
  | zero =>
   intro n hn h _
   exact ⟨n, hn, Nat.dvd_refl n, fun d hd hdn => Nat.le_of_not_lt fun hlt => h d hd (by omega) hdn⟩
  | succ k ih =>
   intro n hn h hk
   by_cases hd : (n - (k + 1)) ∣ n
   ·exact ⟨n - (k + 1), by omega, hd, fun d hd1 hdn => Nat.le_of_not_lt fun hlt => h d hd1 hlt hdn⟩
   ·refine ih n hn (fun d hd1 hd2 => ?_) (by omega)
    rcases (by omega : d < n - (k + 1) ∨ d = n - (k + 1)) with h1 | h1
    ·exact h d hd1 h1
    ·rw [h1]; exact hd
 intro n hn
 obtain ⟨q, h1, h2, h3⟩ := key (n - 2) n hn (fun d hd1 hd2 => by omega) (by omega)
 refine ⟨q, ⟨h1, fun d hd => ?_⟩, h2, h3⟩
 have hd0 : 0 < d := Nat.pos_of_dvd_of_pos hd (by omega)
 rcases (by omega : d = 1 ∨ 1 < d) with h4 | h4
 ·exact .inl h4
 ·right
  exact Nat.le_antisymm (Nat.le_of_dvd (by omega) hd) (h3 d h4 (Nat.dvd_trans hd h2))
theorem y81 {q : Nat} (hq : prime q) : ∀ l : List Nat, (∀ x ∈ l, prime x) → q ∣ l.foldr (· * ·) 1 → q ∈ l
 | [], _, h => by
  have h1 := Nat.le_of_dvd (by omega) (show q ∣ 1 from h)
  have := hq.1
  omega
 | x :: l, hl, h => by
  rcases y3d hq (show q ∣ x * l.foldr (· * ·) 1 from h) with h1 | h1
  ·rcases (hl x (by simp)).2 q h1 with h2 | h2
   ·have := hq.1; omega
   ·rw [h2]; simp
  ·exact List.mem_cons_of_mem _ (y81 hq l (fun y hy => hl y (List.mem_cons_of_mem _ hy)) h1)
theorem z76 {a b n : Nat} (h : a % n = b % n) (k : Nat) : a ^ k % n = b ^ k % n := by rw [Nat.pow_mod, h, ← Nat.pow_mod]
theorem z44 {c n m : Nat} (h : c ^ m % n = 1 % n) (k : Nat) : c ^ (m * k) % n = 1 % n := by
 rw [Nat.pow_mul, z76 h k, Nat.one_pow]
theorem pow_rest {c n d F : Nat} (hF : c ^ F % n = 1 % n) (hd : c ^ d % n = 1 % n) : c ^ (F % d) % n = 1 % n := by
 have e := Nat.div_add_mod F d
 have h1 : c ^ F = c ^ (d * (F / d)) * c ^ (F % d) := by rw [← Nat.pow_add, e]
 rw [h1, Nat.mul_mod, z44 hd, ← Nat.mul_mod, Nat.one_mul] at hF
 exact hF
theorem least_exp {c n F : Nat} (hF : c ^ F % n = 1 % n) : ∀ d, 0 < d → c ^ d % n = 1 % n → ∃ m, 0 < m ∧ m ≤ d ∧ c ^ m % n = 1 % n ∧ m ∣ F := by
 intro d
 induction d using Nat.strongRecOn with
 | _ d ih =>
  intro h0 h1
  rcases Nat.eq_zero_or_pos (F % d) with h2 | h2
  ·exact ⟨d, h0, Nat.le_refl _, h1, Nat.dvd_of_mod_eq_zero h2⟩
  ·have hlt := Nat.mod_lt F h0
   obtain ⟨m, h3, h4, h5, h6⟩ := ih (F % d) hlt h2 (pow_rest hF h1)
   exact ⟨m, h3, by omega, h5, h6⟩
theorem order_full {c n F : Nat} {qs : List Nat} (_hq : ∀ x ∈ qs, prime x) (hprod : ∀ q, prime q → q ∣ F → q ∈ qs) (hF : c ^ F % n = 1 % n) (hne : ∀ q ∈ qs, c ^ (F / q) % n ≠ 1 % n) (d : Nat) (h0 : 0 < d) (hd : d < F) : c ^ d % n ≠ 1 % n := by
 intro h1
 obtain ⟨m, h2, h3, h4, s, hs⟩ := least_exp hF d h0 h1
 have hs1 : 1 < s := by
  rcases (by omega : s = 0 ∨ s = 1 ∨ 1 < s) with h | h | h
  ·rw [h, Nat.mul_zero] at hs; omega
  ·rw [h, Nat.mul_one] at hs; omega
  ·exact h
 obtain ⟨q, hqp, ⟨t, ht⟩, _⟩ := z93 s hs1
 have hqF : q ∣ F := ⟨m * t, by rw [hs, ht, Nat.mul_left_comm]⟩
 have hq0 : 0 < q := by have := hqp.1; omega
 have e : F / q = m * t := by
  rw [hs, ht, Nat.mul_left_comm, Nat.mul_div_cancel_left _ hq0]
 refine hne q (hprod q hqp hqF) ?_
 rw [e]
 exact z44 h4 t
theorem cancel_pow {c n F i j : Nat} (_hn : 1 < n) (h0 : 0 < F) (hF : c ^ F % n = 1 % n) (hij : i ≤ j) (h : c ^ i % n = c ^ j % n) : c ^ (j - i) % n = 1 % n := by
 -- c ^ (F * i - i) turns c ^ i to 1
 have hFi : i ≤ F * i := Nat.le_mul_of_pos_left _ h0
 have e1 : c ^ (F * i - i) * c ^ i % n = 1 % n := by
  rw [← Nat.pow_add, Nat.sub_add_cancel hFi]
  exact z44 hF i
 have e2 : c ^ (F * i - i) * c ^ j % n = 1 % n := by
  rw [Nat.mul_mod, ← h, ← Nat.mul_mod]
  exact e1
 rw [← Nat.pow_add, show F * i - i + j = F * i + (j - i) by omega, Nat.pow_add, Nat.mul_mod, z44 hF i, ← Nat.mul_mod, Nat.one_mul] at e2
 exact e2
theorem pigeon {F r : Nat} (f : Nat → Nat) (hlt : ∀ i, i < F → f i < r) (hinj : ∀ i j, i < j → j < F → f i ≠ f j) : F ≤ r := by
 have h1 : ((List.range F).map f).Nodup := by
  rw [List.Nodup, List.pairwise_map]
  refine List.Pairwise.imp_of_mem ?_ (List.pairwise_lt_range (n := F))
  intro a b _ hb hab
  exact hinj a b hab (List.mem_range.1 hb)
 have h2 : ∀ x ∈ (List.range F).map f, x ∈ List.range r := by
  intro x hx
  obtain ⟨i, hi, rfl⟩ := List.mem_map.1 hx
  exact List.mem_range.2 (hlt i (List.mem_range.1 hi))
 have := List.Nodup.length_le_of_subset h1 h2
 simpa using this
def pm (n : Nat) : Nat → Nat → Nat → Nat → Nat
 | 0, _, _, acc => acc
 | k + 1, b, e, acc => pm n k (b * b % n) (e / 2) (if e % 2 = 1 then acc * b % n else acc)
theorem pm_eq (n : Nat) : ∀ k b e acc, e < 2 ^ k → pm n k b e acc % n = acc * b ^ e % n
 | 0, b, e, acc, h => by
  obtain rfl : e = 0 := by simpa using h
  simp [pm]
 | k + 1, b, e, acc, h => by
  unfold pm
  rw [pm_eq n k _ _ _ (by rw [Nat.pow_succ] at h; omega)]
  have e1 : b ^ e = (b * b) ^ (e / 2) * b ^ (e % 2) := by
   conv => lhs; rw [← Nat.div_add_mod e 2, Nat.pow_add, Nat.pow_mul, Nat.pow_two]
  rw [e1]
  by_cases h1 : e % 2 = 1
  ·rw [if_pos h1, h1, Nat.pow_one]
   rw [Nat.mul_mod, Nat.mod_mod, z76 (Nat.mod_mod (b * b) n), ← Nat.mul_mod]
   congr 1
   rw [Nat.mul_assoc, Nat.mul_comm b]
  ·rw [if_neg h1, show e % 2 = 0 by omega, Nat.pow_zero, Nat.mul_one, Nat.mul_mod, z76 (Nat.mod_mod (b * b) n), ← Nat.mul_mod]
theorem pock (N F R a k : Nat) (qs : List Nat) (hq : ∀ x ∈ qs, prime x) (hF : qs.foldr (· * ·) 1 = F) (hN : N = F * R + 1) (hbig : N < F * F) (h1 : pm N k a (F * R) 1 % N = 1) (hk : F * R < 2 ^ k)
  (hg : ∀ q ∈ qs, Nat.gcd (pm N k a (F / q * R) 1 % N + (N - 1)) N = 1) : prime N := by
 have hF0 : 0 < F := by
  rcases Nat.eq_zero_or_pos F with h | h
  ·rw [h] at hbig; omega
  ·exact h
 have hF1 : 1 < F := by
  rcases (by omega : F = 1 ∨ 1 < F) with h | h
  ·rw [h] at hbig; omega
  ·exact h
 have hR0 : 0 < R := by
  rcases Nat.eq_zero_or_pos R with h | h
  ·rw [h, Nat.mul_zero] at hN
   rw [hN, Nat.mod_one] at h1
   omega
  ·exact h
 have hN1 : 1 < N := by
  have := Nat.mul_pos hF0 hR0
  omega
 obtain ⟨r, hr, hrN, hmin⟩ := z93 N hN1
 have h1' : a ^ (F * R) % N = 1 % N := by
  have := pm_eq N k a (F * R) 1 hk
  rw [h1, Nat.one_mul] at this
  rw [← this, Nat.mod_eq_of_lt hN1]
 have down : ∀ x : Nat, x % N % r = x % r := fun x => Nat.mod_mod_of_dvd x hrN
 have hc : (a ^ R) ^ F % r = 1 % r := by
  rw [← Nat.pow_mul, Nat.mul_comm R F, ← down, h1', down]
 have hr1 := hr.1
 have hne : ∀ q ∈ qs, (a ^ R) ^ (F / q) % r ≠ 1 % r := by
  intro q hqm h2
  have hle : F / q * R < 2 ^ k := Nat.lt_of_le_of_lt (Nat.mul_le_mul_right _ (Nat.div_le_self _ _)) hk
  have h3 := pm_eq N k a (F / q * R) 1 hle
  rw [Nat.one_mul] at h3
  have hd : r ∣ Nat.gcd (pm N k a (F / q * R) 1 % N + (N - 1)) N := by
   refine Nat.dvd_gcd ?_ hrN
   rw [h3]
   apply Nat.dvd_of_mod_eq_zero
   rw [Nat.add_mod, down, Nat.mul_comm (F / q) R, Nat.pow_mul, h2, ← Nat.add_mod, show 1 + (N - 1) = N by omega]
   exact Nat.mod_eq_zero_of_dvd hrN
  rw [hg q hqm] at hd
  have := Nat.le_of_dvd (by omega) hd
  omega
 have hprod : ∀ q, prime q → q ∣ F → q ∈ qs := fun q hqp hqF => y81 hqp qs hq (by rw [hF]; exact hqF)
 have hFr : F ≤ r := pigeon (fun i => (a ^ R) ^ i % r) (fun i _ => Nat.mod_lt _ (by omega)) fun i j hij hj he =>
  order_full hq hprod hc hne (j - i) (by omega) (by omega) (cancel_pow hr1 hF0 hc (by omega) he)
 -- a number whose least divisor is beyond its root is prime
 refine ⟨hN1, fun d hd => ?_⟩
 have hd0 : 0 < d := Nat.pos_of_dvd_of_pos hd (by omega)
 rcases (by omega : d = 1 ∨ 1 < d) with h4 | h4
 ·exact .inl h4
 ·right
  obtain ⟨t, ht⟩ := hd
  rcases (by omega : t = 0 ∨ t = 1 ∨ 1 < t) with h5 | h5 | h5
  ·rw [h5, Nat.mul_zero] at ht; omega
  ·rw [h5, Nat.mul_one] at ht; exact ht.symm
  ·have h6 := hmin d h4 ⟨t, ht⟩
   have h7 := hmin t h5 ⟨d, by rw [ht, Nat.mul_comm]⟩
   have h8 : F * F ≤ d * t := Nat.mul_le_mul (Nat.le_trans hFr h6) (Nat.le_trans hFr h7)
   omega
def tri (n : Nat) : Nat → Nat → Bool
 | 0, _ => true
 | k + 1, d => (n % d != 0) && tri n k (d + 1)
theorem tri_eq (n : Nat) : ∀ k d, tri n k d = true → ∀ x, d ≤ x → x < d + k → ¬ x ∣ n
 | 0, d, _, x, h1, h2 => by omega
 | k + 1, d, h, x, h1, h2 => by
  unfold tri at h
  rw [Bool.and_eq_true] at h
  rcases (by omega : x = d ∨ d + 1 ≤ x) with h3 | h3
  ·subst h3
   intro h4
   have := Nat.mod_eq_zero_of_dvd h4
   simp [this] at h
  ·exact tri_eq n k (d + 1) h.2 x h3 (by omega)
theorem z3a (n k : Nat) (hn : 1 < n) (hk : n < (k + 2) * (k + 2)) (h : tri n k 2 = true) : prime n := by
 obtain ⟨q, hq, hqn, hmin⟩ := z93 n hn
 refine ⟨hn, fun d hd => ?_⟩
 have hd0 : 0 < d := Nat.pos_of_dvd_of_pos hd (by omega)
 rcases (by omega : d = 1 ∨ 1 < d) with h4 | h4
 ·exact .inl h4
 ·right
  obtain ⟨t, ht⟩ := hd
  rcases (by omega : t = 0 ∨ t = 1 ∨ 1 < t) with h5 | h5 | h5
  ·rw [h5, Nat.mul_zero] at ht; omega
  ·rw [h5, Nat.mul_one] at ht; exact ht.symm
  ·have h6 := hmin d h4 ⟨t, ht⟩
   have h7 := hmin t h5 ⟨d, by rw [ht, Nat.mul_comm]⟩
   have h8 : q * q ≤ d * t := Nat.mul_le_mul h6 h7
   have hq1 := hq.1
   have hqk : q < 2 + k := by
    refine Nat.lt_of_not_le fun hge => ?_
    have := Nat.mul_le_mul hge hge
    rw [Nat.add_comm 2 k] at this
    omega
   exact absurd hqn (tri_eq n k 2 h q (by omega) hqk)
theorem same_members {l m : List Nat} (hl : l.Nodup) (_hm : m.Nodup) (hs : ∀ x ∈ l, x ∈ m) (hlen : l.length = m.length) : ∀ x, x ∈ m → x ∈ l := by
 intro x hx
 by_cases h : x ∈ l
 ·exact h
 ·exfalso
  have h1 : (x :: l).Nodup := List.nodup_cons.2 ⟨h, hl⟩
  have h2 := List.Nodup.length_le_of_subset h1 (show ∀ y ∈ x :: l, y ∈ m from fun y hy => by
   rcases List.mem_cons.1 hy with rfl | hy
   ·exact hx
   ·exact hs y hy)
  simp at h2
  omega
theorem perm_of {l m : List Nat} (hl : l.Nodup) (hm : m.Nodup) (hs : ∀ x ∈ l, x ∈ m) (hlen : l.length = m.length) : l.Perm m := by
 rw [List.perm_iff_count]
 intro a
 have h := same_members hl hm hs hlen
 by_cases ha : a ∈ l
 ·rw [hl.count, hm.count, if_pos ha, if_pos (hs a ha)]
 ·rw [hl.count, hm.count, if_neg ha, if_neg fun h' => ha (h a h')]
def prod (l : List Nat) : Nat := l.foldr (· * ·) 1
theorem prod_perm {l m : List Nat} (h : l.Perm m) : prod l = prod m := by
 induction h with
 | nil => rfl
 | cons x _ ih => exact congrArg (x * ·) ih
 | swap x y l => exact Nat.mul_left_comm _ _ _
 | trans _ _ h1 h2 => exact h1.trans h2
theorem y5f (a p : Nat) : ∀ l : List Nat, prod (l.map fun i => a * i % p) % p = a ^ l.length * prod l % p
 | [] => by simp [prod]
 | x :: l => by
  have ih := y5f a p l
  show (a * x % p) * prod (l.map fun i => a * i % p) % p = a ^ (l.length + 1) * (x * prod l) % p
  rw [Nat.mul_mod, Nat.mod_mod, ih, ← Nat.mul_mod, Nat.pow_succ]
  congr 1
  ac_rfl
theorem y2p {p : Nat} (hp : prime p) : ∀ l : List Nat, (∀ x ∈ l, ¬ p ∣ x) → ¬ p ∣ prod l
 | [], _, h => by
  have h1 := Nat.le_of_dvd (by omega) (show p ∣ 1 from h)
  have := hp.1
  omega
 | x :: l, hl, h => by
  rcases y3d hp (show p ∣ x * prod l from h) with h1 | h1
  ·exact hl x (by simp) h1
  ·exact y2p hp l (fun y hy => hl y (List.mem_cons_of_mem _ hy)) h1
theorem y8r {p x y : Nat} (h : x ≤ y) : x % p = y % p ↔ p ∣ y - x := by
 constructor
 ·intro e
  exact Nat.dvd_of_mod_eq_zero (Nat.sub_mod_eq_zero_of_mod_eq e.symm)
 ·rintro ⟨k, hk⟩
  rw [show y = x + p * k by omega, Nat.add_mul_mod_self_left]
theorem cancel {p a x y : Nat} (hp : prime p) (ha : ¬ p ∣ a) (h : a * x % p = a * y % p) : x % p = y % p := by
 have key : ∀ x y : Nat, x ≤ y → a * x % p = a * y % p → x % p = y % p := by
  intro x y hxy h
  have h1 : p ∣ a * y - a * x := (y8r (Nat.mul_le_mul_left a hxy)).1 h
  rw [← Nat.mul_sub] at h1
  rcases y3d hp h1 with h2 | h2
  ·exact absurd h2 ha
  ·exact (y8r hxy).2 h2
 rcases Nat.le_total x y with h1 | h1
 ·exact key x y h1 h
 ·exact (key y x h1 h.symm).symm
theorem fermat {p a : Nat} (hp : prime p) (ha : ¬ p ∣ a) : a ^ (p - 1) % p = 1 := by
 have hp1 := hp.1
 obtain ⟨l, hl⟩ : ∃ l : List Nat, l = (List.range (p - 1)).map (· + 1) := ⟨_, rfl⟩
 have hmem : ∀ x, x ∈ l ↔ 0 < x ∧ x < p := by
  intro x
  rw [hl, List.mem_map]
  constructor
  ·rintro ⟨i, hi, rfl⟩
   have := List.mem_range.1 hi
   omega
  ·intro ⟨h1, h2⟩
   exact ⟨x - 1, List.mem_range.2 (by omega), by omega⟩
 have hnd : l.Nodup := by
  rw [hl, List.Nodup, List.pairwise_map]
  exact (List.pairwise_lt_range (n := p - 1)).imp fun h => by omega
 have hfree : ∀ x ∈ l, ¬ p ∣ x := by
  intro x hx h
  have h1 := (hmem x).1 hx
  have := Nat.le_of_dvd h1.1 h
  omega
 have hlen : l.length = p - 1 := by rw [hl]; simp
 have hmnd : (l.map fun i => a * i % p).Nodup := by
  rw [List.Nodup, List.pairwise_map]
  refine List.Pairwise.imp_of_mem ?_ hnd
  intro x y hx hy hne he
  have h1 := cancel hp ha he
  rw [Nat.mod_eq_of_lt ((hmem x).1 hx).2, Nat.mod_eq_of_lt ((hmem y).1 hy).2] at h1
  exact hne h1
 have hms : ∀ x ∈ l.map (fun i => a * i % p), x ∈ l := by
  intro x hx
  obtain ⟨i, hi, rfl⟩ := List.mem_map.1 hx
  refine (hmem _).2 ⟨Nat.pos_of_ne_zero fun h0 => ?_, Nat.mod_lt _ (by omega)⟩
  rcases y3d hp (Nat.dvd_of_mod_eq_zero h0) with h1 | h1
  ·exact ha h1
  ·exact hfree i hi h1
 have hperm := prod_perm (perm_of hmnd hnd hms (by simp))
 have h1 := y5f a p l
 rw [hperm, hlen] at h1
 have h2 : prod l * (a ^ (p - 1)) % p = prod l * 1 % p := by rw [Nat.mul_one, Nat.mul_comm]; exact h1.symm
 have h3 := cancel hp (y2p hp l hfree) h2
 rw [h3, Nat.mod_eq_of_lt hp1]
section
variable {p : Nat}
theorem z8f (a : Fin p) : (-a).val = (p - a.val) % p := rfl
def ab (a : Fin p) : Fin p := if a.val % 2 = 1 then -a else a
theorem ab_or (a : Fin p) : ab a = a ∨ ab a = -a := by
 unfold ab
 split
 ·exact .inr rfl
 ·exact .inl rfl
theorem ab_id {a : Fin p} (h : a.val % 2 = 0) : ab a = a := by
 unfold ab
 rw [if_neg (by omega)]
end
section
variable {p : Nat} [NeZero p]
theorem y05 (a : Fin p) : ∀ n, (a ^ n).val = a.val ^ n % p
 | 0 => by
  have : a ^ 0 = 1 := by grind
  rw [this, Nat.pow_zero]
  rfl
 | n + 1 => by
  have : a ^ (n + 1) = a ^ n * a := by grind
  rw [this, Fin.val_mul, y05 a n, Nat.pow_succ, Nat.mod_mul_mod]
theorem z5d (a : Fin p) : a ^ 0 = 1 := by grind
theorem z09 (a : Fin p) (n : Nat) : a ^ (n + 1) = a ^ n * a := by grind
theorem z14 (a : Fin p) (m n : Nat) : a ^ (m + n) = a ^ m * a ^ n := by grind
theorem z3e (a b : Fin p) : ∀ n : Nat, (a * b) ^ n = a ^ n * b ^ n
 | 0 => by grind
 | n + 1 => by
  rw [z09, z09, z09, z3e a b n]
  grind
theorem z4z (a : Fin p) (m : Nat) : ∀ n, a ^ (m * n) = (a ^ m) ^ n
 | 0 => by rw [Nat.mul_zero, z5d, z5d]
 | n + 1 => by rw [Nat.mul_succ, z14, z09, z4z a m n]
theorem y06 : ∀ n : Nat, (1 : Fin p) ^ n = 1
 | 0 => z5d 1
 | n + 1 => by
  rw [z09, y06 n]
  grind
theorem z3d {a : Fin p} : a = 0 ↔ a.val = 0 := ⟨fun h => by rw [h]; rfl, fun h => Fin.ext (by rw [h]; rfl)⟩
theorem z02 (hp : prime p) {a b : Fin p} (h : a * b = 0) : a = 0 ∨ b = 0 := by
 have h1 : a.val * b.val % p = 0 := by rw [← Fin.val_mul, h]; rfl
 rcases y3d hp (Nat.dvd_of_mod_eq_zero h1) with h2 | h2
 ·exact .inl (z3d.2 (Nat.eq_zero_of_dvd_of_lt h2 a.isLt))
 ·exact .inr (z3d.2 (Nat.eq_zero_of_dvd_of_lt h2 b.isLt))
theorem z06 (hp : prime p) : (1 : Fin p) ≠ 0 := by
 have := hp.1
 intro h
 have h1 := congrArg Fin.val h
 rw [show ((0 : Fin p)).val = 0 from rfl, show ((1 : Fin p)).val = 1 % p from rfl, Nat.mod_eq_of_lt this] at h1
 cases h1
theorem z4e (hp : prime p) {a : Fin p} (ha : a ≠ 0) : a ^ (p - 1) = 1 := by
 apply Fin.ext
 rw [y05, fermat hp (fun h => ha (z3d.2 (Nat.eq_zero_of_dvd_of_lt h a.isLt)))]
 exact (Nat.mod_eq_of_lt hp.1).symm
theorem z0u (hp : prime p) {a b c : Fin p} (ha : a ≠ 0) (h : a * b = a * c) : b = c := by
 have h1 : a * (b - c) = 0 := by grind
 rcases z02 hp h1 with h2 | h2
 ·exact absurd h2 ha
 ·grind
theorem y85 (hp : prime p) {a b : Fin p} (h : a * a = b * b) : a = b ∨ a = -b := by
 have h1 : (a - b) * (a + b) = 0 := by grind
 rcases z02 hp h1 with h2 | h2
 ·exact .inl (by grind)
 ·exact .inr (by grind)
theorem y6a (hp : prime p) (h2 : p ≠ 2) {a : Fin p} (h : a = -a) : a = 0 := by
 apply z3d.2
 have h1 := congrArg Fin.val h
 rw [z8f] at h1
 have hl := a.isLt
 by_cases h0 : a.val = 0
 ·exact h0
 ·exfalso
  rw [Nat.mod_eq_of_lt (by omega)] at h1
  have hd : 2 ∣ p := ⟨a.val, by omega⟩
  rcases hp.2 2 hd with h' | h' <;> omega
theorem y2c (a : Fin p) : ab a * ab a = a * a := by
 rcases ab_or a with h | h <;> rw [h]
 grind
theorem y8m (hp : p % 2 = 1) {a : Fin p} (h : a ≠ 0) : (-a).val % 2 = 1 ↔ a.val % 2 = 0 := by
 have h0 : a.val ≠ 0 := fun e => h (z3d.2 e)
 have hl := a.isLt
 rw [z8f, Nat.mod_eq_of_lt (show p - a.val < p by omega)]
 omega
theorem ab_neg (hp : p % 2 = 1) (a : Fin p) : ab (-a) = ab a := by
 by_cases h : a = 0
 ·subst h
  rw [show -(0 : Fin p) = 0 by grind]
 ·have := y8m hp h
  unfold ab
  by_cases h1 : a.val % 2 = 1
  ·rw [if_pos h1, if_neg (by omega)]
  ·rw [if_neg h1, if_pos (by omega)]
   grind
theorem z5i (hp : prime p) (ho : p % 2 = 1) {a b : Fin p} (h : a * a = b * b) : ab a = ab b := by
 rcases y85 hp h with e | e
 ·rw [e]
 ·rw [e, ab_neg ho]
theorem y2b : ab (0 : Fin p) = 0 := by
 unfold ab
 rw [if_neg (by show ¬ 0 % 2 = 1; decide)]
theorem y9x (hp : prime p) (ho : p % 2 = 1) {a b : Fin p} (h : a * a = b * b) (he : a.val % 2 = 0) : a = ab b := by
 rw [← z5i hp ho h, ab_id he]
def inv (a : Fin p) : Fin p := a ^ (p - 2)
theorem z3n (hp : prime p) {a : Fin p} (h : a ≠ 0) : inv a * a = 1 := by
 have := hp.1
 unfold inv
 rw [← z09, show p - 2 + 1 = p - 1 by omega, z4e hp h]
theorem y80 (hp : prime p) {a : Fin p} (h : a ≠ 0) : inv a ≠ 0 := fun e => z06 hp (by rw [← z3n hp h, e]; grind)
end
section
variable {p c : Nat} [NeZero p]
theorem euler (hp : prime p) (hc : p = 4 * c + 3) {a : Fin p} (h : a ≠ 0) : a ^ (2 * c + 1) = 1 ∨ a ^ (2 * c + 1) = -1 := by
 refine y85 hp ?_
 rw [← z14, show 2 * c + 1 + (2 * c + 1) = p - 1 by omega, z4e hp h]
 grind
def zL (c : Nat) (u v : Fin p) : Fin p := u * (u * v) ^ c
theorem rat_sq (u v : Fin p) : v * (zL c u v * zL c u v) = u * (u * v) ^ (2 * c + 1) := by
 unfold zL
 rw [show 2 * c + 1 = c + c + 1 by omega, z09, z14]
 grind
theorem z7f (v : Fin p) : zL c 0 v = 0 := by unfold zL; grind
theorem y74 (hp : prime p) (hc : p = 4 * c + 3) {u v : Fin p} (hu : u ≠ 0) (hv : v ≠ 0) : v * (zL c u v * zL c u v) = u ∨ v * (zL c u v * zL c u v) = -u := by
 have h : u * v ≠ 0 := fun e => by rcases z02 hp e with h | h <;> contradiction
 rw [rat_sq]
 rcases euler hp hc h with e | e
 ·exact .inl (by rw [e]; grind)
 ·exact .inr (by rw [e]; grind)
theorem not_both (hp : prime p) (hc : p = 4 * c + 3) {u : Fin p} (hu : u ≠ 0) : ¬ -u = u := fun h => hu (y6a hp (by omega) h.symm)
theorem z4d (hp : prime p) (hc : p = 4 * c + 3) {a b : Fin p} (h : a * a = -(b * b)) : a = 0 ∧ b = 0 := by
 by_cases hb : b = 0
 ·refine ⟨?_, hb⟩
  rcases z02 hp (show a * a = 0 by grind) with h | h <;> exact h
 ·exfalso
  have ha : a ≠ 0 := by
   rintro rfl
   rcases z02 hp (show b * b = 0 by grind) with h | h <;> contradiction
  have h1 := z4e hp ha
  have h2 := z4e hp hb
  rw [show p - 1 = 2 * (2 * c + 1) by omega, z4z, show a ^ 2 = a * a by grind, h, show -(b * b) = (-1) * (b ^ 2) by grind, z3e, ← z4z, show 2 * (2 * c + 1) = p - 1 by omega, h2, show 2 * c + 1 = c + c + 1 by omega, z09, z14, ← z3e, show (-1 : Fin p) * -1 = 1 by grind, y06] at h1
  exact not_both hp hc (z06 hp) (by grind)
end
theorem prime_6197 : prime 6197 := z3a 6197 78 (by decide) (by decide) (by decide +kernel)
theorem prime_61 : prime 61 := z3a 61 7 (by decide) (by decide) (by decide +kernel)
theorem prime_1335912079 : prime 1335912079 :=
 pock 1335912079 378017 3534 2 31 [6197, 61] (fun x hx => by
  simp only [List.mem_cons, List.not_mem_nil, or_false] at hx
  rcases hx with rfl | rfl
  ·exact prime_6197
  ·exact prime_61) (by decide +kernel) (by decide +kernel) (by decide +kernel) (by decide +kernel) (by decide +kernel) (by decide +kernel)
theorem prime_32061889897 : prime 32061889897 :=
 pock 32061889897 1335912079 24 2 35 [1335912079] (fun x hx => by
  simp only [List.mem_cons, List.not_mem_nil, or_false] at hx
  subst hx
  exact prime_1335912079) (by decide +kernel) (by decide +kernel) (by decide +kernel) (by decide +kernel) (by decide +kernel) (by decide +kernel)
theorem prime_25136521679249 : prime 25136521679249 :=
 pock 25136521679249 32061889897 784 2 45 [32061889897] (fun x hx => by
  simp only [List.mem_cons, List.not_mem_nil, or_false] at hx
  subst hx
  exact prime_32061889897) (by decide +kernel) (by decide +kernel) (by decide +kernel) (by decide +kernel) (by decide +kernel) (by decide +kernel)
theorem prime_116989 : prime 116989 := z3a 116989 342 (by decide) (by decide) (by decide +kernel)
theorem prime_1255525949 : prime 1255525949 :=
 pock 1255525949 116989 10732 2 31 [116989] (fun x hx => by
  simp only [List.mem_cons, List.not_mem_nil, or_false] at hx
  subst hx
  exact prime_116989) (by decide +kernel) (by decide +kernel) (by decide +kernel) (by decide +kernel) (by decide +kernel) (by decide +kernel)
theorem prime_37414057161322375957408148834323969 : prime 37414057161322375957408148834323969 :=
 pock 37414057161322375957408148834323969 31559555235898174332301 1185506477568 3 115 [25136521679249, 1255525949] (fun x hx => by
  simp only [List.mem_cons, List.not_mem_nil, or_false] at hx
  rcases hx with rfl | rfl
  ·exact prime_25136521679249
  ·exact prime_1255525949) (by decide +kernel) (by decide +kernel) (by decide +kernel) (by decide +kernel) (by decide +kernel) (by decide +kernel)
theorem prime_613 : prime 613 := z3a 613 24 (by decide) (by decide) (by decide +kernel)
theorem prime_217003 : prime 217003 :=
 pock 217003 613 354 2 18 [613] (fun x hx => by
  simp only [List.mem_cons, List.not_mem_nil, or_false] at hx
  subst hx
  exact prime_613) (by decide +kernel) (by decide +kernel) (by decide +kernel) (by decide +kernel) (by decide +kernel) (by decide +kernel)
theorem prime_1764234391 : prime 1764234391 :=
 pock 1764234391 217003 8130 2 31 [217003] (fun x hx => by
  simp only [List.mem_cons, List.not_mem_nil, or_false] at hx
  subst hx
  exact prime_217003) (by decide +kernel) (by decide +kernel) (by decide +kernel) (by decide +kernel) (by decide +kernel) (by decide +kernel)
theorem prime_34741861125639557 : prime 34741861125639557 :=
 pock 34741861125639557 1764234391 19692316 2 55 [1764234391] (fun x hx => by
  simp only [List.mem_cons, List.not_mem_nil, or_false] at hx
  subst hx
  exact prime_1764234391) (by decide +kernel) (by decide +kernel) (by decide +kernel) (by decide +kernel) (by decide +kernel) (by decide +kernel)
theorem prime_36131535570665139281 : prime 36131535570665139281 :=
 pock 36131535570665139281 34741861125639557 1040 2 65 [34741861125639557] (fun x hx => by
  simp only [List.mem_cons, List.not_mem_nil, or_false] at hx
  subst hx
  exact prime_34741861125639557) (by decide +kernel) (by decide +kernel) (by decide +kernel) (by decide +kernel) (by decide +kernel) (by decide +kernel)
theorem prime_596242599987116128415063 : prime 596242599987116128415063 :=
 pock 596242599987116128415063 36131535570665139281 16502 3 79 [36131535570665139281] (fun x hx => by
  simp only [List.mem_cons, List.not_mem_nil, or_false] at hx
  subst hx
  exact prime_36131535570665139281) (by decide +kernel) (by decide +kernel) (by decide +kernel) (by decide +kernel) (by decide +kernel) (by decide +kernel)
theorem prime_189989 : prime 189989 := z3a 189989 435 (by decide) (by decide) (by decide +kernel)
theorem prime_379979 : prime 379979 :=
 pock 379979 189989 2 2 19 [189989] (fun x hx => by
  simp only [List.mem_cons, List.not_mem_nil, or_false] at hx
  subst hx
  exact prime_189989) (by decide +kernel) (by decide +kernel) (by decide +kernel) (by decide +kernel) (by decide +kernel) (by decide +kernel)
theorem prime_271 : prime 271 := z3a 271 16 (by decide) (by decide) (by decide +kernel)
theorem prime_97859369123353 : prime 97859369123353 :=
 pock 97859369123353 102974309 950328 2 47 [379979, 271] (fun x hx => by
  simp only [List.mem_cons, List.not_mem_nil, or_false] at hx
  rcases hx with rfl | rfl
  ·exact prime_379979
  ·exact prime_271) (by decide +kernel) (by decide +kernel) (by decide +kernel) (by decide +kernel) (by decide +kernel) (by decide +kernel)
theorem prime_167773885276849215533569 : prime 167773885276849215533569 :=
 pock 167773885276849215533569 97859369123353 1714438656 3 78 [97859369123353] (fun x hx => by
  simp only [List.mem_cons, List.not_mem_nil, or_false] at hx
  subst hx
  exact prime_97859369123353) (by decide +kernel) (by decide +kernel) (by decide +kernel) (by decide +kernel) (by decide +kernel) (by decide +kernel)
theorem prime_726838724295606890549323807888004534353641360687318060281490199180612328166730772686396383698676545930088884461843637361053498018365439 : prime 726838724295606890549323807888004534353641360687318060281490199180612328166730772686396383698676545930088884461843637361053498018365439 :=
 pock 726838724295606890549323807888004534353641360687318060281490199180612328166730772686396383698676545930088884461843637361053498018365439 3742675458219183635390415897129183832288399365441851410848587625271384772254182743 194202979234925898177346933672251607077607746688770866 2 448 [37414057161322375957408148834323969, 596242599987116128415063, 167773885276849215533569] (fun x hx => by
  simp only [List.mem_cons, List.not_mem_nil, or_false] at hx
  rcases hx with rfl | rfl | rfl
  ·exact prime_37414057161322375957408148834323969
  ·exact prime_596242599987116128415063
  ·exact prime_167773885276849215533569) (by decide +kernel) (by decide +kernel) (by decide +kernel) (by decide +kernel) (by decide +kernel) (by decide +kernel)
end Go.Proofs.YtgjbonikbmgfmaaGreatDoor
