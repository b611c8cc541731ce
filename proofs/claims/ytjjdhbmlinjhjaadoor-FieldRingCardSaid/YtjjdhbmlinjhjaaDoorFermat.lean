/-
  Fermat's little theorem. Plain mathematics, no program. No statement is proved here.
-/
import Derived.Test.YtjjdhbmlinjhjaaDoorPrime
namespace Go.Proofs.YtjjdhbmlinjhjaaDoor

theorem same_members {l m : List Nat} (hl : l.Nodup) (_hm : m.Nodup) (hs : ∀ x ∈ l, x ∈ m) (hlen : l.length = m.length) : ∀ x, x ∈ m → x ∈ l := by
  intro x hx
  by_cases h : x ∈ l
  · exact h
  · exfalso
    have h1 : (x :: l).Nodup := List.nodup_cons.2 ⟨h, hl⟩
    have h2 := List.Nodup.length_le_of_subset h1 (show ∀ y ∈ x :: l, y ∈ m from fun y hy => by
      rcases List.mem_cons.1 hy with rfl | hy
      · exact hx
      · exact hs y hy)
    simp at h2
    omega
theorem perm_of {l m : List Nat} (hl : l.Nodup) (hm : m.Nodup) (hs : ∀ x ∈ l, x ∈ m) (hlen : l.length = m.length) : l.Perm m := by
  rw [List.perm_iff_count]
  intro a
  have h := same_members hl hm hs hlen
  by_cases ha : a ∈ l
  · rw [hl.count, hm.count, if_pos ha, if_pos (hs a ha)]
  · rw [hl.count, hm.count, if_neg ha, if_neg fun h' => ha (h a h')]
def prod (l : List Nat) : Nat := l.foldr (· * ·) 1
theorem prod_perm {l m : List Nat} (h : l.Perm m) : prod l = prod m := by
  induction h with
  | nil => rfl
  | cons x _ ih => exact congrArg (x * ·) ih
  | swap x y l => exact Nat.mul_left_comm _ _ _
  | trans _ _ h1 h2 => exact h1.trans h2
theorem prod_map (a p : Nat) : ∀ l : List Nat, prod (l.map fun i => a * i % p) % p = a ^ l.length * prod l % p
  | [] => by simp [prod]
  | x :: l => by
    have ih := prod_map a p l
    show (a * x % p) * prod (l.map fun i => a * i % p) % p = a ^ (l.length + 1) * (x * prod l) % p
    rw [Nat.mul_mod, Nat.mod_mod, ih, ← Nat.mul_mod, Nat.pow_succ]
    congr 1
    ac_rfl
/-- A prime that divides no element divides no product. -/
theorem prod_free {p : Nat} (hp : prime p) : ∀ l : List Nat, (∀ x ∈ l, ¬ p ∣ x) → ¬ p ∣ prod l
  | [], _, h => by
    have h1 := Nat.le_of_dvd (by omega) (show p ∣ 1 from h)
    have := hp.1
    omega
  | x :: l, hl, h => by
    rcases euclid hp (show p ∣ x * prod l from h) with h1 | h1
    · exact hl x (by simp) h1
    · exact prod_free hp l (fun y hy => hl y (List.mem_cons_of_mem _ hy)) h1
theorem mod_dvd {p x y : Nat} (h : x ≤ y) : x % p = y % p ↔ p ∣ y - x := by
  constructor
  · intro e
    exact Nat.dvd_of_mod_eq_zero (Nat.sub_mod_eq_zero_of_mod_eq e.symm)
  · rintro ⟨k, hk⟩
    rw [show y = x + p * k by omega, Nat.add_mul_mod_self_left]
/-- What is the same times a, modulo a prime, is the same. -/
theorem cancel {p a x y : Nat} (hp : prime p) (ha : ¬ p ∣ a) (h : a * x % p = a * y % p) : x % p = y % p := by
  have key : ∀ x y : Nat, x ≤ y → a * x % p = a * y % p → x % p = y % p := by
    intro x y hxy h
    have h1 : p ∣ a * y - a * x := (mod_dvd (Nat.mul_le_mul_left a hxy)).1 h
    rw [← Nat.mul_sub] at h1
    rcases euclid hp h1 with h2 | h2
    · exact absurd h2 ha
    · exact (mod_dvd hxy).2 h2
  rcases Nat.le_total x y with h1 | h1
  · exact key x y h1 h
  · exact (key y x h1 h.symm).symm
theorem fermat {p a : Nat} (hp : prime p) (ha : ¬ p ∣ a) : a ^ (p - 1) % p = 1 := by
  have hp1 := hp.1
  obtain ⟨l, hl⟩ : ∃ l : List Nat, l = (List.range (p - 1)).map (· + 1) := ⟨_, rfl⟩
  have hmem : ∀ x, x ∈ l ↔ 0 < x ∧ x < p := by
    intro x
    rw [hl, List.mem_map]
    constructor
    · rintro ⟨i, hi, rfl⟩
      have := List.mem_range.1 hi
      omega
    · intro ⟨h1, h2⟩
      exact ⟨x - 1, List.mem_range.2 (by omega), by omega⟩
  have hnd : l.Nodup := by
    rw [hl, List.Nodup, List.pairwise_map]
    exact (List.pairwise_lt_range (n := p - 1)).imp fun h => by omega
  have hfree : ∀ x ∈ l, ¬ p ∣ x := by
    intro x hx h
    have h1 := (hmem x).1 hx
    have := Nat.le_of_dvd h1.1 h
    omega
  have hlen : l.length = p - 1 := by rw [hl]; simp
  have hmnd : (l.map fun i => a * i % p).Nodup := by
    rw [List.Nodup, List.pairwise_map]
    refine List.Pairwise.imp_of_mem ?_ hnd
    intro x y hx hy hne he
    have h1 := cancel hp ha he
    rw [Nat.mod_eq_of_lt ((hmem x).1 hx).2, Nat.mod_eq_of_lt ((hmem y).1 hy).2] at h1
    exact hne h1
  have hms : ∀ x ∈ l.map (fun i => a * i % p), x ∈ l := by
    intro x hx
    obtain ⟨i, hi, rfl⟩ := List.mem_map.1 hx
    refine (hmem _).2 ⟨Nat.pos_of_ne_zero fun h0 => ?_, Nat.mod_lt _ (by omega)⟩
    rcases euclid hp (Nat.dvd_of_mod_eq_zero h0) with h1 | h1
    · exact ha h1
    · exact hfree i hi h1
  have hperm := prod_perm (perm_of hmnd hnd hms (by simp))
  have h1 := prod_map a p l
  rw [hperm, hlen] at h1
  have h2 : prod l * (a ^ (p - 1)) % p = prod l * 1 % p := by rw [Nat.mul_one, Nat.mul_comm]; exact h1.symm
  have h3 := cancel hp (prod_free hp l hfree) h2
  rw [h3, Nat.mod_eq_of_lt hp1]
end Go.Proofs.YtjjdhbmlinjhjaaDoor
