/-
  No two states become the same: each step of a round can be undone.
-/
import Derived.Test.YtjppmeihobcenaaDoorKecMath
namespace Go.Proofs.YtjppmeihobcenaaDoor

theorem rotl_bit (a : BitVec 64) (k i : Nat) (hi : i < 64) : (rotl a k).getLsbD i = a.getLsbD ((i + (64 - k % 64)) % 64) := by
  unfold rotl
  rw [BitVec.getLsbD_rotateLeft]
  have hk : k % 64 < 64 := Nat.mod_lt _ (by omega)
  generalize k % 64 = m at *
  by_cases h : i < m
  · rw [show (i + (64 - m)) % 64 = 64 - m + i by omega]
    simp [h]
  · rw [show (i + (64 - m)) % 64 = i - m by omega]
    simp [h, hi]
theorem rotl_rotl (a : BitVec 64) (j k : Nat) : rotl (rotl a j) k = rotl a (j + k) := by
  apply BitVec.eq_of_getLsbD_eq
  intro i hi
  rw [rotl_bit _ _ _ hi, rotl_bit _ _ _ (Nat.mod_lt _ (by omega)), rotl_bit _ _ _ hi]
  congr 1
  omega
theorem rotl_xor (a b : BitVec 64) (k : Nat) : rotl (a ^^^ b) k = rotl a k ^^^ rotl b k := by
  apply BitVec.eq_of_getLsbD_eq
  intro i hi
  rw [BitVec.getLsbD_xor, rotl_bit _ _ _ hi, rotl_bit _ _ _ hi, rotl_bit _ _ _ hi, BitVec.getLsbD_xor]
theorem rotl_mod (a : BitVec 64) (k : Nat) : rotl a (k % 64) = rotl a k := by
  apply BitVec.eq_of_getLsbD_eq
  intro i hi
  rw [rotl_bit _ _ _ hi, rotl_bit _ _ _ hi, Nat.mod_mod]
theorem rotl_inj {a b : BitVec 64} (k : Nat) (hk : k < 64) (h : rotl a k = rotl b k) : a = b := by
  have := congrArg (fun c => rotl c (64 - k)) h
  simp only [rotl_rotl] at this
  rw [show k + (64 - k) = 64 by omega] at this
  rw [← rotl_mod a 64, ← rotl_mod b 64] at this
  simpa [rotl_zero] using this

/-- What spread makes of the columns' sums, at a stride of m. -/
def colE (m : Nat) (c : Nat → BitVec 64) (x : Nat) : BitVec 64 := c (x % 5) ^^^ (c ((x + 4 * m) % 5) ^^^ rotl (c ((x + m) % 5)) m)
theorem xor_cancel (a b c d e f : BitVec 64) : (a ^^^ (b ^^^ c)) ^^^ ((b ^^^ (d ^^^ e)) ^^^ (c ^^^ (e ^^^ f))) = a ^^^ (d ^^^ f) := by
  apply BitVec.eq_of_getLsbD_eq
  intro i hi
  simp only [BitVec.getLsbD_xor]
  cases a.getLsbD i <;> cases b.getLsbD i <;> cases c.getLsbD i <;> cases d.getLsbD i <;> cases e.getLsbD i <;> cases f.getLsbD i <;> rfl
theorem colE_twice (m : Nat) (c : Nat → BitVec 64) (x : Nat) : colE m (colE m c) x = colE (2 * m) c x := by
  unfold colE
  rw [show x % 5 % 5 = x % 5 by omega, show (x % 5 + 4 * m) % 5 = (x + 4 * m) % 5 by omega, show (x % 5 + m) % 5 = (x + m) % 5 by omega,
    show (x + 4 * m) % 5 % 5 = (x + 4 * m) % 5 by omega, show ((x + 4 * m) % 5 + 4 * m) % 5 = (x + 4 * (2 * m)) % 5 by omega, show ((x + 4 * m) % 5 + m) % 5 = x % 5 by omega,
    show (x + m) % 5 % 5 = (x + m) % 5 by omega, show ((x + m) % 5 + 4 * m) % 5 = x % 5 by omega, show ((x + m) % 5 + m) % 5 = (x + 2 * m) % 5 by omega,
    rotl_xor, rotl_xor, rotl_rotl, show m + m = 2 * m by omega]
  exact xor_cancel _ _ _ _ _ _
theorem colE_same {m : Nat} {c d : Nat → BitVec 64} (h : ∀ x, colE m c x = colE m d x) : ∀ x, colE (2 * m) c x = colE (2 * m) d x := fun x => by
  rw [← colE_twice, ← colE_twice]
  have : colE m c = colE m d := funext h
  rw [this]
theorem xor_solve (a b c d e : BitVec 64) : (a ^^^ (b ^^^ e)) ^^^ ((c ^^^ (d ^^^ b)) ^^^ (d ^^^ (e ^^^ c))) = a := by
  apply BitVec.eq_of_getLsbD_eq
  intro i hi
  simp only [BitVec.getLsbD_xor]
  cases a.getLsbD i <;> cases b.getLsbD i <;> cases c.getLsbD i <;> cases d.getLsbD i <;> cases e.getLsbD i <;> rfl
theorem colE64 (c : Nat → BitVec 64) (x : Nat) : colE 64 c x = c (x % 5) ^^^ (c ((x + 1) % 5) ^^^ c ((x + 4) % 5)) := by
  unfold colE
  rw [← rotl_mod _ 64, show 64 % 64 = 0 from rfl, rotl_zero, show (x + 4 * 64) % 5 = (x + 1) % 5 by omega, show (x + 64) % 5 = (x + 4) % 5 by omega]
theorem colE64_back (c : Nat → BitVec 64) (x : Nat) (hx : x < 5) : colE 64 c x ^^^ (colE 64 c (x + 2) ^^^ colE 64 c (x + 3)) = c x := by
  rw [colE64, colE64, colE64, show x % 5 = x by omega, show (x + 2 + 1) % 5 = (x + 3) % 5 by omega, show (x + 2 + 4) % 5 = (x + 1) % 5 by omega, show (x + 3 + 1) % 5 = (x + 4) % 5 by omega, show (x + 3 + 4) % 5 = (x + 2) % 5 by omega]
  exact xor_solve _ _ _ _ _
theorem colE_inj {c d : Nat → BitVec 64} (h : ∀ x, colE 1 c x = colE 1 d x) : ∀ x, x < 5 → c x = d x := fun x hx => by
  have h64 : ∀ x, colE 64 c x = colE 64 d x := colE_same (m := 32) (colE_same (m := 16) (colE_same (m := 8) (colE_same (m := 4) (colE_same (m := 2) (colE_same (m := 1) h)))))
  rw [← colE64_back c x hx, ← colE64_back d x hx, h64, h64, h64]

theorem col_five (a b c d e s : BitVec 64) : (a ^^^ s) ^^^ (b ^^^ s) ^^^ (c ^^^ s) ^^^ (d ^^^ s) ^^^ (e ^^^ s) = a ^^^ b ^^^ c ^^^ d ^^^ e ^^^ s := by
  apply BitVec.eq_of_getLsbD_eq
  intro i hi
  simp only [BitVec.getLsbD_xor]
  cases a.getLsbD i <;> cases b.getLsbD i <;> cases c.getLsbD i <;> cases d.getLsbD i <;> cases e.getLsbD i <;> cases s.getLsbD i <;> rfl
theorem colD_cols (f : Nat → BitVec 64) (x : Nat) : colD f x = col f ((x + 4) % 5) ^^^ rotl (col f ((x + 1) % 5)) 1 := by
  rw [colD_at, sums_at _ _ (Nat.mod_lt _ (by omega)), sums_at _ _ (Nat.mod_lt _ (by omega)), rotl_zero]
theorem col_spread (f : Nat → BitVec 64) (x : Nat) : col (spreadF f) (x % 5) = colE 1 (col f) x := by
  have h5 : x % 5 < 5 := Nat.mod_lt _ (by omega)
  have hm : ∀ k, (x % 5 + 5 * k) % 5 = x % 5 := fun k => by omega
  unfold colE
  rw [col, spread_at _ _ (by omega), spread_at _ _ (by omega), spread_at _ _ (by omega), spread_at _ _ (by omega), spread_at _ _ (by omega),
    show (x % 5) % 5 = x % 5 by omega, show (x % 5 + 5) % 5 = x % 5 by omega, show (x % 5 + 10) % 5 = x % 5 by omega, show (x % 5 + 15) % 5 = x % 5 by omega, show (x % 5 + 20) % 5 = x % 5 by omega,
    col_five, colD_cols, show (x % 5 + 4) % 5 = (x + 4 * 1) % 5 by omega, show (x % 5 + 1) % 5 = (x + 1) % 5 by omega]
  rfl
theorem xor_right_inj {a b s : BitVec 64} (h : a ^^^ s = b ^^^ s) : a = b := by
  have := congrArg (fun c => c ^^^ s) h
  simpa [BitVec.xor_assoc] using this
theorem spread_inj {f g : Nat → BitVec 64} (h : ∀ i, i < 25 → spreadF f i = spreadF g i) : ∀ i, i < 25 → f i = g i := fun i hi => by
  have hc : ∀ x, x < 5 → col f x = col g x := colE_inj fun x => by rw [← col_spread, ← col_spread]; exact col_congr h _ (Nat.mod_lt _ (by omega))
  have := h i hi
  rw [spread_at f i hi, spread_at g i hi, colD_cols, colD_cols, hc _ (Nat.mod_lt _ (by omega)), hc _ (Nat.mod_lt _ (by omega))] at this
  exact xor_right_inj this

/-- Where the lane at j goes. -/
def dst (j : Nat) : Nat := j / 5 + 5 * ((2 * (j % 5) + 3 * (j / 5)) % 5)
theorem src_dst : ∀ j, j < 25 → dst j < 25 ∧ src (dst j) = j := by decide
theorem turn_inj {f g : Nat → BitVec 64} (h : ∀ i, i < 25 → turnF f i = turnF g i) : ∀ i, i < 25 → f i = g i := fun j hj => by
  obtain ⟨h1, h2⟩ := src_dst j hj
  have := h (dst j) h1
  rw [turn_at f _ h1, turn_at g _ h1, h2] at this
  exact rotl_inj _ (offs_lt j hj) this

theorem chi_bits : ∀ a b c d e a' b' c' d' e' : Bool, (a ^^ (c && !b)) = (a' ^^ (c' && !b')) → (b ^^ (d && !c)) = (b' ^^ (d' && !c')) → (c ^^ (e && !d)) = (c' ^^ (e' && !d')) →
    (d ^^ (a && !e)) = (d' ^^ (a' && !e')) → (e ^^ (b && !a)) = (e' ^^ (b' && !a')) → a = a' := by decide
theorem chi_inj {a b c d e a' b' c' d' e' : BitVec 64} (h1 : a ^^^ (c &&& ~~~b) = a' ^^^ (c' &&& ~~~b')) (h2 : b ^^^ (d &&& ~~~c) = b' ^^^ (d' &&& ~~~c')) (h3 : c ^^^ (e &&& ~~~d) = c' ^^^ (e' &&& ~~~d'))
    (h4 : d ^^^ (a &&& ~~~e) = d' ^^^ (a' &&& ~~~e')) (h5 : e ^^^ (b &&& ~~~a) = e' ^^^ (b' &&& ~~~a')) : a = a' := by
  apply BitVec.eq_of_getLsbD_eq
  intro i hi
  have g1 := congrArg (fun v => BitVec.getLsbD v i) h1
  have g2 := congrArg (fun v => BitVec.getLsbD v i) h2
  have g3 := congrArg (fun v => BitVec.getLsbD v i) h3
  have g4 := congrArg (fun v => BitVec.getLsbD v i) h4
  have g5 := congrArg (fun v => BitVec.getLsbD v i) h5
  simp only [BitVec.getLsbD_xor, BitVec.getLsbD_and, BitVec.getLsbD_not, hi, decide_true, Bool.true_and] at g1 g2 g3 g4 g5
  exact chi_bits _ _ _ _ _ _ _ _ _ _ g1 g2 g3 g4 g5
theorem bend_inj {f g : Nat → BitVec 64} (h : ∀ i, i < 25 → bendF f i = bendF g i) : ∀ i, i < 25 → f i = g i := fun i hi => by
  have hr : ∀ k, bendF f ((i % 5 + k) % 5 + 5 * (i / 5)) = bendF g ((i % 5 + k) % 5 + 5 * (i / 5)) := fun k => h _ (by omega)
  have e : ∀ (f : Nat → BitVec 64) k, bendF f ((i % 5 + k) % 5 + 5 * (i / 5)) = f ((i % 5 + k) % 5 + 5 * (i / 5)) ^^^ (f ((i % 5 + (k + 2)) % 5 + 5 * (i / 5)) &&& ~~~ f ((i % 5 + (k + 1)) % 5 + 5 * (i / 5))) := fun f k => by
    rw [bend_at f _ (by omega)]
    rw [show (((i % 5 + k) % 5 + 5 * (i / 5)) % 5 + 2) % 5 + 5 * (((i % 5 + k) % 5 + 5 * (i / 5)) / 5) = (i % 5 + (k + 2)) % 5 + 5 * (i / 5) by omega,
      show (((i % 5 + k) % 5 + 5 * (i / 5)) % 5 + 1) % 5 + 5 * (((i % 5 + k) % 5 + 5 * (i / 5)) / 5) = (i % 5 + (k + 1)) % 5 + 5 * (i / 5) by omega]
  have h0 := hr 0
  have h1 := hr 1
  have h2 := hr 2
  have h3 := hr 3
  have h4 := hr 4
  rw [e f, e g] at h0 h1 h2 h3 h4
  have w5 : ∀ k, (i % 5 + (k + 5)) % 5 + 5 * (i / 5) = (i % 5 + k) % 5 + 5 * (i / 5) := fun k => by omega
  simp only [Nat.zero_add, Nat.reduceAdd] at h0 h1 h2 h3 h4
  rw [show (i % 5 + 5) % 5 + 5 * (i / 5) = (i % 5 + 0) % 5 + 5 * (i / 5) from w5 0] at h3 h4
  rw [show (i % 5 + 6) % 5 + 5 * (i / 5) = (i % 5 + 1) % 5 + 5 * (i / 5) from w5 1] at h4
  have := chi_inj h0 h1 h2 h3 h4
  rwa [show (i % 5 + 0) % 5 + 5 * (i / 5) = i by omega] at this

theorem round_inj {f g : Nat → BitVec 64} (r : Nat) (h : ∀ i, i < 25 → roundF f r i = roundF g r i) : ∀ i, i < 25 → f i = g i :=
  spread_inj (turn_inj (bend_inj fun i hi => by
    have := h i hi
    unfold roundF upd at this
    by_cases e : i = 0
    · subst e
      simp only [if_true] at this
      exact xor_right_inj this
    · simpa only [if_neg e] using this))
theorem permTo_inj {f g : Nat → BitVec 64} : ∀ r, (∀ i, i < 25 → permTo f r i = permTo g r i) → ∀ i, i < 25 → f i = g i
  | 0, h => h
  | r + 1, h => permTo_inj r (round_inj r h)
/-- Two states become the same just if they are. -/
theorem perm_same (f g : Nat → BitVec 64) : (∀ i, i < 25 → permF f i = permF g i) ↔ ∀ i, i < 25 → f i = g i :=
  ⟨permTo_inj 24, perm_congr⟩
end Go.Proofs.YtjppmeihobcenaaDoor
