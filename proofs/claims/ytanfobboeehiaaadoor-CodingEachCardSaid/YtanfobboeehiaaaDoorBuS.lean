/-
  Lemmas for the walks, several texts in one. No statement is proved here.
-/
import Derived.Test.YtanfobboeehiaaaDoorBuP
import Derived.Test.YtanfobboeehiaaaDoorBuN
import Derived.Test.YtanfobboeehiaaaDoorBuR
/-
  Numbers modulo L, what goes beyond 2^446 coming in again: plain mathematics, no program. No statement is proved here: lemmas for the walks.
-/
namespace Go.Proofs.YtanfobboeehiaaaDoor

/-- L; 2^446 less L; 2^446; 2^448. -/
def lN : Nat := 181709681073901722637330951972001133588410340171829515070372549795146003961539585716195755291692375963310293709091662304773755859649779
def rN : Nat := 0x8335dc163bb124b65129c96fde933d8d723a70aadc873d6d54a7bb0d
def qN : Nat := 181709681073901722637330951972001133588410340171829515070372549795159822028349480831547762678440891390190630401566544483383650407153664
def tN : Nat := 726838724295606890549323807888004534353641360687318060281490199180639288113397923326191050713763565560762521606266177933534601628614656
theorem lN_prime : prime lN := prime_181709681073901722637330951972001133588410340171829515070372549795146003961539585716195755291692375963310293709091662304773755859649779
theorem qN_eq : qN = lN + rN := by decide +kernel
theorem tN_eq : tN = 4 * qN := by decide +kernel
theorem qN_pow : ∀ e, e = 446 → 2 ^ e = qN := by
  intro e he
  have h : (2 ^ e == qN) = true := by rw [he]; decide +kernel
  exact eq_of_beq h
theorem tN_pow : ∀ e, e = 448 → 2 ^ e = tN := by
  intro e he
  have h : (2 ^ e == tN) = true := by rw [he]; decide +kernel
  exact eq_of_beq h
theorem tN_words : ∀ k, k = 7 → 2 ^ (64 * k) = tN := fun k h => tN_pow _ (by omega)
theorem lN_pos : 0 < lN := by decide +kernel
theorem lN_lt_t : lN < tN := by decide +kernel
theorem two_lN_lt_t : 2 * lN < tN := by decide +kernel
theorem lN_odd : lN % 2 = 1 := by decide +kernel
theorem lN_two : 2 < lN := by decide +kernel
instance nz_lN : NeZero lN := ⟨by decide +kernel⟩
/-- What goes beyond comes in again. -/
def fold (x : Nat) : Nat := x % qN + x / qN * rN
theorem foldS_gen (x P l r : Nat) (h : P = l + r) : (x % P + x / P * r) % l = x % l := by
  have e : x = x % P + x / P * r + l * (x / P) := by
    have h1 := Nat.div_add_mod x P
    have h2 : P * (x / P) = l * (x / P) + x / P * r := by rw [h, Nat.add_mul, Nat.mul_comm r]
    omega
  conv => rhs; rw [e]
  rw [Nat.add_mul_mod_self_left]
theorem fold_mod (x : Nat) : fold x % lN = x % lN := foldS_gen x qN lN rN qN_eq
theorem fold_gen_lt {x B C q r : Nat} (h : x < B) (hq : 0 < q) (hb : q + B / q * r ≤ C) : x % q + x / q * r < C := by
  have h1 := Nat.mod_lt x hq
  have h2 : x / q ≤ B / q := Nat.div_le_div_right (Nat.le_of_lt h)
  have h3 := Nat.mul_le_mul_right r h2
  omega
theorem leb {a b : Nat} (h : Nat.ble a b = true) : a ≤ b := Nat.le_of_ble_eq_true h
theorem fold_16 {x : Nat} (h : x < 2 ^ (64 * 16)) : fold x < 2 ^ (64 * 13) := fold_gen_lt h (by decide +kernel) (leb (by decide +kernel))
theorem fold_13 {x : Nat} (h : x < 2 ^ (64 * 13)) : fold x < 2 ^ (64 * 10) := fold_gen_lt h (by decide +kernel) (leb (by decide +kernel))
theorem fold_10 {x : Nat} (h : x < 2 ^ (64 * 10)) : fold x < 2 * lN := fold_gen_lt h (by decide +kernel) (leb (by decide +kernel))
/-- What is beyond has few words. -/
theorem beyond_gen {x B q C : Nat} (h : x < B) (hb : B / q < C) : x / q < C := Nat.lt_of_le_of_lt (Nat.div_le_div_right (Nat.le_of_lt h)) hb
theorem beyond_16 {x : Nat} (h : x < 2 ^ (64 * 16)) : x / qN < 2 ^ (64 * 10) := beyond_gen h (leb (by decide +kernel))
theorem beyond_13 {x : Nat} (h : x < 2 ^ (64 * 13)) : x / qN < 2 ^ (64 * 7) := beyond_gen h (leb (by decide +kernel))
theorem beyond_10 {x : Nat} (h : x < 2 ^ (64 * 10)) : x / qN < 2 ^ (64 * 4) := beyond_gen h (leb (by decide +kernel))
/-- Half of a number modulo an odd one. -/
def hf (x : Nat) : Nat := (x + (if x % 2 = 1 then lN else 0)) / 2
theorem hf_lt {x : Nat} (h : x < lN) : hf x < lN := by
  unfold hf
  have := lN_odd
  split <;> omega
theorem hf_two {x : Nat} (h : x < lN) : (hf x + hf x) % lN = x := by
  unfold hf
  have := lN_odd
  split
  · rename_i h1
    rw [show (x + lN) / 2 + (x + lN) / 2 = x + lN by omega, Nat.add_mod_right, Nat.mod_eq_of_lt h]
  · rename_i h1
    rw [show (x + 0) / 2 + (x + 0) / 2 = x by omega, Nat.mod_eq_of_lt h]
/-- The scalars. -/
abbrev KL := Fin lN
def haK (a : KL) : KL := ⟨hf a.val, hf_lt a.isLt⟩
theorem haK_two (a : KL) : haK a + haK a = a := Fin.ext (by rw [Fin.val_add]; exact hf_two a.isLt)
/-- A number of any sign as a scalar. -/
def ofL (n : Int) : KL := ⟨(n % (lN : Int)).toNat, by
  have h0 : (0 : Int) < (lN : Int) := by have := lN_pos; omega
  have h1 := Int.emod_lt_of_pos n h0
  have h2 := Int.emod_nonneg n (show (lN : Int) ≠ 0 by omega)
  omega⟩
theorem ofL_nat (n : Nat) : (ofL n).val = n % lN := by
  show ((n : Int) % (lN : Int)).toNat = _
  rw [← Int.natCast_emod, Int.toNat_natCast]
theorem ofL_one : ofL 1 = 1 := Fin.ext (by
  rw [show ((1 : Int)) = ((1 : Nat) : Int) from rfl, ofL_nat]
  rfl)
theorem ofL_neg (n : Int) : ofL (-n) = -ofL n := by
  apply Fin.ext
  show ((-n) % (lN : Int)).toNat = (lN - (n % (lN : Int)).toNat) % lN
  have h0 : (0 : Int) < (lN : Int) := by have := lN_pos; omega
  have h1 := Int.emod_lt_of_pos n h0
  have h2 := Int.emod_nonneg n (show (lN : Int) ≠ 0 by omega)
  rcases Int.lt_or_eq_of_le h2 with h3 | h3
  · have e : (-n) % (lN : Int) = (lN : Int) - n % (lN : Int) := by
      rw [← Int.add_mul_emod_self_left (-n) (lN : Int) (n / (lN : Int) + 1)]
      have h4 := Int.mul_ediv_add_emod n (lN : Int)
      have h5 : -n + (lN : Int) * (n / (lN : Int) + 1) = (lN : Int) - n % (lN : Int) := by
        rw [Int.mul_add]; omega
      rw [h5]
      exact Int.emod_eq_of_lt (by omega) (by omega)
    rw [e, Nat.mod_eq_of_lt (by omega)]
    omega
  · have e : (-n) % (lN : Int) = 0 := Int.emod_eq_zero_of_dvd (Int.dvd_neg.2 (Int.dvd_of_emod_eq_zero h3.symm))
    rw [e, ← h3]
    simp
theorem ofL_add (m n : Int) : ofL (m + n) = ofL m + ofL n := by
  apply Fin.ext
  rw [Fin.val_add]
  show ((m + n) % (lN : Int)).toNat = ((m % (lN : Int)).toNat + (n % (lN : Int)).toNat) % lN
  have h0 : (0 : Int) < (lN : Int) := by have := lN_pos; omega
  have h1 := Int.emod_nonneg m (show (lN : Int) ≠ 0 by omega)
  have h2 := Int.emod_nonneg n (show (lN : Int) ≠ 0 by omega)
  rw [Int.add_emod]
  generalize m % (lN : Int) = u at *
  generalize n % (lN : Int) = v at *
  obtain ⟨u, rfl⟩ := Int.eq_ofNat_of_zero_le h1
  obtain ⟨v, rfl⟩ := Int.eq_ofNat_of_zero_le h2
  show (((u : Int) + (v : Int)) % (lN : Int)).toNat = (u + v) % lN
  rw [← Int.natCast_add, ← Int.natCast_emod, Int.toNat_natCast]
theorem ofL_mul (m n : Int) : ofL (m * n) = ofL m * ofL n := by
  apply Fin.ext
  rw [Fin.val_mul]
  show ((m * n) % (lN : Int)).toNat = ((m % (lN : Int)).toNat * (n % (lN : Int)).toNat) % lN
  have h0 : (0 : Int) < (lN : Int) := by have := lN_pos; omega
  have h1 := Int.emod_nonneg m (show (lN : Int) ≠ 0 by omega)
  have h2 := Int.emod_nonneg n (show (lN : Int) ≠ 0 by omega)
  rw [Int.mul_emod]
  generalize m % (lN : Int) = u at *
  generalize n % (lN : Int) = v at *
  obtain ⟨u, rfl⟩ := Int.eq_ofNat_of_zero_le h1
  obtain ⟨v, rfl⟩ := Int.eq_ofNat_of_zero_le h2
  show (((u : Int) * (v : Int)) % (lN : Int)).toNat = u * v % lN
  rw [← Int.natCast_mul, ← Int.natCast_emod, Int.toNat_natCast]
end Go.Proofs.YtanfobboeehiaaaDoor

/-
  The contracts of chicoryref06's digit and L. No statement is proved here: lemmas for the walks.
-/
namespace Go.Proofs.YtanfobboeehiaaaDoor
open Go.RowKit

/-- L's text, and its digits. -/
def chL : List Nat := [56, 51, 51, 53, 100, 99, 49, 54, 51, 98, 98, 49, 50, 52, 98, 54, 53, 49, 50, 57, 99, 57, 54, 102, 100, 101, 57, 51, 51, 100, 56, 100, 55, 50, 51, 97, 55, 48, 97, 97, 100, 99, 56, 55, 51, 100, 54, 100, 53, 52, 97, 55, 98, 98, 48, 100]
def ch (i : Nat) : Nat := chL.getD i 0
def txL : ByteArray := ⟨#[56, 51, 51, 53, 100, 99, 49, 54, 51, 98, 98, 49, 50, 52, 98, 54, 53, 49, 50, 57, 99, 57, 54, 102, 100, 101, 57, 51, 51, 100, 56, 100, 55, 50, 51, 97, 55, 48, 97, 97, 100, 99, 56, 55, 51, 100, 54, 100, 53, 52, 97, 55, 98, 98, 48, 100]⟩
def hxd (n : Nat) : Nat := if 97 ≤ n then n - 87 else n - 48
theorem txL_at : ∀ i, i < 56 → txL[i]? = some (UInt8.ofNat (ch i)) := by decide +kernel
theorem ch_ok : ∀ i, i < 56 → (48 ≤ ch i ∧ ch i < 58) ∨ (97 ≤ ch i ∧ ch i < 103) := by decide +kernel
theorem ch_pair : ∀ k, k < 28 → 16 * hxd (ch (54 - 2 * k)) + hxd (ch (55 - 2 * k)) = dg rN k := by decide +kernel

















theorem exec_char {e : Operand → Value} {o : Oper} {x y : Operand} {S : ByteArray} {k : IntKind} {i n : Nat} (ho : o.op = .index 9 x y) (hx : e x = .string S) (hy : e y = .int k (i : Int)) (hs : S[i]? = some (UInt8.ofNat n)) (hn : n < 256) (w : World) :
    (execOp e o).run Tryd.prog w = .ok (.value (.int .u8 (n : Int))) w := by
  have h2 : (UInt8.ofNat n).toNat = n := by rw [UInt8.toNat_ofNat']; exact Nat.mod_eq_of_lt hn
  have h1 : (Instr.index 9 (.string S) (.int k (i : Int))).run Tryd.prog w = .ok (.int .u8 (n : Int)) w := by
    unfold Instr.index
    simp only [asIntOf, Sem.run_bind, Sem.run_pure, Result.andThen_ok, run_underlying Tryd.underlying9 w]
    rw [if_pos (by omega), Int.toNat_natCast, hs]
    show (Sem.run Tryd.prog (pure (Value.int .u8 (((UInt8.ofNat n).toNat : Nat) : Int))) w) = _
    rw [h2]
    rfl
  unfold execOp
  simp only [ho, hx, hy, Sem.run_bind, h1, Result.andThen_ok]
  rfl
section
variable {o : Oper} {a : Act} {w : World} {K : Act → World → Prop} {Q : Exit → Act → World → Prop}
/-- A slice of one byte is made, in any world. -/
theorem wp_oneByte (dd : Tmp) (hd : o.dst = some dd) {v : BitVec 8} {x : Operand} (ho : o.op = .buildSlice 34 1 #[(0, x)]) (hx : a.eval x = U v)
    (h : ∀ w' g, w'.cell? ⟨g, 0, none⟩ = some (U v) → (∃ ob, w' = w.alloc ob) → K (a.put (some dd) (.slice (some ⟨g, 0, none⟩) 1 1)) w') : o.wp Tryd.prog a w K Q := by
  obtain ⟨i, hi, hz, hs, _⟩ := info_u8
  refine Go.wp_buildSlice 34 5 1 _ ho #[U v] i _ Tryd.underlying34 hi hz (by rw [hs]; decide) (by rw [hs]; decide) (by rw [hs]; simp [Instr.fill, hx, Array.range, Value.cells]; exact Array.ext (by simp) (fun j h1 h2 => by obtain rfl : j = 0 := (by simpa using h2); simp)) ?_
  rw [hd]
  exact h _ _ (by simp) ⟨_, rfl⟩
/-- One byte is appended to a row of the call's own. -/
theorem wp_appendB (dd : Tmp) (hd : o.dst = some dd) {s x : Operand} (ho : o.op = .call { callee := .builtin .append, args := #[s, x], argTypes := #[34, 34] }) {v : Value} (hs : a.eval s = v)
    {gx cx : Nat} (hx : a.eval x = .slice (some ⟨gx, 0, none⟩) 1 cx) {base n : Nat} {f : Nat → BitVec 8} (hc : w.cell? ⟨gx, 0, none⟩ = some (U (f n))) (hown : OwnB w base v n f) (hn : n ≤ 100000) (hbase : base ≤ w.heap.size)
    (h : ∀ v' w', OwnB w' base v' (n + 1) f → Below base w w' → K (a.put (some dd) v') w') : o.wp Tryd.prog a w K Q := by
  obtain ⟨i, hi, hz, hsz, hby⟩ := info_u8
  rw [← hd] at h
  refine wp_append_own w s x _ ho base 5 i (.int .u8 0) 1 1 Tryd.underlying34 hi hz hsz hby rfl (by omega) v n _ hs hown
    ⟨gx, 0, none⟩ 1 cx [U (f n)] hx rfl (fun j u hu => ?_) (fun u hu => ?_) (by unfold maxLen; omega) (by omega) hbase ?_
  · have hj : j = 0 := by
      rcases j with _ | j
      · rfl
      · simp at hu
    subst hj
    simp at hu
    rw [Addr.add_mid, Nat.add_zero, hc, ← hu]
  · simp at hu
    subst hu
    rfl
  · intro v' w' ho' hgrow _
    refine h v' w' ?_ ((Below.refl _ _).grown hgrow hbase fun k hk => ?_)
    · unfold OwnB
      rw [List.range_succ, List.map_append]
      exact ho'
    · obtain ⟨_, hv⟩ := hown
      rcases hv with ⟨rfl, _⟩ | ⟨g, cap, cur, rfl, hg, _⟩
      · cases hk
      · have : g = k := by simpa [Value.ownBlock] using hk
        omega
end
theorem OwnB.drew {w : World} {base : Nat} {v : Value} {n : Nat} {f : Nat → BitVec 8} (h : OwnB w base v n f) : OwnB w.drew base v n f := h
theorem OwnB.made {w w' : World} {base : Nat} {v : Value} {n : Nat} {f : Nat → BitVec 8} (h : OwnB w base v n f) (he : ∃ ob, w' = w.alloc ob) : OwnB w' base v n f := by
  obtain ⟨ob, rfl⟩ := he
  exact h.alloc ob
theorem Below.made {w w' W : World} {B : Nat} (h : Below B W w) (hB : B ≤ w.heap.size) (he : ∃ ob, w' = w.alloc ob) : Below B W w' := by
  obtain ⟨ob, rfl⟩ := he
  exact h.alloc hB ob
theorem rN_fits8 : rN < 2 ^ (8 * 28) := by
  have h : Nat.blt rN (2 ^ (8 * 28)) = true := by decide +kernel
  exact Nat.le_of_ble_eq_true h
theorem qN_at (j : Nat) : upd8 (fun _ => 0) 55 64 j = bt qN j := by
  obtain ⟨e, he⟩ : ∃ e, e = 446 := ⟨_, rfl⟩
  rw [← qN_pow e he]
  apply BitVec.eq_of_getLsbD_eq
  intro k hk
  rw [bt_bit, Nat.testBit_two_pow]
  unfold upd8
  by_cases h : j = 55
  · subst h
    rw [if_pos rfl]
    rcases (by omega : k = 0 ∨ k = 1 ∨ k = 2 ∨ k = 3 ∨ k = 4 ∨ k = 5 ∨ k = 6 ∨ k = 7) with rfl | rfl | rfl | rfl | rfl | rfl | rfl | rfl <;> subst he <;> decide
  · rw [if_neg h]
    have h1 : ¬ e = 8 * j + k := by omega
    simp [h1]
theorem qN_fits : qN < 2 ^ (8 * 56) := leb (by decide +kernel)
theorem rN_le : rN ≤ qN := leb (by decide +kernel)
theorem qN_sub : qN - rN = lN := by rw [qN_eq, Nat.add_sub_cancel]
theorem lN_len : dl 8 lN = 56 := dl_eq (by omega) (Nat.lt_of_le_of_lt (by rw [qN_eq]; exact Nat.le_add_right _ _) qN_fits) (.inr (leb (by decide +kernel)))




























































































































































end Go.Proofs.YtanfobboeehiaaaDoor
