/-
  Lanes of 64 bits as the model's values; arrays of lanes; the bit operations of uint64 said of BitVec 64. No statement is proved here: lemmas for the walks.
-/
import Derived.WalkKit
import Derived.Laws.BitsAllLaws
namespace Go.Proofs.Ytgdfpboccgfadaa
open Go.RowKit

/-- A lane's number, kept closed. -/
def L (b : BitVec 64) : Int := (b.toNat : Int)
/-- A lane as a value. -/
abbrev V (b : BitVec 64) : Value := .int .u64 (L b)
def rotl (a : BitVec 64) (k : Nat) : BitVec 64 := a.rotateLeft k
/-- An array of n lanes. -/
def A (n : Nat) (f : Nat → BitVec 64) : Array Value := Array.ofFn (n := n) fun i => V (f i)
def upd (f : Nat → BitVec 64) (i : Nat) (v : BitVec 64) : Nat → BitVec 64 := fun j => if j = i then v else f j

theorem A_size (n : Nat) (f : Nat → BitVec 64) : (A n f).size = n := by simp [A]
theorem A_get (n : Nat) (f : Nat → BitVec 64) (i : Nat) (h : i < n) : (A n f)[i]? = some (V (f i)) := by
  simp [A, h]
theorem A_set (n : Nat) (f : Nat → BitVec 64) (i : Nat) (v : BitVec 64) : (A n f).setIfInBounds i (V v) = A n (upd f i v) := by
  apply Array.ext_getElem?
  intro j
  by_cases hj : j < n
  · rw [A_get n _ j hj]
    by_cases e : i = j
    · subst e
      simp [upd, A_size, hj]
    · rw [Array.getElem?_setIfInBounds_ne e, A_get n f j hj]
      have e' : ¬ j = i := fun h => e h.symm
      simp [upd, e']
  · rw [Array.getElem?_eq_none (by simpa [A_size] using hj), Array.getElem?_eq_none (by simpa [A_size] using hj)]
theorem A_one (n : Nat) (f : Nat → BitVec 64) : (A n f).all (·.oneCell') = true := by
  rw [Array.all_eq_true]
  intro i hi
  simp [A, Value.oneCell']
theorem A_congr {n : Nat} {f g : Nat → BitVec 64} (h : ∀ i, i < n → f i = g i) : A n f = A n g := by
  apply Array.ext_getElem?
  intro j
  by_cases hj : j < n
  · rw [A_get n _ j hj, A_get n _ j hj, h j hj]
  · rw [Array.getElem?_eq_none (by simpa [A_size] using hj), Array.getElem?_eq_none (by simpa [A_size] using hj)]

attribute [irreducible] A
theorem bv_lt (a : BitVec 64) : a.toNat < 18446744073709551616 := a.isLt
theorem L_bd (a : BitVec 64) : 0 ≤ L a ∧ L a ≤ 18446744073709551615 := by
  have := bv_lt a
  unfold L; omega
theorem L_inj {a b : BitVec 64} : L a = L b ↔ a = b := by
  unfold L
  constructor
  · intro h; exact BitVec.eq_of_toNat_eq (by omega)
  · intro h; rw [h]
@[go_sem] theorem u64_L (a : BitVec 64) : IntKind.u64.wrap (L a) = L a := by
  have := L_bd a
  rw [IntKind.wrap_u64]; omega
@[go_sem] theorem xor_bv (a b : BitVec 64) : bits .xor .u64 (L a) (L b) = L (a ^^^ b) := by
  unfold L; rw [u64_xor_nat _ _ (bv_lt a) (bv_lt b), BitVec.toNat_xor]
@[go_sem] theorem and_bv (a b : BitVec 64) : bits .and .u64 (L a) (L b) = L (a &&& b) := by
  unfold L; rw [u64_and_nat _ _ (bv_lt a) (bv_lt b), BitVec.toNat_and]
@[go_sem] theorem or_bv (a b : BitVec 64) : bits .or .u64 (L a) (L b) = L (a ||| b) := by
  unfold L; rw [u64_or_nat _ _ (bv_lt a) (bv_lt b), BitVec.toNat_or]
@[go_sem] theorem andNot_bv (a b : BitVec 64) : bits .andNot .u64 (L a) (L b) = L (a &&& ~~~b) := by
  unfold L; rw [u64_andNot_nat _ _ (bv_lt a) (bv_lt b), BitVec.toNat_and, BitVec.toNat_not]

/-- 'x << k | x >> (64 - k)', as the walk leaves it. -/
theorem rot_bv (a : BitVec 64) (k : Nat) (hk : k < 64) :
    bits .or .u64 (IntKind.u64.wrap (L a * 2 ^ k)) (L a / 2 ^ (64 - k)) = L (rotl a k) := by
  show bits .or .u64 (IntKind.u64.wrap ((a.toNat : Int) * 2 ^ k)) ((a.toNat : Int) / 2 ^ (64 - k)) = L (rotl a k)
  have e1 : IntKind.u64.wrap ((a.toNat : Int) * 2 ^ k) = L (a <<< k) := by
    unfold L
    rw [IntKind.wrap_u64, BitVec.toNat_shiftLeft, Nat.shiftLeft_eq]
    show _ = ((a.toNat * 2 ^ k % 18446744073709551616 : Nat) : Int)
    rw [Int.natCast_emod, Int.natCast_mul, Int.natCast_pow]
    rfl
  have e2 : ((a.toNat : Int) / 2 ^ (64 - k)) = L (a >>> (64 - k)) := by
    unfold L
    rw [BitVec.toNat_ushiftRight, Nat.shiftRight_eq_div_pow, Int.natCast_ediv, Int.natCast_pow]
    rfl
  rw [e1, e2, or_bv, rotl, BitVec.rotateLeft_def]
  rw [Nat.mod_eq_of_lt hk]
theorem and63 (k : Nat) (hk : k < 64) : bits .and .u64 (k : Int) 63 = (k : Int) := by
  have := u64_and_nat k 63 (by omega) (by omega)
  have e : k &&& 63 = k := by
    have h := Nat.and_two_pow_sub_one_eq_mod k 6
    rw [show (2 ^ 6 - 1 : Nat) = 63 from rfl] at h
    rw [h]; omega
  rw [e] at this
  exact this
end Go.Proofs.Ytgdfpboccgfadaa
