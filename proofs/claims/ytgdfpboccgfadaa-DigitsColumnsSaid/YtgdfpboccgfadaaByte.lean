/-
  Bytes as the model's values; arrays and slices of bytes; the walk's operations on them said of BitVec 8.
-/
import Derived.Test.YtgdfpboccgfadaaChecked
import Derived.Test.YtgdfpboccgfadaaKecRows
import Derived.WalkKit
import Derived.Lib.Hide
import Derived.StillTailTactics
import Derived.Handy
namespace Go.Proofs.Ytgdfpboccgfadaa
open Go.RowKit

/-- A byte's number, kept closed. -/
def U8 (b : BitVec 8) : Int := (b.toNat : Int)
abbrev U (b : BitVec 8) : Value := .int .u8 (U8 b)
/-- An array of n bytes. -/
def AB (n : Nat) (f : Nat → BitVec 8) : Array Value := Array.ofFn (n := n) fun i => U (f i)
def upd8 (f : Nat → BitVec 8) (i : Nat) (v : BitVec 8) : Nat → BitVec 8 := fun j => if j = i then v else f j
theorem AB_size (n : Nat) (f : Nat → BitVec 8) : (AB n f).size = n := by simp [AB]
theorem AB_get (n : Nat) (f : Nat → BitVec 8) (i : Nat) (h : i < n) : (AB n f)[i]? = some (U (f i)) := by simp [AB, h]
theorem AB_set (n : Nat) (f : Nat → BitVec 8) (i : Nat) (v : BitVec 8) : (AB n f).setIfInBounds i (U v) = AB n (upd8 f i v) := by
  apply Array.ext_getElem?
  intro j
  by_cases hj : j < n
  · rw [AB_get n _ j hj]
    by_cases e : i = j
    · subst e
      simp [upd8, AB_size, hj]
    · rw [Array.getElem?_setIfInBounds_ne e, AB_get n f j hj]
      have e' : ¬ j = i := fun h => e h.symm
      simp [upd8, e']
  · rw [Array.getElem?_eq_none (by simpa [AB_size] using hj), Array.getElem?_eq_none (by simpa [AB_size] using hj)]
theorem AB_zero (n : Nat) : AB n (fun _ => 0) = Array.replicate n (.int .u8 0) := by
  apply Array.ext_getElem?
  intro j
  by_cases hj : j < n
  · rw [AB_get n _ j hj]
    simp [hj]
    rfl
  · rw [Array.getElem?_eq_none (by simpa [AB_size] using hj), Array.getElem?_eq_none (by simpa using hj)]
theorem AB_congr {n : Nat} {f g : Nat → BitVec 8} (h : ∀ i, i < n → f i = g i) : AB n f = AB n g := by
  apply Array.ext_getElem?
  intro j
  by_cases hj : j < n
  · rw [AB_get n _ j hj, AB_get n _ j hj, h j hj]
  · rw [Array.getElem?_eq_none (by simpa [AB_size] using hj), Array.getElem?_eq_none (by simpa [AB_size] using hj)]
attribute [irreducible] AB
theorem U8_bd (b : BitVec 8) : 0 ≤ U8 b ∧ U8 b ≤ 255 := by
  have := b.isLt
  unfold U8; omega
theorem U8_inj {a b : BitVec 8} : U8 a = U8 b ↔ a = b := by
  unfold U8
  constructor
  · intro h; exact BitVec.eq_of_toNat_eq (by omega)
  · intro h; rw [h]
/-- A byte as a lane; the byte of a lane from bit k on. -/
def zx (b : BitVec 8) : BitVec 64 := b.setWidth 64
def low8 (x : BitVec 64) : BitVec 8 := x.setWidth 8
def shl (x : BitVec 64) (k : Nat) : BitVec 64 := x <<< k
def shr (x : BitVec 64) (k : Nat) : BitVec 64 := x >>> k
@[go_sem] theorem u64_U8 (b : BitVec 8) : IntKind.u64.wrap (U8 b) = L (zx b) := by
  have := b.isLt
  rw [IntKind.wrap_u64]
  unfold U8 L zx
  rw [BitVec.toNat_setWidth, Nat.mod_eq_of_lt (by omega)]
  omega
@[go_sem] theorem u64_shl (x : BitVec 64) (k : Nat) : IntKind.u64.wrap (L x * 2 ^ k) = L (shl x k) := by
  unfold L shl
  rw [IntKind.wrap_u64, BitVec.toNat_shiftLeft, Nat.shiftLeft_eq]
  show _ = ((x.toNat * 2 ^ k % 18446744073709551616 : Nat) : Int)
  rw [Int.natCast_emod, Int.natCast_mul, Int.natCast_pow]
  rfl
@[go_sem] theorem u64_shr (x : BitVec 64) (k : Nat) : L x / 2 ^ k = L (shr x k) := by
  unfold L shr
  rw [BitVec.toNat_ushiftRight, Nat.shiftRight_eq_div_pow, Int.natCast_ediv, Int.natCast_pow]
  rfl
@[go_sem] theorem u8_L (x : BitVec 64) : IntKind.u8.wrap (L x) = U8 (low8 x) := by
  rw [IntKind.wrap_u8]
  unfold L U8 low8
  rw [BitVec.toNat_setWidth]
  omega
@[go_sem] theorem u8_U8 (b : BitVec 8) : IntKind.u8.wrap (U8 b) = U8 b := by
  have := U8_bd b
  rw [IntKind.wrap_u8]; omega
@[go_sem] theorem u8_inc (b : BitVec 8) : IntKind.u8.wrap (U8 b + 1) = U8 (b + 1) := by
  rw [IntKind.wrap_u8]
  unfold U8
  rw [BitVec.toNat_add]
  show _ = (((b.toNat + 1) % 256 : Nat) : Int)
  omega
@[go_sem] theorem xor_u8 (a b : BitVec 8) : bits .xor .u8 (U8 a) (U8 b) = U8 (a ^^^ b) := by
  have h1 := a.isLt
  have h2 := b.isLt
  unfold U8
  rw [u8_xor_nat _ _ (by omega) (by omega), BitVec.toNat_xor]
theorem neq_U8 (a b : BitVec 8) : (U8 a != U8 b) = (a != b) := by
  rw [Bool.eq_iff_iff, bne_iff_ne, bne_iff_ne]
  exact not_congr U8_inj

/-- A slice of n bytes, nil let in, that lies below block B. -/
structure Sl (w : World) (B : Nat) (a : Option Addr) (n c : Nat) (f : Nat → BitVec 8) : Prop where
  le : n ≤ c
  nil : a = none → c = 0
  low : ∀ ad, a = some ad → 0 < n → ∃ b o, ad = ⟨b, o, none⟩ ∧ b < B ∧ ∀ i, i < n → w.cell? ⟨b, o + i, none⟩ = some (U (f i))
section
variable {w w' : World} {B : Nat} {a : Option Addr} {n c : Nat} {f : Nat → BitVec 8}
theorem Sl.get (h : Sl w B a n c f) (i : Nat) (hi : i < n) : ∃ b o, a = some ⟨b, o, none⟩ ∧ b < B ∧ w.cell? ⟨b, o + i, none⟩ = some (U (f i)) := by
  cases ha : a with
  | none =>
    have h1 := h.nil ha
    have h2 := h.le
    exfalso; omega
  | some ad =>
    obtain ⟨b, o, rfl, hb, hc⟩ := h.low ad ha (by omega)
    exact ⟨b, o, rfl, hb, hc i hi⟩
theorem Sl.below (h : Sl w B a n c f) (hb : Below B w w') : Sl w' B a n c f :=
  ⟨h.le, h.nil, fun ad ha h0 => by
    obtain ⟨b, o, rfl, hlt, hc⟩ := h.low ad ha h0
    exact ⟨b, o, rfl, hlt, fun i hi => (hb.cell (p := ⟨b, o + i, none⟩) hlt).trans (hc i hi)⟩⟩
theorem Sl.more {B' : Nat} (h : Sl w B a n c f) (hB : B ≤ B') : Sl w B' a n c f :=
  ⟨h.le, h.nil, fun ad ha h0 => by
    obtain ⟨b, o, rfl, hlt, hc⟩ := h.low ad ha h0
    exact ⟨b, o, rfl, by omega, hc⟩⟩
theorem Sl.congr {g : Nat → BitVec 8} (h : Sl w B a n c f) (hg : ∀ i, i < n → f i = g i) : Sl w B a n c g :=
  ⟨h.le, h.nil, fun ad ha h0 => by
    obtain ⟨b, o, rfl, hlt, hc⟩ := h.low ad ha h0
    exact ⟨b, o, rfl, hlt, fun i hi => by rw [← hg i hi]; exact hc i hi⟩⟩
/-- A slice over a block of its own. -/
theorem Sl.own {g m : Nat} {t : TypeId} (hg : w.heap[g]? = some (.cells (AB m f) t)) (hm : n ≤ m) (hc : n ≤ c) (hB : g < B) : Sl w B (some ⟨g, 0, none⟩) n c f :=
  ⟨hc, (fun h => by cases h), fun ad ha _ => ⟨g, 0, (Option.some.inj ha).symm, hB, fun i hi => by rw [Nat.zero_add, cell_of_row _ _ _ _ _ _ hg, AB_get _ _ _ (by omega)]⟩⟩
end
end Go.Proofs.Ytgdfpboccgfadaa
