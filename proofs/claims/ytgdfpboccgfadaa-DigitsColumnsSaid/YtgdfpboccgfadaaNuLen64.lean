/-
  The contract of math/bits.Len64.
-/
import Derived.Test.YtgdfpboccgfadaaNuMul64
import Derived.Lib.Strings
import Derived.Lib.Slices
import Derived.Lib.Small
import Derived.Lib.Walk
import Derived.Lib.BitFns
namespace Go.Proofs.Ytgdfpboccgfadaa
open Go.RowKit
@[go_sem high] theorem len8_lt {P : Program} (w : World) (t : TypeId) (k : IntKind) (i : Int) (h : P.underlying t = some .string) (h0 : 0 ≤ i) (h1 : i < 256) :
    (Instr.index t (.string Lib.len8tab) (.int k i)).run P w = .ok (.int .u8 (Lib.len8 i)) w := Lib.run_index_len8tab w t k i h h0 (by omega)
theorem wrap_wrap (m : Nat) (h : m ≤ 8) : wrap64 (wrap64 (m : Int)) = (m : Int) := by
  simp only [wrap64]
  omega
theorem nwrap_sum (k m : Nat) (hk : k ≤ 56) (h : m ≤ 8) : wrap64 ((k : Int) + wrap64 (m : Int)) = ((k + m : Nat) : Int) := by
  simp only [wrap64]
  omega
theorem len8_sum (x y : Int) (k P : Nat) (h0 : 0 ≤ y) (h1 : y < 256) (hk : k ≤ 56) (hs : x.toNat < 18446744073709551616 → Lib.bitLen x.toNat = k + Lib.bitLen (x.toNat / P)) (hx : x.toNat < 18446744073709551616) (hy : y = ((x.toNat / P : Nat) : Int)) :
    wrap64 ((k : Int) + wrap64 (Lib.len8 y)) = (Lib.bitLen x.toNat : Int) := by
  rw [hs hx, Lib.len8_of y h0 (by omega)]
  have l := Lib.bitLen_le8' y h0 (by omega)
  subst hy
  rw [Int.toNat_natCast] at l ⊢
  exact nwrap_sum _ _ hk l






























theorem bitLen_bl (x : Nat) (hx : x < 18446744073709551616) : Lib.bitLen x = bl x := by
  have key : ∀ (f x : Nat), x < 2 ^ f → Lib.bitLenAux f x = bl x := by
    intro f
    induction f with
    | zero => intro x hx; simp at hx; subst hx; rfl
    | succ f ih =>
      intro x hx
      rw [Lib.bitLenAux]
      by_cases h0 : x = 0
      · rw [if_pos h0, h0]; rfl
      · rw [if_neg h0, ih (x / 2) (by rw [Nat.pow_succ] at hx; omega)]
        refine (bl_eq ?_ (.inr ?_)).symm
        · have := bl_fits (x / 2)
          rw [Nat.add_comm, Nat.pow_succ]; omega
        · rw [Nat.add_sub_cancel_left]
          by_cases h1 : x / 2 = 0
          · rw [h1, bl_zero]; omega
          · have := bl_low (x := x / 2) (by omega)
            have hp := bl_pos (x := x / 2) (by omega)
            obtain ⟨k, hk⟩ : ∃ k, bl (x / 2) = k + 1 := ⟨bl (x / 2) - 1, by omega⟩
            rw [hk] at this ⊢
            rw [Nat.add_sub_cancel] at this
            rw [Nat.pow_succ]; omega
  exact key 64 x hx





end Go.Proofs.Ytgdfpboccgfadaa
