/-
  The contract of number.Bytes.
-/
import Derived.Test.YtgdfpboccgfadaaBuN
namespace Go.Proofs.Ytgdfpboccgfadaa
open Go.RowKit

theorem mixb_upd (i : Nat) (f g : Nat → BitVec 8) : upd8 (mix i f g) i (f i) = mix (i + 1) f g := by
  funext k
  unfold upd8 mix
  by_cases e : k = i
  · subst e; simp
  · by_cases h : k < i
    · rw [if_neg e, if_pos h, if_pos (by omega)]
    · rw [if_neg e, if_neg h, if_neg (by omega)]























































































end Go.Proofs.Ytgdfpboccgfadaa
