/-
  The contracts of the reference's Bytes, Compare, Bit and Len.
-/
import Derived.Test.YtgdfpboccgfadaaRfLeaf
import Derived.WalkLawsBesides
import Derived.Lib.MinMax
namespace Go.Proofs.Ytgdfpboccgfadaa
open Go.RowKit

theorem OwnB.any {w : World} {base : Nat} {v : Value} {n : Nat} {f : Nat → BitVec 8} (h : OwnB w base v n f) : ∃ a c, v = .slice a n c ∧ Sl w w.heap.size a n c f := by
  rcases Nat.eq_zero_or_pos n with h0 | h0
  · subst h0
    obtain ⟨_, hv⟩ := h
    rcases hv with ⟨rfl, _⟩ | ⟨g, cap, cur, rfl, hg, hrow, hle, _⟩
    · exact ⟨none, 0, rfl, Nat.le_refl _, fun _ => rfl, fun _ e _ => by cases e⟩
    · exact ⟨_, cap, rfl, hle, (fun e => by cases e), fun ad e h0 => by omega⟩
  · obtain ⟨g, c, cur, rfl, _, _, hs⟩ := h.sl h0
    exact ⟨_, c, rfl, hs⟩
theorem new_byte (w : World) (v : Int) (b : BitVec 8) (h : U8 b = v) : (w.alloc (.cells #[.int .u8 v] 5)).cell? ⟨w.heap.size, 0, none⟩ = some (U b) := by
  rw [← h]
  simp
theorem bt_of_word (x i k : Nat) (hk : k < 8) : bt x (8 * i + k) = low8 (shr (wd x i) (8 * k)) := by
  have h := bt_word x (8 * i + k)
  rw [← h, show (8 * i + k) / 8 = i by omega, show (8 * i + k) % 8 * 8 = 8 * k by omega]






























































end Go.Proofs.Ytgdfpboccgfadaa
