/-
  What the laws of number call: few, Words, is, the equality of bytes; numbers that live through calls.
-/
import Derived.Test.YtgdfpboccgfadaaBuR
import Derived.Test.YtgdfpboccgfadaaZNuBytes
namespace Go.Proofs.Ytgdfpboccgfadaa
open Go.RowKit

/-- Numbers, as words and as bytes, that live through calls: nothing that was there at first has turned. -/
structure Lv (W w : World) (lw lb : List (Option Addr × Nat × Nat × Nat)) : Prop where
  bel : Below W.heap.size W w
  sw : ∀ q ∈ lw, Sw w w.heap.size q.1 q.2.1 q.2.2.1 q.2.2.2
  sb : ∀ q ∈ lb, Sb w w.heap.size q.1 q.2.1 q.2.2.1 q.2.2.2
section
variable {W w w' : World} {lw lb : List (Option Addr × Nat × Nat × Nat)}
theorem Lv.start (W : World) : Lv W W [] [] := ⟨Below.refl _ _, (fun _ h => by cases h), fun _ h => by cases h⟩
theorem Lv.call (h : Lv W w lw lb) (hb : Below w.heap.size w w') : Lv W w' lw lb :=
  ⟨h.bel.trans (hb.mono h.bel.size), fun q hq => (h.sw q hq).call hb, fun q hq => (h.sb q hq).call hb⟩
theorem Lv.addW (h : Lv W w lw lb) {a : Option Addr} {n c x : Nat} (hs : Sw w w.heap.size a n c x) : Lv W w ((a, n, c, x) :: lw) lb :=
  ⟨h.bel, fun q hq => by
    rcases List.mem_cons.1 hq with rfl | hq
    · exact hs
    · exact h.sw q hq, h.sb⟩
theorem Lv.addB (h : Lv W w lw lb) {a : Option Addr} {n c x : Nat} (hs : Sb w w.heap.size a n c x) : Lv W w lw ((a, n, c, x) :: lb) :=
  ⟨h.bel, h.sw, fun q hq => by
    rcases List.mem_cons.1 hq with rfl | hq
    · exact hs
    · exact h.sb q hq⟩
theorem Lv.alloc (h : Lv W w lw lb) (o : Obj) : Lv W (w.alloc o) lw lb := h.call ((Below.refl _ _).alloc (Nat.le_refl _) o)
theorem Lv.gw (h : Lv W w lw lb) (i : Nat) {a : Option Addr} {n c x : Nat} (e : lw[i]? = some (a, n, c, x)) : Sw w w.heap.size a n c x := h.sw _ (List.mem_of_getElem? e)
theorem Lv.gb (h : Lv W w lw lb) (i : Nat) {a : Option Addr} {n c x : Nat} (e : lb[i]? = some (a, n, c, x)) : Sb w w.heap.size a n c x := h.sb _ (List.mem_of_getElem? e)
end
















theorem neq_V (a : BitVec 64) : (L a != L a) = false := by simp

































































































































end Go.Proofs.Ytgdfpboccgfadaa
