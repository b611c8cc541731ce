/-
 Slices of numbers and spots. No statement is proved here: lemmas for the walks.
-/
import Derived.Test.YtoeokhfhcpcjlaaGreatDoorBuN
namespace Go.Proofs.YtoeokhfhcpcjlaaGreatDoor
open Go.RowKit
structure Ones (w : World) (B : Nat) (a : Option Addr) (n c : Nat) (A : Nat → Option Addr) (N C X K : Nat → Nat) (Z : Nat → Int) : Prop where
 le : n ≤ c
 nil : a = none → c = 0
 low : ∀ ad, a = some ad → 0 < n → ∃ b o, ad = ⟨b, o, none⟩ ∧ b < B ∧ ∀ i, i < n → Sb w B (A i) (N i) (C i) (X i) ∧ w.cell? ⟨b, o + i * 3, none⟩ = some (.slice (A i) (N i) (C i)) ∧
  ∃ ki kc kx, Sb w B ki (K i) kc kx ∧ w.cell? ⟨b, o + i * 3 + 1, none⟩ = some (.slice ki (K i) kc) ∧ w.cell? ⟨b, o + i * 3 + 2, none⟩ = some (.int .i64 (Z i))
section
variable {w w' : World} {B : Nat} {a : Option Addr} {n c : Nat} {A : Nat → Option Addr} {N C X K : Nat → Nat} {Z : Nat → Int}
theorem Ones.get (h : Ones w w.heap.size a n c A N C X K Z) (i : Nat) (hi : i < n) : ∃ b o ki kc kx, a = some ⟨b, o, none⟩ ∧ b < w.heap.size ∧ ∀ W, Below w.heap.size w W → Sb W W.heap.size (A i) (N i) (C i) (X i) ∧ Sb W W.heap.size ki (K i) kc kx ∧
  W.cell? ⟨b, o + i * 3, none⟩ = some (.slice (A i) (N i) (C i)) ∧ W.cell? ⟨b, o + i * 3 + 1, none⟩ = some (.slice ki (K i) kc) ∧ W.cell? ⟨b, o + i * 3 + 2, none⟩ = some (.int .i64 (Z i)) := by
 cases ha : a with
 | none =>
  have := h.nil ha
  have := h.le
  omega
 | some ad =>
  obtain ⟨b, o, rfl, hb, hc⟩ := h.low ad ha (by omega)
  obtain ⟨hs, h1, ki, kc, kx, hk, h2, h3⟩ := hc i hi
  exact ⟨b, o, ki, kc, kx, rfl, hb, fun W hW => ⟨hs.call hW, hk.call hW, (hW.cell (p := ⟨b, o + i * 3, none⟩) hb).trans h1, (hW.cell (p := ⟨b, o + i * 3 + 1, none⟩) hb).trans h2, (hW.cell (p := ⟨b, o + i * 3 + 2, none⟩) hb).trans h3⟩⟩
end
end Go.Proofs.YtoeokhfhcpcjlaaGreatDoor
