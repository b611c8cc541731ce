/-
  What comes in to ShakePieces: slices of ints.
-/
import Derived.Test.YtjppmeihobcenaaDoorShRow
import Derived.Test.YtjppmeihobcenaaDoorShPieces
namespace Go.Proofs.YtjppmeihobcenaaDoor
open Go.ChangeShapes Go.WideShapes Go.ChangeAt Go.RowKit

section
variable {H : Type} {enc : TypeId × Value → H} {P : Program}
theorem open_slints {t e : TypeId} (ht : P.underlying t = some (.slice e)) (he : P.underlying e = some (.int .i64)) (hce : P.cellsOf e = 1) {W : World} {base : Nat} {v : Value} {d : DataW H} {p : List MemPlace}
    (hv : Value.okWide P W .any base t v) (h : DataW.Trod enc P W 0 (fun _ => true) true t v d p) : ∃ a n c z, v = .slice a n c ∧ n ≤ maxLen ∧ SlI W W.heap.size a n c z := by
  obtain ⟨a0, len, cap, rfl⟩ := okWide_slice ht hv
  obtain ⟨fuel, hf⟩ := h
  rcases open_ints ht he hce hf with ⟨hcs, _⟩ | ⟨a, len', cap', zs, hcs, _, hl, hm, hz, _, hcell, hwz⟩
  · simp [Value.cells] at hcs
    obtain ⟨rfl, rfl, rfl⟩ := hcs
    exact ⟨none, 0, 0, fun _ => 0, rfl, Nat.zero_le _, Nat.le_refl _, fun _ => rfl, fun _ e _ => by cases e⟩
  · simp [Value.cells] at hcs
    obtain ⟨rfl, rfl, rfl⟩ := hcs
    simp only [if_true] at hz
    refine ⟨some a, len, cap, fun i => zs.getD i 0, rfl, Nat.le_trans hl hm, hl, (fun e => by cases e), fun ad e h0 => ?_⟩
    obtain rfl := Option.some.inj e
    obtain ⟨b, o, rfl, hb⟩ := addr_of_cell (hcell 0 (by omega))
    exact ⟨b, o, rfl, hb, fun i hi => by have := hcell i (by omega); rwa [Addr.add_mid] at this⟩
end
end Go.Proofs.YtjppmeihobcenaaDoor
