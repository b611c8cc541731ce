/-
  What comes in to ScalarLong: two ints, by value. No statement is proved here.
-/
import Derived.Test.YtocjncflgbnglaaDoorZScKit
namespace Go.Proofs.YtocjncflgbnglaaDoor
open Go.ChangeShapes Go.WideShapes Go.ChangeAt Go.RowKit

theorem cellsPair : Tryd.prog.cellsOf 57 = 2 := by kernel_rfl
section
variable {H : Type} {enc : TypeId × Value → H}
theorem open_pair {W : World} {base b : Nat} {sp : Nat → Bool} {held : Bool} {v : Value} {d : DataW H} {p : List MemPlace}
    (hv : Value.okWide Tryd.prog W .any base 57 v) (h : DataW.Trod enc Tryd.prog W b sp held 57 v d p) : ∃ x y, v = .agg #[.int .i64 x, .int .i64 y] := by
  obtain ⟨cs, rfl, hsz, _⟩ : ∃ cs, v = .agg cs ∧ cs.size = Tryd.prog.cellsOf 57 ∧ Row.okWide Tryd.prog W .any base 57 cs := by
    simpa [Value.okWide, Tryd.underlying57] using hv
  rw [cellsPair] at hsz
  obtain ⟨fuel, hf⟩ := h
  obtain ⟨xs, m, _, _, _, hxl, hel⟩ := DataW.trod_array Tryd.underlying57 hf
  have get : ∀ i, i < 2 → ∃ z, cs[i]? = some (.int .i64 z) := fun i hi => by
    have h1 := hel i hi
    rw [cells3, Nat.mul_one, List.getElem?_eq_getElem (by omega)] at h1
    obtain ⟨z, hc, _, _⟩ := DataW.trod_int Tryd.underlying3 h1
    refine ⟨z, ?_⟩
    have := congrArg (·[0]?) hc
    simpa [Value.cells, List.getElem?_take, List.getElem?_drop] using this
  obtain ⟨x, hx⟩ := get 0 (by omega)
  obtain ⟨y, hy⟩ := get 1 (by omega)
  refine ⟨x, y, ?_⟩
  congr 1
  apply Array.ext_getElem?
  intro i
  rcases (by omega : i = 0 ∨ i = 1 ∨ 2 ≤ i) with rfl | rfl | h2
  · rw [hx]; rfl
  · rw [hy]; rfl
  · rw [Array.getElem?_eq_none (by omega), Array.getElem?_eq_none (by simpa using h2)]
end
end Go.Proofs.YtocjncflgbnglaaDoor
