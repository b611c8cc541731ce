/-
  From a law's contract to its row, where a spot is an argument.
-/
import Derived.Test.YtckmboebipbpbaaDoorZFdKit
import Derived.Test.YtckmboebipbpbaaDoorBuH
namespace Go.Proofs.YtckmboebipbpbaaDoor
open Go.ChangeShapes Go.WideShapes Go.ChangeAt Go.RowKit

theorem cellsSp : Tryd.prog.cellsOf 65 = 58 := by kernel_rfl
theorem cellsB57 : Tryd.prog.cellsOf 63 = 57 := by kernel_rfl
section
variable {H : Type} {enc : TypeId × Value → H}
set_option maxRecDepth 20000 in
theorem open_spot {W : World} {base b : Nat} {sp : Nat → Bool} {held : Bool} {v : Value} {d : DataW H} {p : List MemPlace}
    (hv : Value.okWide Tryd.prog W .any base 65 v) (h : DataW.Trod enc Tryd.prog W b sp held 65 v d p) : ∃ u z, v = .agg (SpotA u z) := by
  obtain ⟨cs, rfl, hsz, _⟩ : ∃ cs, v = .agg cs ∧ cs.size = Tryd.prog.cellsOf 65 ∧ Row.okWide Tryd.prog W .any base 65 cs := by
    simpa [Value.okWide, Tryd.underlying65] using hv
  rw [cellsSp] at hsz
  obtain ⟨fuel, hf⟩ := h
  obtain ⟨xs, n, _, _, _, hl, hel⟩ := DataW.trod_struct Tryd.underlying65 hf
  have hl2 : xs.length = 2 := hl
  have h0 : DataW.trod enc Tryd.prog W b sp held n 63 ((cs.toList.drop 0).take (Tryd.prog.cellsOf 63)) = some (xs[0]'(by omega)) := (hel 0 _ rfl).trans (List.getElem?_eq_getElem (by omega))
  have h1 : DataW.trod enc Tryd.prog W b sp held n 3 ((cs.toList.drop 57).take (Tryd.prog.cellsOf 3)) = some (xs[1]'(by omega)) := (hel 1 _ rfl).trans (List.getElem?_eq_getElem (by omega))
  rw [cells3] at h1
  rw [cellsB57] at h0
  obtain ⟨z, hz, _, _⟩ := DataW.trod_int Tryd.underlying3 h1
  have hq : cs[57]? = some (.int .i64 z) := by
    have := congrArg (·[0]?) hz
    simpa [List.getElem?_take, List.getElem?_drop] using this
  obtain ⟨ys, m, _, _, _, hyl, hyel⟩ := DataW.trod_array Tryd.underlying63 h0
  refine ⟨fun i => match cs[i]? with | some (.int _ z) => BitVec.ofInt 8 z | _ => 0, z, ?_⟩
  congr 1
  apply Array.ext_getElem?
  intro i
  by_cases hi : i < 57
  · rw [SpotA_byte _ _ i hi]
    have h2 := hyel i hi
    rw [cells5, Nat.mul_one, List.getElem?_eq_getElem (by omega)] at h2
    obtain ⟨y, hc, _, hwf⟩ := DataW.trod_int Tryd.underlying5 h2
    have h3 : cs[i]? = some (.int .u8 y) := by
      have := congrArg (·[0]?) hc
      simpa [List.getElem?_take, List.getElem?_drop, hi] using this
    have hy : 0 ≤ y ∧ y ≤ 255 := by
      simp [Lit.wf, IntKind.min, IntKind.max, IntKind.signed, IntKind.bits] at hwf
      omega
    simp only [h3]
    obtain ⟨k, rfl⟩ := Int.eq_ofNat_of_zero_le hy.1
    show some (Value.int .u8 (k : Int)) = some (Value.int .u8 (U8 (BitVec.ofInt 8 (k : Int))))
    rw [U8, BitVec.ofInt_natCast, BitVec.toNat_ofNat, Nat.mod_eq_of_lt (by omega)]
  · by_cases h57 : i = 57
    · subst h57
      rw [hq, SpotA_quart]
    · rw [Array.getElem?_eq_none (by omega), Array.getElem?_eq_none (by rw [SpotA_size]; omega)]
end
end Go.Proofs.YtckmboebipbpbaaDoor
