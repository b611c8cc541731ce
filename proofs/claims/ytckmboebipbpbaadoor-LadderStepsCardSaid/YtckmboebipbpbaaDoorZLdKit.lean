/-
  From a law's contract to its row, where two raws are an argument.
-/
import Derived.Test.YtckmboebipbpbaaDoorZFdKit
import Derived.Test.YtckmboebipbpbaaDoorBuQ
namespace Go.Proofs.YtckmboebipbpbaaDoor
open Go.ChangeShapes Go.WideShapes Go.ChangeAt Go.RowKit

theorem cellsRs : Tryd.prog.cellsOf 25 = 112 := by kernel_rfl
section
variable {H : Type} {enc : TypeId × Value → H}
set_option maxRecDepth 20000 in
theorem raw_at {W : World} {b : Nat} {sp : Nat → Bool} {held : Bool} {n : Nat} {l : List Value} {d : DataW H × List MemPlace} (hl : DataW.trod enc Tryd.prog W b sp held n 23 l = some d) (j : Nat) (hj : j < 56) : ∃ y : Nat, y < 256 ∧ l[j]? = some (.int .u8 (y : Int)) := by
  obtain ⟨ys, m, _, _, _, hyl, hyel⟩ := DataW.trod_array Tryd.underlying23 hl
  have h2 := hyel j hj
  rw [cells5, Nat.mul_one, List.getElem?_eq_getElem (by omega)] at h2
  obtain ⟨y, hc, _, hwf⟩ := DataW.trod_int Tryd.underlying5 h2
  have h3 : l[j]? = some (.int .u8 y) := by
    have := congrArg (·[0]?) hc
    simpa [List.getElem?_take, List.getElem?_drop] using this
  have hy : 0 ≤ y ∧ y ≤ 255 := by
    simp [Lit.wf, IntKind.min, IntKind.max, IntKind.signed, IntKind.bits] at hwf
    omega
  obtain ⟨k, rfl⟩ := Int.eq_ofNat_of_zero_le hy.1
  exact ⟨k, by omega, h3⟩
set_option maxRecDepth 20000 in
theorem open_raws {W : World} {base b : Nat} {sp : Nat → Bool} {held : Bool} {v : Value} {d : DataW H} {p : List MemPlace}
    (hv : Value.okWide Tryd.prog W .any base 25 v) (h : DataW.Trod enc Tryd.prog W b sp held 25 v d p) : ∃ f, v = .agg (AZ .u8 112 (UB f)) := by
  obtain ⟨cs, rfl, hsz, _⟩ : ∃ cs, v = .agg cs ∧ cs.size = Tryd.prog.cellsOf 25 ∧ Row.okWide Tryd.prog W .any base 25 cs := by
    simpa [Value.okWide, Tryd.underlying25] using hv
  rw [cellsRs] at hsz
  obtain ⟨fuel, hf⟩ := h
  obtain ⟨xs, n, _, _, _, hl, hel⟩ := DataW.trod_array Tryd.underlying25 hf
  have hat : ∀ q, q < 112 → ∃ y : Nat, y < 256 ∧ cs[q]? = some (.int .u8 (y : Int)) := fun q hq => by
    have h1 := hel (q / 56) (by omega)
    rw [cellsR, List.getElem?_eq_getElem (by omega)] at h1
    obtain ⟨y, hy, h2⟩ := raw_at h1 (q % 56) (by omega)
    refine ⟨y, hy, ?_⟩
    rw [List.getElem?_take, if_pos (Nat.mod_lt _ (by omega)), List.getElem?_drop, show q / 56 * 56 + q % 56 = q by omega] at h2
    rw [← h2, Array.getElem?_toList]
    rfl
  refine ⟨fun i => match cs[i]? with | some (.int _ z) => BitVec.ofInt 8 z | _ => 0, ?_⟩
  congr 1
  apply Array.ext_getElem?
  intro i
  by_cases hi : i < 112
  · obtain ⟨y, hy, h3⟩ := hat i hi
    rw [AZ_get _ _ _ _ hi, h3]
    unfold UB
    simp only [h3]
    rw [U8, BitVec.ofInt_natCast, BitVec.toNat_ofNat, Nat.mod_eq_of_lt (by omega)]
  · rw [Array.getElem?_eq_none (by omega), Array.getElem?_eq_none (by rw [AZ_size]; omega)]
end
end Go.Proofs.YtckmboebipbpbaaDoor
