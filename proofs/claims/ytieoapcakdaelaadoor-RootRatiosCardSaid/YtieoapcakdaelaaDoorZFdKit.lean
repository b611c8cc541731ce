/-
  From a law's contract ('it returns true; nothing that was there has turned') to its row: what is of no one law.
-/
import Derived.Test.YtieoapcakdaelaaDoorCards
import Derived.Test.YtieoapcakdaelaaDoorZRowKit
import Derived.Test.YtieoapcakdaelaaDoorTie
import Derived.Test.YtieoapcakdaelaaDoorBuE
import Derived.ChangeSlices
import Derived.ProofKit
import Derived.OpenShut
import Derived.Carry
import Derived.Deep.DeepHandedRow
import Derived.Lib.LaidTab
namespace Go.Proofs.YtieoapcakdaelaaDoor
open Go.ChangeShapes Go.WideShapes Go.ChangeAt Go.RowKit

section
variable {H : Type} {enc : TypeId × Value → H} {P : Program}
/-- An array of bytes that came in, by value. -/
theorem open_row8 {t e : TypeId} {n : Nat} (hu : P.underlying t = some (.array n e)) (he : P.underlying e = some (.int .u8)) (hce : P.cellsOf e = 1) (hct : P.cellsOf t = n) {W : World} {base b : Nat} {sp : Nat → Bool} {held : Bool} {v : Value} {d : DataW H} {p : List MemPlace}
    (hv : Value.okWide P W .any base t v) (h : DataW.Trod enc P W b sp held t v d p) : ∃ f, v = .agg (AZ .u8 n (UB f)) := by
  obtain ⟨cs, rfl, hsz, _⟩ : ∃ cs, v = .agg cs ∧ cs.size = P.cellsOf t ∧ Row.okWide P W .any base t cs := by
    simpa [Value.okWide, hu] using hv
  rw [hct] at hsz
  obtain ⟨fuel, hf⟩ := h
  obtain ⟨xs, m, _, _, _, hxl, hel⟩ := DataW.trod_array hu hf
  refine ⟨fun i => match cs[i]? with | some (.int _ z) => BitVec.ofInt 8 z | _ => 0, ?_⟩
  congr 1
  apply Array.ext_getElem?
  intro i
  by_cases hi : i < n
  · rw [AZ_get _ _ _ i hi]
    have h1 := hel i hi
    rw [hce, Nat.mul_one, List.getElem?_eq_getElem (by omega)] at h1
    obtain ⟨z, hc, _, hwf⟩ := DataW.trod_int he h1
    have h2 : cs[i]? = some (.int .u8 z) := by
      have := congrArg (·[0]?) hc
      simpa [Value.cells, List.getElem?_take, List.getElem?_drop] using this
    have hz : 0 ≤ z ∧ z ≤ 255 := by
      simp [Lit.wf, IntKind.min, IntKind.max, IntKind.signed, IntKind.bits] at hwf
      omega
    unfold UB
    simp only [h2]
    obtain ⟨k, rfl⟩ := Int.eq_ofNat_of_zero_le hz.1
    rw [U8, BitVec.ofInt_natCast, BitVec.toNat_ofNat, Nat.mod_eq_of_lt (by omega)]
  · rw [Array.getElem?_eq_none (by omega), Array.getElem?_eq_none (by rw [AZ_size]; omega)]

end

theorem cells22 : Tryd.prog.cellsOf 25 = 1 := by kernel_rfl
theorem cellsR : Tryd.prog.cellsOf 23 = 56 := by kernel_rfl
theorem cellsT : Tryd.prog.cellsOf 26 = 8 := by kernel_rfl
theorem cells3 : Tryd.prog.cellsOf 3 = 1 := by kernel_rfl
theorem cells5 : Tryd.prog.cellsOf 5 = 1 := by kernel_rfl
theorem gPr : Tryd.prog.globalNamed "chicory/field.prime" = some 0 := by kernel_rfl
theorem gPrT : (Tryd.prog.globals[0]?).map (·.type) = some 26 := by kernel_rfl
def prZ : List Int := [72057594037927935, 72057594037927935, 72057594037927935, 72057594037927935, 72057594037927934, 72057594037927935, 72057594037927935, 72057594037927935]
theorem prZ_at : ∀ i, i < 8 → prZ.getD i 0 = ((prW i : Nat) : Int) := by decide +kernel
/-- The rows' list of tables. -/
abbrev laidTabs : List (String × DataW Unit) := [("chicory/field.prime", Rows.laid_chicory_field_prime)]
theorem tp_of {W : World} (h : laidMetH Tryd.prog laidTabs W) : Tp W := by
  have h' : laidMet Tryd.prog laidTabs W := h
  have h1 : Lib.TabIs Tryd.prog W "chicory/field.prime" .u64 prZ := Lib.tabIs_of_head (rest := []) gPr gPrT Tryd.underlying26 Tryd.underlying25 cells22 cellsT h'
  exact ⟨fun i hi => by rw [h1.cell gPr i hi, prZ_at i hi]⟩
/-- A block whose cells are others. -/
def reCell (c : Array Value) : Obj → Obj
  | .cells _ t frozen => .cells c t frozen
  | o => o
/-- A world for the witness: the settled one, the table holding what its initialiser lays. -/
noncomputable def laidWorld (os : Os) : World :=
  { World.holding Tryd.prog os ⟨#[], #[], []⟩ with heap := (World.holding Tryd.prog os ⟨#[], #[], []⟩).heap.modify 0 (reCell (prZ.map fun z => Value.int .u64 z).toArray) }
end Go.Proofs.YtieoapcakdaelaaDoor
