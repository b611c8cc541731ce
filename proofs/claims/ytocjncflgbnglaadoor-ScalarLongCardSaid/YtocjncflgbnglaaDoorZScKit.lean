/-
  From a law's contract to its row, over worlds that hold scalar's tables. No statement is proved here.
-/
import Derived.Test.YtocjncflgbnglaaDoorCards
import Derived.Test.YtocjncflgbnglaaDoorZRowKit
import Derived.Test.YtocjncflgbnglaaDoorTie
import Derived.Test.YtocjncflgbnglaaDoorBuV
import Derived.ChangeSlices
import Derived.ProofKit
import Derived.OpenShut
import Derived.Carry
import Derived.Deep.DeepHandedRow
import Derived.Lib.LaidTab
import Derived.Lib.LaidU8
namespace Go.Proofs.YtocjncflgbnglaaDoor
open Go.ChangeShapes Go.WideShapes Go.ChangeAt Go.RowKit

theorem cells22 : Tryd.prog.cellsOf 24 = 1 := by kernel_rfl
theorem cellsR6 : Tryd.prog.cellsOf 38 = 57 := by kernel_rfl
theorem cellsO : Tryd.prog.cellsOf 25 = 7 := by kernel_rfl
theorem cellsE : Tryd.prog.cellsOf 88 = 4 := by kernel_rfl
theorem cells3 : Tryd.prog.cellsOf 3 = 1 := by kernel_rfl
theorem cells5 : Tryd.prog.cellsOf 5 = 1 := by kernel_rfl
theorem gOrd : Tryd.prog.globalNamed "chicory/scalar.order" = some 0 := by kernel_rfl
theorem gRst : Tryd.prog.globalNamed "chicory/scalar.rest" = some 1 := by kernel_rfl
theorem gOrdT : (Tryd.prog.globals[0]?).map (·.type) = some 25 := by kernel_rfl
theorem gRstT : (Tryd.prog.globals[1]?).map (·.type) = some 88 := by kernel_rfl
def ordZ : List Int := [2556006723728458995, 2408513697996967765, 14145484589129676432, 18446744071508206569, 18446744073709551615, 18446744073709551615, 4611686018427387903]
def rstZ : List Int := [15890737349981092621, 16038230375712583850, 4301259484579875183, 2201345046]
theorem ordZ_at : ∀ i, i < 7 → ordZ.getD i 0 = L (wd lN i) := by decide +kernel
theorem rstZ_at : ∀ i, i < 4 → rstZ.getD i 0 = L (wd rN i) := by decide +kernel
/-- The rows' lists of tables. -/
abbrev laidTabs : List (String × DataW Unit) := [("chicory/scalar.order", Rows.laid_chicory_scalar_order), ("chicory/scalar.rest", Rows.laid_chicory_scalar_rest)]
abbrev laidOrd : List (String × DataW Unit) := [("chicory/scalar.order", Rows.laid_chicory_scalar_order)]
theorem ord_of {rest : List (String × DataW Unit)} {W : World} (h : laidMet Tryd.prog (("chicory/scalar.order", Rows.laid_chicory_scalar_order) :: rest) W) : ∀ i, i < 7 → W.cell? ⟨0, i, none⟩ = some (V (wd lN i)) := fun i hi => by
  have h1 : Lib.TabIs Tryd.prog W "chicory/scalar.order" .u64 ordZ := Lib.tabIs_of_head (rest := rest) gOrd gOrdT Tryd.underlying25 Tryd.underlying24 cells22 cellsO h
  rw [h1.cell gOrd i hi, ordZ_at i hi]
theorem tl_of {W : World} (h : laidMetH Tryd.prog laidTabs W) : Tl true W := by
  have h' : laidMet Tryd.prog laidTabs W := h
  obtain ⟨g, t, cs, fuel, p, hg, ht, hvar, hd⟩ := Lib.laidMet.reads h' (n := "chicory/scalar.rest") (d := Rows.laid_chicory_scalar_rest) (.tail _ (.head _))
  obtain rfl := Option.some.inj (gRst.symm.trans hg)
  obtain rfl := Option.some.inj (gRstT.symm.trans ht)
  have h2 : Lib.TabIs Tryd.prog W "chicory/scalar.rest" .u64 rstZ := by
    unfold Lib.TabIs
    rw [hvar, ← Lib.cells_of_tab (zs := rstZ) (k := .u64) Tryd.underlying88 Tryd.underlying24 cells22 cellsE hd]
  exact ⟨ord_of h', fun _ i hi => by rw [h2.cell gRst i hi, rstZ_at i hi]⟩
theorem to_of {W : World} (h : laidMetH Tryd.prog laidOrd W) : Tl false W := ⟨ord_of (show laidMet Tryd.prog laidOrd W from h), fun hr => by cases hr⟩
/-- A world for the witness: the settled one, the tables holding what their initialisers lay. -/
noncomputable def laidWorld (os : Os) : World :=
  { World.holding Tryd.prog os ⟨#[], #[], []⟩ with heap := ((World.holding Tryd.prog os ⟨#[], #[], []⟩).heap.modify 0 (reCell (ordZ.map fun z => Value.int .u64 z).toArray)).modify 1 (reCell (rstZ.map fun z => Value.int .u64 z).toArray) }
end Go.Proofs.YtocjncflgbnglaaDoor
