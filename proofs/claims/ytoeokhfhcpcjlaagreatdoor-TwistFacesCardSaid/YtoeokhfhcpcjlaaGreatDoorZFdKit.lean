/-
 From a law's contract ('it returns true; nothing that was there has turned') to its row: what is of no one law.
-/
import Derived.Test.YtoeokhfhcpcjlaaGreatDoorCards
import Derived.Test.YtoeokhfhcpcjlaaGreatDoorZRowKit
import Derived.Test.YtoeokhfhcpcjlaaGreatDoorTie
import Derived.Test.YtoeokhfhcpcjlaaGreatDoorBuE
import Derived.ChangeSlices
import Derived.ProofKit
import Derived.OpenShut
import Derived.Carry
import Derived.Deep.DeepHandedRow
import Derived.Lib.LaidTab
namespace Go.Proofs.YtoeokhfhcpcjlaaGreatDoor
open Go.ChangeShapes Go.WideShapes Go.ChangeAt Go.RowKit
theorem cells22 : Tryz.prog.cellsOf 26 = 1 := by kernel_rfl
theorem cellsT : Tryz.prog.cellsOf 27 = 8 := by kernel_rfl
theorem cells3 : Tryz.prog.cellsOf 3 = 1 := by kernel_rfl
theorem cells5 : Tryz.prog.cellsOf 5 = 1 := by kernel_rfl
theorem gPr : Tryz.prog.globalNamed "chicory/field.prime" = some 0 := by kernel_rfl
theorem gPrT : (Tryz.prog.globals[0]?).map (·.type) = some 27 := by kernel_rfl
def prZ : List Int := [72057594037927935, 72057594037927935, 72057594037927935, 72057594037927935, 72057594037927934, 72057594037927935, 72057594037927935, 72057594037927935]
theorem prZ_at : ∀ i, i < 8 → prZ.getD i 0 = ((prW i : Nat) : Int) := by decide +kernel
abbrev z9i : List (String × DataW Unit) := [("chicory/field.prime", Rows.laid_chicory_field_prime)]
theorem tp_of {W : World} (h : laidMetH Tryz.prog z9i W) : Tp W := by
 have h' : laidMet Tryz.prog z9i W := h
 have h1 : Lib.TabIs Tryz.prog W "chicory/field.prime" .u64 prZ := Lib.tabIs_of_head (rest := []) gPr gPrT Tryz.underlying27 Tryz.underlying26 cells22 cellsT h'
 exact ⟨fun i hi => by rw [h1.cell gPr i hi, prZ_at i hi]⟩
noncomputable def laidWorld (os : Os) : World :=
 { World.holding Tryz.prog os ⟨#[], #[], []⟩ with heap := (World.holding Tryz.prog os ⟨#[], #[], []⟩).heap.modify 0 (reCell (prZ.map fun z => Value.int .u64 z).toArray) }
end Go.Proofs.YtoeokhfhcpcjlaaGreatDoor
