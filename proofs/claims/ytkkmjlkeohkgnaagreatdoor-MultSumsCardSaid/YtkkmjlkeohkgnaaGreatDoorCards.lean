/-
  DERIVED. GIVEN WITH THE SEED: THE CARDS: each row of YtkkmjlkeohkgnaaGreatDoorRows.lean that lists a variable, with what it lists TIED to the program's text (the seventh form; the later family's looks); each row that meets fmt, with fmt's text TOLD by the authors' own Lean function (tested against real Go, not proved from fmt's source: count such statements apart). THE CARD IS WHAT COUNTS. Prove the row's statement (the work); the ties are given (YtkkmjlkeohkgnaaGreatDoorTie.lean); close each card by the builder's one call (the guide's Derived/Test/ToyasCard.lean, 'card_holds'). Laid BY PROGRAM, IN A SANDBOX (cutbox-door.mjs). By AI agents, Wed Nov 11 2026. No macro, syntax, notation, axiom, sorry.
-/
import Derived.Test.YtkkmjlkeohkgnaaGreatDoorRows
import GoSem.ClaimSeven
namespace Go.Proofs.YtkkmjlkeohkgnaaGreatDoor
namespace Rows

/-- THE TIED CARD OF 'chicorylaw12.MultTimes'. -/
def multTimesCard : Claim7 := { stood := { row := multTimesRow, standIns := [], harness := (true, "4c4a63d7480318631e569a1f0cea16e338d81f8ac44818349e0375b8252b7fdf"), looks := false }, kinds := [], alts := [], laidByText := true, laidKinds := [.data], laidTests := true, laidLooks := .later }
def MultTimesCardSaid : Prop := Claim7.holds Tryz.pinned (.plain (OpenSpec.ofChange multTimesSpec)) multTimesCard

/-- THE TIED CARD OF 'chicorylaw12.MultSmall'. -/
def multSmallCard : Claim7 := { stood := { row := multSmallRow, standIns := [], harness := (true, "4c4a63d7480318631e569a1f0cea16e338d81f8ac44818349e0375b8252b7fdf"), looks := false }, kinds := [], alts := [], laidByText := true, laidKinds := [.data], laidTests := true, laidLooks := .later }
def MultSmallCardSaid : Prop := Claim7.holds Tryz.pinned (.plain (OpenSpec.ofChange multSmallSpec)) multSmallCard

/-- THE TIED CARD OF 'chicorylaw12.MultBoth'. -/
def multBothCard : Claim7 := { stood := { row := multBothRow, standIns := [], harness := (true, "4c4a63d7480318631e569a1f0cea16e338d81f8ac44818349e0375b8252b7fdf"), looks := false }, kinds := [], alts := [], laidByText := true, laidKinds := [.data], laidTests := true, laidLooks := .later }
def MultBothCardSaid : Prop := Claim7.holds Tryz.pinned (.plain (OpenSpec.ofChange multBothSpec)) multBothCard

/-- THE TIED CARD OF 'chicorylaw12.MultSums'. -/
def multSumsCard : Claim7 := { stood := { row := multSumsRow, standIns := [], harness := (true, "4c4a63d7480318631e569a1f0cea16e338d81f8ac44818349e0375b8252b7fdf"), looks := false }, kinds := [], alts := [], laidByText := true, laidKinds := [.data], laidTests := true, laidLooks := .later }
def MultSumsCardSaid : Prop := Claim7.holds Tryz.pinned (.plain (OpenSpec.ofChange multSumsSpec)) multSumsCard

/-- THE TIED CARD OF 'chicorylaw12.MultSwaps'. -/
def multSwapsCard : Claim7 := { stood := { row := multSwapsRow, standIns := [], harness := (true, "4c4a63d7480318631e569a1f0cea16e338d81f8ac44818349e0375b8252b7fdf"), looks := false }, kinds := [], alts := [], laidByText := true, laidKinds := [.data], laidTests := true, laidLooks := .later }
def MultSwapsCardSaid : Prop := Claim7.holds Tryz.pinned (.plain (OpenSpec.ofChange multSwapsSpec)) multSwapsCard

/-- THE TIED CARD OF 'chicorylaw12.MultParts'. -/
def multPartsCard : Claim7 := { stood := { row := multPartsRow, standIns := [], harness := (true, "4c4a63d7480318631e569a1f0cea16e338d81f8ac44818349e0375b8252b7fdf"), looks := false }, kinds := [], alts := [], laidByText := true, laidKinds := [.data], laidTests := true, laidLooks := .later }
def MultPartsCardSaid : Prop := Claim7.holds Tryz.pinned (.plain (OpenSpec.ofChange multPartsSpec)) multPartsCard

/-- THE SECOND FORM's CARD OF 'chicorylaw12.MultTimes'. -/
def multTimesUptoCard : Claim7 := { stood := { row := multTimesUptoRow, standIns := [], harness := (true, "4c4a63d7480318631e569a1f0cea16e338d81f8ac44818349e0375b8252b7fdf"), looks := false }, kinds := [], alts := [], laidByText := true, laidKinds := [.data], laidTests := true, laidLooks := .later }
def MultTimesUptoCardSaid : Prop := Claim7.holds Tryz.pinned (.plain (OpenSpec.upto multTimesSpec)) multTimesUptoCard

/-- THE SECOND FORM's CARD OF 'chicorylaw12.MultSmall'. -/
def multSmallUptoCard : Claim7 := { stood := { row := multSmallUptoRow, standIns := [], harness := (true, "4c4a63d7480318631e569a1f0cea16e338d81f8ac44818349e0375b8252b7fdf"), looks := false }, kinds := [], alts := [], laidByText := true, laidKinds := [.data], laidTests := true, laidLooks := .later }
def MultSmallUptoCardSaid : Prop := Claim7.holds Tryz.pinned (.plain (OpenSpec.upto multSmallSpec)) multSmallUptoCard

/-- THE SECOND FORM's CARD OF 'chicorylaw12.MultBoth'. -/
def multBothUptoCard : Claim7 := { stood := { row := multBothUptoRow, standIns := [], harness := (true, "4c4a63d7480318631e569a1f0cea16e338d81f8ac44818349e0375b8252b7fdf"), looks := false }, kinds := [], alts := [], laidByText := true, laidKinds := [.data], laidTests := true, laidLooks := .later }
def MultBothUptoCardSaid : Prop := Claim7.holds Tryz.pinned (.plain (OpenSpec.upto multBothSpec)) multBothUptoCard

/-- THE SECOND FORM's CARD OF 'chicorylaw12.MultSums'. -/
def multSumsUptoCard : Claim7 := { stood := { row := multSumsUptoRow, standIns := [], harness := (true, "4c4a63d7480318631e569a1f0cea16e338d81f8ac44818349e0375b8252b7fdf"), looks := false }, kinds := [], alts := [], laidByText := true, laidKinds := [.data], laidTests := true, laidLooks := .later }
def MultSumsUptoCardSaid : Prop := Claim7.holds Tryz.pinned (.plain (OpenSpec.upto multSumsSpec)) multSumsUptoCard

/-- THE SECOND FORM's CARD OF 'chicorylaw12.MultSwaps'. -/
def multSwapsUptoCard : Claim7 := { stood := { row := multSwapsUptoRow, standIns := [], harness := (true, "4c4a63d7480318631e569a1f0cea16e338d81f8ac44818349e0375b8252b7fdf"), looks := false }, kinds := [], alts := [], laidByText := true, laidKinds := [.data], laidTests := true, laidLooks := .later }
def MultSwapsUptoCardSaid : Prop := Claim7.holds Tryz.pinned (.plain (OpenSpec.upto multSwapsSpec)) multSwapsUptoCard

/-- THE SECOND FORM's CARD OF 'chicorylaw12.MultParts'. -/
def multPartsUptoCard : Claim7 := { stood := { row := multPartsUptoRow, standIns := [], harness := (true, "4c4a63d7480318631e569a1f0cea16e338d81f8ac44818349e0375b8252b7fdf"), looks := false }, kinds := [], alts := [], laidByText := true, laidKinds := [.data], laidTests := true, laidLooks := .later }
def MultPartsUptoCardSaid : Prop := Claim7.holds Tryz.pinned (.plain (OpenSpec.upto multPartsSpec)) multPartsUptoCard
end Rows
end Go.Proofs.YtkkmjlkeohkgnaaGreatDoor
