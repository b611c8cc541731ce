/-
  DERIVED. GIVEN WITH THE SEED: THE CARDS: each row of YtckmboebipbpbaaDoorRows.lean that lists a variable, with what it lists TIED to the program's text (the seventh form; the later family's looks); each row that meets fmt, with fmt's text TOLD by the authors' own Lean function (tested against real Go, not proved from fmt's source: count such statements apart). THE CARD IS WHAT COUNTS. Prove the row's statement (the work); the ties are given (YtckmboebipbpbaaDoorTie.lean); close each card by the builder's one call (the guide's Derived/Test/ToyasCard.lean, 'card_holds'). Laid BY PROGRAM, IN A SANDBOX (cutbox-door.mjs). By AI agents, Wed Nov 11 2026. No macro, syntax, notation, axiom, sorry.
-/
import Derived.Test.YtckmboebipbpbaaDoorRows
import GoSem.ClaimSeven
namespace Go.Proofs.YtckmboebipbpbaaDoor
namespace Rows

/-- THE TIED CARD OF 'chicorylaw10.LadderSteps'. -/
def ladderStepsCard : Claim7 := { stood := { row := ladderStepsRow, standIns := [], harness := (true, "f618c87e982ddc298135f572c571266c5f628bb31afac63820bfcac6e02d8761"), looks := false }, kinds := [], alts := [], laidByText := true, laidKinds := [.data], laidTests := true, laidLooks := .later }
def LadderStepsCardSaid : Prop := Claim7.holds Tryd.pinned (.plain (OpenSpec.ofChange ladderStepsSpec)) ladderStepsCard

/-- THE TIED CARD OF 'chicorylaw10.LadderClimbs'. -/
def ladderClimbsCard : Claim7 := { stood := { row := ladderClimbsRow, standIns := [], harness := (true, "f618c87e982ddc298135f572c571266c5f628bb31afac63820bfcac6e02d8761"), looks := false }, kinds := [], alts := [], laidByText := true, laidKinds := [.data], laidTests := true, laidLooks := .later }
def LadderClimbsCardSaid : Prop := Claim7.holds Tryd.pinned (.plain (OpenSpec.ofChange ladderClimbsSpec)) ladderClimbsCard

/-- THE TIED CARD OF 'chicorylaw10.LadderShares'. -/
def ladderSharesCard : Claim7 := { stood := { row := ladderSharesRow, standIns := [], harness := (true, "f618c87e982ddc298135f572c571266c5f628bb31afac63820bfcac6e02d8761"), looks := false }, kinds := [], alts := [], laidByText := true, laidKinds := [.data], laidTests := true, laidLooks := .later }
def LadderSharesCardSaid : Prop := Claim7.holds Tryd.pinned (.plain (OpenSpec.ofChange ladderSharesSpec)) ladderSharesCard

/-- THE TIED CARD OF 'chicorylaw10.LadderMeets'. -/
def ladderMeetsCard : Claim7 := { stood := { row := ladderMeetsRow, standIns := [], harness := (true, "f618c87e982ddc298135f572c571266c5f628bb31afac63820bfcac6e02d8761"), looks := false }, kinds := [], alts := [], laidByText := true, laidKinds := [.data], laidTests := true, laidLooks := .later }
def LadderMeetsCardSaid : Prop := Claim7.holds Tryd.pinned (.plain (OpenSpec.ofChange ladderMeetsSpec)) ladderMeetsCard

/-- THE TIED CARD OF 'chicorylaw10.LadderPoints'. -/
def ladderPointsCard : Claim7 := { stood := { row := ladderPointsRow, standIns := [], harness := (true, "f618c87e982ddc298135f572c571266c5f628bb31afac63820bfcac6e02d8761"), looks := false }, kinds := [], alts := [], laidByText := true, laidKinds := [.data], laidTests := true, laidLooks := .later }
def LadderPointsCardSaid : Prop := Claim7.holds Tryd.pinned (.plain (OpenSpec.ofChange ladderPointsSpec)) ladderPointsCard

/-- THE TIED CARD OF 'chicorylaw10.LadderSame'. -/
def ladderSameCard : Claim7 := { stood := { row := ladderSameRow, standIns := [], harness := (true, "f618c87e982ddc298135f572c571266c5f628bb31afac63820bfcac6e02d8761"), looks := false }, kinds := [], alts := [], laidByText := true, laidKinds := [.data], laidTests := true, laidLooks := .later }
def LadderSameCardSaid : Prop := Claim7.holds Tryd.pinned (.plain (OpenSpec.ofChange ladderSameSpec)) ladderSameCard

/-- THE TIED CARD OF 'chicorylaw10.LadderProducts'. -/
def ladderProductsCard : Claim7 := { stood := { row := ladderProductsRow, standIns := [], harness := (true, "f618c87e982ddc298135f572c571266c5f628bb31afac63820bfcac6e02d8761"), looks := false }, kinds := [], alts := [], laidByText := true, laidKinds := [.data], laidTests := true, laidLooks := .later }
def LadderProductsCardSaid : Prop := Claim7.holds Tryd.pinned (.plain (OpenSpec.ofChange ladderProductsSpec)) ladderProductsCard

/-- THE SECOND FORM's CARD OF 'chicorylaw10.LadderSteps'. -/
def ladderStepsUptoCard : Claim7 := { stood := { row := ladderStepsUptoRow, standIns := [], harness := (true, "f618c87e982ddc298135f572c571266c5f628bb31afac63820bfcac6e02d8761"), looks := false }, kinds := [], alts := [], laidByText := true, laidKinds := [.data], laidTests := true, laidLooks := .later }
def LadderStepsUptoCardSaid : Prop := Claim7.holds Tryd.pinned (.plain (OpenSpec.upto ladderStepsSpec)) ladderStepsUptoCard

/-- THE SECOND FORM's CARD OF 'chicorylaw10.LadderClimbs'. -/
def ladderClimbsUptoCard : Claim7 := { stood := { row := ladderClimbsUptoRow, standIns := [], harness := (true, "f618c87e982ddc298135f572c571266c5f628bb31afac63820bfcac6e02d8761"), looks := false }, kinds := [], alts := [], laidByText := true, laidKinds := [.data], laidTests := true, laidLooks := .later }
def LadderClimbsUptoCardSaid : Prop := Claim7.holds Tryd.pinned (.plain (OpenSpec.upto ladderClimbsSpec)) ladderClimbsUptoCard

/-- THE SECOND FORM's CARD OF 'chicorylaw10.LadderShares'. -/
def ladderSharesUptoCard : Claim7 := { stood := { row := ladderSharesUptoRow, standIns := [], harness := (true, "f618c87e982ddc298135f572c571266c5f628bb31afac63820bfcac6e02d8761"), looks := false }, kinds := [], alts := [], laidByText := true, laidKinds := [.data], laidTests := true, laidLooks := .later }
def LadderSharesUptoCardSaid : Prop := Claim7.holds Tryd.pinned (.plain (OpenSpec.upto ladderSharesSpec)) ladderSharesUptoCard

/-- THE SECOND FORM's CARD OF 'chicorylaw10.LadderMeets'. -/
def ladderMeetsUptoCard : Claim7 := { stood := { row := ladderMeetsUptoRow, standIns := [], harness := (true, "f618c87e982ddc298135f572c571266c5f628bb31afac63820bfcac6e02d8761"), looks := false }, kinds := [], alts := [], laidByText := true, laidKinds := [.data], laidTests := true, laidLooks := .later }
def LadderMeetsUptoCardSaid : Prop := Claim7.holds Tryd.pinned (.plain (OpenSpec.upto ladderMeetsSpec)) ladderMeetsUptoCard

/-- THE SECOND FORM's CARD OF 'chicorylaw10.LadderPoints'. -/
def ladderPointsUptoCard : Claim7 := { stood := { row := ladderPointsUptoRow, standIns := [], harness := (true, "f618c87e982ddc298135f572c571266c5f628bb31afac63820bfcac6e02d8761"), looks := false }, kinds := [], alts := [], laidByText := true, laidKinds := [.data], laidTests := true, laidLooks := .later }
def LadderPointsUptoCardSaid : Prop := Claim7.holds Tryd.pinned (.plain (OpenSpec.upto ladderPointsSpec)) ladderPointsUptoCard

/-- THE SECOND FORM's CARD OF 'chicorylaw10.LadderSame'. -/
def ladderSameUptoCard : Claim7 := { stood := { row := ladderSameUptoRow, standIns := [], harness := (true, "f618c87e982ddc298135f572c571266c5f628bb31afac63820bfcac6e02d8761"), looks := false }, kinds := [], alts := [], laidByText := true, laidKinds := [.data], laidTests := true, laidLooks := .later }
def LadderSameUptoCardSaid : Prop := Claim7.holds Tryd.pinned (.plain (OpenSpec.upto ladderSameSpec)) ladderSameUptoCard

/-- THE SECOND FORM's CARD OF 'chicorylaw10.LadderProducts'. -/
def ladderProductsUptoCard : Claim7 := { stood := { row := ladderProductsUptoRow, standIns := [], harness := (true, "f618c87e982ddc298135f572c571266c5f628bb31afac63820bfcac6e02d8761"), looks := false }, kinds := [], alts := [], laidByText := true, laidKinds := [.data], laidTests := true, laidLooks := .later }
def LadderProductsUptoCardSaid : Prop := Claim7.holds Tryd.pinned (.plain (OpenSpec.upto ladderProductsSpec)) ladderProductsUptoCard
end Rows
end Go.Proofs.YtckmboebipbpbaaDoor
