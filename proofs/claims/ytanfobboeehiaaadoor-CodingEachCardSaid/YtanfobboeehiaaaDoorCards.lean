/-
  DERIVED. GIVEN WITH THE SEED: THE CARDS: each row of YtanfobboeehiaaaDoorRows.lean that lists a variable, with what it lists TIED to the program's text (the seventh form; the later family's looks); each row that meets fmt, with fmt's text TOLD by the authors' own Lean function (tested against real Go, not proved from fmt's source: count such statements apart). THE CARD IS WHAT COUNTS. Prove the row's statement (the work); the ties are given (YtanfobboeehiaaaDoorTie.lean); close each card by the builder's one call (the guide's Derived/Test/ToyasCard.lean, 'card_holds'). Laid BY PROGRAM, IN A SANDBOX (cutbox-door.mjs). By AI agents, Wed Nov 11 2026. No macro, syntax, notation, axiom, sorry.
-/
import Derived.Test.YtanfobboeehiaaaDoorRows
import GoSem.ClaimSeven
namespace Go.Proofs.YtanfobboeehiaaaDoor
namespace Rows

/-- THE TIED CARD OF 'chicorylaw09.CodingWrites'. -/
def codingWritesCard : Claim7 := { stood := { row := codingWritesRow, standIns := [], harness := (true, "145437c059ea03d0bd4cc8bd085485e6d8c66a9e7220b80c4535419ff26e0d0b"), looks := false }, kinds := [], alts := [], laidByText := true, laidKinds := [.data], laidTests := true, laidLooks := .later }
def CodingWritesCardSaid : Prop := Claim7.holds Tryd.pinned (.plain (OpenSpec.ofChange codingWritesSpec)) codingWritesCard

/-- THE TIED CARD OF 'chicorylaw09.CodingReads'. -/
def codingReadsCard : Claim7 := { stood := { row := codingReadsRow, standIns := [], harness := (true, "145437c059ea03d0bd4cc8bd085485e6d8c66a9e7220b80c4535419ff26e0d0b"), looks := false }, kinds := [], alts := [], laidByText := true, laidKinds := [.data], laidTests := true, laidLooks := .later }
def CodingReadsCardSaid : Prop := Claim7.holds Tryd.pinned (.plain (OpenSpec.ofChange codingReadsSpec)) codingReadsCard

/-- THE TIED CARD OF 'chicorylaw09.CodingBack'. -/
def codingBackCard : Claim7 := { stood := { row := codingBackRow, standIns := [], harness := (true, "145437c059ea03d0bd4cc8bd085485e6d8c66a9e7220b80c4535419ff26e0d0b"), looks := false }, kinds := [], alts := [], laidByText := true, laidKinds := [.data], laidTests := true, laidLooks := .later }
def CodingBackCardSaid : Prop := Claim7.holds Tryd.pinned (.plain (OpenSpec.ofChange codingBackSpec)) codingBackCard

/-- THE TIED CARD OF 'chicorylaw09.CodingSame'. -/
def codingSameCard : Claim7 := { stood := { row := codingSameRow, standIns := [], harness := (true, "145437c059ea03d0bd4cc8bd085485e6d8c66a9e7220b80c4535419ff26e0d0b"), looks := false }, kinds := [], alts := [], laidByText := true, laidKinds := [.data], laidTests := true, laidLooks := .later }
def CodingSameCardSaid : Prop := Claim7.holds Tryd.pinned (.plain (OpenSpec.ofChange codingSameSpec)) codingSameCard

/-- THE TIED CARD OF 'chicorylaw09.CodingEach'. -/
def codingEachCard : Claim7 := { stood := { row := codingEachRow, standIns := [], harness := (true, "145437c059ea03d0bd4cc8bd085485e6d8c66a9e7220b80c4535419ff26e0d0b"), looks := false }, kinds := [], alts := [], laidByText := true, laidKinds := [.data], laidTests := true, laidLooks := .later }
def CodingEachCardSaid : Prop := Claim7.holds Tryd.pinned (.plain (OpenSpec.ofChange codingEachSpec)) codingEachCard

/-- THE SECOND FORM's CARD OF 'chicorylaw09.CodingWrites'. -/
def codingWritesUptoCard : Claim7 := { stood := { row := codingWritesUptoRow, standIns := [], harness := (true, "145437c059ea03d0bd4cc8bd085485e6d8c66a9e7220b80c4535419ff26e0d0b"), looks := false }, kinds := [], alts := [], laidByText := true, laidKinds := [.data], laidTests := true, laidLooks := .later }
def CodingWritesUptoCardSaid : Prop := Claim7.holds Tryd.pinned (.plain (OpenSpec.upto codingWritesSpec)) codingWritesUptoCard

/-- THE SECOND FORM's CARD OF 'chicorylaw09.CodingReads'. -/
def codingReadsUptoCard : Claim7 := { stood := { row := codingReadsUptoRow, standIns := [], harness := (true, "145437c059ea03d0bd4cc8bd085485e6d8c66a9e7220b80c4535419ff26e0d0b"), looks := false }, kinds := [], alts := [], laidByText := true, laidKinds := [.data], laidTests := true, laidLooks := .later }
def CodingReadsUptoCardSaid : Prop := Claim7.holds Tryd.pinned (.plain (OpenSpec.upto codingReadsSpec)) codingReadsUptoCard

/-- THE SECOND FORM's CARD OF 'chicorylaw09.CodingBack'. -/
def codingBackUptoCard : Claim7 := { stood := { row := codingBackUptoRow, standIns := [], harness := (true, "145437c059ea03d0bd4cc8bd085485e6d8c66a9e7220b80c4535419ff26e0d0b"), looks := false }, kinds := [], alts := [], laidByText := true, laidKinds := [.data], laidTests := true, laidLooks := .later }
def CodingBackUptoCardSaid : Prop := Claim7.holds Tryd.pinned (.plain (OpenSpec.upto codingBackSpec)) codingBackUptoCard

/-- THE SECOND FORM's CARD OF 'chicorylaw09.CodingSame'. -/
def codingSameUptoCard : Claim7 := { stood := { row := codingSameUptoRow, standIns := [], harness := (true, "145437c059ea03d0bd4cc8bd085485e6d8c66a9e7220b80c4535419ff26e0d0b"), looks := false }, kinds := [], alts := [], laidByText := true, laidKinds := [.data], laidTests := true, laidLooks := .later }
def CodingSameUptoCardSaid : Prop := Claim7.holds Tryd.pinned (.plain (OpenSpec.upto codingSameSpec)) codingSameUptoCard

/-- THE SECOND FORM's CARD OF 'chicorylaw09.CodingEach'. -/
def codingEachUptoCard : Claim7 := { stood := { row := codingEachUptoRow, standIns := [], harness := (true, "145437c059ea03d0bd4cc8bd085485e6d8c66a9e7220b80c4535419ff26e0d0b"), looks := false }, kinds := [], alts := [], laidByText := true, laidKinds := [.data], laidTests := true, laidLooks := .later }
def CodingEachUptoCardSaid : Prop := Claim7.holds Tryd.pinned (.plain (OpenSpec.upto codingEachSpec)) codingEachUptoCard
end Rows
end Go.Proofs.YtanfobboeehiaaaDoor
