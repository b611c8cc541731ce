/-
  DERIVED. GIVEN WITH THE SEED: THE CARDS: each row of YthdapglpaaigaaaDoorRows.lean that lists a variable, with what it lists TIED to the program's text (the seventh form; the later family's looks); each row that meets fmt, with fmt's text TOLD by the authors' own Lean function (tested against real Go, not proved from fmt's source: count such statements apart). THE CARD IS WHAT COUNTS. Prove the row's statement (the work); the ties are given (YthdapglpaaigaaaDoorTie.lean); close each card by the builder's one call (the guide's Derived/Test/ToyasCard.lean, 'card_holds'). Laid BY PROGRAM, IN A SANDBOX (cutbox-door.mjs). By AI agents, Wed Nov 11 2026. No macro, syntax, notation, axiom, sorry.
-/
import Derived.Test.YthdapglpaaigaaaDoorRows
import GoSem.ClaimSeven
namespace Go.Proofs.YthdapglpaaigaaaDoor
namespace Rows

/-- THE TIED CARD OF 'chicorylaw08.PointOf'. -/
def pointOfCard : Claim7 := { stood := { row := pointOfRow, standIns := [], harness := (true, "b9936672ce2efad54d90bffd3b0a6fb914c5cdf4293522b73a356718b98c39d6"), looks := false }, kinds := [], alts := [], laidByText := true, laidKinds := [.data], laidTests := true, laidLooks := .later }
def PointOfCardSaid : Prop := Claim7.holds Tryd.pinned (.plain (OpenSpec.ofChange pointOfSpec)) pointOfCard

/-- THE TIED CARD OF 'chicorylaw08.PointAdds'. -/
def pointAddsCard : Claim7 := { stood := { row := pointAddsRow, standIns := [], harness := (true, "b9936672ce2efad54d90bffd3b0a6fb914c5cdf4293522b73a356718b98c39d6"), looks := false }, kinds := [], alts := [], laidByText := true, laidKinds := [.data], laidTests := true, laidLooks := .later }
def PointAddsCardSaid : Prop := Claim7.holds Tryd.pinned (.plain (OpenSpec.ofChange pointAddsSpec)) pointAddsCard

/-- THE TIED CARD OF 'chicorylaw08.PointPicks'. -/
def pointPicksCard : Claim7 := { stood := { row := pointPicksRow, standIns := [], harness := (true, "b9936672ce2efad54d90bffd3b0a6fb914c5cdf4293522b73a356718b98c39d6"), looks := false }, kinds := [], alts := [], laidByText := true, laidKinds := [.data], laidTests := true, laidLooks := .later }
def PointPicksCardSaid : Prop := Claim7.holds Tryd.pinned (.plain (OpenSpec.ofChange pointPicksSpec)) pointPicksCard

/-- THE TIED CARD OF 'chicorylaw08.PointGroup'. -/
def pointGroupCard : Claim7 := { stood := { row := pointGroupRow, standIns := [], harness := (true, "b9936672ce2efad54d90bffd3b0a6fb914c5cdf4293522b73a356718b98c39d6"), looks := false }, kinds := [], alts := [], laidByText := true, laidKinds := [.data], laidTests := true, laidLooks := .later }
def PointGroupCardSaid : Prop := Claim7.holds Tryd.pinned (.plain (OpenSpec.ofChange pointGroupSpec)) pointGroupCard

/-- THE TIED CARD OF 'chicorylaw08.PointOrder'. -/
def pointOrderCard : Claim7 := { stood := { row := pointOrderRow, standIns := [], harness := (true, "b9936672ce2efad54d90bffd3b0a6fb914c5cdf4293522b73a356718b98c39d6"), looks := false }, kinds := [], alts := [], laidByText := true, laidKinds := [.data], laidTests := true, laidLooks := .later }
def PointOrderCardSaid : Prop := Claim7.holds Tryd.pinned (.plain (OpenSpec.ofChange pointOrderSpec)) pointOrderCard

/-- THE TIED CARD OF 'chicorylaw08.PointHangs'. -/
def pointHangsCard : Claim7 := { stood := { row := pointHangsRow, standIns := [], harness := (true, "b9936672ce2efad54d90bffd3b0a6fb914c5cdf4293522b73a356718b98c39d6"), looks := false }, kinds := [], alts := [], laidByText := true, laidKinds := [.data], laidTests := true, laidLooks := .later }
def PointHangsCardSaid : Prop := Claim7.holds Tryd.pinned (.plain (OpenSpec.ofChange pointHangsSpec)) pointHangsCard

/-- THE TIED CARD OF 'chicorylaw08.PointTurns'. -/
def pointTurnsCard : Claim7 := { stood := { row := pointTurnsRow, standIns := [], harness := (true, "b9936672ce2efad54d90bffd3b0a6fb914c5cdf4293522b73a356718b98c39d6"), looks := false }, kinds := [], alts := [], laidByText := true, laidKinds := [.data], laidTests := true, laidLooks := .later }
def PointTurnsCardSaid : Prop := Claim7.holds Tryd.pinned (.plain (OpenSpec.ofChange pointTurnsSpec)) pointTurnsCard

/-- THE SECOND FORM's CARD OF 'chicorylaw08.PointOf'. -/
def pointOfUptoCard : Claim7 := { stood := { row := pointOfUptoRow, standIns := [], harness := (true, "b9936672ce2efad54d90bffd3b0a6fb914c5cdf4293522b73a356718b98c39d6"), looks := false }, kinds := [], alts := [], laidByText := true, laidKinds := [.data], laidTests := true, laidLooks := .later }
def PointOfUptoCardSaid : Prop := Claim7.holds Tryd.pinned (.plain (OpenSpec.upto pointOfSpec)) pointOfUptoCard

/-- THE SECOND FORM's CARD OF 'chicorylaw08.PointAdds'. -/
def pointAddsUptoCard : Claim7 := { stood := { row := pointAddsUptoRow, standIns := [], harness := (true, "b9936672ce2efad54d90bffd3b0a6fb914c5cdf4293522b73a356718b98c39d6"), looks := false }, kinds := [], alts := [], laidByText := true, laidKinds := [.data], laidTests := true, laidLooks := .later }
def PointAddsUptoCardSaid : Prop := Claim7.holds Tryd.pinned (.plain (OpenSpec.upto pointAddsSpec)) pointAddsUptoCard

/-- THE SECOND FORM's CARD OF 'chicorylaw08.PointPicks'. -/
def pointPicksUptoCard : Claim7 := { stood := { row := pointPicksUptoRow, standIns := [], harness := (true, "b9936672ce2efad54d90bffd3b0a6fb914c5cdf4293522b73a356718b98c39d6"), looks := false }, kinds := [], alts := [], laidByText := true, laidKinds := [.data], laidTests := true, laidLooks := .later }
def PointPicksUptoCardSaid : Prop := Claim7.holds Tryd.pinned (.plain (OpenSpec.upto pointPicksSpec)) pointPicksUptoCard

/-- THE SECOND FORM's CARD OF 'chicorylaw08.PointGroup'. -/
def pointGroupUptoCard : Claim7 := { stood := { row := pointGroupUptoRow, standIns := [], harness := (true, "b9936672ce2efad54d90bffd3b0a6fb914c5cdf4293522b73a356718b98c39d6"), looks := false }, kinds := [], alts := [], laidByText := true, laidKinds := [.data], laidTests := true, laidLooks := .later }
def PointGroupUptoCardSaid : Prop := Claim7.holds Tryd.pinned (.plain (OpenSpec.upto pointGroupSpec)) pointGroupUptoCard

/-- THE SECOND FORM's CARD OF 'chicorylaw08.PointOrder'. -/
def pointOrderUptoCard : Claim7 := { stood := { row := pointOrderUptoRow, standIns := [], harness := (true, "b9936672ce2efad54d90bffd3b0a6fb914c5cdf4293522b73a356718b98c39d6"), looks := false }, kinds := [], alts := [], laidByText := true, laidKinds := [.data], laidTests := true, laidLooks := .later }
def PointOrderUptoCardSaid : Prop := Claim7.holds Tryd.pinned (.plain (OpenSpec.upto pointOrderSpec)) pointOrderUptoCard

/-- THE SECOND FORM's CARD OF 'chicorylaw08.PointHangs'. -/
def pointHangsUptoCard : Claim7 := { stood := { row := pointHangsUptoRow, standIns := [], harness := (true, "b9936672ce2efad54d90bffd3b0a6fb914c5cdf4293522b73a356718b98c39d6"), looks := false }, kinds := [], alts := [], laidByText := true, laidKinds := [.data], laidTests := true, laidLooks := .later }
def PointHangsUptoCardSaid : Prop := Claim7.holds Tryd.pinned (.plain (OpenSpec.upto pointHangsSpec)) pointHangsUptoCard

/-- THE SECOND FORM's CARD OF 'chicorylaw08.PointTurns'. -/
def pointTurnsUptoCard : Claim7 := { stood := { row := pointTurnsUptoRow, standIns := [], harness := (true, "b9936672ce2efad54d90bffd3b0a6fb914c5cdf4293522b73a356718b98c39d6"), looks := false }, kinds := [], alts := [], laidByText := true, laidKinds := [.data], laidTests := true, laidLooks := .later }
def PointTurnsUptoCardSaid : Prop := Claim7.holds Tryd.pinned (.plain (OpenSpec.upto pointTurnsSpec)) pointTurnsUptoCard
end Rows
end Go.Proofs.YthdapglpaaigaaaDoor
