/-
  DERIVED. GIVEN WITH THE SEED: THE CARDS: each row of YtgjbonikbmgfmaaGreatDoorRows.lean that lists a variable, with what it lists TIED to the program's text (the seventh form; the later family's looks); each row that meets fmt, with fmt's text TOLD by the authors' own Lean function (tested against real Go, not proved from fmt's source: count such statements apart). THE CARD IS WHAT COUNTS. Prove the row's statement (the work); the ties are given (YtgjbonikbmgfmaaGreatDoorTie.lean); close each card by the builder's one call (the guide's Derived/Test/ToyasCard.lean, 'card_holds'). Laid BY PROGRAM, IN A SANDBOX (cutbox-door.mjs). By AI agents, Wed Nov 11 2026. No macro, syntax, notation, axiom, sorry.
-/
import Derived.Test.YtgjbonikbmgfmaaGreatDoorRows
import GoSem.ClaimSeven
namespace Go.Proofs.YtgjbonikbmgfmaaGreatDoor
namespace Rows

/-- THE TIED CARD OF 'chicorylaw14.DecafDecodes'. -/
def decafDecodesCard : Claim7 := { stood := { row := decafDecodesRow, standIns := [], harness := (true, "9b29495ae3513a37d6e74d9ebe6e2d1075a29d30bf9a234d7082e6fed7527198"), looks := false }, kinds := [], alts := [], laidByText := true, laidKinds := [.data], laidTests := true, laidLooks := .later }
def DecafDecodesCardSaid : Prop := Claim7.holds Tryz.pinned (.plain (OpenSpec.ofChange decafDecodesSpec)) decafDecodesCard

/-- THE TIED CARD OF 'chicorylaw14.DecafEncodes'. -/
def decafEncodesCard : Claim7 := { stood := { row := decafEncodesRow, standIns := [], harness := (true, "9b29495ae3513a37d6e74d9ebe6e2d1075a29d30bf9a234d7082e6fed7527198"), looks := false }, kinds := [], alts := [], laidByText := true, laidKinds := [.data], laidTests := true, laidLooks := .later }
def DecafEncodesCardSaid : Prop := Claim7.holds Tryz.pinned (.plain (OpenSpec.ofChange decafEncodesSpec)) decafEncodesCard

/-- THE TIED CARD OF 'chicorylaw14.DecafAdds'. -/
def decafAddsCard : Claim7 := { stood := { row := decafAddsRow, standIns := [], harness := (true, "9b29495ae3513a37d6e74d9ebe6e2d1075a29d30bf9a234d7082e6fed7527198"), looks := false }, kinds := [], alts := [], laidByText := true, laidKinds := [.data], laidTests := true, laidLooks := .later }
def DecafAddsCardSaid : Prop := Claim7.holds Tryz.pinned (.plain (OpenSpec.ofChange decafAddsSpec)) decafAddsCard

/-- THE TIED CARD OF 'chicorylaw14.DecafMuls'. -/
def decafMulsCard : Claim7 := { stood := { row := decafMulsRow, standIns := [], harness := (true, "9b29495ae3513a37d6e74d9ebe6e2d1075a29d30bf9a234d7082e6fed7527198"), looks := false }, kinds := [], alts := [], laidByText := true, laidKinds := [.data, .data, .data], laidTests := true, laidLooks := .later }
def DecafMulsCardSaid : Prop := Claim7.holds Tryz.pinned (.plain (OpenSpec.ofChange decafMulsSpec)) decafMulsCard

/-- THE TIED CARD OF 'chicorylaw14.DecafGroup'. -/
def decafGroupCard : Claim7 := { stood := { row := decafGroupRow, standIns := [], harness := (true, "9b29495ae3513a37d6e74d9ebe6e2d1075a29d30bf9a234d7082e6fed7527198"), looks := false }, kinds := [], alts := [], laidByText := true, laidKinds := [.data, .data], laidTests := true, laidLooks := .later }
def DecafGroupCardSaid : Prop := Claim7.holds Tryz.pinned (.plain (OpenSpec.ofChange decafGroupSpec)) decafGroupCard

/-- THE TIED CARD OF 'chicorylaw14.DecafScales'. -/
def decafScalesCard : Claim7 := { stood := { row := decafScalesRow, standIns := [], harness := (true, "9b29495ae3513a37d6e74d9ebe6e2d1075a29d30bf9a234d7082e6fed7527198"), looks := false }, kinds := [], alts := [], laidByText := true, laidKinds := [.data, .data, .data], laidTests := true, laidLooks := .later }
def DecafScalesCardSaid : Prop := Claim7.holds Tryz.pinned (.plain (OpenSpec.ofChange decafScalesSpec)) decafScalesCard

/-- THE TIED CARD OF 'chicorylaw14.DecafFour'. -/
def decafFourCard : Claim7 := { stood := { row := decafFourRow, standIns := [], harness := (true, "9b29495ae3513a37d6e74d9ebe6e2d1075a29d30bf9a234d7082e6fed7527198"), looks := false }, kinds := [], alts := [], laidByText := true, laidKinds := [.data], laidTests := true, laidLooks := .later }
def DecafFourCardSaid : Prop := Claim7.holds Tryz.pinned (.plain (OpenSpec.ofChange decafFourSpec)) decafFourCard

/-- THE SECOND FORM's CARD OF 'chicorylaw14.DecafDecodes'. -/
def decafDecodesUptoCard : Claim7 := { stood := { row := decafDecodesUptoRow, standIns := [], harness := (true, "9b29495ae3513a37d6e74d9ebe6e2d1075a29d30bf9a234d7082e6fed7527198"), looks := false }, kinds := [], alts := [], laidByText := true, laidKinds := [.data], laidTests := true, laidLooks := .later }
def DecafDecodesUptoCardSaid : Prop := Claim7.holds Tryz.pinned (.plain (OpenSpec.upto decafDecodesSpec)) decafDecodesUptoCard

/-- THE SECOND FORM's CARD OF 'chicorylaw14.DecafEncodes'. -/
def decafEncodesUptoCard : Claim7 := { stood := { row := decafEncodesUptoRow, standIns := [], harness := (true, "9b29495ae3513a37d6e74d9ebe6e2d1075a29d30bf9a234d7082e6fed7527198"), looks := false }, kinds := [], alts := [], laidByText := true, laidKinds := [.data], laidTests := true, laidLooks := .later }
def DecafEncodesUptoCardSaid : Prop := Claim7.holds Tryz.pinned (.plain (OpenSpec.upto decafEncodesSpec)) decafEncodesUptoCard

/-- THE SECOND FORM's CARD OF 'chicorylaw14.DecafAdds'. -/
def decafAddsUptoCard : Claim7 := { stood := { row := decafAddsUptoRow, standIns := [], harness := (true, "9b29495ae3513a37d6e74d9ebe6e2d1075a29d30bf9a234d7082e6fed7527198"), looks := false }, kinds := [], alts := [], laidByText := true, laidKinds := [.data], laidTests := true, laidLooks := .later }
def DecafAddsUptoCardSaid : Prop := Claim7.holds Tryz.pinned (.plain (OpenSpec.upto decafAddsSpec)) decafAddsUptoCard

/-- THE SECOND FORM's CARD OF 'chicorylaw14.DecafMuls'. -/
def decafMulsUptoCard : Claim7 := { stood := { row := decafMulsUptoRow, standIns := [], harness := (true, "9b29495ae3513a37d6e74d9ebe6e2d1075a29d30bf9a234d7082e6fed7527198"), looks := false }, kinds := [], alts := [], laidByText := true, laidKinds := [.data, .data, .data], laidTests := true, laidLooks := .later }
def DecafMulsUptoCardSaid : Prop := Claim7.holds Tryz.pinned (.plain (OpenSpec.upto decafMulsSpec)) decafMulsUptoCard

/-- THE SECOND FORM's CARD OF 'chicorylaw14.DecafGroup'. -/
def decafGroupUptoCard : Claim7 := { stood := { row := decafGroupUptoRow, standIns := [], harness := (true, "9b29495ae3513a37d6e74d9ebe6e2d1075a29d30bf9a234d7082e6fed7527198"), looks := false }, kinds := [], alts := [], laidByText := true, laidKinds := [.data, .data], laidTests := true, laidLooks := .later }
def DecafGroupUptoCardSaid : Prop := Claim7.holds Tryz.pinned (.plain (OpenSpec.upto decafGroupSpec)) decafGroupUptoCard

/-- THE SECOND FORM's CARD OF 'chicorylaw14.DecafScales'. -/
def decafScalesUptoCard : Claim7 := { stood := { row := decafScalesUptoRow, standIns := [], harness := (true, "9b29495ae3513a37d6e74d9ebe6e2d1075a29d30bf9a234d7082e6fed7527198"), looks := false }, kinds := [], alts := [], laidByText := true, laidKinds := [.data, .data, .data], laidTests := true, laidLooks := .later }
def DecafScalesUptoCardSaid : Prop := Claim7.holds Tryz.pinned (.plain (OpenSpec.upto decafScalesSpec)) decafScalesUptoCard

/-- THE SECOND FORM's CARD OF 'chicorylaw14.DecafFour'. -/
def decafFourUptoCard : Claim7 := { stood := { row := decafFourUptoRow, standIns := [], harness := (true, "9b29495ae3513a37d6e74d9ebe6e2d1075a29d30bf9a234d7082e6fed7527198"), looks := false }, kinds := [], alts := [], laidByText := true, laidKinds := [.data], laidTests := true, laidLooks := .later }
def DecafFourUptoCardSaid : Prop := Claim7.holds Tryz.pinned (.plain (OpenSpec.upto decafFourSpec)) decafFourUptoCard
end Rows
end Go.Proofs.YtgjbonikbmgfmaaGreatDoor
