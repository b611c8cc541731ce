/-
  DERIVED. GIVEN WITH THE SEED: THE CARDS: each row of YtoeokhfhcpcjlaaGreatDoorRows.lean that lists a variable, with what it lists TIED to the program's text (the seventh form; the later family's looks); each row that meets fmt, with fmt's text TOLD by the authors' own Lean function (tested against real Go, not proved from fmt's source: count such statements apart). THE CARD IS WHAT COUNTS. Prove the row's statement (the work); the ties are given (YtoeokhfhcpcjlaaGreatDoorTie.lean); close each card by the builder's one call (the guide's Derived/Test/ToyasCard.lean, 'card_holds'). Laid BY PROGRAM, IN A SANDBOX (cutbox-door.mjs). By AI agents, Wed Nov 11 2026. No macro, syntax, notation, axiom, sorry.
-/
import Derived.Test.YtoeokhfhcpcjlaaGreatDoorRows
import GoSem.ClaimSeven
namespace Go.Proofs.YtoeokhfhcpcjlaaGreatDoor
namespace Rows

/-- THE TIED CARD OF 'chicorylaw13.TwistPoints'. -/
def twistPointsCard : Claim7 := { stood := { row := twistPointsRow, standIns := [], harness := (true, "1bab4c2eb46a91126187ebc4b5ac9bcb663eb3c155977978bd2b25bca80ca7ff"), looks := false }, kinds := [], alts := [], laidByText := true, laidKinds := [.data], laidTests := true, laidLooks := .later }
def TwistPointsCardSaid : Prop := Claim7.holds Tryz.pinned (.plain (OpenSpec.ofChange twistPointsSpec)) twistPointsCard

/-- THE TIED CARD OF 'chicorylaw13.TwistAdds'. -/
def twistAddsCard : Claim7 := { stood := { row := twistAddsRow, standIns := [], harness := (true, "1bab4c2eb46a91126187ebc4b5ac9bcb663eb3c155977978bd2b25bca80ca7ff"), looks := false }, kinds := [], alts := [], laidByText := true, laidKinds := [.data], laidTests := true, laidLooks := .later }
def TwistAddsCardSaid : Prop := Claim7.holds Tryz.pinned (.plain (OpenSpec.ofChange twistAddsSpec)) twistAddsCard

/-- THE TIED CARD OF 'chicorylaw13.TwistFours'. -/
def twistFoursCard : Claim7 := { stood := { row := twistFoursRow, standIns := [], harness := (true, "1bab4c2eb46a91126187ebc4b5ac9bcb663eb3c155977978bd2b25bca80ca7ff"), looks := false }, kinds := [], alts := [], laidByText := true, laidKinds := [.data], laidTests := true, laidLooks := .later }
def TwistFoursCardSaid : Prop := Claim7.holds Tryz.pinned (.plain (OpenSpec.ofChange twistFoursSpec)) twistFoursCard

/-- THE TIED CARD OF 'chicorylaw13.TwistHomes'. -/
def twistHomesCard : Claim7 := { stood := { row := twistHomesRow, standIns := [], harness := (true, "1bab4c2eb46a91126187ebc4b5ac9bcb663eb3c155977978bd2b25bca80ca7ff"), looks := false }, kinds := [], alts := [], laidByText := true, laidKinds := [.data], laidTests := true, laidLooks := .later }
def TwistHomesCardSaid : Prop := Claim7.holds Tryz.pinned (.plain (OpenSpec.ofChange twistHomesSpec)) twistHomesCard

/-- THE TIED CARD OF 'chicorylaw13.TwistFaces'. -/
def twistFacesCard : Claim7 := { stood := { row := twistFacesRow, standIns := [], harness := (true, "1bab4c2eb46a91126187ebc4b5ac9bcb663eb3c155977978bd2b25bca80ca7ff"), looks := false }, kinds := [], alts := [], laidByText := true, laidKinds := [.data], laidTests := true, laidLooks := .later }
def TwistFacesCardSaid : Prop := Claim7.holds Tryz.pinned (.plain (OpenSpec.ofChange twistFacesSpec)) twistFacesCard

/-- THE SECOND FORM's CARD OF 'chicorylaw13.TwistPoints'. -/
def twistPointsUptoCard : Claim7 := { stood := { row := twistPointsUptoRow, standIns := [], harness := (true, "1bab4c2eb46a91126187ebc4b5ac9bcb663eb3c155977978bd2b25bca80ca7ff"), looks := false }, kinds := [], alts := [], laidByText := true, laidKinds := [.data], laidTests := true, laidLooks := .later }
def TwistPointsUptoCardSaid : Prop := Claim7.holds Tryz.pinned (.plain (OpenSpec.upto twistPointsSpec)) twistPointsUptoCard

/-- THE SECOND FORM's CARD OF 'chicorylaw13.TwistAdds'. -/
def twistAddsUptoCard : Claim7 := { stood := { row := twistAddsUptoRow, standIns := [], harness := (true, "1bab4c2eb46a91126187ebc4b5ac9bcb663eb3c155977978bd2b25bca80ca7ff"), looks := false }, kinds := [], alts := [], laidByText := true, laidKinds := [.data], laidTests := true, laidLooks := .later }
def TwistAddsUptoCardSaid : Prop := Claim7.holds Tryz.pinned (.plain (OpenSpec.upto twistAddsSpec)) twistAddsUptoCard

/-- THE SECOND FORM's CARD OF 'chicorylaw13.TwistFours'. -/
def twistFoursUptoCard : Claim7 := { stood := { row := twistFoursUptoRow, standIns := [], harness := (true, "1bab4c2eb46a91126187ebc4b5ac9bcb663eb3c155977978bd2b25bca80ca7ff"), looks := false }, kinds := [], alts := [], laidByText := true, laidKinds := [.data], laidTests := true, laidLooks := .later }
def TwistFoursUptoCardSaid : Prop := Claim7.holds Tryz.pinned (.plain (OpenSpec.upto twistFoursSpec)) twistFoursUptoCard

/-- THE SECOND FORM's CARD OF 'chicorylaw13.TwistHomes'. -/
def twistHomesUptoCard : Claim7 := { stood := { row := twistHomesUptoRow, standIns := [], harness := (true, "1bab4c2eb46a91126187ebc4b5ac9bcb663eb3c155977978bd2b25bca80ca7ff"), looks := false }, kinds := [], alts := [], laidByText := true, laidKinds := [.data], laidTests := true, laidLooks := .later }
def TwistHomesUptoCardSaid : Prop := Claim7.holds Tryz.pinned (.plain (OpenSpec.upto twistHomesSpec)) twistHomesUptoCard

/-- THE SECOND FORM's CARD OF 'chicorylaw13.TwistFaces'. -/
def twistFacesUptoCard : Claim7 := { stood := { row := twistFacesUptoRow, standIns := [], harness := (true, "1bab4c2eb46a91126187ebc4b5ac9bcb663eb3c155977978bd2b25bca80ca7ff"), looks := false }, kinds := [], alts := [], laidByText := true, laidKinds := [.data], laidTests := true, laidLooks := .later }
def TwistFacesUptoCardSaid : Prop := Claim7.holds Tryz.pinned (.plain (OpenSpec.upto twistFacesSpec)) twistFacesUptoCard
end Rows
end Go.Proofs.YtoeokhfhcpcjlaaGreatDoor
