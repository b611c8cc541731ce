/-
  DERIVED. GIVEN WITH THE SEED: THE CARDS: each row of YtgcdahcmfniceaaDoorRows.lean that lists a variable, with what it lists TIED to the program's text (the seventh form; the later family's looks); each row that meets fmt, with fmt's text TOLD by the authors' own Lean function (tested against real Go, not proved from fmt's source: count such statements apart). THE CARD IS WHAT COUNTS. Prove the row's statement (the work); the ties are given (YtgcdahcmfniceaaDoorTie.lean); close each card by the builder's one call (the guide's Derived/Test/ToyasCard.lean, 'card_holds'). Laid BY PROGRAM, IN A SANDBOX (cutbox-door.mjs). By AI agents, Wed Nov 11 2026. No macro, syntax, notation, axiom, sorry.
-/
import Derived.Test.YtgcdahcmfniceaaDoorRows
import GoSem.ClaimSeven
namespace Go.Proofs.YtgcdahcmfniceaaDoor
namespace Rows

/-- THE TIED CARD OF 'chicorylaw05.RootScales'. -/
def rootScalesCard : Claim7 := { stood := { row := rootScalesRow, standIns := [], harness := (true, "f674357f679b7695e805a15f30ff7f7110b90afea4b701aaeace1b18a2542dc0"), looks := false }, kinds := [], alts := [], laidByText := true, laidKinds := [.data], laidTests := true, laidLooks := .later }
def RootScalesCardSaid : Prop := Claim7.holds Tryd.pinned (.plain (OpenSpec.ofChange rootScalesSpec)) rootScalesCard

/-- THE SECOND FORM's CARD OF 'chicorylaw05.RootScales'. -/
def rootScalesUptoCard : Claim7 := { stood := { row := rootScalesUptoRow, standIns := [], harness := (true, "f674357f679b7695e805a15f30ff7f7110b90afea4b701aaeace1b18a2542dc0"), looks := false }, kinds := [], alts := [], laidByText := true, laidKinds := [.data], laidTests := true, laidLooks := .later }
def RootScalesUptoCardSaid : Prop := Claim7.holds Tryd.pinned (.plain (OpenSpec.upto rootScalesSpec)) rootScalesUptoCard
end Rows
end Go.Proofs.YtgcdahcmfniceaaDoor
