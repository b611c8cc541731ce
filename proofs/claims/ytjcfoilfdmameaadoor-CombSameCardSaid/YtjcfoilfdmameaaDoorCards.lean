/-
  DERIVED. GIVEN WITH THE SEED: THE CARDS: each row of YtjcfoilfdmameaaDoorRows.lean that lists a variable, with what it lists TIED to the program's text (the seventh form; the later family's looks); each row that meets fmt, with fmt's text TOLD by the authors' own Lean function (tested against real Go, not proved from fmt's source: count such statements apart). THE CARD IS WHAT COUNTS. Prove the row's statement (the work); the ties are given (YtjcfoilfdmameaaDoorTie.lean); close each card by the builder's one call (the guide's Derived/Test/ToyasCard.lean, 'card_holds'). Laid BY PROGRAM, IN A SANDBOX (cutbox-door.mjs). By AI agents, Wed Nov 11 2026. No macro, syntax, notation, axiom, sorry.
-/
import Derived.Test.YtjcfoilfdmameaaDoorRows
import GoSem.ClaimSeven
namespace Go.Proofs.YtjcfoilfdmameaaDoor
namespace Rows

/-- THE TIED CARD OF 'chicorylaw11.CombSame'. -/
def combSameCard : Claim7 := { stood := { row := combSameRow, standIns := [], harness := (true, "46a11a06bceb44b7b441dc6b8de8af33a2e2c58fc8da9f7c159e6b8c2451dfaf"), looks := false }, kinds := [], alts := [], laidByText := true, laidKinds := [.data], laidTests := true, laidLooks := .later }
def CombSameCardSaid : Prop := Claim7.holds Tryd.pinned (.plain (OpenSpec.ofChange combSameSpec)) combSameCard

/-- THE TIED CARD OF 'chicorylaw11.CombNil'. -/
def combNilCard : Claim7 := { stood := { row := combNilRow, standIns := [], harness := (true, "46a11a06bceb44b7b441dc6b8de8af33a2e2c58fc8da9f7c159e6b8c2451dfaf"), looks := false }, kinds := [], alts := [], laidByText := true, laidKinds := [.data], laidTests := true, laidLooks := .later }
def CombNilCardSaid : Prop := Claim7.holds Tryd.pinned (.plain (OpenSpec.ofChange combNilSpec)) combNilCard

/-- THE SECOND FORM's CARD OF 'chicorylaw11.CombSame'. -/
def combSameUptoCard : Claim7 := { stood := { row := combSameUptoRow, standIns := [], harness := (true, "46a11a06bceb44b7b441dc6b8de8af33a2e2c58fc8da9f7c159e6b8c2451dfaf"), looks := false }, kinds := [], alts := [], laidByText := true, laidKinds := [.data], laidTests := true, laidLooks := .later }
def CombSameUptoCardSaid : Prop := Claim7.holds Tryd.pinned (.plain (OpenSpec.upto combSameSpec)) combSameUptoCard

/-- THE SECOND FORM's CARD OF 'chicorylaw11.CombNil'. -/
def combNilUptoCard : Claim7 := { stood := { row := combNilUptoRow, standIns := [], harness := (true, "46a11a06bceb44b7b441dc6b8de8af33a2e2c58fc8da9f7c159e6b8c2451dfaf"), looks := false }, kinds := [], alts := [], laidByText := true, laidKinds := [.data], laidTests := true, laidLooks := .later }
def CombNilUptoCardSaid : Prop := Claim7.holds Tryd.pinned (.plain (OpenSpec.upto combNilSpec)) combNilUptoCard
end Rows
end Go.Proofs.YtjcfoilfdmameaaDoor
