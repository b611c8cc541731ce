/-
  DERIVED. GIVEN WITH THE SEED: THE CARDS: each row of YtieoapcakdaelaaDoorRows.lean that lists a variable, with what it lists TIED to the program's text (the seventh form; the later family's looks); each row that meets fmt, with fmt's text TOLD by the authors' own Lean function (tested against real Go, not proved from fmt's source: count such statements apart). THE CARD IS WHAT COUNTS. Prove the row's statement (the work); the ties are given (YtieoapcakdaelaaDoorTie.lean); close each card by the builder's one call (the guide's Derived/Test/ToyasCard.lean, 'card_holds'). Laid BY PROGRAM, IN A SANDBOX (cutbox-door.mjs). By AI agents, Wed Nov 11 2026. No macro, syntax, notation, axiom, sorry.
-/
import Derived.Test.YtieoapcakdaelaaDoorRows
import GoSem.ClaimSeven
namespace Go.Proofs.YtieoapcakdaelaaDoor
namespace Rows

/-- THE TIED CARD OF 'chicorylaw04.FieldLong'. -/
def fieldLongCard : Claim7 := { stood := { row := fieldLongRow, standIns := [], harness := (true, "308ed562ca6122580f98d04f3295b96626590448e7425ccab24df22ae46466a7"), looks := false }, kinds := [], alts := [], laidByText := true, laidKinds := [.data], laidTests := true, laidLooks := .later }
def FieldLongCardSaid : Prop := Claim7.holds Tryd.pinned (.plain (OpenSpec.ofChange fieldLongSpec)) fieldLongCard

/-- THE TIED CARD OF 'chicorylaw05.RootPowers'. -/
def rootPowersCard : Claim7 := { stood := { row := rootPowersRow, standIns := [], harness := (true, "308ed562ca6122580f98d04f3295b96626590448e7425ccab24df22ae46466a7"), looks := false }, kinds := [], alts := [], laidByText := true, laidKinds := [.data], laidTests := true, laidLooks := .later }
def RootPowersCardSaid : Prop := Claim7.holds Tryd.pinned (.plain (OpenSpec.ofChange rootPowersSpec)) rootPowersCard

/-- THE TIED CARD OF 'chicorylaw05.RootInverts'. -/
def rootInvertsCard : Claim7 := { stood := { row := rootInvertsRow, standIns := [], harness := (true, "308ed562ca6122580f98d04f3295b96626590448e7425ccab24df22ae46466a7"), looks := false }, kinds := [], alts := [], laidByText := true, laidKinds := [.data], laidTests := true, laidLooks := .later }
def RootInvertsCardSaid : Prop := Claim7.holds Tryd.pinned (.plain (OpenSpec.ofChange rootInvertsSpec)) rootInvertsCard

/-- THE TIED CARD OF 'chicorylaw05.RootTakes'. -/
def rootTakesCard : Claim7 := { stood := { row := rootTakesRow, standIns := [], harness := (true, "308ed562ca6122580f98d04f3295b96626590448e7425ccab24df22ae46466a7"), looks := false }, kinds := [], alts := [], laidByText := true, laidKinds := [.data], laidTests := true, laidLooks := .later }
def RootTakesCardSaid : Prop := Claim7.holds Tryd.pinned (.plain (OpenSpec.ofChange rootTakesSpec)) rootTakesCard

/-- THE TIED CARD OF 'chicorylaw05.RootRatios'. -/
def rootRatiosCard : Claim7 := { stood := { row := rootRatiosRow, standIns := [], harness := (true, "308ed562ca6122580f98d04f3295b96626590448e7425ccab24df22ae46466a7"), looks := false }, kinds := [], alts := [], laidByText := true, laidKinds := [.data], laidTests := true, laidLooks := .later }
def RootRatiosCardSaid : Prop := Claim7.holds Tryd.pinned (.plain (OpenSpec.ofChange rootRatiosSpec)) rootRatiosCard

/-- THE TIED CARD OF 'chicorylaw05.RootWhole'. -/
def rootWholeCard : Claim7 := { stood := { row := rootWholeRow, standIns := [], harness := (true, "308ed562ca6122580f98d04f3295b96626590448e7425ccab24df22ae46466a7"), looks := false }, kinds := [], alts := [], laidByText := true, laidKinds := [.data], laidTests := true, laidLooks := .later }
def RootWholeCardSaid : Prop := Claim7.holds Tryd.pinned (.plain (OpenSpec.ofChange rootWholeSpec)) rootWholeCard

/-- THE TIED CARD OF 'chicorylaw05.RootProves'. -/
def rootProvesCard : Claim7 := { stood := { row := rootProvesRow, standIns := [], harness := (true, "308ed562ca6122580f98d04f3295b96626590448e7425ccab24df22ae46466a7"), looks := false }, kinds := [], alts := [], laidByText := true, laidKinds := [.data], laidTests := true, laidLooks := .later }
def RootProvesCardSaid : Prop := Claim7.holds Tryd.pinned (.plain (OpenSpec.ofChange rootProvesSpec)) rootProvesCard

/-- THE TIED CARD OF 'chicorylaw05.RootSums'. -/
def rootSumsCard : Claim7 := { stood := { row := rootSumsRow, standIns := [], harness := (true, "308ed562ca6122580f98d04f3295b96626590448e7425ccab24df22ae46466a7"), looks := false }, kinds := [], alts := [], laidByText := true, laidKinds := [.data], laidTests := true, laidLooks := .later }
def RootSumsCardSaid : Prop := Claim7.holds Tryd.pinned (.plain (OpenSpec.ofChange rootSumsSpec)) rootSumsCard

/-- THE TIED CARD OF 'chicorylaw05.RootScales'. -/
def rootScalesCard : Claim7 := { stood := { row := rootScalesRow, standIns := [], harness := (true, "308ed562ca6122580f98d04f3295b96626590448e7425ccab24df22ae46466a7"), looks := false }, kinds := [], alts := [], laidByText := true, laidKinds := [.data], laidTests := true, laidLooks := .later }
def RootScalesCardSaid : Prop := Claim7.holds Tryd.pinned (.plain (OpenSpec.ofChange rootScalesSpec)) rootScalesCard

/-- THE SECOND FORM's CARD OF 'chicorylaw04.FieldLong'. -/
def fieldLongUptoCard : Claim7 := { stood := { row := fieldLongUptoRow, standIns := [], harness := (true, "308ed562ca6122580f98d04f3295b96626590448e7425ccab24df22ae46466a7"), looks := false }, kinds := [], alts := [], laidByText := true, laidKinds := [.data], laidTests := true, laidLooks := .later }
def FieldLongUptoCardSaid : Prop := Claim7.holds Tryd.pinned (.plain (OpenSpec.upto fieldLongSpec)) fieldLongUptoCard

/-- THE SECOND FORM's CARD OF 'chicorylaw05.RootPowers'. -/
def rootPowersUptoCard : Claim7 := { stood := { row := rootPowersUptoRow, standIns := [], harness := (true, "308ed562ca6122580f98d04f3295b96626590448e7425ccab24df22ae46466a7"), looks := false }, kinds := [], alts := [], laidByText := true, laidKinds := [.data], laidTests := true, laidLooks := .later }
def RootPowersUptoCardSaid : Prop := Claim7.holds Tryd.pinned (.plain (OpenSpec.upto rootPowersSpec)) rootPowersUptoCard

/-- THE SECOND FORM's CARD OF 'chicorylaw05.RootInverts'. -/
def rootInvertsUptoCard : Claim7 := { stood := { row := rootInvertsUptoRow, standIns := [], harness := (true, "308ed562ca6122580f98d04f3295b96626590448e7425ccab24df22ae46466a7"), looks := false }, kinds := [], alts := [], laidByText := true, laidKinds := [.data], laidTests := true, laidLooks := .later }
def RootInvertsUptoCardSaid : Prop := Claim7.holds Tryd.pinned (.plain (OpenSpec.upto rootInvertsSpec)) rootInvertsUptoCard

/-- THE SECOND FORM's CARD OF 'chicorylaw05.RootTakes'. -/
def rootTakesUptoCard : Claim7 := { stood := { row := rootTakesUptoRow, standIns := [], harness := (true, "308ed562ca6122580f98d04f3295b96626590448e7425ccab24df22ae46466a7"), looks := false }, kinds := [], alts := [], laidByText := true, laidKinds := [.data], laidTests := true, laidLooks := .later }
def RootTakesUptoCardSaid : Prop := Claim7.holds Tryd.pinned (.plain (OpenSpec.upto rootTakesSpec)) rootTakesUptoCard

/-- THE SECOND FORM's CARD OF 'chicorylaw05.RootRatios'. -/
def rootRatiosUptoCard : Claim7 := { stood := { row := rootRatiosUptoRow, standIns := [], harness := (true, "308ed562ca6122580f98d04f3295b96626590448e7425ccab24df22ae46466a7"), looks := false }, kinds := [], alts := [], laidByText := true, laidKinds := [.data], laidTests := true, laidLooks := .later }
def RootRatiosUptoCardSaid : Prop := Claim7.holds Tryd.pinned (.plain (OpenSpec.upto rootRatiosSpec)) rootRatiosUptoCard

/-- THE SECOND FORM's CARD OF 'chicorylaw05.RootWhole'. -/
def rootWholeUptoCard : Claim7 := { stood := { row := rootWholeUptoRow, standIns := [], harness := (true, "308ed562ca6122580f98d04f3295b96626590448e7425ccab24df22ae46466a7"), looks := false }, kinds := [], alts := [], laidByText := true, laidKinds := [.data], laidTests := true, laidLooks := .later }
def RootWholeUptoCardSaid : Prop := Claim7.holds Tryd.pinned (.plain (OpenSpec.upto rootWholeSpec)) rootWholeUptoCard

/-- THE SECOND FORM's CARD OF 'chicorylaw05.RootProves'. -/
def rootProvesUptoCard : Claim7 := { stood := { row := rootProvesUptoRow, standIns := [], harness := (true, "308ed562ca6122580f98d04f3295b96626590448e7425ccab24df22ae46466a7"), looks := false }, kinds := [], alts := [], laidByText := true, laidKinds := [.data], laidTests := true, laidLooks := .later }
def RootProvesUptoCardSaid : Prop := Claim7.holds Tryd.pinned (.plain (OpenSpec.upto rootProvesSpec)) rootProvesUptoCard

/-- THE SECOND FORM's CARD OF 'chicorylaw05.RootSums'. -/
def rootSumsUptoCard : Claim7 := { stood := { row := rootSumsUptoRow, standIns := [], harness := (true, "308ed562ca6122580f98d04f3295b96626590448e7425ccab24df22ae46466a7"), looks := false }, kinds := [], alts := [], laidByText := true, laidKinds := [.data], laidTests := true, laidLooks := .later }
def RootSumsUptoCardSaid : Prop := Claim7.holds Tryd.pinned (.plain (OpenSpec.upto rootSumsSpec)) rootSumsUptoCard

/-- THE SECOND FORM's CARD OF 'chicorylaw05.RootScales'. -/
def rootScalesUptoCard : Claim7 := { stood := { row := rootScalesUptoRow, standIns := [], harness := (true, "308ed562ca6122580f98d04f3295b96626590448e7425ccab24df22ae46466a7"), looks := false }, kinds := [], alts := [], laidByText := true, laidKinds := [.data], laidTests := true, laidLooks := .later }
def RootScalesUptoCardSaid : Prop := Claim7.holds Tryd.pinned (.plain (OpenSpec.upto rootScalesSpec)) rootScalesUptoCard
end Rows
end Go.Proofs.YtieoapcakdaelaaDoor
