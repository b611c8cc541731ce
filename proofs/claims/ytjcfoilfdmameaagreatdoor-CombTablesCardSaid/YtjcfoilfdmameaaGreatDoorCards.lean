/-
  DERIVED. GIVEN WITH THE SEED: THE CARDS: each row of YtjcfoilfdmameaaGreatDoorRows.lean that lists a variable, with what it lists TIED to the program's text (the seventh form; the later family's looks); each row that meets fmt, with fmt's text TOLD by the authors' own Lean function (tested against real Go, not proved from fmt's source: count such statements apart). THE CARD IS WHAT COUNTS. Prove the row's statement (the work); the ties are given (YtjcfoilfdmameaaGreatDoorTie.lean); close each card by the builder's one call (the guide's Derived/Test/ToyasCard.lean, 'card_holds'). Laid BY PROGRAM, IN A SANDBOX (cutbox-door.mjs). By AI agents, Wed Nov 11 2026. No macro, syntax, notation, axiom, sorry.
-/
import Derived.Test.YtjcfoilfdmameaaGreatDoorRows
import GoSem.ClaimSeven
namespace Go.Proofs.YtjcfoilfdmameaaGreatDoor
namespace Rows

/-- THE TIED CARD OF 'chicorylaw11.CombLooks'. -/
def combLooksCard : Claim7 := { stood := { row := combLooksRow, standIns := [], harness := (true, "338d95faddecf7b52ca868c9a7c44e20eeea6889e77e4311c257cb4c56f77204"), looks := false }, kinds := [], alts := [], laidByText := true, laidKinds := [.data], laidTests := true, laidLooks := .later }
def CombLooksCardSaid : Prop := Claim7.holds Tryz.pinned (.plain (OpenSpec.ofChange combLooksSpec)) combLooksCard

/-- THE TIED CARD OF 'chicorylaw11.CombPowers'. -/
def combPowersCard : Claim7 := { stood := { row := combPowersRow, standIns := [], harness := (true, "338d95faddecf7b52ca868c9a7c44e20eeea6889e77e4311c257cb4c56f77204"), looks := false }, kinds := [], alts := [], laidByText := true, laidKinds := [.data], laidTests := true, laidLooks := .later }
def CombPowersCardSaid : Prop := Claim7.holds Tryz.pinned (.plain (OpenSpec.ofChange combPowersSpec)) combPowersCard

/-- THE TIED CARD OF 'chicorylaw11.CombTables'. -/
def combTablesCard : Claim7 := { stood := { row := combTablesRow, standIns := [], harness := (true, "338d95faddecf7b52ca868c9a7c44e20eeea6889e77e4311c257cb4c56f77204"), looks := false }, kinds := [], alts := [], laidByText := true, laidKinds := [.data], laidTests := true, laidLooks := .later }
def CombTablesCardSaid : Prop := Claim7.holds Tryz.pinned (.plain (OpenSpec.ofChange combTablesSpec)) combTablesCard

/-- THE TIED CARD OF 'chicorylaw11.CombMults'. -/
def combMultsCard : Claim7 := { stood := { row := combMultsRow, standIns := [], harness := (true, "338d95faddecf7b52ca868c9a7c44e20eeea6889e77e4311c257cb4c56f77204"), looks := false }, kinds := [], alts := [], laidByText := true, laidKinds := [.data], laidTests := true, laidLooks := .later }
def CombMultsCardSaid : Prop := Claim7.holds Tryz.pinned (.plain (OpenSpec.ofChange combMultsSpec)) combMultsCard

/-- THE TIED CARD OF 'chicorylaw11.CombAdds'. -/
def combAddsCard : Claim7 := { stood := { row := combAddsRow, standIns := [], harness := (true, "338d95faddecf7b52ca868c9a7c44e20eeea6889e77e4311c257cb4c56f77204"), looks := false }, kinds := [], alts := [], laidByText := true, laidKinds := [.data], laidTests := true, laidLooks := .later }
def CombAddsCardSaid : Prop := Claim7.holds Tryz.pinned (.plain (OpenSpec.ofChange combAddsSpec)) combAddsCard

/-- THE SECOND FORM's CARD OF 'chicorylaw11.CombLooks'. -/
def combLooksUptoCard : Claim7 := { stood := { row := combLooksUptoRow, standIns := [], harness := (true, "338d95faddecf7b52ca868c9a7c44e20eeea6889e77e4311c257cb4c56f77204"), looks := false }, kinds := [], alts := [], laidByText := true, laidKinds := [.data], laidTests := true, laidLooks := .later }
def CombLooksUptoCardSaid : Prop := Claim7.holds Tryz.pinned (.plain (OpenSpec.upto combLooksSpec)) combLooksUptoCard

/-- THE SECOND FORM's CARD OF 'chicorylaw11.CombPowers'. -/
def combPowersUptoCard : Claim7 := { stood := { row := combPowersUptoRow, standIns := [], harness := (true, "338d95faddecf7b52ca868c9a7c44e20eeea6889e77e4311c257cb4c56f77204"), looks := false }, kinds := [], alts := [], laidByText := true, laidKinds := [.data], laidTests := true, laidLooks := .later }
def CombPowersUptoCardSaid : Prop := Claim7.holds Tryz.pinned (.plain (OpenSpec.upto combPowersSpec)) combPowersUptoCard

/-- THE SECOND FORM's CARD OF 'chicorylaw11.CombTables'. -/
def combTablesUptoCard : Claim7 := { stood := { row := combTablesUptoRow, standIns := [], harness := (true, "338d95faddecf7b52ca868c9a7c44e20eeea6889e77e4311c257cb4c56f77204"), looks := false }, kinds := [], alts := [], laidByText := true, laidKinds := [.data], laidTests := true, laidLooks := .later }
def CombTablesUptoCardSaid : Prop := Claim7.holds Tryz.pinned (.plain (OpenSpec.upto combTablesSpec)) combTablesUptoCard

/-- THE SECOND FORM's CARD OF 'chicorylaw11.CombMults'. -/
def combMultsUptoCard : Claim7 := { stood := { row := combMultsUptoRow, standIns := [], harness := (true, "338d95faddecf7b52ca868c9a7c44e20eeea6889e77e4311c257cb4c56f77204"), looks := false }, kinds := [], alts := [], laidByText := true, laidKinds := [.data], laidTests := true, laidLooks := .later }
def CombMultsUptoCardSaid : Prop := Claim7.holds Tryz.pinned (.plain (OpenSpec.upto combMultsSpec)) combMultsUptoCard

/-- THE SECOND FORM's CARD OF 'chicorylaw11.CombAdds'. -/
def combAddsUptoCard : Claim7 := { stood := { row := combAddsUptoRow, standIns := [], harness := (true, "338d95faddecf7b52ca868c9a7c44e20eeea6889e77e4311c257cb4c56f77204"), looks := false }, kinds := [], alts := [], laidByText := true, laidKinds := [.data], laidTests := true, laidLooks := .later }
def CombAddsUptoCardSaid : Prop := Claim7.holds Tryz.pinned (.plain (OpenSpec.upto combAddsSpec)) combAddsUptoCard
end Rows
end Go.Proofs.YtjcfoilfdmameaaGreatDoor
