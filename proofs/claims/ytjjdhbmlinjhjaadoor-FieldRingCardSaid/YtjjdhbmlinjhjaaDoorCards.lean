/-
  DERIVED. GIVEN WITH THE SEED: THE CARDS: each row of YtjjdhbmlinjhjaaDoorRows.lean that lists a variable, with what it lists TIED to the program's text (the seventh form; the later family's looks); each row that meets fmt, with fmt's text TOLD by the authors' own Lean function (tested against real Go, not proved from fmt's source: count such statements apart). THE CARD IS WHAT COUNTS. Prove the row's statement (the work); the ties are given (YtjjdhbmlinjhjaaDoorTie.lean); close each card by the builder's one call (the guide's Derived/Test/ToyasCard.lean, 'card_holds'). Laid BY PROGRAM, IN A SANDBOX (cutbox-door.mjs). By AI agents, Wed Nov 11 2026. No macro, syntax, notation, axiom, sorry.
-/
import Derived.Test.YtjjdhbmlinjhjaaDoorRows
import GoSem.ClaimSeven
namespace Go.Proofs.YtjjdhbmlinjhjaaDoor
namespace Rows

/-- THE TIED CARD OF 'chicorylaw04.FieldBytes'. -/
def fieldBytesCard : Claim7 := { stood := { row := fieldBytesRow, standIns := [], harness := (true, "db84da40cc2405577ace953882e65435f8afe9f79a6dce165bfca5556649e0ce"), looks := false }, kinds := [], alts := [], laidByText := true, laidKinds := [.data], laidTests := true, laidLooks := .later }
def FieldBytesCardSaid : Prop := Claim7.holds Tryd.pinned (.plain (OpenSpec.ofChange fieldBytesSpec)) fieldBytesCard

/-- THE TIED CARD OF 'chicorylaw04.FieldSums'. -/
def fieldSumsCard : Claim7 := { stood := { row := fieldSumsRow, standIns := [], harness := (true, "db84da40cc2405577ace953882e65435f8afe9f79a6dce165bfca5556649e0ce"), looks := false }, kinds := [], alts := [], laidByText := true, laidKinds := [.data], laidTests := true, laidLooks := .later }
def FieldSumsCardSaid : Prop := Claim7.holds Tryd.pinned (.plain (OpenSpec.ofChange fieldSumsSpec)) fieldSumsCard

/-- THE TIED CARD OF 'chicorylaw04.FieldProducts'. -/
def fieldProductsCard : Claim7 := { stood := { row := fieldProductsRow, standIns := [], harness := (true, "db84da40cc2405577ace953882e65435f8afe9f79a6dce165bfca5556649e0ce"), looks := false }, kinds := [], alts := [], laidByText := true, laidKinds := [.data], laidTests := true, laidLooks := .later }
def FieldProductsCardSaid : Prop := Claim7.holds Tryd.pinned (.plain (OpenSpec.ofChange fieldProductsSpec)) fieldProductsCard

/-- THE TIED CARD OF 'chicorylaw04.FieldPicks'. -/
def fieldPicksCard : Claim7 := { stood := { row := fieldPicksRow, standIns := [], harness := (true, "db84da40cc2405577ace953882e65435f8afe9f79a6dce165bfca5556649e0ce"), looks := false }, kinds := [], alts := [], laidByText := true, laidKinds := [.data], laidTests := true, laidLooks := .later }
def FieldPicksCardSaid : Prop := Claim7.holds Tryd.pinned (.plain (OpenSpec.ofChange fieldPicksSpec)) fieldPicksCard

/-- THE TIED CARD OF 'chicorylaw04.FieldLong'. -/
def fieldLongCard : Claim7 := { stood := { row := fieldLongRow, standIns := [], harness := (true, "db84da40cc2405577ace953882e65435f8afe9f79a6dce165bfca5556649e0ce"), looks := false }, kinds := [], alts := [], laidByText := true, laidKinds := [.data], laidTests := true, laidLooks := .later }
def FieldLongCardSaid : Prop := Claim7.holds Tryd.pinned (.plain (OpenSpec.ofChange fieldLongSpec)) fieldLongCard

/-- THE TIED CARD OF 'chicorylaw04.FieldRing'. -/
def fieldRingCard : Claim7 := { stood := { row := fieldRingRow, standIns := [], harness := (true, "db84da40cc2405577ace953882e65435f8afe9f79a6dce165bfca5556649e0ce"), looks := false }, kinds := [], alts := [], laidByText := true, laidKinds := [.data], laidTests := true, laidLooks := .later }
def FieldRingCardSaid : Prop := Claim7.holds Tryd.pinned (.plain (OpenSpec.ofChange fieldRingSpec)) fieldRingCard

/-- THE TIED CARD OF 'chicorylaw04.FieldSame'. -/
def fieldSameCard : Claim7 := { stood := { row := fieldSameRow, standIns := [], harness := (true, "db84da40cc2405577ace953882e65435f8afe9f79a6dce165bfca5556649e0ce"), looks := false }, kinds := [], alts := [], laidByText := true, laidKinds := [.data], laidTests := true, laidLooks := .later }
def FieldSameCardSaid : Prop := Claim7.holds Tryd.pinned (.plain (OpenSpec.ofChange fieldSameSpec)) fieldSameCard

/-- THE TIED CARD OF 'chicorylaw04.FieldNumbers'. -/
def fieldNumbersCard : Claim7 := { stood := { row := fieldNumbersRow, standIns := [], harness := (true, "db84da40cc2405577ace953882e65435f8afe9f79a6dce165bfca5556649e0ce"), looks := false }, kinds := [], alts := [], laidByText := true, laidKinds := [.data], laidTests := true, laidLooks := .later }
def FieldNumbersCardSaid : Prop := Claim7.holds Tryd.pinned (.plain (OpenSpec.ofChange fieldNumbersSpec)) fieldNumbersCard

/-- THE SECOND FORM's CARD OF 'chicorylaw04.FieldBytes'. -/
def fieldBytesUptoCard : Claim7 := { stood := { row := fieldBytesUptoRow, standIns := [], harness := (true, "db84da40cc2405577ace953882e65435f8afe9f79a6dce165bfca5556649e0ce"), looks := false }, kinds := [], alts := [], laidByText := true, laidKinds := [.data], laidTests := true, laidLooks := .later }
def FieldBytesUptoCardSaid : Prop := Claim7.holds Tryd.pinned (.plain (OpenSpec.upto fieldBytesSpec)) fieldBytesUptoCard

/-- THE SECOND FORM's CARD OF 'chicorylaw04.FieldSums'. -/
def fieldSumsUptoCard : Claim7 := { stood := { row := fieldSumsUptoRow, standIns := [], harness := (true, "db84da40cc2405577ace953882e65435f8afe9f79a6dce165bfca5556649e0ce"), looks := false }, kinds := [], alts := [], laidByText := true, laidKinds := [.data], laidTests := true, laidLooks := .later }
def FieldSumsUptoCardSaid : Prop := Claim7.holds Tryd.pinned (.plain (OpenSpec.upto fieldSumsSpec)) fieldSumsUptoCard

/-- THE SECOND FORM's CARD OF 'chicorylaw04.FieldProducts'. -/
def fieldProductsUptoCard : Claim7 := { stood := { row := fieldProductsUptoRow, standIns := [], harness := (true, "db84da40cc2405577ace953882e65435f8afe9f79a6dce165bfca5556649e0ce"), looks := false }, kinds := [], alts := [], laidByText := true, laidKinds := [.data], laidTests := true, laidLooks := .later }
def FieldProductsUptoCardSaid : Prop := Claim7.holds Tryd.pinned (.plain (OpenSpec.upto fieldProductsSpec)) fieldProductsUptoCard

/-- THE SECOND FORM's CARD OF 'chicorylaw04.FieldPicks'. -/
def fieldPicksUptoCard : Claim7 := { stood := { row := fieldPicksUptoRow, standIns := [], harness := (true, "db84da40cc2405577ace953882e65435f8afe9f79a6dce165bfca5556649e0ce"), looks := false }, kinds := [], alts := [], laidByText := true, laidKinds := [.data], laidTests := true, laidLooks := .later }
def FieldPicksUptoCardSaid : Prop := Claim7.holds Tryd.pinned (.plain (OpenSpec.upto fieldPicksSpec)) fieldPicksUptoCard

/-- THE SECOND FORM's CARD OF 'chicorylaw04.FieldLong'. -/
def fieldLongUptoCard : Claim7 := { stood := { row := fieldLongUptoRow, standIns := [], harness := (true, "db84da40cc2405577ace953882e65435f8afe9f79a6dce165bfca5556649e0ce"), looks := false }, kinds := [], alts := [], laidByText := true, laidKinds := [.data], laidTests := true, laidLooks := .later }
def FieldLongUptoCardSaid : Prop := Claim7.holds Tryd.pinned (.plain (OpenSpec.upto fieldLongSpec)) fieldLongUptoCard

/-- THE SECOND FORM's CARD OF 'chicorylaw04.FieldRing'. -/
def fieldRingUptoCard : Claim7 := { stood := { row := fieldRingUptoRow, standIns := [], harness := (true, "db84da40cc2405577ace953882e65435f8afe9f79a6dce165bfca5556649e0ce"), looks := false }, kinds := [], alts := [], laidByText := true, laidKinds := [.data], laidTests := true, laidLooks := .later }
def FieldRingUptoCardSaid : Prop := Claim7.holds Tryd.pinned (.plain (OpenSpec.upto fieldRingSpec)) fieldRingUptoCard

/-- THE SECOND FORM's CARD OF 'chicorylaw04.FieldSame'. -/
def fieldSameUptoCard : Claim7 := { stood := { row := fieldSameUptoRow, standIns := [], harness := (true, "db84da40cc2405577ace953882e65435f8afe9f79a6dce165bfca5556649e0ce"), looks := false }, kinds := [], alts := [], laidByText := true, laidKinds := [.data], laidTests := true, laidLooks := .later }
def FieldSameUptoCardSaid : Prop := Claim7.holds Tryd.pinned (.plain (OpenSpec.upto fieldSameSpec)) fieldSameUptoCard

/-- THE SECOND FORM's CARD OF 'chicorylaw04.FieldNumbers'. -/
def fieldNumbersUptoCard : Claim7 := { stood := { row := fieldNumbersUptoRow, standIns := [], harness := (true, "db84da40cc2405577ace953882e65435f8afe9f79a6dce165bfca5556649e0ce"), looks := false }, kinds := [], alts := [], laidByText := true, laidKinds := [.data], laidTests := true, laidLooks := .later }
def FieldNumbersUptoCardSaid : Prop := Claim7.holds Tryd.pinned (.plain (OpenSpec.upto fieldNumbersSpec)) fieldNumbersUptoCard
end Rows
end Go.Proofs.YtjjdhbmlinjhjaaDoor
