/-
  DERIVED. GIVEN WITH THE SEED: THE CARDS: each row of YtocjncflgbnglaaDoorRows.lean that lists a variable, with what it lists TIED to the program's text (the seventh form; the later family's looks); each row that meets fmt, with fmt's text TOLD by the authors' own Lean function (tested against real Go, not proved from fmt's source: count such statements apart). THE CARD IS WHAT COUNTS. Prove the row's statement (the work); the ties are given (YtocjncflgbnglaaDoorTie.lean); close each card by the builder's one call (the guide's Derived/Test/ToyasCard.lean, 'card_holds'). Laid BY PROGRAM, IN A SANDBOX (cutbox-door.mjs). By AI agents, Wed Nov 11 2026. No macro, syntax, notation, axiom, sorry.
-/
import Derived.Test.YtocjncflgbnglaaDoorRows
import GoSem.ClaimSeven
namespace Go.Proofs.YtocjncflgbnglaaDoor
namespace Rows

/-- THE TIED CARD OF 'chicorylaw06.ScalarBytes'. -/
def scalarBytesCard : Claim7 := { stood := { row := scalarBytesRow, standIns := [], harness := (true, "4024ae9b423b906258b3311da2ad199f47a6bd133640d65b54241d8ba9110b49"), looks := false }, kinds := [], alts := [], laidByText := true, laidKinds := [.data, .data], laidTests := true, laidLooks := .later }
def ScalarBytesCardSaid : Prop := Claim7.holds Tryd.pinned (.plain (OpenSpec.ofChange scalarBytesSpec)) scalarBytesCard

/-- THE TIED CARD OF 'chicorylaw06.ScalarSums'. -/
def scalarSumsCard : Claim7 := { stood := { row := scalarSumsRow, standIns := [], harness := (true, "4024ae9b423b906258b3311da2ad199f47a6bd133640d65b54241d8ba9110b49"), looks := false }, kinds := [], alts := [], laidByText := true, laidKinds := [.data, .data], laidTests := true, laidLooks := .later }
def ScalarSumsCardSaid : Prop := Claim7.holds Tryd.pinned (.plain (OpenSpec.ofChange scalarSumsSpec)) scalarSumsCard

/-- THE TIED CARD OF 'chicorylaw06.ScalarProducts'. -/
def scalarProductsCard : Claim7 := { stood := { row := scalarProductsRow, standIns := [], harness := (true, "4024ae9b423b906258b3311da2ad199f47a6bd133640d65b54241d8ba9110b49"), looks := false }, kinds := [], alts := [], laidByText := true, laidKinds := [.data, .data], laidTests := true, laidLooks := .later }
def ScalarProductsCardSaid : Prop := Claim7.holds Tryd.pinned (.plain (OpenSpec.ofChange scalarProductsSpec)) scalarProductsCard

/-- THE TIED CARD OF 'chicorylaw06.ScalarClamps'. -/
def scalarClampsCard : Claim7 := { stood := { row := scalarClampsRow, standIns := [], harness := (true, "4024ae9b423b906258b3311da2ad199f47a6bd133640d65b54241d8ba9110b49"), looks := false }, kinds := [], alts := [], laidByText := true, laidKinds := [.data], laidTests := true, laidLooks := .later }
def ScalarClampsCardSaid : Prop := Claim7.holds Tryd.pinned (.plain (OpenSpec.ofChange scalarClampsSpec)) scalarClampsCard

/-- THE TIED CARD OF 'chicorylaw06.ScalarRing'. -/
def scalarRingCard : Claim7 := { stood := { row := scalarRingRow, standIns := [], harness := (true, "4024ae9b423b906258b3311da2ad199f47a6bd133640d65b54241d8ba9110b49"), looks := false }, kinds := [], alts := [], laidByText := true, laidKinds := [.data, .data], laidTests := true, laidLooks := .later }
def ScalarRingCardSaid : Prop := Claim7.holds Tryd.pinned (.plain (OpenSpec.ofChange scalarRingSpec)) scalarRingCard

/-- THE TIED CARD OF 'chicorylaw06.ScalarSame'. -/
def scalarSameCard : Claim7 := { stood := { row := scalarSameRow, standIns := [], harness := (true, "4024ae9b423b906258b3311da2ad199f47a6bd133640d65b54241d8ba9110b49"), looks := false }, kinds := [], alts := [], laidByText := true, laidKinds := [.data, .data], laidTests := true, laidLooks := .later }
def ScalarSameCardSaid : Prop := Claim7.holds Tryd.pinned (.plain (OpenSpec.ofChange scalarSameSpec)) scalarSameCard

/-- THE TIED CARD OF 'chicorylaw06.ScalarLong'. -/
def scalarLongCard : Claim7 := { stood := { row := scalarLongRow, standIns := [], harness := (true, "4024ae9b423b906258b3311da2ad199f47a6bd133640d65b54241d8ba9110b49"), looks := false }, kinds := [], alts := [], laidByText := true, laidKinds := [.data, .data], laidTests := true, laidLooks := .later }
def ScalarLongCardSaid : Prop := Claim7.holds Tryd.pinned (.plain (OpenSpec.ofChange scalarLongSpec)) scalarLongCard

/-- THE SECOND FORM's CARD OF 'chicorylaw06.ScalarBytes'. -/
def scalarBytesUptoCard : Claim7 := { stood := { row := scalarBytesUptoRow, standIns := [], harness := (true, "4024ae9b423b906258b3311da2ad199f47a6bd133640d65b54241d8ba9110b49"), looks := false }, kinds := [], alts := [], laidByText := true, laidKinds := [.data, .data], laidTests := true, laidLooks := .later }
def ScalarBytesUptoCardSaid : Prop := Claim7.holds Tryd.pinned (.plain (OpenSpec.upto scalarBytesSpec)) scalarBytesUptoCard

/-- THE SECOND FORM's CARD OF 'chicorylaw06.ScalarSums'. -/
def scalarSumsUptoCard : Claim7 := { stood := { row := scalarSumsUptoRow, standIns := [], harness := (true, "4024ae9b423b906258b3311da2ad199f47a6bd133640d65b54241d8ba9110b49"), looks := false }, kinds := [], alts := [], laidByText := true, laidKinds := [.data, .data], laidTests := true, laidLooks := .later }
def ScalarSumsUptoCardSaid : Prop := Claim7.holds Tryd.pinned (.plain (OpenSpec.upto scalarSumsSpec)) scalarSumsUptoCard

/-- THE SECOND FORM's CARD OF 'chicorylaw06.ScalarProducts'. -/
def scalarProductsUptoCard : Claim7 := { stood := { row := scalarProductsUptoRow, standIns := [], harness := (true, "4024ae9b423b906258b3311da2ad199f47a6bd133640d65b54241d8ba9110b49"), looks := false }, kinds := [], alts := [], laidByText := true, laidKinds := [.data, .data], laidTests := true, laidLooks := .later }
def ScalarProductsUptoCardSaid : Prop := Claim7.holds Tryd.pinned (.plain (OpenSpec.upto scalarProductsSpec)) scalarProductsUptoCard

/-- THE SECOND FORM's CARD OF 'chicorylaw06.ScalarClamps'. -/
def scalarClampsUptoCard : Claim7 := { stood := { row := scalarClampsUptoRow, standIns := [], harness := (true, "4024ae9b423b906258b3311da2ad199f47a6bd133640d65b54241d8ba9110b49"), looks := false }, kinds := [], alts := [], laidByText := true, laidKinds := [.data], laidTests := true, laidLooks := .later }
def ScalarClampsUptoCardSaid : Prop := Claim7.holds Tryd.pinned (.plain (OpenSpec.upto scalarClampsSpec)) scalarClampsUptoCard

/-- THE SECOND FORM's CARD OF 'chicorylaw06.ScalarRing'. -/
def scalarRingUptoCard : Claim7 := { stood := { row := scalarRingUptoRow, standIns := [], harness := (true, "4024ae9b423b906258b3311da2ad199f47a6bd133640d65b54241d8ba9110b49"), looks := false }, kinds := [], alts := [], laidByText := true, laidKinds := [.data, .data], laidTests := true, laidLooks := .later }
def ScalarRingUptoCardSaid : Prop := Claim7.holds Tryd.pinned (.plain (OpenSpec.upto scalarRingSpec)) scalarRingUptoCard

/-- THE SECOND FORM's CARD OF 'chicorylaw06.ScalarSame'. -/
def scalarSameUptoCard : Claim7 := { stood := { row := scalarSameUptoRow, standIns := [], harness := (true, "4024ae9b423b906258b3311da2ad199f47a6bd133640d65b54241d8ba9110b49"), looks := false }, kinds := [], alts := [], laidByText := true, laidKinds := [.data, .data], laidTests := true, laidLooks := .later }
def ScalarSameUptoCardSaid : Prop := Claim7.holds Tryd.pinned (.plain (OpenSpec.upto scalarSameSpec)) scalarSameUptoCard

/-- THE SECOND FORM's CARD OF 'chicorylaw06.ScalarLong'. -/
def scalarLongUptoCard : Claim7 := { stood := { row := scalarLongUptoRow, standIns := [], harness := (true, "4024ae9b423b906258b3311da2ad199f47a6bd133640d65b54241d8ba9110b49"), looks := false }, kinds := [], alts := [], laidByText := true, laidKinds := [.data, .data], laidTests := true, laidLooks := .later }
def ScalarLongUptoCardSaid : Prop := Claim7.holds Tryd.pinned (.plain (OpenSpec.upto scalarLongSpec)) scalarLongUptoCard
end Rows
end Go.Proofs.YtocjncflgbnglaaDoor
