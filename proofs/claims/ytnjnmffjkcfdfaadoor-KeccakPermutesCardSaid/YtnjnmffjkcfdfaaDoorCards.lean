/-
  DERIVED. GIVEN WITH THE SEED: THE CARDS: each row of YtnjnmffjkcfdfaaDoorRows.lean that lists a variable, with what it lists TIED to the program's text (the seventh form; the later family's looks); each row that meets fmt, with fmt's text TOLD by the authors' own Lean function (tested against real Go, not proved from fmt's source: count such statements apart). THE CARD IS WHAT COUNTS. Prove the row's statement (the work); the ties are given (YtnjnmffjkcfdfaaDoorTie.lean); close each card by the builder's one call (the guide's Derived/Test/ToyasCard.lean, 'card_holds'). Laid BY PROGRAM, IN A SANDBOX (cutbox-door.mjs). By AI agents, Wed Nov 11 2026. No macro, syntax, notation, axiom, sorry.
-/
import Derived.Test.YtnjnmffjkcfdfaaDoorRows
import GoSem.ClaimSeven
namespace Go.Proofs.YtnjnmffjkcfdfaaDoor
namespace Rows

/-- THE TIED CARD OF 'chicorylaw01.KeccakPermutes'. -/
def keccakPermutesCard : Claim7 := { stood := { row := keccakPermutesRow, standIns := [], harness := (true, "586d6e737a3a5ad07947db37da3faa8b5b875ac8e28ad185a757e34fd52845b7"), looks := false }, kinds := [], alts := [], laidByText := true, laidKinds := [.data, .data], laidTests := true, laidLooks := .later }
def KeccakPermutesCardSaid : Prop := Claim7.holds Tryd.pinned (.plain (OpenSpec.ofChange keccakPermutesSpec)) keccakPermutesCard

/-- THE TIED CARD OF 'chicorylaw01.KeccakBytes'. -/
def keccakBytesCard : Claim7 := { stood := { row := keccakBytesRow, standIns := [], harness := (true, "586d6e737a3a5ad07947db37da3faa8b5b875ac8e28ad185a757e34fd52845b7"), looks := false }, kinds := [], alts := [], laidByText := true, laidKinds := [.data, .data], laidTests := true, laidLooks := .later }
def KeccakBytesCardSaid : Prop := Claim7.holds Tryd.pinned (.plain (OpenSpec.ofChange keccakBytesSpec)) keccakBytesCard

/-- THE TIED CARD OF 'chicorylaw01.KeccakXors'. -/
def keccakXorsCard : Claim7 := { stood := { row := keccakXorsRow, standIns := [], harness := (true, "586d6e737a3a5ad07947db37da3faa8b5b875ac8e28ad185a757e34fd52845b7"), looks := false }, kinds := [], alts := [], laidByText := true, laidKinds := [.data, .data], laidTests := true, laidLooks := .later }
def KeccakXorsCardSaid : Prop := Claim7.holds Tryd.pinned (.plain (OpenSpec.ofChange keccakXorsSpec)) keccakXorsCard

/-- THE TIED CARD OF 'chicorylaw01.KeccakApart'. -/
def keccakApartCard : Claim7 := { stood := { row := keccakApartRow, standIns := [], harness := (true, "586d6e737a3a5ad07947db37da3faa8b5b875ac8e28ad185a757e34fd52845b7"), looks := false }, kinds := [], alts := [], laidByText := true, laidKinds := [.data, .data], laidTests := true, laidLooks := .later }
def KeccakApartCardSaid : Prop := Claim7.holds Tryd.pinned (.plain (OpenSpec.ofChange keccakApartSpec)) keccakApartCard

/-- THE TIED CARD OF 'chicorylaw01.KeccakOwn'. -/
def keccakOwnCard : Claim7 := { stood := { row := keccakOwnRow, standIns := [], harness := (true, "586d6e737a3a5ad07947db37da3faa8b5b875ac8e28ad185a757e34fd52845b7"), looks := false }, kinds := [], alts := [], laidByText := true, laidKinds := [.data, .data], laidTests := true, laidLooks := .later }
def KeccakOwnCardSaid : Prop := Claim7.holds Tryd.pinned (.plain (OpenSpec.ofChange keccakOwnSpec)) keccakOwnCard

/-- THE SECOND FORM's CARD OF 'chicorylaw01.KeccakPermutes'. -/
def keccakPermutesUptoCard : Claim7 := { stood := { row := keccakPermutesUptoRow, standIns := [], harness := (true, "586d6e737a3a5ad07947db37da3faa8b5b875ac8e28ad185a757e34fd52845b7"), looks := false }, kinds := [], alts := [], laidByText := true, laidKinds := [.data, .data], laidTests := true, laidLooks := .later }
def KeccakPermutesUptoCardSaid : Prop := Claim7.holds Tryd.pinned (.plain (OpenSpec.upto keccakPermutesSpec)) keccakPermutesUptoCard

/-- THE SECOND FORM's CARD OF 'chicorylaw01.KeccakBytes'. -/
def keccakBytesUptoCard : Claim7 := { stood := { row := keccakBytesUptoRow, standIns := [], harness := (true, "586d6e737a3a5ad07947db37da3faa8b5b875ac8e28ad185a757e34fd52845b7"), looks := false }, kinds := [], alts := [], laidByText := true, laidKinds := [.data, .data], laidTests := true, laidLooks := .later }
def KeccakBytesUptoCardSaid : Prop := Claim7.holds Tryd.pinned (.plain (OpenSpec.upto keccakBytesSpec)) keccakBytesUptoCard

/-- THE SECOND FORM's CARD OF 'chicorylaw01.KeccakXors'. -/
def keccakXorsUptoCard : Claim7 := { stood := { row := keccakXorsUptoRow, standIns := [], harness := (true, "586d6e737a3a5ad07947db37da3faa8b5b875ac8e28ad185a757e34fd52845b7"), looks := false }, kinds := [], alts := [], laidByText := true, laidKinds := [.data, .data], laidTests := true, laidLooks := .later }
def KeccakXorsUptoCardSaid : Prop := Claim7.holds Tryd.pinned (.plain (OpenSpec.upto keccakXorsSpec)) keccakXorsUptoCard

/-- THE SECOND FORM's CARD OF 'chicorylaw01.KeccakApart'. -/
def keccakApartUptoCard : Claim7 := { stood := { row := keccakApartUptoRow, standIns := [], harness := (true, "586d6e737a3a5ad07947db37da3faa8b5b875ac8e28ad185a757e34fd52845b7"), looks := false }, kinds := [], alts := [], laidByText := true, laidKinds := [.data, .data], laidTests := true, laidLooks := .later }
def KeccakApartUptoCardSaid : Prop := Claim7.holds Tryd.pinned (.plain (OpenSpec.upto keccakApartSpec)) keccakApartUptoCard

/-- THE SECOND FORM's CARD OF 'chicorylaw01.KeccakOwn'. -/
def keccakOwnUptoCard : Claim7 := { stood := { row := keccakOwnUptoRow, standIns := [], harness := (true, "586d6e737a3a5ad07947db37da3faa8b5b875ac8e28ad185a757e34fd52845b7"), looks := false }, kinds := [], alts := [], laidByText := true, laidKinds := [.data, .data], laidTests := true, laidLooks := .later }
def KeccakOwnUptoCardSaid : Prop := Claim7.holds Tryd.pinned (.plain (OpenSpec.upto keccakOwnSpec)) keccakOwnUptoCard
end Rows
end Go.Proofs.YtnjnmffjkcfdfaaDoor
