/-
  DERIVED. GIVEN WITH THE SEED: THE CARDS: each row of YtjppmeihobcenaaDoorRows.lean that lists a variable, with what it lists TIED to the program's text (the seventh form; the later family's looks); each row that meets fmt, with fmt's text TOLD by the authors' own Lean function (tested against real Go, not proved from fmt's source: count such statements apart). THE CARD IS WHAT COUNTS. Prove the row's statement (the work); the ties are given (YtjppmeihobcenaaDoorTie.lean); close each card by the builder's one call (the guide's Derived/Test/ToyasCard.lean, 'card_holds'). Laid BY PROGRAM, IN A SANDBOX (cutbox-door.mjs). By AI agents, Wed Nov 11 2026. No macro, syntax, notation, axiom, sorry.
-/
import Derived.Test.YtjppmeihobcenaaDoorRows
import GoSem.ClaimSeven
namespace Go.Proofs.YtjppmeihobcenaaDoor
namespace Rows

/-- THE TIED CARD OF 'chicorylaw02.ShakeSums'. -/
def shakeSumsCard : Claim7 := { stood := { row := shakeSumsRow, standIns := [], harness := (true, "00479c267927bafdfc99e2323951a8df5612fe97cdd3781885be20fd560d87a2"), looks := false }, kinds := [], alts := [], laidByText := true, laidKinds := [.data, .data], laidTests := true, laidLooks := .later }
def ShakeSumsCardSaid : Prop := Claim7.holds Tryd.pinned (.plain (OpenSpec.ofChange shakeSumsSpec)) shakeSumsCard

/-- THE TIED CARD OF 'chicorylaw02.ShakePlays'. -/
def shakePlaysCard : Claim7 := { stood := { row := shakePlaysRow, standIns := [], harness := (true, "00479c267927bafdfc99e2323951a8df5612fe97cdd3781885be20fd560d87a2"), looks := false }, kinds := [], alts := [], laidByText := true, laidKinds := [.data, .data], laidTests := true, laidLooks := .later }
def ShakePlaysCardSaid : Prop := Claim7.holds Tryd.pinned (.plain (OpenSpec.ofChange shakePlaysSpec)) shakePlaysCard

/-- THE TIED CARD OF 'chicorylaw02.ShakePieces'. -/
def shakePiecesCard : Claim7 := { stood := { row := shakePiecesRow, standIns := [], harness := (true, "00479c267927bafdfc99e2323951a8df5612fe97cdd3781885be20fd560d87a2"), looks := false }, kinds := [], alts := [], laidByText := true, laidKinds := [.data, .data], laidTests := true, laidLooks := .later }
def ShakePiecesCardSaid : Prop := Claim7.holds Tryd.pinned (.plain (OpenSpec.ofChange shakePiecesSpec)) shakePiecesCard

/-- THE TIED CARD OF 'chicorylaw02.ShakeNil'. -/
def shakeNilCard : Claim7 := { stood := { row := shakeNilRow, standIns := [], harness := (true, "00479c267927bafdfc99e2323951a8df5612fe97cdd3781885be20fd560d87a2"), looks := false }, kinds := [], alts := [], laidByText := true, laidKinds := [.data, .data], laidTests := true, laidLooks := .later }
def ShakeNilCardSaid : Prop := Claim7.holds Tryd.pinned (.plain (OpenSpec.ofChange shakeNilSpec)) shakeNilCard

/-- THE TIED CARD OF 'chicorylaw02.ShakeClones'. -/
def shakeClonesCard : Claim7 := { stood := { row := shakeClonesRow, standIns := [], harness := (true, "00479c267927bafdfc99e2323951a8df5612fe97cdd3781885be20fd560d87a2"), looks := false }, kinds := [], alts := [], laidByText := true, laidKinds := [.data, .data], laidTests := true, laidLooks := .later }
def ShakeClonesCardSaid : Prop := Claim7.holds Tryd.pinned (.plain (OpenSpec.ofChange shakeClonesSpec)) shakeClonesCard

/-- THE SECOND FORM's CARD OF 'chicorylaw02.ShakeSums'. -/
def shakeSumsUptoCard : Claim7 := { stood := { row := shakeSumsUptoRow, standIns := [], harness := (true, "00479c267927bafdfc99e2323951a8df5612fe97cdd3781885be20fd560d87a2"), looks := false }, kinds := [], alts := [], laidByText := true, laidKinds := [.data, .data], laidTests := true, laidLooks := .later }
def ShakeSumsUptoCardSaid : Prop := Claim7.holds Tryd.pinned (.plain (OpenSpec.upto shakeSumsSpec)) shakeSumsUptoCard

/-- THE SECOND FORM's CARD OF 'chicorylaw02.ShakePlays'. -/
def shakePlaysUptoCard : Claim7 := { stood := { row := shakePlaysUptoRow, standIns := [], harness := (true, "00479c267927bafdfc99e2323951a8df5612fe97cdd3781885be20fd560d87a2"), looks := false }, kinds := [], alts := [], laidByText := true, laidKinds := [.data, .data], laidTests := true, laidLooks := .later }
def ShakePlaysUptoCardSaid : Prop := Claim7.holds Tryd.pinned (.plain (OpenSpec.upto shakePlaysSpec)) shakePlaysUptoCard

/-- THE SECOND FORM's CARD OF 'chicorylaw02.ShakePieces'. -/
def shakePiecesUptoCard : Claim7 := { stood := { row := shakePiecesUptoRow, standIns := [], harness := (true, "00479c267927bafdfc99e2323951a8df5612fe97cdd3781885be20fd560d87a2"), looks := false }, kinds := [], alts := [], laidByText := true, laidKinds := [.data, .data], laidTests := true, laidLooks := .later }
def ShakePiecesUptoCardSaid : Prop := Claim7.holds Tryd.pinned (.plain (OpenSpec.upto shakePiecesSpec)) shakePiecesUptoCard

/-- THE SECOND FORM's CARD OF 'chicorylaw02.ShakeNil'. -/
def shakeNilUptoCard : Claim7 := { stood := { row := shakeNilUptoRow, standIns := [], harness := (true, "00479c267927bafdfc99e2323951a8df5612fe97cdd3781885be20fd560d87a2"), looks := false }, kinds := [], alts := [], laidByText := true, laidKinds := [.data, .data], laidTests := true, laidLooks := .later }
def ShakeNilUptoCardSaid : Prop := Claim7.holds Tryd.pinned (.plain (OpenSpec.upto shakeNilSpec)) shakeNilUptoCard

/-- THE SECOND FORM's CARD OF 'chicorylaw02.ShakeClones'. -/
def shakeClonesUptoCard : Claim7 := { stood := { row := shakeClonesUptoRow, standIns := [], harness := (true, "00479c267927bafdfc99e2323951a8df5612fe97cdd3781885be20fd560d87a2"), looks := false }, kinds := [], alts := [], laidByText := true, laidKinds := [.data, .data], laidTests := true, laidLooks := .later }
def ShakeClonesUptoCardSaid : Prop := Claim7.holds Tryd.pinned (.plain (OpenSpec.upto shakeClonesSpec)) shakeClonesUptoCard
end Rows
end Go.Proofs.YtjppmeihobcenaaDoor
