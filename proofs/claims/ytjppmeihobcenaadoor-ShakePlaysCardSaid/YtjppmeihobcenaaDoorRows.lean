/-
  NARROWER THAN 'FOR EVERY INPUT', by the rows' own cells (each row's printed sentence says how): ShakeSums: laid · ShakePlays: laid · ShakePieces: laid · ShakeNil: laid · ShakeClones: laid.
  DERIVED. THE GIVEN ROWS OF THIS SEAT. 5 by the template 'for every input the law returns true; each argument reads behind the call as it read before'; 0 by the template 'total and deterministic' (their statements: YtjppmeihobcenaaDoorTotals.lean).
  GIVEN WITH THE SEED: the statements are not yours to turn. If you find one false, say at which input.
  Laid BY PROGRAM, IN A SANDBOX (cutbox-rows.mjs): the forced cells as the released guide's own fill.sh prints them over the translation ff734f96f73555fb… (all of the seat's roots in one cut). By AI agents, Wed Nov 11 2026. No macro, syntax, notation, axiom, sorry.
-/
import Derived.Test.YtjppmeihobcenaaDoorChecked
import GoSem.Claim
import GoSem.ClaimJoined
import GoSem.ClaimMapViews
import Derived.JoinedTies
import Derived.KernelRfl
namespace Go.Proofs.YtjppmeihobcenaaDoor
/- THE CELL 'sum', in the pinned program and in every row, IS THE sha256 OF THE DUMP (.gsa) THAT YtjppmeihobcenaaDoorProg.lean LOADS. Nothing in Lean hashes anything: it is a label: what it is worth is what the hold of that sum in a sandbox is worth. -/
noncomputable def Tryd.pinned : Pinned := { name := "ytjppmeihobcenaadoor", sum := "ff734f96f73555fb35b822f1227fc5dfddfa5ed95b78659929b67d2ef0b8557c", checked := Tryd.checked }
namespace Rows
def none {H : Type} : Left H := { results := [], args := [] }

/- WHAT THE LISTED PACKAGE-LEVEL VARIABLES READ AS WHEN THE CALL BEGINS. Each datum BY PROGRAM (the guide's laid-datum.mjs) off the statement by which the dump's own 'gosem.cut.vars' lays the variable. In a bare row this is a premise. The card (YtjppmeihobcenaaDoorCards.lean) ties it to the program's text. -/
def laid_chicory_keccak_constants {H : Type} : DataW H := .agg [.lit (.int .u64 1), .lit (.int .u64 32898), .lit (.int .u64 9223372036854808714), .lit (.int .u64 9223372039002292224), .lit (.int .u64 32907), .lit (.int .u64 2147483649), .lit (.int .u64 9223372039002292353), .lit (.int .u64 9223372036854808585), .lit (.int .u64 138), .lit (.int .u64 136), .lit (.int .u64 2147516425), .lit (.int .u64 2147483658), .lit (.int .u64 2147516555), .lit (.int .u64 9223372036854775947), .lit (.int .u64 9223372036854808713), .lit (.int .u64 9223372036854808579), .lit (.int .u64 9223372036854808578), .lit (.int .u64 9223372036854775936), .lit (.int .u64 32778), .lit (.int .u64 9223372039002259466), .lit (.int .u64 9223372039002292353), .lit (.int .u64 9223372036854808704), .lit (.int .u64 2147483649), .lit (.int .u64 9223372039002292232)]
def laid_chicory_keccak_offsets {H : Type} : DataW H := .agg [.lit (.int .i64 0), .lit (.int .i64 1), .lit (.int .i64 62), .lit (.int .i64 28), .lit (.int .i64 27), .lit (.int .i64 36), .lit (.int .i64 44), .lit (.int .i64 6), .lit (.int .i64 55), .lit (.int .i64 20), .lit (.int .i64 3), .lit (.int .i64 10), .lit (.int .i64 43), .lit (.int .i64 25), .lit (.int .i64 39), .lit (.int .i64 41), .lit (.int .i64 45), .lit (.int .i64 15), .lit (.int .i64 21), .lit (.int .i64 8), .lit (.int .i64 18), .lit (.int .i64 2), .lit (.int .i64 61), .lit (.int .i64 56), .lit (.int .i64 14)]

/-- 'chicorylaw02.ShakeSums': WHATEVER THE INPUT: true; the input reads as it did. -/
def shakeSumsSpec : ChangeSpec := { name := "shakeSums", fn := fun _ => fun
  | [d1, d2] => { results := [.lit (.bool true)], args := [d1, d2] }
  | _ => none }
def shakeSumsRow : OpenClaim := { program := "ytjppmeihobcenaadoor", sum := "ff734f96f73555fb35b822f1227fc5dfddfa5ed95b78659929b67d2ef0b8557c", func := "chicory/chicorylaw02.ShakeSums", spec := "shakeSums", unfollowed := true, recurses := true, named := ["chicory/keccak.constants", "chicory/keccak.offsets"], apart := false, laid := [("chicory/keccak.constants", laid_chicory_keccak_constants), ("chicory/keccak.offsets", laid_chicory_keccak_offsets)] }
def ShakeSumsSaid : Prop := shakeSumsRow.holds Tryd.pinned (OpenSpec.ofChange shakeSumsSpec)

/-- ITS FALSE NEIGHBOUR: 'it returns false'. Refute it at one input. -/
def shakeSumsWrong : ChangeSpec := { name := "shakeSums", fn := fun _ => fun
  | [d1, d2] => { results := [.lit (.bool false)], args := [d1, d2] }
  | _ => none }
def ShakeSumsWrongFalsely : Prop := shakeSumsRow.holds Tryd.pinned (OpenSpec.ofChange shakeSumsWrong)

/-- 'chicorylaw02.ShakePlays': WHATEVER THE INPUT: true; the input reads as it did. -/
def shakePlaysSpec : ChangeSpec := { name := "shakePlays", fn := fun _ => fun
  | [d] => { results := [.lit (.bool true)], args := [d] }
  | _ => none }
def shakePlaysRow : OpenClaim := { program := "ytjppmeihobcenaadoor", sum := "ff734f96f73555fb35b822f1227fc5dfddfa5ed95b78659929b67d2ef0b8557c", func := "chicory/chicorylaw02.ShakePlays", spec := "shakePlays", unfollowed := true, recurses := true, named := ["chicory/keccak.constants", "chicory/keccak.offsets"], apart := false, laid := [("chicory/keccak.constants", laid_chicory_keccak_constants), ("chicory/keccak.offsets", laid_chicory_keccak_offsets)] }
def ShakePlaysSaid : Prop := shakePlaysRow.holds Tryd.pinned (OpenSpec.ofChange shakePlaysSpec)

/-- ITS FALSE NEIGHBOUR: 'it returns false'. Refute it at one input. -/
def shakePlaysWrong : ChangeSpec := { name := "shakePlays", fn := fun _ => fun
  | [d] => { results := [.lit (.bool false)], args := [d] }
  | _ => none }
def ShakePlaysWrongFalsely : Prop := shakePlaysRow.holds Tryd.pinned (OpenSpec.ofChange shakePlaysWrong)

/-- 'chicorylaw02.ShakePieces': WHATEVER THE INPUT: true; the input reads as it did. -/
def shakePiecesSpec : ChangeSpec := { name := "shakePieces", fn := fun _ => fun
  | [d1, d2] => { results := [.lit (.bool true)], args := [d1, d2] }
  | _ => none }
def shakePiecesRow : OpenClaim := { program := "ytjppmeihobcenaadoor", sum := "ff734f96f73555fb35b822f1227fc5dfddfa5ed95b78659929b67d2ef0b8557c", func := "chicory/chicorylaw02.ShakePieces", spec := "shakePieces", unfollowed := true, recurses := true, named := ["chicory/keccak.constants", "chicory/keccak.offsets"], apart := false, laid := [("chicory/keccak.constants", laid_chicory_keccak_constants), ("chicory/keccak.offsets", laid_chicory_keccak_offsets)] }
def ShakePiecesSaid : Prop := shakePiecesRow.holds Tryd.pinned (OpenSpec.ofChange shakePiecesSpec)

/-- ITS FALSE NEIGHBOUR: 'it returns false'. Refute it at one input. -/
def shakePiecesWrong : ChangeSpec := { name := "shakePieces", fn := fun _ => fun
  | [d1, d2] => { results := [.lit (.bool false)], args := [d1, d2] }
  | _ => none }
def ShakePiecesWrongFalsely : Prop := shakePiecesRow.holds Tryd.pinned (OpenSpec.ofChange shakePiecesWrong)

/-- 'chicorylaw02.ShakeNil': WHATEVER THE INPUT: true; the input reads as it did. -/
def shakeNilSpec : ChangeSpec := { name := "shakeNil", fn := fun _ => fun
  | [d1, d2] => { results := [.lit (.bool true)], args := [d1, d2] }
  | _ => none }
def shakeNilRow : OpenClaim := { program := "ytjppmeihobcenaadoor", sum := "ff734f96f73555fb35b822f1227fc5dfddfa5ed95b78659929b67d2ef0b8557c", func := "chicory/chicorylaw02.ShakeNil", spec := "shakeNil", unfollowed := true, recurses := true, named := ["chicory/keccak.constants", "chicory/keccak.offsets"], apart := false, laid := [("chicory/keccak.constants", laid_chicory_keccak_constants), ("chicory/keccak.offsets", laid_chicory_keccak_offsets)] }
def ShakeNilSaid : Prop := shakeNilRow.holds Tryd.pinned (OpenSpec.ofChange shakeNilSpec)

/-- ITS FALSE NEIGHBOUR: 'it returns false'. Refute it at one input. -/
def shakeNilWrong : ChangeSpec := { name := "shakeNil", fn := fun _ => fun
  | [d1, d2] => { results := [.lit (.bool false)], args := [d1, d2] }
  | _ => none }
def ShakeNilWrongFalsely : Prop := shakeNilRow.holds Tryd.pinned (OpenSpec.ofChange shakeNilWrong)

/-- 'chicorylaw02.ShakeClones': WHATEVER THE INPUT: true; the input reads as it did. -/
def shakeClonesSpec : ChangeSpec := { name := "shakeClones", fn := fun _ => fun
  | [d1, d2, d3] => { results := [.lit (.bool true)], args := [d1, d2, d3] }
  | _ => none }
def shakeClonesRow : OpenClaim := { program := "ytjppmeihobcenaadoor", sum := "ff734f96f73555fb35b822f1227fc5dfddfa5ed95b78659929b67d2ef0b8557c", func := "chicory/chicorylaw02.ShakeClones", spec := "shakeClones", unfollowed := true, recurses := true, named := ["chicory/keccak.constants", "chicory/keccak.offsets"], apart := false, laid := [("chicory/keccak.constants", laid_chicory_keccak_constants), ("chicory/keccak.offsets", laid_chicory_keccak_offsets)] }
def ShakeClonesSaid : Prop := shakeClonesRow.holds Tryd.pinned (OpenSpec.ofChange shakeClonesSpec)

/-- ITS FALSE NEIGHBOUR: 'it returns false'. Refute it at one input. -/
def shakeClonesWrong : ChangeSpec := { name := "shakeClones", fn := fun _ => fun
  | [d1, d2, d3] => { results := [.lit (.bool false)], args := [d1, d2, d3] }
  | _ => none }
def ShakeClonesWrongFalsely : Prop := shakeClonesRow.holds Tryd.pinned (OpenSpec.ofChange shakeClonesWrong)

/- THE SECOND FORM. 'bulk': how many values and letters a reading holds, each counted each time it is reached (what is shared counts as often as it is met; a slice's spare places count too). A statement '..UptoSaid' is the law's where the arguments, and the package variables that the reading takes, are together of bulk at most 1048576: NARROWER than '..Said'. Prove '..Said' where nothing that the law and all that it calls make is longer than what came in: it says more and counts as full. Else prove '..UptoSaid'. A law counts once. -/
mutual
def uptoBulk {H : Type} : DataW H → Nat
  | .lit (.string bytes) => bytes.length + 1
  | .lit _ => 1
  | .nil => 1
  | .ptr d => uptoBulk d + 1
  | .slice elems spare => uptoBulkAll elems + uptoBulkAll spare + 1
  | .agg parts => uptoBulkAll parts + 1
  | .iface _ d => uptoBulk d + 1
  | .map entries => uptoBulkEntries entries + 1
  | .held _ => 1
def uptoBulkAll {H : Type} : List (DataW H) → Nat
  | [] => 0
  | d :: r => uptoBulk d + uptoBulkAll r
def uptoBulkEntries {H : Type} : List (Lit × DataW H) → Nat
  | [] => 0
  | x :: r => uptoBulkEntry x + uptoBulkEntries r
def uptoBulkEntry {H : Type} : Lit × DataW H → Nat
  | (.string bytes, d) => bytes.length + uptoBulk d + 1
  | (_, d) => uptoBulk d + 1
 end
def uptoSmall : (H : Type) → List (DataW H) → Bool := fun _ ds => decide (uptoBulkAll ds ≤ 1048576)
def OpenSpec.upto (s : _root_.Go.ChangeSpec) : _root_.Go.OpenSpec := { _root_.Go.OpenSpec.ofChange s with cond := some uptoSmall }

/-- 'chicorylaw02.ShakeSums', WHERE WHAT IT READS IS OF BULK AT MOST 1048576: true; the input reads as it did. -/
def shakeSumsUptoRow : OpenClaim := { program := "ytjppmeihobcenaadoor", sum := "ff734f96f73555fb35b822f1227fc5dfddfa5ed95b78659929b67d2ef0b8557c", func := "chicory/chicorylaw02.ShakeSums", spec := "shakeSums", unfollowed := true, recurses := true, named := ["chicory/keccak.constants", "chicory/keccak.offsets"], apart := false, laid := [("chicory/keccak.constants", laid_chicory_keccak_constants), ("chicory/keccak.offsets", laid_chicory_keccak_offsets)], narrowed := true }
def ShakeSumsUptoSaid : Prop := shakeSumsUptoRow.holds Tryd.pinned (OpenSpec.upto shakeSumsSpec)

/-- 'chicorylaw02.ShakePlays', WHERE WHAT IT READS IS OF BULK AT MOST 1048576: true; the input reads as it did. -/
def shakePlaysUptoRow : OpenClaim := { program := "ytjppmeihobcenaadoor", sum := "ff734f96f73555fb35b822f1227fc5dfddfa5ed95b78659929b67d2ef0b8557c", func := "chicory/chicorylaw02.ShakePlays", spec := "shakePlays", unfollowed := true, recurses := true, named := ["chicory/keccak.constants", "chicory/keccak.offsets"], apart := false, laid := [("chicory/keccak.constants", laid_chicory_keccak_constants), ("chicory/keccak.offsets", laid_chicory_keccak_offsets)], narrowed := true }
def ShakePlaysUptoSaid : Prop := shakePlaysUptoRow.holds Tryd.pinned (OpenSpec.upto shakePlaysSpec)

/-- 'chicorylaw02.ShakePieces', WHERE WHAT IT READS IS OF BULK AT MOST 1048576: true; the input reads as it did. -/
def shakePiecesUptoRow : OpenClaim := { program := "ytjppmeihobcenaadoor", sum := "ff734f96f73555fb35b822f1227fc5dfddfa5ed95b78659929b67d2ef0b8557c", func := "chicory/chicorylaw02.ShakePieces", spec := "shakePieces", unfollowed := true, recurses := true, named := ["chicory/keccak.constants", "chicory/keccak.offsets"], apart := false, laid := [("chicory/keccak.constants", laid_chicory_keccak_constants), ("chicory/keccak.offsets", laid_chicory_keccak_offsets)], narrowed := true }
def ShakePiecesUptoSaid : Prop := shakePiecesUptoRow.holds Tryd.pinned (OpenSpec.upto shakePiecesSpec)

/-- 'chicorylaw02.ShakeNil', WHERE WHAT IT READS IS OF BULK AT MOST 1048576: true; the input reads as it did. -/
def shakeNilUptoRow : OpenClaim := { program := "ytjppmeihobcenaadoor", sum := "ff734f96f73555fb35b822f1227fc5dfddfa5ed95b78659929b67d2ef0b8557c", func := "chicory/chicorylaw02.ShakeNil", spec := "shakeNil", unfollowed := true, recurses := true, named := ["chicory/keccak.constants", "chicory/keccak.offsets"], apart := false, laid := [("chicory/keccak.constants", laid_chicory_keccak_constants), ("chicory/keccak.offsets", laid_chicory_keccak_offsets)], narrowed := true }
def ShakeNilUptoSaid : Prop := shakeNilUptoRow.holds Tryd.pinned (OpenSpec.upto shakeNilSpec)

/-- 'chicorylaw02.ShakeClones', WHERE WHAT IT READS IS OF BULK AT MOST 1048576: true; the input reads as it did. -/
def shakeClonesUptoRow : OpenClaim := { program := "ytjppmeihobcenaadoor", sum := "ff734f96f73555fb35b822f1227fc5dfddfa5ed95b78659929b67d2ef0b8557c", func := "chicory/chicorylaw02.ShakeClones", spec := "shakeClones", unfollowed := true, recurses := true, named := ["chicory/keccak.constants", "chicory/keccak.offsets"], apart := false, laid := [("chicory/keccak.constants", laid_chicory_keccak_constants), ("chicory/keccak.offsets", laid_chicory_keccak_offsets)], narrowed := true }
def ShakeClonesUptoSaid : Prop := shakeClonesUptoRow.holds Tryd.pinned (OpenSpec.upto shakeClonesSpec)

end Rows
end Go.Proofs.YtjppmeihobcenaaDoor
