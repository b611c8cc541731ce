/-
  NARROWER THAN 'FOR EVERY INPUT', by the rows' own cells (each row's printed sentence says how): LadderSteps: laid · LadderClimbs: laid · LadderShares: laid · LadderMeets: laid · LadderPoints: laid · LadderSame: laid · LadderProducts: laid.
  DERIVED. THE GIVEN ROWS OF THIS SEAT. 7 by the template 'for every input the law returns true; each argument reads behind the call as it read before'; 0 by the template 'total and deterministic' (their statements: YtckmboebipbpbaaDoorTotals.lean).
  GIVEN WITH THE SEED: the statements are not yours to turn. If you find one false, say at which input.
  Laid BY PROGRAM, IN A SANDBOX (cutbox-rows.mjs): the forced cells as the released guide's own fill.sh prints them over the translation f37fe194b9621f02… (all of the seat's roots in one cut). By AI agents, Wed Nov 11 2026. No macro, syntax, notation, axiom, sorry.
-/
import Derived.Test.YtckmboebipbpbaaDoorChecked
import GoSem.Claim
import GoSem.ClaimJoined
import GoSem.ClaimMapViews
import Derived.JoinedTies
import Derived.KernelRfl
namespace Go.Proofs.YtckmboebipbpbaaDoor
/- THE CELL 'sum', in the pinned program and in every row, IS THE sha256 OF THE DUMP (.gsa) THAT YtckmboebipbpbaaDoorProg.lean LOADS. Nothing in Lean hashes anything: it is a label: what it is worth is what the hold of that sum in a sandbox is worth. -/
noncomputable def Tryd.pinned : Pinned := { name := "ytckmboebipbpbaadoor", sum := "f37fe194b9621f0239e9fa1513890323cca68fc06e9021ec8b6fc6a8bd27bac9", checked := Tryd.checked }
namespace Rows
def none {H : Type} : Left H := { results := [], args := [] }

/- WHAT THE LISTED PACKAGE-LEVEL VARIABLES READ AS WHEN THE CALL BEGINS. Each datum BY PROGRAM (the guide's laid-datum.mjs) off the statement by which the dump's own 'gosem.cut.vars' lays the variable. In a bare row this is a premise. The card (YtckmboebipbpbaaDoorCards.lean) ties it to the program's text. -/
def laid_chicory_field_prime {H : Type} : DataW H := .agg [.lit (.int .u64 72057594037927935), .lit (.int .u64 72057594037927935), .lit (.int .u64 72057594037927935), .lit (.int .u64 72057594037927935), .lit (.int .u64 72057594037927934), .lit (.int .u64 72057594037927935), .lit (.int .u64 72057594037927935), .lit (.int .u64 72057594037927935)]

/-- 'chicorylaw10.LadderSteps': WHATEVER THE INPUT: true; the input reads as it did. -/
def ladderStepsSpec : ChangeSpec := { name := "ladderSteps", fn := fun _ => fun
  | [d1, d2, d3] => { results := [.lit (.bool true)], args := [d1, d2, d3] }
  | _ => none }
def ladderStepsRow : OpenClaim := { program := "ytckmboebipbpbaadoor", sum := "f37fe194b9621f0239e9fa1513890323cca68fc06e9021ec8b6fc6a8bd27bac9", func := "chicory/chicorylaw10.LadderSteps", spec := "ladderSteps", inPlace := ["math/bits.Add64"], unfollowed := true, recurses := true, named := ["chicory/field.prime"], apart := false, laid := [("chicory/field.prime", laid_chicory_field_prime)] }
def LadderStepsSaid : Prop := ladderStepsRow.holds Tryd.pinned (OpenSpec.ofChange ladderStepsSpec)

/-- ITS FALSE NEIGHBOUR: 'it returns false'. Refute it at one input. -/
def ladderStepsWrong : ChangeSpec := { name := "ladderSteps", fn := fun _ => fun
  | [d1, d2, d3] => { results := [.lit (.bool false)], args := [d1, d2, d3] }
  | _ => none }
def LadderStepsWrongFalsely : Prop := ladderStepsRow.holds Tryd.pinned (OpenSpec.ofChange ladderStepsWrong)

/-- 'chicorylaw10.LadderClimbs': WHATEVER THE INPUT: true; the input reads as it did. -/
def ladderClimbsSpec : ChangeSpec := { name := "ladderClimbs", fn := fun _ => fun
  | [d1, d2] => { results := [.lit (.bool true)], args := [d1, d2] }
  | _ => none }
def ladderClimbsRow : OpenClaim := { program := "ytckmboebipbpbaadoor", sum := "f37fe194b9621f0239e9fa1513890323cca68fc06e9021ec8b6fc6a8bd27bac9", func := "chicory/chicorylaw10.LadderClimbs", spec := "ladderClimbs", inPlace := ["math/bits.Add64"], unfollowed := true, recurses := true, named := ["chicory/field.prime"], apart := false, laid := [("chicory/field.prime", laid_chicory_field_prime)] }
def LadderClimbsSaid : Prop := ladderClimbsRow.holds Tryd.pinned (OpenSpec.ofChange ladderClimbsSpec)

/-- ITS FALSE NEIGHBOUR: 'it returns false'. Refute it at one input. -/
def ladderClimbsWrong : ChangeSpec := { name := "ladderClimbs", fn := fun _ => fun
  | [d1, d2] => { results := [.lit (.bool false)], args := [d1, d2] }
  | _ => none }
def LadderClimbsWrongFalsely : Prop := ladderClimbsRow.holds Tryd.pinned (OpenSpec.ofChange ladderClimbsWrong)

/-- 'chicorylaw10.LadderShares': WHATEVER THE INPUT: true; the input reads as it did. -/
def ladderSharesSpec : ChangeSpec := { name := "ladderShares", fn := fun _ => fun
  | [d1, d2] => { results := [.lit (.bool true)], args := [d1, d2] }
  | _ => none }
def ladderSharesRow : OpenClaim := { program := "ytckmboebipbpbaadoor", sum := "f37fe194b9621f0239e9fa1513890323cca68fc06e9021ec8b6fc6a8bd27bac9", func := "chicory/chicorylaw10.LadderShares", spec := "ladderShares", inPlace := ["math/bits.Add64"], unfollowed := true, recurses := true, named := ["chicory/field.prime"], apart := false, laid := [("chicory/field.prime", laid_chicory_field_prime)] }
def LadderSharesSaid : Prop := ladderSharesRow.holds Tryd.pinned (OpenSpec.ofChange ladderSharesSpec)

/-- ITS FALSE NEIGHBOUR: 'it returns false'. Refute it at one input. -/
def ladderSharesWrong : ChangeSpec := { name := "ladderShares", fn := fun _ => fun
  | [d1, d2] => { results := [.lit (.bool false)], args := [d1, d2] }
  | _ => none }
def LadderSharesWrongFalsely : Prop := ladderSharesRow.holds Tryd.pinned (OpenSpec.ofChange ladderSharesWrong)

/-- 'chicorylaw10.LadderMeets': WHATEVER THE INPUT: true; the input reads as it did. -/
def ladderMeetsSpec : ChangeSpec := { name := "ladderMeets", fn := fun _ => fun
  | [d1, d2, d3] => { results := [.lit (.bool true)], args := [d1, d2, d3] }
  | _ => none }
def ladderMeetsRow : OpenClaim := { program := "ytckmboebipbpbaadoor", sum := "f37fe194b9621f0239e9fa1513890323cca68fc06e9021ec8b6fc6a8bd27bac9", func := "chicory/chicorylaw10.LadderMeets", spec := "ladderMeets", inPlace := ["math/bits.Add64"], unfollowed := true, recurses := true, named := ["chicory/field.prime"], apart := false, laid := [("chicory/field.prime", laid_chicory_field_prime)] }
def LadderMeetsSaid : Prop := ladderMeetsRow.holds Tryd.pinned (OpenSpec.ofChange ladderMeetsSpec)

/-- ITS FALSE NEIGHBOUR: 'it returns false'. Refute it at one input. -/
def ladderMeetsWrong : ChangeSpec := { name := "ladderMeets", fn := fun _ => fun
  | [d1, d2, d3] => { results := [.lit (.bool false)], args := [d1, d2, d3] }
  | _ => none }
def LadderMeetsWrongFalsely : Prop := ladderMeetsRow.holds Tryd.pinned (OpenSpec.ofChange ladderMeetsWrong)

/-- 'chicorylaw10.LadderPoints': WHATEVER THE INPUT: true; the input reads as it did. -/
def ladderPointsSpec : ChangeSpec := { name := "ladderPoints", fn := fun _ => fun
  | [d1, d2] => { results := [.lit (.bool true)], args := [d1, d2] }
  | _ => none }
def ladderPointsRow : OpenClaim := { program := "ytckmboebipbpbaadoor", sum := "f37fe194b9621f0239e9fa1513890323cca68fc06e9021ec8b6fc6a8bd27bac9", func := "chicory/chicorylaw10.LadderPoints", spec := "ladderPoints", inPlace := ["math/bits.Add64"], unfollowed := true, recurses := true, named := ["chicory/field.prime"], apart := false, laid := [("chicory/field.prime", laid_chicory_field_prime)] }
def LadderPointsSaid : Prop := ladderPointsRow.holds Tryd.pinned (OpenSpec.ofChange ladderPointsSpec)

/-- ITS FALSE NEIGHBOUR: 'it returns false'. Refute it at one input. -/
def ladderPointsWrong : ChangeSpec := { name := "ladderPoints", fn := fun _ => fun
  | [d1, d2] => { results := [.lit (.bool false)], args := [d1, d2] }
  | _ => none }
def LadderPointsWrongFalsely : Prop := ladderPointsRow.holds Tryd.pinned (OpenSpec.ofChange ladderPointsWrong)

/-- 'chicorylaw10.LadderSame': WHATEVER THE INPUT: true; the input reads as it did. -/
def ladderSameSpec : ChangeSpec := { name := "ladderSame", fn := fun _ => fun
  | [d1, d2] => { results := [.lit (.bool true)], args := [d1, d2] }
  | _ => none }
def ladderSameRow : OpenClaim := { program := "ytckmboebipbpbaadoor", sum := "f37fe194b9621f0239e9fa1513890323cca68fc06e9021ec8b6fc6a8bd27bac9", func := "chicory/chicorylaw10.LadderSame", spec := "ladderSame", inPlace := ["math/bits.Add64"], unfollowed := true, recurses := true, named := ["chicory/field.prime"], apart := false, laid := [("chicory/field.prime", laid_chicory_field_prime)] }
def LadderSameSaid : Prop := ladderSameRow.holds Tryd.pinned (OpenSpec.ofChange ladderSameSpec)

/-- ITS FALSE NEIGHBOUR: 'it returns false'. Refute it at one input. -/
def ladderSameWrong : ChangeSpec := { name := "ladderSame", fn := fun _ => fun
  | [d1, d2] => { results := [.lit (.bool false)], args := [d1, d2] }
  | _ => none }
def LadderSameWrongFalsely : Prop := ladderSameRow.holds Tryd.pinned (OpenSpec.ofChange ladderSameWrong)

/-- 'chicorylaw10.LadderProducts': WHATEVER THE INPUT: true; the input reads as it did. -/
def ladderProductsSpec : ChangeSpec := { name := "ladderProducts", fn := fun _ => fun
  | [d1, d2, d3] => { results := [.lit (.bool true)], args := [d1, d2, d3] }
  | _ => none }
def ladderProductsRow : OpenClaim := { program := "ytckmboebipbpbaadoor", sum := "f37fe194b9621f0239e9fa1513890323cca68fc06e9021ec8b6fc6a8bd27bac9", func := "chicory/chicorylaw10.LadderProducts", spec := "ladderProducts", inPlace := ["math/bits.Add64"], unfollowed := true, recurses := true, named := ["chicory/field.prime"], apart := false, laid := [("chicory/field.prime", laid_chicory_field_prime)] }
def LadderProductsSaid : Prop := ladderProductsRow.holds Tryd.pinned (OpenSpec.ofChange ladderProductsSpec)

/-- ITS FALSE NEIGHBOUR: 'it returns false'. Refute it at one input. -/
def ladderProductsWrong : ChangeSpec := { name := "ladderProducts", fn := fun _ => fun
  | [d1, d2, d3] => { results := [.lit (.bool false)], args := [d1, d2, d3] }
  | _ => none }
def LadderProductsWrongFalsely : Prop := ladderProductsRow.holds Tryd.pinned (OpenSpec.ofChange ladderProductsWrong)

/- THE SECOND FORM. 'bulk': how many values and letters a reading holds, each counted each time it is reached (what is shared counts as often as it is met; a slice's spare places count too). A statement '..UptoSaid' is the law's where the arguments, and the package variables that the reading takes, are together of bulk at most 1048576: NARROWER than '..Said'. Prove '..Said' where nothing that the law and all that it calls make is longer than what came in: it says more and counts as full. Else prove '..UptoSaid'. A law counts once. -/
mutual
def uptoBulk {H : Type} : DataW H → Nat
  | .lit (.string bytes) => bytes.length + 1
  | .lit _ => 1
  | .nil => 1
  | .ptr d => uptoBulk d + 1
  | .slice elems spare => uptoBulkAll elems + uptoBulkAll spare + 1
  | .agg parts => uptoBulkAll parts + 1
  | .iface _ d => uptoBulk d + 1
  | .map entries => uptoBulkEntries entries + 1
  | .held _ => 1
def uptoBulkAll {H : Type} : List (DataW H) → Nat
  | [] => 0
  | d :: r => uptoBulk d + uptoBulkAll r
def uptoBulkEntries {H : Type} : List (Lit × DataW H) → Nat
  | [] => 0
  | x :: r => uptoBulkEntry x + uptoBulkEntries r
def uptoBulkEntry {H : Type} : Lit × DataW H → Nat
  | (.string bytes, d) => bytes.length + uptoBulk d + 1
  | (_, d) => uptoBulk d + 1
 end
def uptoSmall : (H : Type) → List (DataW H) → Bool := fun _ ds => decide (uptoBulkAll ds ≤ 1048576)
def OpenSpec.upto (s : _root_.Go.ChangeSpec) : _root_.Go.OpenSpec := { _root_.Go.OpenSpec.ofChange s with cond := some uptoSmall }

/-- 'chicorylaw10.LadderSteps', WHERE WHAT IT READS IS OF BULK AT MOST 1048576: true; the input reads as it did. -/
def ladderStepsUptoRow : OpenClaim := { program := "ytckmboebipbpbaadoor", sum := "f37fe194b9621f0239e9fa1513890323cca68fc06e9021ec8b6fc6a8bd27bac9", func := "chicory/chicorylaw10.LadderSteps", spec := "ladderSteps", inPlace := ["math/bits.Add64"], unfollowed := true, recurses := true, named := ["chicory/field.prime"], apart := false, laid := [("chicory/field.prime", laid_chicory_field_prime)], narrowed := true }
def LadderStepsUptoSaid : Prop := ladderStepsUptoRow.holds Tryd.pinned (OpenSpec.upto ladderStepsSpec)

/-- 'chicorylaw10.LadderClimbs', WHERE WHAT IT READS IS OF BULK AT MOST 1048576: true; the input reads as it did. -/
def ladderClimbsUptoRow : OpenClaim := { program := "ytckmboebipbpbaadoor", sum := "f37fe194b9621f0239e9fa1513890323cca68fc06e9021ec8b6fc6a8bd27bac9", func := "chicory/chicorylaw10.LadderClimbs", spec := "ladderClimbs", inPlace := ["math/bits.Add64"], unfollowed := true, recurses := true, named := ["chicory/field.prime"], apart := false, laid := [("chicory/field.prime", laid_chicory_field_prime)], narrowed := true }
def LadderClimbsUptoSaid : Prop := ladderClimbsUptoRow.holds Tryd.pinned (OpenSpec.upto ladderClimbsSpec)

/-- 'chicorylaw10.LadderShares', WHERE WHAT IT READS IS OF BULK AT MOST 1048576: true; the input reads as it did. -/
def ladderSharesUptoRow : OpenClaim := { program := "ytckmboebipbpbaadoor", sum := "f37fe194b9621f0239e9fa1513890323cca68fc06e9021ec8b6fc6a8bd27bac9", func := "chicory/chicorylaw10.LadderShares", spec := "ladderShares", inPlace := ["math/bits.Add64"], unfollowed := true, recurses := true, named := ["chicory/field.prime"], apart := false, laid := [("chicory/field.prime", laid_chicory_field_prime)], narrowed := true }
def LadderSharesUptoSaid : Prop := ladderSharesUptoRow.holds Tryd.pinned (OpenSpec.upto ladderSharesSpec)

/-- 'chicorylaw10.LadderMeets', WHERE WHAT IT READS IS OF BULK AT MOST 1048576: true; the input reads as it did. -/
def ladderMeetsUptoRow : OpenClaim := { program := "ytckmboebipbpbaadoor", sum := "f37fe194b9621f0239e9fa1513890323cca68fc06e9021ec8b6fc6a8bd27bac9", func := "chicory/chicorylaw10.LadderMeets", spec := "ladderMeets", inPlace := ["math/bits.Add64"], unfollowed := true, recurses := true, named := ["chicory/field.prime"], apart := false, laid := [("chicory/field.prime", laid_chicory_field_prime)], narrowed := true }
def LadderMeetsUptoSaid : Prop := ladderMeetsUptoRow.holds Tryd.pinned (OpenSpec.upto ladderMeetsSpec)

/-- 'chicorylaw10.LadderPoints', WHERE WHAT IT READS IS OF BULK AT MOST 1048576: true; the input reads as it did. -/
def ladderPointsUptoRow : OpenClaim := { program := "ytckmboebipbpbaadoor", sum := "f37fe194b9621f0239e9fa1513890323cca68fc06e9021ec8b6fc6a8bd27bac9", func := "chicory/chicorylaw10.LadderPoints", spec := "ladderPoints", inPlace := ["math/bits.Add64"], unfollowed := true, recurses := true, named := ["chicory/field.prime"], apart := false, laid := [("chicory/field.prime", laid_chicory_field_prime)], narrowed := true }
def LadderPointsUptoSaid : Prop := ladderPointsUptoRow.holds Tryd.pinned (OpenSpec.upto ladderPointsSpec)

/-- 'chicorylaw10.LadderSame', WHERE WHAT IT READS IS OF BULK AT MOST 1048576: true; the input reads as it did. -/
def ladderSameUptoRow : OpenClaim := { program := "ytckmboebipbpbaadoor", sum := "f37fe194b9621f0239e9fa1513890323cca68fc06e9021ec8b6fc6a8bd27bac9", func := "chicory/chicorylaw10.LadderSame", spec := "ladderSame", inPlace := ["math/bits.Add64"], unfollowed := true, recurses := true, named := ["chicory/field.prime"], apart := false, laid := [("chicory/field.prime", laid_chicory_field_prime)], narrowed := true }
def LadderSameUptoSaid : Prop := ladderSameUptoRow.holds Tryd.pinned (OpenSpec.upto ladderSameSpec)

/-- 'chicorylaw10.LadderProducts', WHERE WHAT IT READS IS OF BULK AT MOST 1048576: true; the input reads as it did. -/
def ladderProductsUptoRow : OpenClaim := { program := "ytckmboebipbpbaadoor", sum := "f37fe194b9621f0239e9fa1513890323cca68fc06e9021ec8b6fc6a8bd27bac9", func := "chicory/chicorylaw10.LadderProducts", spec := "ladderProducts", inPlace := ["math/bits.Add64"], unfollowed := true, recurses := true, named := ["chicory/field.prime"], apart := false, laid := [("chicory/field.prime", laid_chicory_field_prime)], narrowed := true }
def LadderProductsUptoSaid : Prop := ladderProductsUptoRow.holds Tryd.pinned (OpenSpec.upto ladderProductsSpec)

end Rows
end Go.Proofs.YtckmboebipbpbaaDoor
