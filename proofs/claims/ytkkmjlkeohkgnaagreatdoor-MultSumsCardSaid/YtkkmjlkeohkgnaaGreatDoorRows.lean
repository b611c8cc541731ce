/-
  NARROWER THAN 'FOR EVERY INPUT', by the rows' own cells (each row's printed sentence says how): MultTimes: laid · MultSmall: laid · MultBoth: laid · MultSums: laid · MultSwaps: laid · MultParts: laid.
  DERIVED. THE GIVEN ROWS OF THIS SEAT. 6 by the template 'for every input the law returns true; each argument reads behind the call as it read before'; 0 by the template 'total and deterministic' (their statements: YtkkmjlkeohkgnaaGreatDoorTotals.lean).
  GIVEN WITH THE SEED: the statements are not yours to turn. If you find one false, say at which input.
  Laid BY PROGRAM, IN A SANDBOX (cutbox-rows.mjs): the forced cells as the released guide's own fill.sh prints them over the translation 7d82934abf1363ac… (all of the seat's roots in one cut). By AI agents, Wed Nov 11 2026. No macro, syntax, notation, axiom, sorry.
-/
import Derived.Test.YtkkmjlkeohkgnaaGreatDoorChecked
import GoSem.Claim
import GoSem.ClaimJoined
import GoSem.ClaimMapViews
import Derived.JoinedTies
import Derived.KernelRfl
namespace Go.Proofs.YtkkmjlkeohkgnaaGreatDoor
/- THE CELL 'sum', in the pinned program and in every row, IS THE sha256 OF THE DUMP (.gsa) THAT YtkkmjlkeohkgnaaGreatDoorProg.lean LOADS. Nothing in Lean hashes anything: it is a label: what it is worth is what the hold of that sum in a sandbox is worth. -/
noncomputable def Tryz.pinned : Pinned := { name := "ytkkmjlkeohkgnaagreatdoor", sum := "7d82934abf1363ac1c48a5d5337180e237e9ab8f4f86b2b1a89c3d1c4bbf5c68", checked := Tryz.checked }
namespace Rows
def none {H : Type} : Left H := { results := [], args := [] }

/- WHAT THE LISTED PACKAGE-LEVEL VARIABLES READ AS WHEN THE CALL BEGINS. Each datum BY PROGRAM (the guide's laid-datum.mjs) off the statement by which the dump's own 'gosem.cut.vars' lays the variable. In a bare row this is a premise. The card (YtkkmjlkeohkgnaaGreatDoorCards.lean) ties it to the program's text. -/
def laid_chicory_field_prime {H : Type} : DataW H := .agg [.lit (.int .u64 72057594037927935), .lit (.int .u64 72057594037927935), .lit (.int .u64 72057594037927935), .lit (.int .u64 72057594037927935), .lit (.int .u64 72057594037927934), .lit (.int .u64 72057594037927935), .lit (.int .u64 72057594037927935), .lit (.int .u64 72057594037927935)]

/-- 'chicorylaw12.MultTimes': WHATEVER THE INPUT: true; the input reads as it did. -/
def multTimesSpec : ChangeSpec := { name := "multTimes", fn := fun _ => fun
  | [d1, d2] => { results := [.lit (.bool true)], args := [d1, d2] }
  | _ => none }
def multTimesRow : OpenClaim := { program := "ytkkmjlkeohkgnaagreatdoor", sum := "7d82934abf1363ac1c48a5d5337180e237e9ab8f4f86b2b1a89c3d1c4bbf5c68", func := "chicory/chicorylaw12.MultTimes", spec := "multTimes", inPlace := ["math/bits.Add64"], unfollowed := true, recurses := true, named := ["chicory/field.prime"], apart := false, laid := [("chicory/field.prime", laid_chicory_field_prime)] }
def MultTimesSaid : Prop := multTimesRow.holds Tryz.pinned (OpenSpec.ofChange multTimesSpec)

/-- ITS FALSE NEIGHBOUR: 'it returns false'. Refute it at one input. -/
def multTimesWrong : ChangeSpec := { name := "multTimes", fn := fun _ => fun
  | [d1, d2] => { results := [.lit (.bool false)], args := [d1, d2] }
  | _ => none }
def MultTimesWrongFalsely : Prop := multTimesRow.holds Tryz.pinned (OpenSpec.ofChange multTimesWrong)

/-- 'chicorylaw12.MultSmall': WHATEVER THE INPUT: true; the input reads as it did. -/
def multSmallSpec : ChangeSpec := { name := "multSmall", fn := fun _ => fun
  | [d1, d2] => { results := [.lit (.bool true)], args := [d1, d2] }
  | _ => none }
def multSmallRow : OpenClaim := { program := "ytkkmjlkeohkgnaagreatdoor", sum := "7d82934abf1363ac1c48a5d5337180e237e9ab8f4f86b2b1a89c3d1c4bbf5c68", func := "chicory/chicorylaw12.MultSmall", spec := "multSmall", inPlace := ["math/bits.Add64"], unfollowed := true, recurses := true, named := ["chicory/field.prime"], apart := false, laid := [("chicory/field.prime", laid_chicory_field_prime)] }
def MultSmallSaid : Prop := multSmallRow.holds Tryz.pinned (OpenSpec.ofChange multSmallSpec)

/-- ITS FALSE NEIGHBOUR: 'it returns false'. Refute it at one input. -/
def multSmallWrong : ChangeSpec := { name := "multSmall", fn := fun _ => fun
  | [d1, d2] => { results := [.lit (.bool false)], args := [d1, d2] }
  | _ => none }
def MultSmallWrongFalsely : Prop := multSmallRow.holds Tryz.pinned (OpenSpec.ofChange multSmallWrong)

/-- 'chicorylaw12.MultBoth': WHATEVER THE INPUT: true; the input reads as it did. -/
def multBothSpec : ChangeSpec := { name := "multBoth", fn := fun _ => fun
  | [d1, d2] => { results := [.lit (.bool true)], args := [d1, d2] }
  | _ => none }
def multBothRow : OpenClaim := { program := "ytkkmjlkeohkgnaagreatdoor", sum := "7d82934abf1363ac1c48a5d5337180e237e9ab8f4f86b2b1a89c3d1c4bbf5c68", func := "chicory/chicorylaw12.MultBoth", spec := "multBoth", inPlace := ["math/bits.Add64"], unfollowed := true, recurses := true, named := ["chicory/field.prime"], apart := false, laid := [("chicory/field.prime", laid_chicory_field_prime)] }
def MultBothSaid : Prop := multBothRow.holds Tryz.pinned (OpenSpec.ofChange multBothSpec)

/-- ITS FALSE NEIGHBOUR: 'it returns false'. Refute it at one input. -/
def multBothWrong : ChangeSpec := { name := "multBoth", fn := fun _ => fun
  | [d1, d2] => { results := [.lit (.bool false)], args := [d1, d2] }
  | _ => none }
def MultBothWrongFalsely : Prop := multBothRow.holds Tryz.pinned (OpenSpec.ofChange multBothWrong)

/-- 'chicorylaw12.MultSums': WHATEVER THE INPUT: true; the input reads as it did. -/
def multSumsSpec : ChangeSpec := { name := "multSums", fn := fun _ => fun
  | [d1, d2] => { results := [.lit (.bool true)], args := [d1, d2] }
  | _ => none }
def multSumsRow : OpenClaim := { program := "ytkkmjlkeohkgnaagreatdoor", sum := "7d82934abf1363ac1c48a5d5337180e237e9ab8f4f86b2b1a89c3d1c4bbf5c68", func := "chicory/chicorylaw12.MultSums", spec := "multSums", inPlace := ["math/bits.Add64"], unfollowed := true, recurses := true, named := ["chicory/field.prime"], apart := false, laid := [("chicory/field.prime", laid_chicory_field_prime)] }
def MultSumsSaid : Prop := multSumsRow.holds Tryz.pinned (OpenSpec.ofChange multSumsSpec)

/-- ITS FALSE NEIGHBOUR: 'it returns false'. Refute it at one input. -/
def multSumsWrong : ChangeSpec := { name := "multSums", fn := fun _ => fun
  | [d1, d2] => { results := [.lit (.bool false)], args := [d1, d2] }
  | _ => none }
def MultSumsWrongFalsely : Prop := multSumsRow.holds Tryz.pinned (OpenSpec.ofChange multSumsWrong)

/-- 'chicorylaw12.MultSwaps': WHATEVER THE INPUT: true; the input reads as it did. -/
def multSwapsSpec : ChangeSpec := { name := "multSwaps", fn := fun _ => fun
  | [d1, d2] => { results := [.lit (.bool true)], args := [d1, d2] }
  | _ => none }
def multSwapsRow : OpenClaim := { program := "ytkkmjlkeohkgnaagreatdoor", sum := "7d82934abf1363ac1c48a5d5337180e237e9ab8f4f86b2b1a89c3d1c4bbf5c68", func := "chicory/chicorylaw12.MultSwaps", spec := "multSwaps", inPlace := ["math/bits.Add64"], unfollowed := true, recurses := true, named := ["chicory/field.prime"], apart := false, laid := [("chicory/field.prime", laid_chicory_field_prime)] }
def MultSwapsSaid : Prop := multSwapsRow.holds Tryz.pinned (OpenSpec.ofChange multSwapsSpec)

/-- ITS FALSE NEIGHBOUR: 'it returns false'. Refute it at one input. -/
def multSwapsWrong : ChangeSpec := { name := "multSwaps", fn := fun _ => fun
  | [d1, d2] => { results := [.lit (.bool false)], args := [d1, d2] }
  | _ => none }
def MultSwapsWrongFalsely : Prop := multSwapsRow.holds Tryz.pinned (OpenSpec.ofChange multSwapsWrong)

/-- 'chicorylaw12.MultParts': WHATEVER THE INPUT: true; the input reads as it did. -/
def multPartsSpec : ChangeSpec := { name := "multParts", fn := fun _ => fun
  | [d1, d2] => { results := [.lit (.bool true)], args := [d1, d2] }
  | _ => none }
def multPartsRow : OpenClaim := { program := "ytkkmjlkeohkgnaagreatdoor", sum := "7d82934abf1363ac1c48a5d5337180e237e9ab8f4f86b2b1a89c3d1c4bbf5c68", func := "chicory/chicorylaw12.MultParts", spec := "multParts", inPlace := ["math/bits.Add64"], unfollowed := true, recurses := true, named := ["chicory/field.prime"], apart := false, laid := [("chicory/field.prime", laid_chicory_field_prime)] }
def MultPartsSaid : Prop := multPartsRow.holds Tryz.pinned (OpenSpec.ofChange multPartsSpec)

/-- ITS FALSE NEIGHBOUR: 'it returns false'. Refute it at one input. -/
def multPartsWrong : ChangeSpec := { name := "multParts", fn := fun _ => fun
  | [d1, d2] => { results := [.lit (.bool false)], args := [d1, d2] }
  | _ => none }
def MultPartsWrongFalsely : Prop := multPartsRow.holds Tryz.pinned (OpenSpec.ofChange multPartsWrong)

/- THE SECOND FORM. 'bulk': how many values and letters a reading holds, each counted each time it is reached (what is shared counts as often as it is met; a slice's spare places count too). A statement '..UptoSaid' is the law's where the arguments, and the package variables that the reading takes, are together of bulk at most 1048576: NARROWER than '..Said'. Prove '..Said' where nothing that the law and all that it calls make is longer than what came in: it says more and counts as full. Else prove '..UptoSaid'. A law counts once. -/
mutual
def uptoBulk {H : Type} : DataW H → Nat
  | .lit (.string bytes) => bytes.length + 1
  | .lit _ => 1
  | .nil => 1
  | .ptr d => uptoBulk d + 1
  | .slice elems spare => uptoBulkAll elems + uptoBulkAll spare + 1
  | .agg parts => uptoBulkAll parts + 1
  | .iface _ d => uptoBulk d + 1
  | .map entries => uptoBulkEntries entries + 1
  | .held _ => 1
def uptoBulkAll {H : Type} : List (DataW H) → Nat
  | [] => 0
  | d :: r => uptoBulk d + uptoBulkAll r
def uptoBulkEntries {H : Type} : List (Lit × DataW H) → Nat
  | [] => 0
  | x :: r => uptoBulkEntry x + uptoBulkEntries r
def uptoBulkEntry {H : Type} : Lit × DataW H → Nat
  | (.string bytes, d) => bytes.length + uptoBulk d + 1
  | (_, d) => uptoBulk d + 1
 end
def uptoSmall : (H : Type) → List (DataW H) → Bool := fun _ ds => decide (uptoBulkAll ds ≤ 1048576)
def OpenSpec.upto (s : _root_.Go.ChangeSpec) : _root_.Go.OpenSpec := { _root_.Go.OpenSpec.ofChange s with cond := some uptoSmall }

/-- 'chicorylaw12.MultTimes', WHERE WHAT IT READS IS OF BULK AT MOST 1048576: true; the input reads as it did. -/
def multTimesUptoRow : OpenClaim := { program := "ytkkmjlkeohkgnaagreatdoor", sum := "7d82934abf1363ac1c48a5d5337180e237e9ab8f4f86b2b1a89c3d1c4bbf5c68", func := "chicory/chicorylaw12.MultTimes", spec := "multTimes", inPlace := ["math/bits.Add64"], unfollowed := true, recurses := true, named := ["chicory/field.prime"], apart := false, laid := [("chicory/field.prime", laid_chicory_field_prime)], narrowed := true }
def MultTimesUptoSaid : Prop := multTimesUptoRow.holds Tryz.pinned (OpenSpec.upto multTimesSpec)

/-- 'chicorylaw12.MultSmall', WHERE WHAT IT READS IS OF BULK AT MOST 1048576: true; the input reads as it did. -/
def multSmallUptoRow : OpenClaim := { program := "ytkkmjlkeohkgnaagreatdoor", sum := "7d82934abf1363ac1c48a5d5337180e237e9ab8f4f86b2b1a89c3d1c4bbf5c68", func := "chicory/chicorylaw12.MultSmall", spec := "multSmall", inPlace := ["math/bits.Add64"], unfollowed := true, recurses := true, named := ["chicory/field.prime"], apart := false, laid := [("chicory/field.prime", laid_chicory_field_prime)], narrowed := true }
def MultSmallUptoSaid : Prop := multSmallUptoRow.holds Tryz.pinned (OpenSpec.upto multSmallSpec)

/-- 'chicorylaw12.MultBoth', WHERE WHAT IT READS IS OF BULK AT MOST 1048576: true; the input reads as it did. -/
def multBothUptoRow : OpenClaim := { program := "ytkkmjlkeohkgnaagreatdoor", sum := "7d82934abf1363ac1c48a5d5337180e237e9ab8f4f86b2b1a89c3d1c4bbf5c68", func := "chicory/chicorylaw12.MultBoth", spec := "multBoth", inPlace := ["math/bits.Add64"], unfollowed := true, recurses := true, named := ["chicory/field.prime"], apart := false, laid := [("chicory/field.prime", laid_chicory_field_prime)], narrowed := true }
def MultBothUptoSaid : Prop := multBothUptoRow.holds Tryz.pinned (OpenSpec.upto multBothSpec)

/-- 'chicorylaw12.MultSums', WHERE WHAT IT READS IS OF BULK AT MOST 1048576: true; the input reads as it did. -/
def multSumsUptoRow : OpenClaim := { program := "ytkkmjlkeohkgnaagreatdoor", sum := "7d82934abf1363ac1c48a5d5337180e237e9ab8f4f86b2b1a89c3d1c4bbf5c68", func := "chicory/chicorylaw12.MultSums", spec := "multSums", inPlace := ["math/bits.Add64"], unfollowed := true, recurses := true, named := ["chicory/field.prime"], apart := false, laid := [("chicory/field.prime", laid_chicory_field_prime)], narrowed := true }
def MultSumsUptoSaid : Prop := multSumsUptoRow.holds Tryz.pinned (OpenSpec.upto multSumsSpec)

/-- 'chicorylaw12.MultSwaps', WHERE WHAT IT READS IS OF BULK AT MOST 1048576: true; the input reads as it did. -/
def multSwapsUptoRow : OpenClaim := { program := "ytkkmjlkeohkgnaagreatdoor", sum := "7d82934abf1363ac1c48a5d5337180e237e9ab8f4f86b2b1a89c3d1c4bbf5c68", func := "chicory/chicorylaw12.MultSwaps", spec := "multSwaps", inPlace := ["math/bits.Add64"], unfollowed := true, recurses := true, named := ["chicory/field.prime"], apart := false, laid := [("chicory/field.prime", laid_chicory_field_prime)], narrowed := true }
def MultSwapsUptoSaid : Prop := multSwapsUptoRow.holds Tryz.pinned (OpenSpec.upto multSwapsSpec)

/-- 'chicorylaw12.MultParts', WHERE WHAT IT READS IS OF BULK AT MOST 1048576: true; the input reads as it did. -/
def multPartsUptoRow : OpenClaim := { program := "ytkkmjlkeohkgnaagreatdoor", sum := "7d82934abf1363ac1c48a5d5337180e237e9ab8f4f86b2b1a89c3d1c4bbf5c68", func := "chicory/chicorylaw12.MultParts", spec := "multParts", inPlace := ["math/bits.Add64"], unfollowed := true, recurses := true, named := ["chicory/field.prime"], apart := false, laid := [("chicory/field.prime", laid_chicory_field_prime)], narrowed := true }
def MultPartsUptoSaid : Prop := multPartsUptoRow.holds Tryz.pinned (OpenSpec.upto multPartsSpec)

end Rows
end Go.Proofs.YtkkmjlkeohkgnaaGreatDoor
