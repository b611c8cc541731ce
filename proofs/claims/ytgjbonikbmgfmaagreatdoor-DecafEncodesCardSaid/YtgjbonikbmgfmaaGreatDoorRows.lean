/-
  NARROWER THAN 'FOR EVERY INPUT', by the rows' own cells (each row's printed sentence says how): DecafDecodes: laid · DecafEncodes: laid · DecafAdds: laid · DecafMuls: laid · DecafGroup: laid · DecafScales: laid · DecafFour: laid.
  DERIVED. THE GIVEN ROWS OF THIS SEAT. 7 by the template 'for every input the law returns true; each argument reads behind the call as it read before'; 0 by the template 'total and deterministic' (their statements: YtgjbonikbmgfmaaGreatDoorTotals.lean).
  GIVEN WITH THE SEED: the statements are not yours to turn. If you find one false, say at which input.
  Laid BY PROGRAM, IN A SANDBOX (cutbox-rows.mjs): the forced cells as the released guide's own fill.sh prints them over the translation 83fab7fbca7784af… (all of the seat's roots in one cut). By AI agents, Wed Nov 11 2026. No macro, syntax, notation, axiom, sorry.
-/
import Derived.Test.YtgjbonikbmgfmaaGreatDoorChecked
import GoSem.Claim
import GoSem.ClaimJoined
import GoSem.ClaimMapViews
import Derived.JoinedTies
import Derived.KernelRfl
namespace Go.Proofs.YtgjbonikbmgfmaaGreatDoor
/- THE CELL 'sum', in the pinned program and in every row, IS THE sha256 OF THE DUMP (.gsa) THAT YtgjbonikbmgfmaaGreatDoorProg.lean LOADS. Nothing in Lean hashes anything: it is a label: what it is worth is what the hold of that sum in a sandbox is worth. -/
noncomputable def Tryz.pinned : Pinned := { name := "ytgjbonikbmgfmaagreatdoor", sum := "83fab7fbca7784af54157e71bdab0d1c1825e02a882496d89433955ca45b9476", checked := Tryz.checked }
namespace Rows
def none {H : Type} : Left H := { results := [], args := [] }

/- WHAT THE LISTED PACKAGE-LEVEL VARIABLES READ AS WHEN THE CALL BEGINS. Each datum BY PROGRAM (the guide's laid-datum.mjs) off the statement by which the dump's own 'gosem.cut.vars' lays the variable. In a bare row this is a premise. The card (YtgjbonikbmgfmaaGreatDoorCards.lean) ties it to the program's text. -/
def laid_chicory_field_prime {H : Type} : DataW H := .agg [.lit (.int .u64 72057594037927935), .lit (.int .u64 72057594037927935), .lit (.int .u64 72057594037927935), .lit (.int .u64 72057594037927935), .lit (.int .u64 72057594037927934), .lit (.int .u64 72057594037927935), .lit (.int .u64 72057594037927935), .lit (.int .u64 72057594037927935)]
def laid_chicory_scalar_order {H : Type} : DataW H := .agg [.lit (.int .u64 2556006723728458995), .lit (.int .u64 2408513697996967765), .lit (.int .u64 14145484589129676432), .lit (.int .u64 18446744071508206569), .lit (.int .u64 18446744073709551615), .lit (.int .u64 18446744073709551615), .lit (.int .u64 4611686018427387903)]
def laid_chicory_scalar_rest {H : Type} : DataW H := .agg [.lit (.int .u64 15890737349981092621), .lit (.int .u64 16038230375712583850), .lit (.int .u64 4301259484579875183), .lit (.int .u64 2201345046)]

/-- 'chicorylaw14.DecafDecodes': WHATEVER THE INPUT: true; the input reads as it did. -/
def decafDecodesSpec : ChangeSpec := { name := "decafDecodes", fn := fun _ => fun
  | [d1, d2, d3] => { results := [.lit (.bool true)], args := [d1, d2, d3] }
  | _ => none }
def decafDecodesRow : OpenClaim := { program := "ytgjbonikbmgfmaagreatdoor", sum := "83fab7fbca7784af54157e71bdab0d1c1825e02a882496d89433955ca45b9476", func := "chicory/chicorylaw14.DecafDecodes", spec := "decafDecodes", inPlace := ["math/bits.Add64"], unfollowed := true, recurses := true, named := ["chicory/field.prime"], apart := false, laid := [("chicory/field.prime", laid_chicory_field_prime)] }
def DecafDecodesSaid : Prop := decafDecodesRow.holds Tryz.pinned (OpenSpec.ofChange decafDecodesSpec)

/-- ITS FALSE NEIGHBOUR: 'it returns false'. Refute it at one input. -/
def decafDecodesWrong : ChangeSpec := { name := "decafDecodes", fn := fun _ => fun
  | [d1, d2, d3] => { results := [.lit (.bool false)], args := [d1, d2, d3] }
  | _ => none }
def DecafDecodesWrongFalsely : Prop := decafDecodesRow.holds Tryz.pinned (OpenSpec.ofChange decafDecodesWrong)

/-- 'chicorylaw14.DecafEncodes': WHATEVER THE INPUT: true; the input reads as it did. -/
def decafEncodesSpec : ChangeSpec := { name := "decafEncodes", fn := fun _ => fun
  | [d] => { results := [.lit (.bool true)], args := [d] }
  | _ => none }
def decafEncodesRow : OpenClaim := { program := "ytgjbonikbmgfmaagreatdoor", sum := "83fab7fbca7784af54157e71bdab0d1c1825e02a882496d89433955ca45b9476", func := "chicory/chicorylaw14.DecafEncodes", spec := "decafEncodes", inPlace := ["math/bits.Add64"], unfollowed := true, recurses := true, named := ["chicory/field.prime"], apart := false, laid := [("chicory/field.prime", laid_chicory_field_prime)] }
def DecafEncodesSaid : Prop := decafEncodesRow.holds Tryz.pinned (OpenSpec.ofChange decafEncodesSpec)

/-- ITS FALSE NEIGHBOUR: 'it returns false'. Refute it at one input. -/
def decafEncodesWrong : ChangeSpec := { name := "decafEncodes", fn := fun _ => fun
  | [d] => { results := [.lit (.bool false)], args := [d] }
  | _ => none }
def DecafEncodesWrongFalsely : Prop := decafEncodesRow.holds Tryz.pinned (OpenSpec.ofChange decafEncodesWrong)

/-- 'chicorylaw14.DecafAdds': WHATEVER THE INPUT: true; the input reads as it did. -/
def decafAddsSpec : ChangeSpec := { name := "decafAdds", fn := fun _ => fun
  | [d1, d2] => { results := [.lit (.bool true)], args := [d1, d2] }
  | _ => none }
def decafAddsRow : OpenClaim := { program := "ytgjbonikbmgfmaagreatdoor", sum := "83fab7fbca7784af54157e71bdab0d1c1825e02a882496d89433955ca45b9476", func := "chicory/chicorylaw14.DecafAdds", spec := "decafAdds", inPlace := ["math/bits.Add64"], unfollowed := true, recurses := true, named := ["chicory/field.prime"], apart := false, laid := [("chicory/field.prime", laid_chicory_field_prime)] }
def DecafAddsSaid : Prop := decafAddsRow.holds Tryz.pinned (OpenSpec.ofChange decafAddsSpec)

/-- ITS FALSE NEIGHBOUR: 'it returns false'. Refute it at one input. -/
def decafAddsWrong : ChangeSpec := { name := "decafAdds", fn := fun _ => fun
  | [d1, d2] => { results := [.lit (.bool false)], args := [d1, d2] }
  | _ => none }
def DecafAddsWrongFalsely : Prop := decafAddsRow.holds Tryz.pinned (OpenSpec.ofChange decafAddsWrong)

/-- 'chicorylaw14.DecafMuls': WHATEVER THE INPUT: true; the input reads as it did. -/
def decafMulsSpec : ChangeSpec := { name := "decafMuls", fn := fun _ => fun
  | [d1, d2] => { results := [.lit (.bool true)], args := [d1, d2] }
  | _ => none }
def decafMulsRow : OpenClaim := { program := "ytgjbonikbmgfmaagreatdoor", sum := "83fab7fbca7784af54157e71bdab0d1c1825e02a882496d89433955ca45b9476", func := "chicory/chicorylaw14.DecafMuls", spec := "decafMuls", inPlace := ["math/bits.Add64", "math/bits.Sub64"], unfollowed := true, recurses := true, named := ["chicory/field.prime", "chicory/scalar.order", "chicory/scalar.rest"], apart := false, laid := [("chicory/field.prime", laid_chicory_field_prime), ("chicory/scalar.order", laid_chicory_scalar_order), ("chicory/scalar.rest", laid_chicory_scalar_rest)] }
def DecafMulsSaid : Prop := decafMulsRow.holds Tryz.pinned (OpenSpec.ofChange decafMulsSpec)

/-- ITS FALSE NEIGHBOUR: 'it returns false'. Refute it at one input. -/
def decafMulsWrong : ChangeSpec := { name := "decafMuls", fn := fun _ => fun
  | [d1, d2] => { results := [.lit (.bool false)], args := [d1, d2] }
  | _ => none }
def DecafMulsWrongFalsely : Prop := decafMulsRow.holds Tryz.pinned (OpenSpec.ofChange decafMulsWrong)

/-- 'chicorylaw14.DecafGroup': WHATEVER THE INPUT: true; the input reads as it did. -/
def decafGroupSpec : ChangeSpec := { name := "decafGroup", fn := fun _ => fun
  | [d1, d2] => { results := [.lit (.bool true)], args := [d1, d2] }
  | _ => none }
def decafGroupRow : OpenClaim := { program := "ytgjbonikbmgfmaagreatdoor", sum := "83fab7fbca7784af54157e71bdab0d1c1825e02a882496d89433955ca45b9476", func := "chicory/chicorylaw14.DecafGroup", spec := "decafGroup", inPlace := ["math/bits.Add64", "math/bits.Sub64"], unfollowed := true, recurses := true, named := ["chicory/field.prime", "chicory/scalar.order"], apart := false, laid := [("chicory/field.prime", laid_chicory_field_prime), ("chicory/scalar.order", laid_chicory_scalar_order)] }
def DecafGroupSaid : Prop := decafGroupRow.holds Tryz.pinned (OpenSpec.ofChange decafGroupSpec)

/-- ITS FALSE NEIGHBOUR: 'it returns false'. Refute it at one input. -/
def decafGroupWrong : ChangeSpec := { name := "decafGroup", fn := fun _ => fun
  | [d1, d2] => { results := [.lit (.bool false)], args := [d1, d2] }
  | _ => none }
def DecafGroupWrongFalsely : Prop := decafGroupRow.holds Tryz.pinned (OpenSpec.ofChange decafGroupWrong)

/-- 'chicorylaw14.DecafScales': WHATEVER THE INPUT: true; the input reads as it did. -/
def decafScalesSpec : ChangeSpec := { name := "decafScales", fn := fun _ => fun
  | [d1, d2] => { results := [.lit (.bool true)], args := [d1, d2] }
  | _ => none }
def decafScalesRow : OpenClaim := { program := "ytgjbonikbmgfmaagreatdoor", sum := "83fab7fbca7784af54157e71bdab0d1c1825e02a882496d89433955ca45b9476", func := "chicory/chicorylaw14.DecafScales", spec := "decafScales", inPlace := ["math/bits.Add64", "math/bits.Sub64"], unfollowed := true, recurses := true, named := ["chicory/field.prime", "chicory/scalar.order", "chicory/scalar.rest"], apart := false, laid := [("chicory/field.prime", laid_chicory_field_prime), ("chicory/scalar.order", laid_chicory_scalar_order), ("chicory/scalar.rest", laid_chicory_scalar_rest)] }
def DecafScalesSaid : Prop := decafScalesRow.holds Tryz.pinned (OpenSpec.ofChange decafScalesSpec)

/-- ITS FALSE NEIGHBOUR: 'it returns false'. Refute it at one input. -/
def decafScalesWrong : ChangeSpec := { name := "decafScales", fn := fun _ => fun
  | [d1, d2] => { results := [.lit (.bool false)], args := [d1, d2] }
  | _ => none }
def DecafScalesWrongFalsely : Prop := decafScalesRow.holds Tryz.pinned (OpenSpec.ofChange decafScalesWrong)

/-- 'chicorylaw14.DecafFour': WHATEVER THE INPUT: true; the input reads as it did. -/
def decafFourSpec : ChangeSpec := { name := "decafFour", fn := fun _ => fun
  | [d] => { results := [.lit (.bool true)], args := [d] }
  | _ => none }
def decafFourRow : OpenClaim := { program := "ytgjbonikbmgfmaagreatdoor", sum := "83fab7fbca7784af54157e71bdab0d1c1825e02a882496d89433955ca45b9476", func := "chicory/chicorylaw14.DecafFour", spec := "decafFour", inPlace := ["math/bits.Add64"], unfollowed := true, recurses := true, named := ["chicory/field.prime"], apart := false, laid := [("chicory/field.prime", laid_chicory_field_prime)] }
def DecafFourSaid : Prop := decafFourRow.holds Tryz.pinned (OpenSpec.ofChange decafFourSpec)

/-- ITS FALSE NEIGHBOUR: 'it returns false'. Refute it at one input. -/
def decafFourWrong : ChangeSpec := { name := "decafFour", fn := fun _ => fun
  | [d] => { results := [.lit (.bool false)], args := [d] }
  | _ => none }
def DecafFourWrongFalsely : Prop := decafFourRow.holds Tryz.pinned (OpenSpec.ofChange decafFourWrong)

/- THE SECOND FORM. 'bulk': how many values and letters a reading holds, each counted each time it is reached (what is shared counts as often as it is met; a slice's spare places count too). A statement '..UptoSaid' is the law's where the arguments, and the package variables that the reading takes, are together of bulk at most 1048576: NARROWER than '..Said'. Prove '..Said' where nothing that the law and all that it calls make is longer than what came in: it says more and counts as full. Else prove '..UptoSaid'. A law counts once. -/
mutual
def uptoBulk {H : Type} : DataW H → Nat
  | .lit (.string bytes) => bytes.length + 1
  | .lit _ => 1
  | .nil => 1
  | .ptr d => uptoBulk d + 1
  | .slice elems spare => uptoBulkAll elems + uptoBulkAll spare + 1
  | .agg parts => uptoBulkAll parts + 1
  | .iface _ d => uptoBulk d + 1
  | .map entries => uptoBulkEntries entries + 1
  | .held _ => 1
def uptoBulkAll {H : Type} : List (DataW H) → Nat
  | [] => 0
  | d :: r => uptoBulk d + uptoBulkAll r
def uptoBulkEntries {H : Type} : List (Lit × DataW H) → Nat
  | [] => 0
  | x :: r => uptoBulkEntry x + uptoBulkEntries r
def uptoBulkEntry {H : Type} : Lit × DataW H → Nat
  | (.string bytes, d) => bytes.length + uptoBulk d + 1
  | (_, d) => uptoBulk d + 1
 end
def uptoSmall : (H : Type) → List (DataW H) → Bool := fun _ ds => decide (uptoBulkAll ds ≤ 1048576)
def OpenSpec.upto (s : _root_.Go.ChangeSpec) : _root_.Go.OpenSpec := { _root_.Go.OpenSpec.ofChange s with cond := some uptoSmall }

/-- 'chicorylaw14.DecafDecodes', WHERE WHAT IT READS IS OF BULK AT MOST 1048576: true; the input reads as it did. -/
def decafDecodesUptoRow : OpenClaim := { program := "ytgjbonikbmgfmaagreatdoor", sum := "83fab7fbca7784af54157e71bdab0d1c1825e02a882496d89433955ca45b9476", func := "chicory/chicorylaw14.DecafDecodes", spec := "decafDecodes", inPlace := ["math/bits.Add64"], unfollowed := true, recurses := true, named := ["chicory/field.prime"], apart := false, laid := [("chicory/field.prime", laid_chicory_field_prime)], narrowed := true }
def DecafDecodesUptoSaid : Prop := decafDecodesUptoRow.holds Tryz.pinned (OpenSpec.upto decafDecodesSpec)

/-- 'chicorylaw14.DecafEncodes', WHERE WHAT IT READS IS OF BULK AT MOST 1048576: true; the input reads as it did. -/
def decafEncodesUptoRow : OpenClaim := { program := "ytgjbonikbmgfmaagreatdoor", sum := "83fab7fbca7784af54157e71bdab0d1c1825e02a882496d89433955ca45b9476", func := "chicory/chicorylaw14.DecafEncodes", spec := "decafEncodes", inPlace := ["math/bits.Add64"], unfollowed := true, recurses := true, named := ["chicory/field.prime"], apart := false, laid := [("chicory/field.prime", laid_chicory_field_prime)], narrowed := true }
def DecafEncodesUptoSaid : Prop := decafEncodesUptoRow.holds Tryz.pinned (OpenSpec.upto decafEncodesSpec)

/-- 'chicorylaw14.DecafAdds', WHERE WHAT IT READS IS OF BULK AT MOST 1048576: true; the input reads as it did. -/
def decafAddsUptoRow : OpenClaim := { program := "ytgjbonikbmgfmaagreatdoor", sum := "83fab7fbca7784af54157e71bdab0d1c1825e02a882496d89433955ca45b9476", func := "chicory/chicorylaw14.DecafAdds", spec := "decafAdds", inPlace := ["math/bits.Add64"], unfollowed := true, recurses := true, named := ["chicory/field.prime"], apart := false, laid := [("chicory/field.prime", laid_chicory_field_prime)], narrowed := true }
def DecafAddsUptoSaid : Prop := decafAddsUptoRow.holds Tryz.pinned (OpenSpec.upto decafAddsSpec)

/-- 'chicorylaw14.DecafMuls', WHERE WHAT IT READS IS OF BULK AT MOST 1048576: true; the input reads as it did. -/
def decafMulsUptoRow : OpenClaim := { program := "ytgjbonikbmgfmaagreatdoor", sum := "83fab7fbca7784af54157e71bdab0d1c1825e02a882496d89433955ca45b9476", func := "chicory/chicorylaw14.DecafMuls", spec := "decafMuls", inPlace := ["math/bits.Add64", "math/bits.Sub64"], unfollowed := true, recurses := true, named := ["chicory/field.prime", "chicory/scalar.order", "chicory/scalar.rest"], apart := false, laid := [("chicory/field.prime", laid_chicory_field_prime), ("chicory/scalar.order", laid_chicory_scalar_order), ("chicory/scalar.rest", laid_chicory_scalar_rest)], narrowed := true }
def DecafMulsUptoSaid : Prop := decafMulsUptoRow.holds Tryz.pinned (OpenSpec.upto decafMulsSpec)

/-- 'chicorylaw14.DecafGroup', WHERE WHAT IT READS IS OF BULK AT MOST 1048576: true; the input reads as it did. -/
def decafGroupUptoRow : OpenClaim := { program := "ytgjbonikbmgfmaagreatdoor", sum := "83fab7fbca7784af54157e71bdab0d1c1825e02a882496d89433955ca45b9476", func := "chicory/chicorylaw14.DecafGroup", spec := "decafGroup", inPlace := ["math/bits.Add64", "math/bits.Sub64"], unfollowed := true, recurses := true, named := ["chicory/field.prime", "chicory/scalar.order"], apart := false, laid := [("chicory/field.prime", laid_chicory_field_prime), ("chicory/scalar.order", laid_chicory_scalar_order)], narrowed := true }
def DecafGroupUptoSaid : Prop := decafGroupUptoRow.holds Tryz.pinned (OpenSpec.upto decafGroupSpec)

/-- 'chicorylaw14.DecafScales', WHERE WHAT IT READS IS OF BULK AT MOST 1048576: true; the input reads as it did. -/
def decafScalesUptoRow : OpenClaim := { program := "ytgjbonikbmgfmaagreatdoor", sum := "83fab7fbca7784af54157e71bdab0d1c1825e02a882496d89433955ca45b9476", func := "chicory/chicorylaw14.DecafScales", spec := "decafScales", inPlace := ["math/bits.Add64", "math/bits.Sub64"], unfollowed := true, recurses := true, named := ["chicory/field.prime", "chicory/scalar.order", "chicory/scalar.rest"], apart := false, laid := [("chicory/field.prime", laid_chicory_field_prime), ("chicory/scalar.order", laid_chicory_scalar_order), ("chicory/scalar.rest", laid_chicory_scalar_rest)], narrowed := true }
def DecafScalesUptoSaid : Prop := decafScalesUptoRow.holds Tryz.pinned (OpenSpec.upto decafScalesSpec)

/-- 'chicorylaw14.DecafFour', WHERE WHAT IT READS IS OF BULK AT MOST 1048576: true; the input reads as it did. -/
def decafFourUptoRow : OpenClaim := { program := "ytgjbonikbmgfmaagreatdoor", sum := "83fab7fbca7784af54157e71bdab0d1c1825e02a882496d89433955ca45b9476", func := "chicory/chicorylaw14.DecafFour", spec := "decafFour", inPlace := ["math/bits.Add64"], unfollowed := true, recurses := true, named := ["chicory/field.prime"], apart := false, laid := [("chicory/field.prime", laid_chicory_field_prime)], narrowed := true }
def DecafFourUptoSaid : Prop := decafFourUptoRow.holds Tryz.pinned (OpenSpec.upto decafFourSpec)

end Rows
end Go.Proofs.YtgjbonikbmgfmaaGreatDoor
