/-
  NARROWER THAN 'FOR EVERY INPUT', by the rows' own cells (each row's printed sentence says how): FieldLong: laid · RootPowers: laid · RootInverts: laid · RootTakes: laid · RootRatios: laid · RootWhole: laid · RootProves: laid · RootSums: laid · RootScales: laid.
  DERIVED. THE GIVEN ROWS OF THIS SEAT. 9 by the template 'for every input the law returns true; each argument reads behind the call as it read before'; 0 by the template 'total and deterministic' (their statements: YtieoapcakdaelaaDoorTotals.lean).
  GIVEN WITH THE SEED: the statements are not yours to turn. If you find one false, say at which input.
  Laid BY PROGRAM, IN A SANDBOX (cutbox-rows.mjs): the forced cells as the released guide's own fill.sh prints them over the translation f5f9135597b07575… (all of the seat's roots in one cut). By AI agents, Wed Nov 11 2026. No macro, syntax, notation, axiom, sorry.
-/
import Derived.Test.YtieoapcakdaelaaDoorChecked
import GoSem.Claim
import GoSem.ClaimJoined
import GoSem.ClaimMapViews
import Derived.JoinedTies
import Derived.KernelRfl
namespace Go.Proofs.YtieoapcakdaelaaDoor
/- THE CELL 'sum', in the pinned program and in every row, IS THE sha256 OF THE DUMP (.gsa) THAT YtieoapcakdaelaaDoorProg.lean LOADS. Nothing in Lean hashes anything: it is a label: what it is worth is what the hold of that sum in a sandbox is worth. -/
noncomputable def Tryd.pinned : Pinned := { name := "ytieoapcakdaelaadoor", sum := "f5f9135597b07575530cba0d1a1aa3ddcbadecbe0ca84628728709b98dbb7865", checked := Tryd.checked }
namespace Rows
def none {H : Type} : Left H := { results := [], args := [] }

/- WHAT THE LISTED PACKAGE-LEVEL VARIABLES READ AS WHEN THE CALL BEGINS. Each datum BY PROGRAM (the guide's laid-datum.mjs) off the statement by which the dump's own 'gosem.cut.vars' lays the variable. In a bare row this is a premise. The card (YtieoapcakdaelaaDoorCards.lean) ties it to the program's text. -/
def laid_chicory_field_prime {H : Type} : DataW H := .agg [.lit (.int .u64 72057594037927935), .lit (.int .u64 72057594037927935), .lit (.int .u64 72057594037927935), .lit (.int .u64 72057594037927935), .lit (.int .u64 72057594037927934), .lit (.int .u64 72057594037927935), .lit (.int .u64 72057594037927935), .lit (.int .u64 72057594037927935)]

/-- 'chicorylaw04.FieldLong': WHATEVER THE INPUT: true; the input reads as it did. -/
def fieldLongSpec : ChangeSpec := { name := "fieldLong", fn := fun _ => fun
  | [d1, d2, d3] => { results := [.lit (.bool true)], args := [d1, d2, d3] }
  | _ => none }
def fieldLongRow : OpenClaim := { program := "ytieoapcakdaelaadoor", sum := "f5f9135597b07575530cba0d1a1aa3ddcbadecbe0ca84628728709b98dbb7865", func := "chicory/chicorylaw04.FieldLong", spec := "fieldLong", inPlace := ["math/bits.Add64"], unfollowed := true, recurses := true, named := ["chicory/field.prime"], apart := false, laid := [("chicory/field.prime", laid_chicory_field_prime)] }
def FieldLongSaid : Prop := fieldLongRow.holds Tryd.pinned (OpenSpec.ofChange fieldLongSpec)

/-- ITS FALSE NEIGHBOUR: 'it returns false'. Refute it at one input. -/
def fieldLongWrong : ChangeSpec := { name := "fieldLong", fn := fun _ => fun
  | [d1, d2, d3] => { results := [.lit (.bool false)], args := [d1, d2, d3] }
  | _ => none }
def FieldLongWrongFalsely : Prop := fieldLongRow.holds Tryd.pinned (OpenSpec.ofChange fieldLongWrong)

/-- 'chicorylaw05.RootPowers': WHATEVER THE INPUT: true; the input reads as it did. -/
def rootPowersSpec : ChangeSpec := { name := "rootPowers", fn := fun _ => fun
  | [d1, d2] => { results := [.lit (.bool true)], args := [d1, d2] }
  | _ => none }
def rootPowersRow : OpenClaim := { program := "ytieoapcakdaelaadoor", sum := "f5f9135597b07575530cba0d1a1aa3ddcbadecbe0ca84628728709b98dbb7865", func := "chicory/chicorylaw05.RootPowers", spec := "rootPowers", inPlace := ["math/bits.Add64"], unfollowed := true, recurses := true, named := ["chicory/field.prime"], apart := false, laid := [("chicory/field.prime", laid_chicory_field_prime)] }
def RootPowersSaid : Prop := rootPowersRow.holds Tryd.pinned (OpenSpec.ofChange rootPowersSpec)

/-- ITS FALSE NEIGHBOUR: 'it returns false'. Refute it at one input. -/
def rootPowersWrong : ChangeSpec := { name := "rootPowers", fn := fun _ => fun
  | [d1, d2] => { results := [.lit (.bool false)], args := [d1, d2] }
  | _ => none }
def RootPowersWrongFalsely : Prop := rootPowersRow.holds Tryd.pinned (OpenSpec.ofChange rootPowersWrong)

/-- 'chicorylaw05.RootInverts': WHATEVER THE INPUT: true; the input reads as it did. -/
def rootInvertsSpec : ChangeSpec := { name := "rootInverts", fn := fun _ => fun
  | [d] => { results := [.lit (.bool true)], args := [d] }
  | _ => none }
def rootInvertsRow : OpenClaim := { program := "ytieoapcakdaelaadoor", sum := "f5f9135597b07575530cba0d1a1aa3ddcbadecbe0ca84628728709b98dbb7865", func := "chicory/chicorylaw05.RootInverts", spec := "rootInverts", inPlace := ["math/bits.Add64"], unfollowed := true, recurses := true, named := ["chicory/field.prime"], apart := false, laid := [("chicory/field.prime", laid_chicory_field_prime)] }
def RootInvertsSaid : Prop := rootInvertsRow.holds Tryd.pinned (OpenSpec.ofChange rootInvertsSpec)

/-- ITS FALSE NEIGHBOUR: 'it returns false'. Refute it at one input. -/
def rootInvertsWrong : ChangeSpec := { name := "rootInverts", fn := fun _ => fun
  | [d] => { results := [.lit (.bool false)], args := [d] }
  | _ => none }
def RootInvertsWrongFalsely : Prop := rootInvertsRow.holds Tryd.pinned (OpenSpec.ofChange rootInvertsWrong)

/-- 'chicorylaw05.RootTakes': WHATEVER THE INPUT: true; the input reads as it did. -/
def rootTakesSpec : ChangeSpec := { name := "rootTakes", fn := fun _ => fun
  | [d] => { results := [.lit (.bool true)], args := [d] }
  | _ => none }
def rootTakesRow : OpenClaim := { program := "ytieoapcakdaelaadoor", sum := "f5f9135597b07575530cba0d1a1aa3ddcbadecbe0ca84628728709b98dbb7865", func := "chicory/chicorylaw05.RootTakes", spec := "rootTakes", inPlace := ["math/bits.Add64"], unfollowed := true, recurses := true, named := ["chicory/field.prime"], apart := false, laid := [("chicory/field.prime", laid_chicory_field_prime)] }
def RootTakesSaid : Prop := rootTakesRow.holds Tryd.pinned (OpenSpec.ofChange rootTakesSpec)

/-- ITS FALSE NEIGHBOUR: 'it returns false'. Refute it at one input. -/
def rootTakesWrong : ChangeSpec := { name := "rootTakes", fn := fun _ => fun
  | [d] => { results := [.lit (.bool false)], args := [d] }
  | _ => none }
def RootTakesWrongFalsely : Prop := rootTakesRow.holds Tryd.pinned (OpenSpec.ofChange rootTakesWrong)

/-- 'chicorylaw05.RootRatios': WHATEVER THE INPUT: true; the input reads as it did. -/
def rootRatiosSpec : ChangeSpec := { name := "rootRatios", fn := fun _ => fun
  | [d1, d2] => { results := [.lit (.bool true)], args := [d1, d2] }
  | _ => none }
def rootRatiosRow : OpenClaim := { program := "ytieoapcakdaelaadoor", sum := "f5f9135597b07575530cba0d1a1aa3ddcbadecbe0ca84628728709b98dbb7865", func := "chicory/chicorylaw05.RootRatios", spec := "rootRatios", inPlace := ["math/bits.Add64"], unfollowed := true, recurses := true, named := ["chicory/field.prime"], apart := false, laid := [("chicory/field.prime", laid_chicory_field_prime)] }
def RootRatiosSaid : Prop := rootRatiosRow.holds Tryd.pinned (OpenSpec.ofChange rootRatiosSpec)

/-- ITS FALSE NEIGHBOUR: 'it returns false'. Refute it at one input. -/
def rootRatiosWrong : ChangeSpec := { name := "rootRatios", fn := fun _ => fun
  | [d1, d2] => { results := [.lit (.bool false)], args := [d1, d2] }
  | _ => none }
def RootRatiosWrongFalsely : Prop := rootRatiosRow.holds Tryd.pinned (OpenSpec.ofChange rootRatiosWrong)

/-- 'chicorylaw05.RootWhole': WHATEVER THE INPUT: true; the input reads as it did. -/
def rootWholeSpec : ChangeSpec := { name := "rootWhole", fn := fun _ => fun
  | [d] => { results := [.lit (.bool true)], args := [d] }
  | _ => none }
def rootWholeRow : OpenClaim := { program := "ytieoapcakdaelaadoor", sum := "f5f9135597b07575530cba0d1a1aa3ddcbadecbe0ca84628728709b98dbb7865", func := "chicory/chicorylaw05.RootWhole", spec := "rootWhole", inPlace := ["math/bits.Add64"], unfollowed := true, recurses := true, named := ["chicory/field.prime"], apart := false, laid := [("chicory/field.prime", laid_chicory_field_prime)] }
def RootWholeSaid : Prop := rootWholeRow.holds Tryd.pinned (OpenSpec.ofChange rootWholeSpec)

/-- ITS FALSE NEIGHBOUR: 'it returns false'. Refute it at one input. -/
def rootWholeWrong : ChangeSpec := { name := "rootWhole", fn := fun _ => fun
  | [d] => { results := [.lit (.bool false)], args := [d] }
  | _ => none }
def RootWholeWrongFalsely : Prop := rootWholeRow.holds Tryd.pinned (OpenSpec.ofChange rootWholeWrong)

/-- 'chicorylaw05.RootProves': WHATEVER THE INPUT: true; the input reads as it did. -/
def rootProvesSpec : ChangeSpec := { name := "rootProves", fn := fun _ => fun
  | [d1, d2] => { results := [.lit (.bool true)], args := [d1, d2] }
  | _ => none }
def rootProvesRow : OpenClaim := { program := "ytieoapcakdaelaadoor", sum := "f5f9135597b07575530cba0d1a1aa3ddcbadecbe0ca84628728709b98dbb7865", func := "chicory/chicorylaw05.RootProves", spec := "rootProves", inPlace := ["math/bits.Add64"], unfollowed := true, recurses := true, named := ["chicory/field.prime"], apart := false, laid := [("chicory/field.prime", laid_chicory_field_prime)] }
def RootProvesSaid : Prop := rootProvesRow.holds Tryd.pinned (OpenSpec.ofChange rootProvesSpec)

/-- ITS FALSE NEIGHBOUR: 'it returns false'. Refute it at one input. -/
def rootProvesWrong : ChangeSpec := { name := "rootProves", fn := fun _ => fun
  | [d1, d2] => { results := [.lit (.bool false)], args := [d1, d2] }
  | _ => none }
def RootProvesWrongFalsely : Prop := rootProvesRow.holds Tryd.pinned (OpenSpec.ofChange rootProvesWrong)

/-- 'chicorylaw05.RootSums': WHATEVER THE INPUT: true; the input reads as it did. -/
def rootSumsSpec : ChangeSpec := { name := "rootSums", fn := fun _ => fun
  | [d1, d2, d3] => { results := [.lit (.bool true)], args := [d1, d2, d3] }
  | _ => none }
def rootSumsRow : OpenClaim := { program := "ytieoapcakdaelaadoor", sum := "f5f9135597b07575530cba0d1a1aa3ddcbadecbe0ca84628728709b98dbb7865", func := "chicory/chicorylaw05.RootSums", spec := "rootSums", inPlace := ["math/bits.Add64"], unfollowed := true, recurses := true, named := ["chicory/field.prime"], apart := false, laid := [("chicory/field.prime", laid_chicory_field_prime)] }
def RootSumsSaid : Prop := rootSumsRow.holds Tryd.pinned (OpenSpec.ofChange rootSumsSpec)

/-- ITS FALSE NEIGHBOUR: 'it returns false'. Refute it at one input. -/
def rootSumsWrong : ChangeSpec := { name := "rootSums", fn := fun _ => fun
  | [d1, d2, d3] => { results := [.lit (.bool false)], args := [d1, d2, d3] }
  | _ => none }
def RootSumsWrongFalsely : Prop := rootSumsRow.holds Tryd.pinned (OpenSpec.ofChange rootSumsWrong)

/-- 'chicorylaw05.RootScales': WHATEVER THE INPUT: true; the input reads as it did. -/
def rootScalesSpec : ChangeSpec := { name := "rootScales", fn := fun _ => fun
  | [d1, d2, d3] => { results := [.lit (.bool true)], args := [d1, d2, d3] }
  | _ => none }
def rootScalesRow : OpenClaim := { program := "ytieoapcakdaelaadoor", sum := "f5f9135597b07575530cba0d1a1aa3ddcbadecbe0ca84628728709b98dbb7865", func := "chicory/chicorylaw05.RootScales", spec := "rootScales", inPlace := ["math/bits.Add64"], unfollowed := true, recurses := true, named := ["chicory/field.prime"], apart := false, laid := [("chicory/field.prime", laid_chicory_field_prime)] }
def RootScalesSaid : Prop := rootScalesRow.holds Tryd.pinned (OpenSpec.ofChange rootScalesSpec)

/-- ITS FALSE NEIGHBOUR: 'it returns false'. Refute it at one input. -/
def rootScalesWrong : ChangeSpec := { name := "rootScales", fn := fun _ => fun
  | [d1, d2, d3] => { results := [.lit (.bool false)], args := [d1, d2, d3] }
  | _ => none }
def RootScalesWrongFalsely : Prop := rootScalesRow.holds Tryd.pinned (OpenSpec.ofChange rootScalesWrong)

/- THE SECOND FORM. 'bulk': how many values and letters a reading holds, each counted each time it is reached (what is shared counts as often as it is met; a slice's spare places count too). A statement '..UptoSaid' is the law's where the arguments, and the package variables that the reading takes, are together of bulk at most 1048576: NARROWER than '..Said'. Prove '..Said' where nothing that the law and all that it calls make is longer than what came in: it says more and counts as full. Else prove '..UptoSaid'. A law counts once. -/
mutual
def uptoBulk {H : Type} : DataW H → Nat
  | .lit (.string bytes) => bytes.length + 1
  | .lit _ => 1
  | .nil => 1
  | .ptr d => uptoBulk d + 1
  | .slice elems spare => uptoBulkAll elems + uptoBulkAll spare + 1
  | .agg parts => uptoBulkAll parts + 1
  | .iface _ d => uptoBulk d + 1
  | .map entries => uptoBulkEntries entries + 1
  | .held _ => 1
def uptoBulkAll {H : Type} : List (DataW H) → Nat
  | [] => 0
  | d :: r => uptoBulk d + uptoBulkAll r
def uptoBulkEntries {H : Type} : List (Lit × DataW H) → Nat
  | [] => 0
  | x :: r => uptoBulkEntry x + uptoBulkEntries r
def uptoBulkEntry {H : Type} : Lit × DataW H → Nat
  | (.string bytes, d) => bytes.length + uptoBulk d + 1
  | (_, d) => uptoBulk d + 1
 end
def uptoSmall : (H : Type) → List (DataW H) → Bool := fun _ ds => decide (uptoBulkAll ds ≤ 1048576)
def OpenSpec.upto (s : _root_.Go.ChangeSpec) : _root_.Go.OpenSpec := { _root_.Go.OpenSpec.ofChange s with cond := some uptoSmall }

/-- 'chicorylaw04.FieldLong', WHERE WHAT IT READS IS OF BULK AT MOST 1048576: true; the input reads as it did. -/
def fieldLongUptoRow : OpenClaim := { program := "ytieoapcakdaelaadoor", sum := "f5f9135597b07575530cba0d1a1aa3ddcbadecbe0ca84628728709b98dbb7865", func := "chicory/chicorylaw04.FieldLong", spec := "fieldLong", inPlace := ["math/bits.Add64"], unfollowed := true, recurses := true, named := ["chicory/field.prime"], apart := false, laid := [("chicory/field.prime", laid_chicory_field_prime)], narrowed := true }
def FieldLongUptoSaid : Prop := fieldLongUptoRow.holds Tryd.pinned (OpenSpec.upto fieldLongSpec)

/-- 'chicorylaw05.RootPowers', WHERE WHAT IT READS IS OF BULK AT MOST 1048576: true; the input reads as it did. -/
def rootPowersUptoRow : OpenClaim := { program := "ytieoapcakdaelaadoor", sum := "f5f9135597b07575530cba0d1a1aa3ddcbadecbe0ca84628728709b98dbb7865", func := "chicory/chicorylaw05.RootPowers", spec := "rootPowers", inPlace := ["math/bits.Add64"], unfollowed := true, recurses := true, named := ["chicory/field.prime"], apart := false, laid := [("chicory/field.prime", laid_chicory_field_prime)], narrowed := true }
def RootPowersUptoSaid : Prop := rootPowersUptoRow.holds Tryd.pinned (OpenSpec.upto rootPowersSpec)

/-- 'chicorylaw05.RootInverts', WHERE WHAT IT READS IS OF BULK AT MOST 1048576: true; the input reads as it did. -/
def rootInvertsUptoRow : OpenClaim := { program := "ytieoapcakdaelaadoor", sum := "f5f9135597b07575530cba0d1a1aa3ddcbadecbe0ca84628728709b98dbb7865", func := "chicory/chicorylaw05.RootInverts", spec := "rootInverts", inPlace := ["math/bits.Add64"], unfollowed := true, recurses := true, named := ["chicory/field.prime"], apart := false, laid := [("chicory/field.prime", laid_chicory_field_prime)], narrowed := true }
def RootInvertsUptoSaid : Prop := rootInvertsUptoRow.holds Tryd.pinned (OpenSpec.upto rootInvertsSpec)

/-- 'chicorylaw05.RootTakes', WHERE WHAT IT READS IS OF BULK AT MOST 1048576: true; the input reads as it did. -/
def rootTakesUptoRow : OpenClaim := { program := "ytieoapcakdaelaadoor", sum := "f5f9135597b07575530cba0d1a1aa3ddcbadecbe0ca84628728709b98dbb7865", func := "chicory/chicorylaw05.RootTakes", spec := "rootTakes", inPlace := ["math/bits.Add64"], unfollowed := true, recurses := true, named := ["chicory/field.prime"], apart := false, laid := [("chicory/field.prime", laid_chicory_field_prime)], narrowed := true }
def RootTakesUptoSaid : Prop := rootTakesUptoRow.holds Tryd.pinned (OpenSpec.upto rootTakesSpec)

/-- 'chicorylaw05.RootRatios', WHERE WHAT IT READS IS OF BULK AT MOST 1048576: true; the input reads as it did. -/
def rootRatiosUptoRow : OpenClaim := { program := "ytieoapcakdaelaadoor", sum := "f5f9135597b07575530cba0d1a1aa3ddcbadecbe0ca84628728709b98dbb7865", func := "chicory/chicorylaw05.RootRatios", spec := "rootRatios", inPlace := ["math/bits.Add64"], unfollowed := true, recurses := true, named := ["chicory/field.prime"], apart := false, laid := [("chicory/field.prime", laid_chicory_field_prime)], narrowed := true }
def RootRatiosUptoSaid : Prop := rootRatiosUptoRow.holds Tryd.pinned (OpenSpec.upto rootRatiosSpec)

/-- 'chicorylaw05.RootWhole', WHERE WHAT IT READS IS OF BULK AT MOST 1048576: true; the input reads as it did. -/
def rootWholeUptoRow : OpenClaim := { program := "ytieoapcakdaelaadoor", sum := "f5f9135597b07575530cba0d1a1aa3ddcbadecbe0ca84628728709b98dbb7865", func := "chicory/chicorylaw05.RootWhole", spec := "rootWhole", inPlace := ["math/bits.Add64"], unfollowed := true, recurses := true, named := ["chicory/field.prime"], apart := false, laid := [("chicory/field.prime", laid_chicory_field_prime)], narrowed := true }
def RootWholeUptoSaid : Prop := rootWholeUptoRow.holds Tryd.pinned (OpenSpec.upto rootWholeSpec)

/-- 'chicorylaw05.RootProves', WHERE WHAT IT READS IS OF BULK AT MOST 1048576: true; the input reads as it did. -/
def rootProvesUptoRow : OpenClaim := { program := "ytieoapcakdaelaadoor", sum := "f5f9135597b07575530cba0d1a1aa3ddcbadecbe0ca84628728709b98dbb7865", func := "chicory/chicorylaw05.RootProves", spec := "rootProves", inPlace := ["math/bits.Add64"], unfollowed := true, recurses := true, named := ["chicory/field.prime"], apart := false, laid := [("chicory/field.prime", laid_chicory_field_prime)], narrowed := true }
def RootProvesUptoSaid : Prop := rootProvesUptoRow.holds Tryd.pinned (OpenSpec.upto rootProvesSpec)

/-- 'chicorylaw05.RootSums', WHERE WHAT IT READS IS OF BULK AT MOST 1048576: true; the input reads as it did. -/
def rootSumsUptoRow : OpenClaim := { program := "ytieoapcakdaelaadoor", sum := "f5f9135597b07575530cba0d1a1aa3ddcbadecbe0ca84628728709b98dbb7865", func := "chicory/chicorylaw05.RootSums", spec := "rootSums", inPlace := ["math/bits.Add64"], unfollowed := true, recurses := true, named := ["chicory/field.prime"], apart := false, laid := [("chicory/field.prime", laid_chicory_field_prime)], narrowed := true }
def RootSumsUptoSaid : Prop := rootSumsUptoRow.holds Tryd.pinned (OpenSpec.upto rootSumsSpec)

/-- 'chicorylaw05.RootScales', WHERE WHAT IT READS IS OF BULK AT MOST 1048576: true; the input reads as it did. -/
def rootScalesUptoRow : OpenClaim := { program := "ytieoapcakdaelaadoor", sum := "f5f9135597b07575530cba0d1a1aa3ddcbadecbe0ca84628728709b98dbb7865", func := "chicory/chicorylaw05.RootScales", spec := "rootScales", inPlace := ["math/bits.Add64"], unfollowed := true, recurses := true, named := ["chicory/field.prime"], apart := false, laid := [("chicory/field.prime", laid_chicory_field_prime)], narrowed := true }
def RootScalesUptoSaid : Prop := rootScalesUptoRow.holds Tryd.pinned (OpenSpec.upto rootScalesSpec)

end Rows
end Go.Proofs.YtieoapcakdaelaaDoor
