/-
  NARROWER THAN 'FOR EVERY INPUT', by the rows' own cells (each row's printed sentence says how): CombSame: laid · CombNil: laid.
  DERIVED. THE GIVEN ROWS OF THIS SEAT. 2 by the template 'for every input the law returns true; each argument reads behind the call as it read before'; 0 by the template 'total and deterministic' (their statements: YtjcfoilfdmameaaDoorTotals.lean).
  GIVEN WITH THE SEED: the statements are not yours to turn. If you find one false, say at which input.
  Laid BY PROGRAM, IN A SANDBOX (cutbox-rows.mjs): the forced cells as the released guide's own fill.sh prints them over the translation 630bf3d54c7db37c… (all of the seat's roots in one cut). By AI agents, Wed Nov 11 2026. No macro, syntax, notation, axiom, sorry.
-/
import Derived.Test.YtjcfoilfdmameaaDoorChecked
import GoSem.Claim
import GoSem.ClaimJoined
import GoSem.ClaimMapViews
import Derived.JoinedTies
import Derived.KernelRfl
namespace Go.Proofs.YtjcfoilfdmameaaDoor
/- THE CELL 'sum', in the pinned program and in every row, IS THE sha256 OF THE DUMP (.gsa) THAT YtjcfoilfdmameaaDoorProg.lean LOADS. Nothing in Lean hashes anything: it is a label: what it is worth is what the hold of that sum in a sandbox is worth. -/
noncomputable def Tryd.pinned : Pinned := { name := "ytjcfoilfdmameaadoor", sum := "630bf3d54c7db37c436026b48c29bc1471fa48e95800a748dfb5d27305f10848", checked := Tryd.checked }
namespace Rows
def none {H : Type} : Left H := { results := [], args := [] }

/- WHAT THE LISTED PACKAGE-LEVEL VARIABLES READ AS WHEN THE CALL BEGINS. Each datum BY PROGRAM (the guide's laid-datum.mjs) off the statement by which the dump's own 'gosem.cut.vars' lays the variable. In a bare row this is a premise. The card (YtjcfoilfdmameaaDoorCards.lean) ties it to the program's text. -/
def laid_chicory_field_prime {H : Type} : DataW H := .agg [.lit (.int .u64 72057594037927935), .lit (.int .u64 72057594037927935), .lit (.int .u64 72057594037927935), .lit (.int .u64 72057594037927935), .lit (.int .u64 72057594037927934), .lit (.int .u64 72057594037927935), .lit (.int .u64 72057594037927935), .lit (.int .u64 72057594037927935)]

/-- 'chicorylaw11.CombSame': WHATEVER THE INPUT: true; the input reads as it did. -/
def combSameSpec : ChangeSpec := { name := "combSame", fn := fun _ => fun
  | [d1, d2] => { results := [.lit (.bool true)], args := [d1, d2] }
  | _ => none }
def combSameRow : OpenClaim := { program := "ytjcfoilfdmameaadoor", sum := "630bf3d54c7db37c436026b48c29bc1471fa48e95800a748dfb5d27305f10848", func := "chicory/chicorylaw11.CombSame", spec := "combSame", inPlace := ["math/bits.Add64"], unfollowed := true, recurses := true, named := ["chicory/field.prime"], apart := false, laid := [("chicory/field.prime", laid_chicory_field_prime)] }
def CombSameSaid : Prop := combSameRow.holds Tryd.pinned (OpenSpec.ofChange combSameSpec)

/-- ITS FALSE NEIGHBOUR: 'it returns false'. Refute it at one input. -/
def combSameWrong : ChangeSpec := { name := "combSame", fn := fun _ => fun
  | [d1, d2] => { results := [.lit (.bool false)], args := [d1, d2] }
  | _ => none }
def CombSameWrongFalsely : Prop := combSameRow.holds Tryd.pinned (OpenSpec.ofChange combSameWrong)

/-- 'chicorylaw11.CombNil': WHATEVER THE INPUT: true; the input reads as it did. -/
def combNilSpec : ChangeSpec := { name := "combNil", fn := fun _ => fun
  | [d1, d2] => { results := [.lit (.bool true)], args := [d1, d2] }
  | _ => none }
def combNilRow : OpenClaim := { program := "ytjcfoilfdmameaadoor", sum := "630bf3d54c7db37c436026b48c29bc1471fa48e95800a748dfb5d27305f10848", func := "chicory/chicorylaw11.CombNil", spec := "combNil", inPlace := ["math/bits.Add64"], unfollowed := true, recurses := true, named := ["chicory/field.prime"], apart := false, laid := [("chicory/field.prime", laid_chicory_field_prime)] }
def CombNilSaid : Prop := combNilRow.holds Tryd.pinned (OpenSpec.ofChange combNilSpec)

/-- ITS FALSE NEIGHBOUR: 'it returns false'. Refute it at one input. -/
def combNilWrong : ChangeSpec := { name := "combNil", fn := fun _ => fun
  | [d1, d2] => { results := [.lit (.bool false)], args := [d1, d2] }
  | _ => none }
def CombNilWrongFalsely : Prop := combNilRow.holds Tryd.pinned (OpenSpec.ofChange combNilWrong)

/- THE SECOND FORM. 'bulk': how many values and letters a reading holds, each counted each time it is reached (what is shared counts as often as it is met; a slice's spare places count too). A statement '..UptoSaid' is the law's where the arguments, and the package variables that the reading takes, are together of bulk at most 1048576: NARROWER than '..Said'. Prove '..Said' where nothing that the law and all that it calls make is longer than what came in: it says more and counts as full. Else prove '..UptoSaid'. A law counts once. -/
mutual
def uptoBulk {H : Type} : DataW H → Nat
  | .lit (.string bytes) => bytes.length + 1
  | .lit _ => 1
  | .nil => 1
  | .ptr d => uptoBulk d + 1
  | .slice elems spare => uptoBulkAll elems + uptoBulkAll spare + 1
  | .agg parts => uptoBulkAll parts + 1
  | .iface _ d => uptoBulk d + 1
  | .map entries => uptoBulkEntries entries + 1
  | .held _ => 1
def uptoBulkAll {H : Type} : List (DataW H) → Nat
  | [] => 0
  | d :: r => uptoBulk d + uptoBulkAll r
def uptoBulkEntries {H : Type} : List (Lit × DataW H) → Nat
  | [] => 0
  | x :: r => uptoBulkEntry x + uptoBulkEntries r
def uptoBulkEntry {H : Type} : Lit × DataW H → Nat
  | (.string bytes, d) => bytes.length + uptoBulk d + 1
  | (_, d) => uptoBulk d + 1
 end
def uptoSmall : (H : Type) → List (DataW H) → Bool := fun _ ds => decide (uptoBulkAll ds ≤ 1048576)
def OpenSpec.upto (s : _root_.Go.ChangeSpec) : _root_.Go.OpenSpec := { _root_.Go.OpenSpec.ofChange s with cond := some uptoSmall }

/-- 'chicorylaw11.CombSame', WHERE WHAT IT READS IS OF BULK AT MOST 1048576: true; the input reads as it did. -/
def combSameUptoRow : OpenClaim := { program := "ytjcfoilfdmameaadoor", sum := "630bf3d54c7db37c436026b48c29bc1471fa48e95800a748dfb5d27305f10848", func := "chicory/chicorylaw11.CombSame", spec := "combSame", inPlace := ["math/bits.Add64"], unfollowed := true, recurses := true, named := ["chicory/field.prime"], apart := false, laid := [("chicory/field.prime", laid_chicory_field_prime)], narrowed := true }
def CombSameUptoSaid : Prop := combSameUptoRow.holds Tryd.pinned (OpenSpec.upto combSameSpec)

/-- 'chicorylaw11.CombNil', WHERE WHAT IT READS IS OF BULK AT MOST 1048576: true; the input reads as it did. -/
def combNilUptoRow : OpenClaim := { program := "ytjcfoilfdmameaadoor", sum := "630bf3d54c7db37c436026b48c29bc1471fa48e95800a748dfb5d27305f10848", func := "chicory/chicorylaw11.CombNil", spec := "combNil", inPlace := ["math/bits.Add64"], unfollowed := true, recurses := true, named := ["chicory/field.prime"], apart := false, laid := [("chicory/field.prime", laid_chicory_field_prime)], narrowed := true }
def CombNilUptoSaid : Prop := combNilUptoRow.holds Tryd.pinned (OpenSpec.upto combNilSpec)

end Rows
end Go.Proofs.YtjcfoilfdmameaaDoor
