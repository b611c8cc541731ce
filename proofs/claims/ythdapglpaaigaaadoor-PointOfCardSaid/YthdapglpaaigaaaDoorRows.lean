/-
  NARROWER THAN 'FOR EVERY INPUT', by the rows' own cells (each row's printed sentence says how): PointOf: laid · PointAdds: laid · PointPicks: laid · PointGroup: laid · PointOrder: laid · PointHangs: laid · PointTurns: laid.
  DERIVED. THE GIVEN ROWS OF THIS SEAT. 7 by the template 'for every input the law returns true; each argument reads behind the call as it read before'; 0 by the template 'total and deterministic' (their statements: YthdapglpaaigaaaDoorTotals.lean).
  GIVEN WITH THE SEED: the statements are not yours to turn. If you find one false, say at which input.
  Laid BY PROGRAM, IN A SANDBOX (cutbox-rows.mjs): the forced cells as the released guide's own fill.sh prints them over the translation 97e1b2f7202e69cb… (all of the seat's roots in one cut). By AI agents, Wed Nov 11 2026. No macro, syntax, notation, axiom, sorry.
-/
import Derived.Test.YthdapglpaaigaaaDoorChecked
import GoSem.Claim
import GoSem.ClaimJoined
import GoSem.ClaimMapViews
import Derived.JoinedTies
import Derived.KernelRfl
namespace Go.Proofs.YthdapglpaaigaaaDoor
/- THE CELL 'sum', in the pinned program and in every row, IS THE sha256 OF THE DUMP (.gsa) THAT YthdapglpaaigaaaDoorProg.lean LOADS. Nothing in Lean hashes anything: it is a label: what it is worth is what the hold of that sum in a sandbox is worth. -/
noncomputable def Tryd.pinned : Pinned := { name := "ythdapglpaaigaaadoor", sum := "97e1b2f7202e69cba2813926fd37c66962baf87f1fc5cc36a5b55e631fa5da58", checked := Tryd.checked }
namespace Rows
def none {H : Type} : Left H := { results := [], args := [] }

/- WHAT THE LISTED PACKAGE-LEVEL VARIABLES READ AS WHEN THE CALL BEGINS. Each datum BY PROGRAM (the guide's laid-datum.mjs) off the statement by which the dump's own 'gosem.cut.vars' lays the variable. In a bare row this is a premise. The card (YthdapglpaaigaaaDoorCards.lean) ties it to the program's text. -/
def laid_chicory_field_prime {H : Type} : DataW H := .agg [.lit (.int .u64 72057594037927935), .lit (.int .u64 72057594037927935), .lit (.int .u64 72057594037927935), .lit (.int .u64 72057594037927935), .lit (.int .u64 72057594037927934), .lit (.int .u64 72057594037927935), .lit (.int .u64 72057594037927935), .lit (.int .u64 72057594037927935)]

/-- 'chicorylaw08.PointOf': WHATEVER THE INPUT: true; the input reads as it did. -/
def pointOfSpec : ChangeSpec := { name := "pointOf", fn := fun _ => fun
  | [d1, d2, d3] => { results := [.lit (.bool true)], args := [d1, d2, d3] }
  | _ => none }
def pointOfRow : OpenClaim := { program := "ythdapglpaaigaaadoor", sum := "97e1b2f7202e69cba2813926fd37c66962baf87f1fc5cc36a5b55e631fa5da58", func := "chicory/chicorylaw08.PointOf", spec := "pointOf", inPlace := ["math/bits.Add64"], unfollowed := true, recurses := true, named := ["chicory/field.prime"], apart := false, laid := [("chicory/field.prime", laid_chicory_field_prime)] }
def PointOfSaid : Prop := pointOfRow.holds Tryd.pinned (OpenSpec.ofChange pointOfSpec)

/-- ITS FALSE NEIGHBOUR: 'it returns false'. Refute it at one input. -/
def pointOfWrong : ChangeSpec := { name := "pointOf", fn := fun _ => fun
  | [d1, d2, d3] => { results := [.lit (.bool false)], args := [d1, d2, d3] }
  | _ => none }
def PointOfWrongFalsely : Prop := pointOfRow.holds Tryd.pinned (OpenSpec.ofChange pointOfWrong)

/-- 'chicorylaw08.PointAdds': WHATEVER THE INPUT: true; the input reads as it did. -/
def pointAddsSpec : ChangeSpec := { name := "pointAdds", fn := fun _ => fun
  | [d1, d2] => { results := [.lit (.bool true)], args := [d1, d2] }
  | _ => none }
def pointAddsRow : OpenClaim := { program := "ythdapglpaaigaaadoor", sum := "97e1b2f7202e69cba2813926fd37c66962baf87f1fc5cc36a5b55e631fa5da58", func := "chicory/chicorylaw08.PointAdds", spec := "pointAdds", inPlace := ["math/bits.Add64"], unfollowed := true, recurses := true, named := ["chicory/field.prime"], apart := false, laid := [("chicory/field.prime", laid_chicory_field_prime)] }
def PointAddsSaid : Prop := pointAddsRow.holds Tryd.pinned (OpenSpec.ofChange pointAddsSpec)

/-- ITS FALSE NEIGHBOUR: 'it returns false'. Refute it at one input. -/
def pointAddsWrong : ChangeSpec := { name := "pointAdds", fn := fun _ => fun
  | [d1, d2] => { results := [.lit (.bool false)], args := [d1, d2] }
  | _ => none }
def PointAddsWrongFalsely : Prop := pointAddsRow.holds Tryd.pinned (OpenSpec.ofChange pointAddsWrong)

/-- 'chicorylaw08.PointPicks': WHATEVER THE INPUT: true; the input reads as it did. -/
def pointPicksSpec : ChangeSpec := { name := "pointPicks", fn := fun _ => fun
  | [d1, d2, d3] => { results := [.lit (.bool true)], args := [d1, d2, d3] }
  | _ => none }
def pointPicksRow : OpenClaim := { program := "ythdapglpaaigaaadoor", sum := "97e1b2f7202e69cba2813926fd37c66962baf87f1fc5cc36a5b55e631fa5da58", func := "chicory/chicorylaw08.PointPicks", spec := "pointPicks", inPlace := ["math/bits.Add64"], unfollowed := true, recurses := true, named := ["chicory/field.prime"], apart := false, laid := [("chicory/field.prime", laid_chicory_field_prime)] }
def PointPicksSaid : Prop := pointPicksRow.holds Tryd.pinned (OpenSpec.ofChange pointPicksSpec)

/-- ITS FALSE NEIGHBOUR: 'it returns false'. Refute it at one input. -/
def pointPicksWrong : ChangeSpec := { name := "pointPicks", fn := fun _ => fun
  | [d1, d2, d3] => { results := [.lit (.bool false)], args := [d1, d2, d3] }
  | _ => none }
def PointPicksWrongFalsely : Prop := pointPicksRow.holds Tryd.pinned (OpenSpec.ofChange pointPicksWrong)

/-- 'chicorylaw08.PointGroup': WHATEVER THE INPUT: true; the input reads as it did. -/
def pointGroupSpec : ChangeSpec := { name := "pointGroup", fn := fun _ => fun
  | [d1, d2, d3] => { results := [.lit (.bool true)], args := [d1, d2, d3] }
  | _ => none }
def pointGroupRow : OpenClaim := { program := "ythdapglpaaigaaadoor", sum := "97e1b2f7202e69cba2813926fd37c66962baf87f1fc5cc36a5b55e631fa5da58", func := "chicory/chicorylaw08.PointGroup", spec := "pointGroup", inPlace := ["math/bits.Add64"], unfollowed := true, recurses := true, named := ["chicory/field.prime"], apart := false, laid := [("chicory/field.prime", laid_chicory_field_prime)] }
def PointGroupSaid : Prop := pointGroupRow.holds Tryd.pinned (OpenSpec.ofChange pointGroupSpec)

/-- ITS FALSE NEIGHBOUR: 'it returns false'. Refute it at one input. -/
def pointGroupWrong : ChangeSpec := { name := "pointGroup", fn := fun _ => fun
  | [d1, d2, d3] => { results := [.lit (.bool false)], args := [d1, d2, d3] }
  | _ => none }
def PointGroupWrongFalsely : Prop := pointGroupRow.holds Tryd.pinned (OpenSpec.ofChange pointGroupWrong)

/-- 'chicorylaw08.PointOrder': WHATEVER THE INPUT: true; the input reads as it did. -/
def pointOrderSpec : ChangeSpec := { name := "pointOrder", fn := fun _ => fun
  | [d] => { results := [.lit (.bool true)], args := [d] }
  | _ => none }
def pointOrderRow : OpenClaim := { program := "ythdapglpaaigaaadoor", sum := "97e1b2f7202e69cba2813926fd37c66962baf87f1fc5cc36a5b55e631fa5da58", func := "chicory/chicorylaw08.PointOrder", spec := "pointOrder", inPlace := ["math/bits.Add64"], unfollowed := true, recurses := true, named := ["chicory/field.prime"], apart := false, laid := [("chicory/field.prime", laid_chicory_field_prime)] }
def PointOrderSaid : Prop := pointOrderRow.holds Tryd.pinned (OpenSpec.ofChange pointOrderSpec)

/-- ITS FALSE NEIGHBOUR: 'it returns false'. Refute it at one input. -/
def pointOrderWrong : ChangeSpec := { name := "pointOrder", fn := fun _ => fun
  | [d] => { results := [.lit (.bool false)], args := [d] }
  | _ => none }
def PointOrderWrongFalsely : Prop := pointOrderRow.holds Tryd.pinned (OpenSpec.ofChange pointOrderWrong)

/-- 'chicorylaw08.PointHangs': WHATEVER THE INPUT: true; the input reads as it did. -/
def pointHangsSpec : ChangeSpec := { name := "pointHangs", fn := fun _ => fun
  | [d1, d2] => { results := [.lit (.bool true)], args := [d1, d2] }
  | _ => none }
def pointHangsRow : OpenClaim := { program := "ythdapglpaaigaaadoor", sum := "97e1b2f7202e69cba2813926fd37c66962baf87f1fc5cc36a5b55e631fa5da58", func := "chicory/chicorylaw08.PointHangs", spec := "pointHangs", inPlace := ["math/bits.Add64"], unfollowed := true, recurses := true, named := ["chicory/field.prime"], apart := false, laid := [("chicory/field.prime", laid_chicory_field_prime)] }
def PointHangsSaid : Prop := pointHangsRow.holds Tryd.pinned (OpenSpec.ofChange pointHangsSpec)

/-- ITS FALSE NEIGHBOUR: 'it returns false'. Refute it at one input. -/
def pointHangsWrong : ChangeSpec := { name := "pointHangs", fn := fun _ => fun
  | [d1, d2] => { results := [.lit (.bool false)], args := [d1, d2] }
  | _ => none }
def PointHangsWrongFalsely : Prop := pointHangsRow.holds Tryd.pinned (OpenSpec.ofChange pointHangsWrong)

/-- 'chicorylaw08.PointTurns': WHATEVER THE INPUT: true; the input reads as it did. -/
def pointTurnsSpec : ChangeSpec := { name := "pointTurns", fn := fun _ => fun
  | [d] => { results := [.lit (.bool true)], args := [d] }
  | _ => none }
def pointTurnsRow : OpenClaim := { program := "ythdapglpaaigaaadoor", sum := "97e1b2f7202e69cba2813926fd37c66962baf87f1fc5cc36a5b55e631fa5da58", func := "chicory/chicorylaw08.PointTurns", spec := "pointTurns", inPlace := ["math/bits.Add64"], unfollowed := true, recurses := true, named := ["chicory/field.prime"], apart := false, laid := [("chicory/field.prime", laid_chicory_field_prime)] }
def PointTurnsSaid : Prop := pointTurnsRow.holds Tryd.pinned (OpenSpec.ofChange pointTurnsSpec)

/-- ITS FALSE NEIGHBOUR: 'it returns false'. Refute it at one input. -/
def pointTurnsWrong : ChangeSpec := { name := "pointTurns", fn := fun _ => fun
  | [d] => { results := [.lit (.bool false)], args := [d] }
  | _ => none }
def PointTurnsWrongFalsely : Prop := pointTurnsRow.holds Tryd.pinned (OpenSpec.ofChange pointTurnsWrong)

/- THE SECOND FORM. 'bulk': how many values and letters a reading holds, each counted each time it is reached (what is shared counts as often as it is met; a slice's spare places count too). A statement '..UptoSaid' is the law's where the arguments, and the package variables that the reading takes, are together of bulk at most 1048576: NARROWER than '..Said'. Prove '..Said' where nothing that the law and all that it calls make is longer than what came in: it says more and counts as full. Else prove '..UptoSaid'. A law counts once. -/
mutual
def uptoBulk {H : Type} : DataW H → Nat
  | .lit (.string bytes) => bytes.length + 1
  | .lit _ => 1
  | .nil => 1
  | .ptr d => uptoBulk d + 1
  | .slice elems spare => uptoBulkAll elems + uptoBulkAll spare + 1
  | .agg parts => uptoBulkAll parts + 1
  | .iface _ d => uptoBulk d + 1
  | .map entries => uptoBulkEntries entries + 1
  | .held _ => 1
def uptoBulkAll {H : Type} : List (DataW H) → Nat
  | [] => 0
  | d :: r => uptoBulk d + uptoBulkAll r
def uptoBulkEntries {H : Type} : List (Lit × DataW H) → Nat
  | [] => 0
  | x :: r => uptoBulkEntry x + uptoBulkEntries r
def uptoBulkEntry {H : Type} : Lit × DataW H → Nat
  | (.string bytes, d) => bytes.length + uptoBulk d + 1
  | (_, d) => uptoBulk d + 1
 end
def uptoSmall : (H : Type) → List (DataW H) → Bool := fun _ ds => decide (uptoBulkAll ds ≤ 1048576)
def OpenSpec.upto (s : _root_.Go.ChangeSpec) : _root_.Go.OpenSpec := { _root_.Go.OpenSpec.ofChange s with cond := some uptoSmall }

/-- 'chicorylaw08.PointOf', WHERE WHAT IT READS IS OF BULK AT MOST 1048576: true; the input reads as it did. -/
def pointOfUptoRow : OpenClaim := { program := "ythdapglpaaigaaadoor", sum := "97e1b2f7202e69cba2813926fd37c66962baf87f1fc5cc36a5b55e631fa5da58", func := "chicory/chicorylaw08.PointOf", spec := "pointOf", inPlace := ["math/bits.Add64"], unfollowed := true, recurses := true, named := ["chicory/field.prime"], apart := false, laid := [("chicory/field.prime", laid_chicory_field_prime)], narrowed := true }
def PointOfUptoSaid : Prop := pointOfUptoRow.holds Tryd.pinned (OpenSpec.upto pointOfSpec)

/-- 'chicorylaw08.PointAdds', WHERE WHAT IT READS IS OF BULK AT MOST 1048576: true; the input reads as it did. -/
def pointAddsUptoRow : OpenClaim := { program := "ythdapglpaaigaaadoor", sum := "97e1b2f7202e69cba2813926fd37c66962baf87f1fc5cc36a5b55e631fa5da58", func := "chicory/chicorylaw08.PointAdds", spec := "pointAdds", inPlace := ["math/bits.Add64"], unfollowed := true, recurses := true, named := ["chicory/field.prime"], apart := false, laid := [("chicory/field.prime", laid_chicory_field_prime)], narrowed := true }
def PointAddsUptoSaid : Prop := pointAddsUptoRow.holds Tryd.pinned (OpenSpec.upto pointAddsSpec)

/-- 'chicorylaw08.PointPicks', WHERE WHAT IT READS IS OF BULK AT MOST 1048576: true; the input reads as it did. -/
def pointPicksUptoRow : OpenClaim := { program := "ythdapglpaaigaaadoor", sum := "97e1b2f7202e69cba2813926fd37c66962baf87f1fc5cc36a5b55e631fa5da58", func := "chicory/chicorylaw08.PointPicks", spec := "pointPicks", inPlace := ["math/bits.Add64"], unfollowed := true, recurses := true, named := ["chicory/field.prime"], apart := false, laid := [("chicory/field.prime", laid_chicory_field_prime)], narrowed := true }
def PointPicksUptoSaid : Prop := pointPicksUptoRow.holds Tryd.pinned (OpenSpec.upto pointPicksSpec)

/-- 'chicorylaw08.PointGroup', WHERE WHAT IT READS IS OF BULK AT MOST 1048576: true; the input reads as it did. -/
def pointGroupUptoRow : OpenClaim := { program := "ythdapglpaaigaaadoor", sum := "97e1b2f7202e69cba2813926fd37c66962baf87f1fc5cc36a5b55e631fa5da58", func := "chicory/chicorylaw08.PointGroup", spec := "pointGroup", inPlace := ["math/bits.Add64"], unfollowed := true, recurses := true, named := ["chicory/field.prime"], apart := false, laid := [("chicory/field.prime", laid_chicory_field_prime)], narrowed := true }
def PointGroupUptoSaid : Prop := pointGroupUptoRow.holds Tryd.pinned (OpenSpec.upto pointGroupSpec)

/-- 'chicorylaw08.PointOrder', WHERE WHAT IT READS IS OF BULK AT MOST 1048576: true; the input reads as it did. -/
def pointOrderUptoRow : OpenClaim := { program := "ythdapglpaaigaaadoor", sum := "97e1b2f7202e69cba2813926fd37c66962baf87f1fc5cc36a5b55e631fa5da58", func := "chicory/chicorylaw08.PointOrder", spec := "pointOrder", inPlace := ["math/bits.Add64"], unfollowed := true, recurses := true, named := ["chicory/field.prime"], apart := false, laid := [("chicory/field.prime", laid_chicory_field_prime)], narrowed := true }
def PointOrderUptoSaid : Prop := pointOrderUptoRow.holds Tryd.pinned (OpenSpec.upto pointOrderSpec)

/-- 'chicorylaw08.PointHangs', WHERE WHAT IT READS IS OF BULK AT MOST 1048576: true; the input reads as it did. -/
def pointHangsUptoRow : OpenClaim := { program := "ythdapglpaaigaaadoor", sum := "97e1b2f7202e69cba2813926fd37c66962baf87f1fc5cc36a5b55e631fa5da58", func := "chicory/chicorylaw08.PointHangs", spec := "pointHangs", inPlace := ["math/bits.Add64"], unfollowed := true, recurses := true, named := ["chicory/field.prime"], apart := false, laid := [("chicory/field.prime", laid_chicory_field_prime)], narrowed := true }
def PointHangsUptoSaid : Prop := pointHangsUptoRow.holds Tryd.pinned (OpenSpec.upto pointHangsSpec)

/-- 'chicorylaw08.PointTurns', WHERE WHAT IT READS IS OF BULK AT MOST 1048576: true; the input reads as it did. -/
def pointTurnsUptoRow : OpenClaim := { program := "ythdapglpaaigaaadoor", sum := "97e1b2f7202e69cba2813926fd37c66962baf87f1fc5cc36a5b55e631fa5da58", func := "chicory/chicorylaw08.PointTurns", spec := "pointTurns", inPlace := ["math/bits.Add64"], unfollowed := true, recurses := true, named := ["chicory/field.prime"], apart := false, laid := [("chicory/field.prime", laid_chicory_field_prime)], narrowed := true }
def PointTurnsUptoSaid : Prop := pointTurnsUptoRow.holds Tryd.pinned (OpenSpec.upto pointTurnsSpec)

end Rows
end Go.Proofs.YthdapglpaaigaaaDoor
