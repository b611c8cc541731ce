/-
  NARROWER THAN 'FOR EVERY INPUT', by the rows' own cells (each row's printed sentence says how): TwistPoints: laid · TwistAdds: laid · TwistFours: laid · TwistHomes: laid · TwistFaces: laid.
  DERIVED. THE GIVEN ROWS OF THIS SEAT. 5 by the template 'for every input the law returns true; each argument reads behind the call as it read before'; 0 by the template 'total and deterministic' (their statements: YtoeokhfhcpcjlaaGreatDoorTotals.lean).
  GIVEN WITH THE SEED: the statements are not yours to turn. If you find one false, say at which input.
  Laid BY PROGRAM, IN A SANDBOX (cutbox-rows.mjs): the forced cells as the released guide's own fill.sh prints them over the translation 2f8acd8fedd05f92… (all of the seat's roots in one cut). By AI agents, Wed Nov 11 2026. No macro, syntax, notation, axiom, sorry.
-/
import Derived.Test.YtoeokhfhcpcjlaaGreatDoorChecked
import GoSem.Claim
import GoSem.ClaimJoined
import GoSem.ClaimMapViews
import Derived.JoinedTies
import Derived.KernelRfl
namespace Go.Proofs.YtoeokhfhcpcjlaaGreatDoor
/- THE CELL 'sum', in the pinned program and in every row, IS THE sha256 OF THE DUMP (.gsa) THAT YtoeokhfhcpcjlaaGreatDoorProg.lean LOADS. Nothing in Lean hashes anything: it is a label: what it is worth is what the hold of that sum in a sandbox is worth. -/
noncomputable def Tryz.pinned : Pinned := { name := "ytoeokhfhcpcjlaagreatdoor", sum := "2f8acd8fedd05f929e55c95bb9ff4eecdadb5b259409773edb0d07a89ada2951", checked := Tryz.checked }
namespace Rows
def none {H : Type} : Left H := { results := [], args := [] }

/- WHAT THE LISTED PACKAGE-LEVEL VARIABLES READ AS WHEN THE CALL BEGINS. Each datum BY PROGRAM (the guide's laid-datum.mjs) off the statement by which the dump's own 'gosem.cut.vars' lays the variable. In a bare row this is a premise. The card (YtoeokhfhcpcjlaaGreatDoorCards.lean) ties it to the program's text. -/
def laid_chicory_field_prime {H : Type} : DataW H := .agg [.lit (.int .u64 72057594037927935), .lit (.int .u64 72057594037927935), .lit (.int .u64 72057594037927935), .lit (.int .u64 72057594037927935), .lit (.int .u64 72057594037927934), .lit (.int .u64 72057594037927935), .lit (.int .u64 72057594037927935), .lit (.int .u64 72057594037927935)]

/-- 'chicorylaw13.TwistPoints': WHATEVER THE INPUT: true; the input reads as it did. -/
def twistPointsSpec : ChangeSpec := { name := "twistPoints", fn := fun _ => fun
  | [d1, d2, d3] => { results := [.lit (.bool true)], args := [d1, d2, d3] }
  | _ => none }
def twistPointsRow : OpenClaim := { program := "ytoeokhfhcpcjlaagreatdoor", sum := "2f8acd8fedd05f929e55c95bb9ff4eecdadb5b259409773edb0d07a89ada2951", func := "chicory/chicorylaw13.TwistPoints", spec := "twistPoints", inPlace := ["math/bits.Add64"], unfollowed := true, recurses := true, named := ["chicory/field.prime"], apart := false, laid := [("chicory/field.prime", laid_chicory_field_prime)] }
def TwistPointsSaid : Prop := twistPointsRow.holds Tryz.pinned (OpenSpec.ofChange twistPointsSpec)

/-- ITS FALSE NEIGHBOUR: 'it returns false'. Refute it at one input. -/
def twistPointsWrong : ChangeSpec := { name := "twistPoints", fn := fun _ => fun
  | [d1, d2, d3] => { results := [.lit (.bool false)], args := [d1, d2, d3] }
  | _ => none }
def TwistPointsWrongFalsely : Prop := twistPointsRow.holds Tryz.pinned (OpenSpec.ofChange twistPointsWrong)

/-- 'chicorylaw13.TwistAdds': WHATEVER THE INPUT: true; the input reads as it did. -/
def twistAddsSpec : ChangeSpec := { name := "twistAdds", fn := fun _ => fun
  | [d] => { results := [.lit (.bool true)], args := [d] }
  | _ => none }
def twistAddsRow : OpenClaim := { program := "ytoeokhfhcpcjlaagreatdoor", sum := "2f8acd8fedd05f929e55c95bb9ff4eecdadb5b259409773edb0d07a89ada2951", func := "chicory/chicorylaw13.TwistAdds", spec := "twistAdds", inPlace := ["math/bits.Add64"], unfollowed := true, recurses := true, named := ["chicory/field.prime"], apart := false, laid := [("chicory/field.prime", laid_chicory_field_prime)] }
def TwistAddsSaid : Prop := twistAddsRow.holds Tryz.pinned (OpenSpec.ofChange twistAddsSpec)

/-- ITS FALSE NEIGHBOUR: 'it returns false'. Refute it at one input. -/
def twistAddsWrong : ChangeSpec := { name := "twistAdds", fn := fun _ => fun
  | [d] => { results := [.lit (.bool false)], args := [d] }
  | _ => none }
def TwistAddsWrongFalsely : Prop := twistAddsRow.holds Tryz.pinned (OpenSpec.ofChange twistAddsWrong)

/-- 'chicorylaw13.TwistFours': WHATEVER THE INPUT: true; the input reads as it did. -/
def twistFoursSpec : ChangeSpec := { name := "twistFours", fn := fun _ => fun
  | [d] => { results := [.lit (.bool true)], args := [d] }
  | _ => none }
def twistFoursRow : OpenClaim := { program := "ytoeokhfhcpcjlaagreatdoor", sum := "2f8acd8fedd05f929e55c95bb9ff4eecdadb5b259409773edb0d07a89ada2951", func := "chicory/chicorylaw13.TwistFours", spec := "twistFours", inPlace := ["math/bits.Add64"], unfollowed := true, recurses := true, named := ["chicory/field.prime"], apart := false, laid := [("chicory/field.prime", laid_chicory_field_prime)] }
def TwistFoursSaid : Prop := twistFoursRow.holds Tryz.pinned (OpenSpec.ofChange twistFoursSpec)

/-- ITS FALSE NEIGHBOUR: 'it returns false'. Refute it at one input. -/
def twistFoursWrong : ChangeSpec := { name := "twistFours", fn := fun _ => fun
  | [d] => { results := [.lit (.bool false)], args := [d] }
  | _ => none }
def TwistFoursWrongFalsely : Prop := twistFoursRow.holds Tryz.pinned (OpenSpec.ofChange twistFoursWrong)

/-- 'chicorylaw13.TwistHomes': WHATEVER THE INPUT: true; the input reads as it did. -/
def twistHomesSpec : ChangeSpec := { name := "twistHomes", fn := fun _ => fun
  | [d1, d2] => { results := [.lit (.bool true)], args := [d1, d2] }
  | _ => none }
def twistHomesRow : OpenClaim := { program := "ytoeokhfhcpcjlaagreatdoor", sum := "2f8acd8fedd05f929e55c95bb9ff4eecdadb5b259409773edb0d07a89ada2951", func := "chicory/chicorylaw13.TwistHomes", spec := "twistHomes", inPlace := ["math/bits.Add64"], unfollowed := true, recurses := true, named := ["chicory/field.prime"], apart := false, laid := [("chicory/field.prime", laid_chicory_field_prime)] }
def TwistHomesSaid : Prop := twistHomesRow.holds Tryz.pinned (OpenSpec.ofChange twistHomesSpec)

/-- ITS FALSE NEIGHBOUR: 'it returns false'. Refute it at one input. -/
def twistHomesWrong : ChangeSpec := { name := "twistHomes", fn := fun _ => fun
  | [d1, d2] => { results := [.lit (.bool false)], args := [d1, d2] }
  | _ => none }
def TwistHomesWrongFalsely : Prop := twistHomesRow.holds Tryz.pinned (OpenSpec.ofChange twistHomesWrong)

/-- 'chicorylaw13.TwistFaces': WHATEVER THE INPUT: true; the input reads as it did. -/
def twistFacesSpec : ChangeSpec := { name := "twistFaces", fn := fun _ => fun
  | [d] => { results := [.lit (.bool true)], args := [d] }
  | _ => none }
def twistFacesRow : OpenClaim := { program := "ytoeokhfhcpcjlaagreatdoor", sum := "2f8acd8fedd05f929e55c95bb9ff4eecdadb5b259409773edb0d07a89ada2951", func := "chicory/chicorylaw13.TwistFaces", spec := "twistFaces", inPlace := ["math/bits.Add64"], unfollowed := true, recurses := true, named := ["chicory/field.prime"], apart := false, laid := [("chicory/field.prime", laid_chicory_field_prime)] }
def TwistFacesSaid : Prop := twistFacesRow.holds Tryz.pinned (OpenSpec.ofChange twistFacesSpec)

/-- ITS FALSE NEIGHBOUR: 'it returns false'. Refute it at one input. -/
def twistFacesWrong : ChangeSpec := { name := "twistFaces", fn := fun _ => fun
  | [d] => { results := [.lit (.bool false)], args := [d] }
  | _ => none }
def TwistFacesWrongFalsely : Prop := twistFacesRow.holds Tryz.pinned (OpenSpec.ofChange twistFacesWrong)

/- THE SECOND FORM. 'bulk': how many values and letters a reading holds, each counted each time it is reached (what is shared counts as often as it is met; a slice's spare places count too). A statement '..UptoSaid' is the law's where the arguments, and the package variables that the reading takes, are together of bulk at most 1048576: NARROWER than '..Said'. Prove '..Said' where nothing that the law and all that it calls make is longer than what came in: it says more and counts as full. Else prove '..UptoSaid'. A law counts once. -/
mutual
def uptoBulk {H : Type} : DataW H → Nat
  | .lit (.string bytes) => bytes.length + 1
  | .lit _ => 1
  | .nil => 1
  | .ptr d => uptoBulk d + 1
  | .slice elems spare => uptoBulkAll elems + uptoBulkAll spare + 1
  | .agg parts => uptoBulkAll parts + 1
  | .iface _ d => uptoBulk d + 1
  | .map entries => uptoBulkEntries entries + 1
  | .held _ => 1
def uptoBulkAll {H : Type} : List (DataW H) → Nat
  | [] => 0
  | d :: r => uptoBulk d + uptoBulkAll r
def uptoBulkEntries {H : Type} : List (Lit × DataW H) → Nat
  | [] => 0
  | x :: r => uptoBulkEntry x + uptoBulkEntries r
def uptoBulkEntry {H : Type} : Lit × DataW H → Nat
  | (.string bytes, d) => bytes.length + uptoBulk d + 1
  | (_, d) => uptoBulk d + 1
 end
def uptoSmall : (H : Type) → List (DataW H) → Bool := fun _ ds => decide (uptoBulkAll ds ≤ 1048576)
def OpenSpec.upto (s : _root_.Go.ChangeSpec) : _root_.Go.OpenSpec := { _root_.Go.OpenSpec.ofChange s with cond := some uptoSmall }

/-- 'chicorylaw13.TwistPoints', WHERE WHAT IT READS IS OF BULK AT MOST 1048576: true; the input reads as it did. -/
def twistPointsUptoRow : OpenClaim := { program := "ytoeokhfhcpcjlaagreatdoor", sum := "2f8acd8fedd05f929e55c95bb9ff4eecdadb5b259409773edb0d07a89ada2951", func := "chicory/chicorylaw13.TwistPoints", spec := "twistPoints", inPlace := ["math/bits.Add64"], unfollowed := true, recurses := true, named := ["chicory/field.prime"], apart := false, laid := [("chicory/field.prime", laid_chicory_field_prime)], narrowed := true }
def TwistPointsUptoSaid : Prop := twistPointsUptoRow.holds Tryz.pinned (OpenSpec.upto twistPointsSpec)

/-- 'chicorylaw13.TwistAdds', WHERE WHAT IT READS IS OF BULK AT MOST 1048576: true; the input reads as it did. -/
def twistAddsUptoRow : OpenClaim := { program := "ytoeokhfhcpcjlaagreatdoor", sum := "2f8acd8fedd05f929e55c95bb9ff4eecdadb5b259409773edb0d07a89ada2951", func := "chicory/chicorylaw13.TwistAdds", spec := "twistAdds", inPlace := ["math/bits.Add64"], unfollowed := true, recurses := true, named := ["chicory/field.prime"], apart := false, laid := [("chicory/field.prime", laid_chicory_field_prime)], narrowed := true }
def TwistAddsUptoSaid : Prop := twistAddsUptoRow.holds Tryz.pinned (OpenSpec.upto twistAddsSpec)

/-- 'chicorylaw13.TwistFours', WHERE WHAT IT READS IS OF BULK AT MOST 1048576: true; the input reads as it did. -/
def twistFoursUptoRow : OpenClaim := { program := "ytoeokhfhcpcjlaagreatdoor", sum := "2f8acd8fedd05f929e55c95bb9ff4eecdadb5b259409773edb0d07a89ada2951", func := "chicory/chicorylaw13.TwistFours", spec := "twistFours", inPlace := ["math/bits.Add64"], unfollowed := true, recurses := true, named := ["chicory/field.prime"], apart := false, laid := [("chicory/field.prime", laid_chicory_field_prime)], narrowed := true }
def TwistFoursUptoSaid : Prop := twistFoursUptoRow.holds Tryz.pinned (OpenSpec.upto twistFoursSpec)

/-- 'chicorylaw13.TwistHomes', WHERE WHAT IT READS IS OF BULK AT MOST 1048576: true; the input reads as it did. -/
def twistHomesUptoRow : OpenClaim := { program := "ytoeokhfhcpcjlaagreatdoor", sum := "2f8acd8fedd05f929e55c95bb9ff4eecdadb5b259409773edb0d07a89ada2951", func := "chicory/chicorylaw13.TwistHomes", spec := "twistHomes", inPlace := ["math/bits.Add64"], unfollowed := true, recurses := true, named := ["chicory/field.prime"], apart := false, laid := [("chicory/field.prime", laid_chicory_field_prime)], narrowed := true }
def TwistHomesUptoSaid : Prop := twistHomesUptoRow.holds Tryz.pinned (OpenSpec.upto twistHomesSpec)

/-- 'chicorylaw13.TwistFaces', WHERE WHAT IT READS IS OF BULK AT MOST 1048576: true; the input reads as it did. -/
def twistFacesUptoRow : OpenClaim := { program := "ytoeokhfhcpcjlaagreatdoor", sum := "2f8acd8fedd05f929e55c95bb9ff4eecdadb5b259409773edb0d07a89ada2951", func := "chicory/chicorylaw13.TwistFaces", spec := "twistFaces", inPlace := ["math/bits.Add64"], unfollowed := true, recurses := true, named := ["chicory/field.prime"], apart := false, laid := [("chicory/field.prime", laid_chicory_field_prime)], narrowed := true }
def TwistFacesUptoSaid : Prop := twistFacesUptoRow.holds Tryz.pinned (OpenSpec.upto twistFacesSpec)

end Rows
end Go.Proofs.YtoeokhfhcpcjlaaGreatDoor
