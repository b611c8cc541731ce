/-
  NARROWER THAN 'FOR EVERY INPUT', by the rows' own cells (each row's printed sentence says how): CombLooks: laid · CombPowers: laid · CombTables: laid · CombMults: laid · CombAdds: laid.
  DERIVED. THE GIVEN ROWS OF THIS SEAT. 5 by the template 'for every input the law returns true; each argument reads behind the call as it read before'; 0 by the template 'total and deterministic' (their statements: YtjcfoilfdmameaaGreatDoorTotals.lean).
  GIVEN WITH THE SEED: the statements are not yours to turn. If you find one false, say at which input.
  Laid BY PROGRAM, IN A SANDBOX (cutbox-rows.mjs): the forced cells as the released guide's own fill.sh prints them over the translation bc26bc6eb8a35c8f… (all of the seat's roots in one cut). By AI agents, Wed Nov 11 2026. No macro, syntax, notation, axiom, sorry.
-/
import Derived.Test.YtjcfoilfdmameaaGreatDoorChecked
import GoSem.Claim
import GoSem.ClaimJoined
import GoSem.ClaimMapViews
import Derived.JoinedTies
import Derived.KernelRfl
namespace Go.Proofs.YtjcfoilfdmameaaGreatDoor
/- THE CELL 'sum', in the pinned program and in every row, IS THE sha256 OF THE DUMP (.gsa) THAT YtjcfoilfdmameaaGreatDoorProg.lean LOADS. Nothing in Lean hashes anything: it is a label: what it is worth is what the hold of that sum in a sandbox is worth. -/
noncomputable def Tryz.pinned : Pinned := { name := "ytjcfoilfdmameaagreatdoor", sum := "bc26bc6eb8a35c8fc10feda94e87131992847883c7a1e177df333faa166d9a05", checked := Tryz.checked }
namespace Rows
def none {H : Type} : Left H := { results := [], args := [] }

/- WHAT THE LISTED PACKAGE-LEVEL VARIABLES READ AS WHEN THE CALL BEGINS. Each datum BY PROGRAM (the guide's laid-datum.mjs) off the statement by which the dump's own 'gosem.cut.vars' lays the variable. In a bare row this is a premise. The card (YtjcfoilfdmameaaGreatDoorCards.lean) ties it to the program's text. -/
def laid_chicory_field_prime {H : Type} : DataW H := .agg [.lit (.int .u64 72057594037927935), .lit (.int .u64 72057594037927935), .lit (.int .u64 72057594037927935), .lit (.int .u64 72057594037927935), .lit (.int .u64 72057594037927934), .lit (.int .u64 72057594037927935), .lit (.int .u64 72057594037927935), .lit (.int .u64 72057594037927935)]

/-- 'chicorylaw11.CombLooks': WHATEVER THE INPUT: true; the input reads as it did. -/
def combLooksSpec : ChangeSpec := { name := "combLooks", fn := fun _ => fun
  | [d1, d2] => { results := [.lit (.bool true)], args := [d1, d2] }
  | _ => none }
def combLooksRow : OpenClaim := { program := "ytjcfoilfdmameaagreatdoor", sum := "bc26bc6eb8a35c8fc10feda94e87131992847883c7a1e177df333faa166d9a05", func := "chicory/chicorylaw11.CombLooks", spec := "combLooks", inPlace := ["math/bits.Add64"], unfollowed := true, recurses := true, named := ["chicory/field.prime"], apart := false, laid := [("chicory/field.prime", laid_chicory_field_prime)] }
def CombLooksSaid : Prop := combLooksRow.holds Tryz.pinned (OpenSpec.ofChange combLooksSpec)

/-- ITS FALSE NEIGHBOUR: 'it returns false'. Refute it at one input. -/
def combLooksWrong : ChangeSpec := { name := "combLooks", fn := fun _ => fun
  | [d1, d2] => { results := [.lit (.bool false)], args := [d1, d2] }
  | _ => none }
def CombLooksWrongFalsely : Prop := combLooksRow.holds Tryz.pinned (OpenSpec.ofChange combLooksWrong)

/-- 'chicorylaw11.CombPowers': WHATEVER THE INPUT: true; the input reads as it did. -/
def combPowersSpec : ChangeSpec := { name := "combPowers", fn := fun _ => fun
  | [d1, d2, d3] => { results := [.lit (.bool true)], args := [d1, d2, d3] }
  | _ => none }
def combPowersRow : OpenClaim := { program := "ytjcfoilfdmameaagreatdoor", sum := "bc26bc6eb8a35c8fc10feda94e87131992847883c7a1e177df333faa166d9a05", func := "chicory/chicorylaw11.CombPowers", spec := "combPowers", inPlace := ["math/bits.Add64"], unfollowed := true, recurses := true, named := ["chicory/field.prime"], apart := false, laid := [("chicory/field.prime", laid_chicory_field_prime)] }
def CombPowersSaid : Prop := combPowersRow.holds Tryz.pinned (OpenSpec.ofChange combPowersSpec)

/-- ITS FALSE NEIGHBOUR: 'it returns false'. Refute it at one input. -/
def combPowersWrong : ChangeSpec := { name := "combPowers", fn := fun _ => fun
  | [d1, d2, d3] => { results := [.lit (.bool false)], args := [d1, d2, d3] }
  | _ => none }
def CombPowersWrongFalsely : Prop := combPowersRow.holds Tryz.pinned (OpenSpec.ofChange combPowersWrong)

/-- 'chicorylaw11.CombTables': WHATEVER THE INPUT: true; the input reads as it did. -/
def combTablesSpec : ChangeSpec := { name := "combTables", fn := fun _ => fun
  | [d1, d2, d3] => { results := [.lit (.bool true)], args := [d1, d2, d3] }
  | _ => none }
def combTablesRow : OpenClaim := { program := "ytjcfoilfdmameaagreatdoor", sum := "bc26bc6eb8a35c8fc10feda94e87131992847883c7a1e177df333faa166d9a05", func := "chicory/chicorylaw11.CombTables", spec := "combTables", inPlace := ["math/bits.Add64"], unfollowed := true, recurses := true, named := ["chicory/field.prime"], apart := false, laid := [("chicory/field.prime", laid_chicory_field_prime)] }
def CombTablesSaid : Prop := combTablesRow.holds Tryz.pinned (OpenSpec.ofChange combTablesSpec)

/-- ITS FALSE NEIGHBOUR: 'it returns false'. Refute it at one input. -/
def combTablesWrong : ChangeSpec := { name := "combTables", fn := fun _ => fun
  | [d1, d2, d3] => { results := [.lit (.bool false)], args := [d1, d2, d3] }
  | _ => none }
def CombTablesWrongFalsely : Prop := combTablesRow.holds Tryz.pinned (OpenSpec.ofChange combTablesWrong)

/-- 'chicorylaw11.CombMults': WHATEVER THE INPUT: true; the input reads as it did. -/
def combMultsSpec : ChangeSpec := { name := "combMults", fn := fun _ => fun
  | [d1, d2, d3] => { results := [.lit (.bool true)], args := [d1, d2, d3] }
  | _ => none }
def combMultsRow : OpenClaim := { program := "ytjcfoilfdmameaagreatdoor", sum := "bc26bc6eb8a35c8fc10feda94e87131992847883c7a1e177df333faa166d9a05", func := "chicory/chicorylaw11.CombMults", spec := "combMults", inPlace := ["math/bits.Add64"], unfollowed := true, recurses := true, named := ["chicory/field.prime"], apart := false, laid := [("chicory/field.prime", laid_chicory_field_prime)] }
def CombMultsSaid : Prop := combMultsRow.holds Tryz.pinned (OpenSpec.ofChange combMultsSpec)

/-- ITS FALSE NEIGHBOUR: 'it returns false'. Refute it at one input. -/
def combMultsWrong : ChangeSpec := { name := "combMults", fn := fun _ => fun
  | [d1, d2, d3] => { results := [.lit (.bool false)], args := [d1, d2, d3] }
  | _ => none }
def CombMultsWrongFalsely : Prop := combMultsRow.holds Tryz.pinned (OpenSpec.ofChange combMultsWrong)

/-- 'chicorylaw11.CombAdds': WHATEVER THE INPUT: true; the input reads as it did. -/
def combAddsSpec : ChangeSpec := { name := "combAdds", fn := fun _ => fun
  | [d1, d2, d3] => { results := [.lit (.bool true)], args := [d1, d2, d3] }
  | _ => none }
def combAddsRow : OpenClaim := { program := "ytjcfoilfdmameaagreatdoor", sum := "bc26bc6eb8a35c8fc10feda94e87131992847883c7a1e177df333faa166d9a05", func := "chicory/chicorylaw11.CombAdds", spec := "combAdds", inPlace := ["math/bits.Add64"], unfollowed := true, recurses := true, named := ["chicory/field.prime"], apart := false, laid := [("chicory/field.prime", laid_chicory_field_prime)] }
def CombAddsSaid : Prop := combAddsRow.holds Tryz.pinned (OpenSpec.ofChange combAddsSpec)

/-- ITS FALSE NEIGHBOUR: 'it returns false'. Refute it at one input. -/
def combAddsWrong : ChangeSpec := { name := "combAdds", fn := fun _ => fun
  | [d1, d2, d3] => { results := [.lit (.bool false)], args := [d1, d2, d3] }
  | _ => none }
def CombAddsWrongFalsely : Prop := combAddsRow.holds Tryz.pinned (OpenSpec.ofChange combAddsWrong)

/- THE SECOND FORM. 'bulk': how many values and letters a reading holds, each counted each time it is reached (what is shared counts as often as it is met; a slice's spare places count too). A statement '..UptoSaid' is the law's where the arguments, and the package variables that the reading takes, are together of bulk at most 1048576: NARROWER than '..Said'. Prove '..Said' where nothing that the law and all that it calls make is longer than what came in: it says more and counts as full. Else prove '..UptoSaid'. A law counts once. -/
mutual
def uptoBulk {H : Type} : DataW H → Nat
  | .lit (.string bytes) => bytes.length + 1
  | .lit _ => 1
  | .nil => 1
  | .ptr d => uptoBulk d + 1
  | .slice elems spare => uptoBulkAll elems + uptoBulkAll spare + 1
  | .agg parts => uptoBulkAll parts + 1
  | .iface _ d => uptoBulk d + 1
  | .map entries => uptoBulkEntries entries + 1
  | .held _ => 1
def uptoBulkAll {H : Type} : List (DataW H) → Nat
  | [] => 0
  | d :: r => uptoBulk d + uptoBulkAll r
def uptoBulkEntries {H : Type} : List (Lit × DataW H) → Nat
  | [] => 0
  | x :: r => uptoBulkEntry x + uptoBulkEntries r
def uptoBulkEntry {H : Type} : Lit × DataW H → Nat
  | (.string bytes, d) => bytes.length + uptoBulk d + 1
  | (_, d) => uptoBulk d + 1
 end
def uptoSmall : (H : Type) → List (DataW H) → Bool := fun _ ds => decide (uptoBulkAll ds ≤ 1048576)
def OpenSpec.upto (s : _root_.Go.ChangeSpec) : _root_.Go.OpenSpec := { _root_.Go.OpenSpec.ofChange s with cond := some uptoSmall }

/-- 'chicorylaw11.CombLooks', WHERE WHAT IT READS IS OF BULK AT MOST 1048576: true; the input reads as it did. -/
def combLooksUptoRow : OpenClaim := { program := "ytjcfoilfdmameaagreatdoor", sum := "bc26bc6eb8a35c8fc10feda94e87131992847883c7a1e177df333faa166d9a05", func := "chicory/chicorylaw11.CombLooks", spec := "combLooks", inPlace := ["math/bits.Add64"], unfollowed := true, recurses := true, named := ["chicory/field.prime"], apart := false, laid := [("chicory/field.prime", laid_chicory_field_prime)], narrowed := true }
def CombLooksUptoSaid : Prop := combLooksUptoRow.holds Tryz.pinned (OpenSpec.upto combLooksSpec)

/-- 'chicorylaw11.CombPowers', WHERE WHAT IT READS IS OF BULK AT MOST 1048576: true; the input reads as it did. -/
def combPowersUptoRow : OpenClaim := { program := "ytjcfoilfdmameaagreatdoor", sum := "bc26bc6eb8a35c8fc10feda94e87131992847883c7a1e177df333faa166d9a05", func := "chicory/chicorylaw11.CombPowers", spec := "combPowers", inPlace := ["math/bits.Add64"], unfollowed := true, recurses := true, named := ["chicory/field.prime"], apart := false, laid := [("chicory/field.prime", laid_chicory_field_prime)], narrowed := true }
def CombPowersUptoSaid : Prop := combPowersUptoRow.holds Tryz.pinned (OpenSpec.upto combPowersSpec)

/-- 'chicorylaw11.CombTables', WHERE WHAT IT READS IS OF BULK AT MOST 1048576: true; the input reads as it did. -/
def combTablesUptoRow : OpenClaim := { program := "ytjcfoilfdmameaagreatdoor", sum := "bc26bc6eb8a35c8fc10feda94e87131992847883c7a1e177df333faa166d9a05", func := "chicory/chicorylaw11.CombTables", spec := "combTables", inPlace := ["math/bits.Add64"], unfollowed := true, recurses := true, named := ["chicory/field.prime"], apart := false, laid := [("chicory/field.prime", laid_chicory_field_prime)], narrowed := true }
def CombTablesUptoSaid : Prop := combTablesUptoRow.holds Tryz.pinned (OpenSpec.upto combTablesSpec)

/-- 'chicorylaw11.CombMults', WHERE WHAT IT READS IS OF BULK AT MOST 1048576: true; the input reads as it did. -/
def combMultsUptoRow : OpenClaim := { program := "ytjcfoilfdmameaagreatdoor", sum := "bc26bc6eb8a35c8fc10feda94e87131992847883c7a1e177df333faa166d9a05", func := "chicory/chicorylaw11.CombMults", spec := "combMults", inPlace := ["math/bits.Add64"], unfollowed := true, recurses := true, named := ["chicory/field.prime"], apart := false, laid := [("chicory/field.prime", laid_chicory_field_prime)], narrowed := true }
def CombMultsUptoSaid : Prop := combMultsUptoRow.holds Tryz.pinned (OpenSpec.upto combMultsSpec)

/-- 'chicorylaw11.CombAdds', WHERE WHAT IT READS IS OF BULK AT MOST 1048576: true; the input reads as it did. -/
def combAddsUptoRow : OpenClaim := { program := "ytjcfoilfdmameaagreatdoor", sum := "bc26bc6eb8a35c8fc10feda94e87131992847883c7a1e177df333faa166d9a05", func := "chicory/chicorylaw11.CombAdds", spec := "combAdds", inPlace := ["math/bits.Add64"], unfollowed := true, recurses := true, named := ["chicory/field.prime"], apart := false, laid := [("chicory/field.prime", laid_chicory_field_prime)], narrowed := true }
def CombAddsUptoSaid : Prop := combAddsUptoRow.holds Tryz.pinned (OpenSpec.upto combAddsSpec)

end Rows
end Go.Proofs.YtjcfoilfdmameaaGreatDoor
