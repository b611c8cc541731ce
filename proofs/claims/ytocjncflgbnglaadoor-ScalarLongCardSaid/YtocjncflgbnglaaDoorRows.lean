/-
  NARROWER THAN 'FOR EVERY INPUT', by the rows' own cells (each row's printed sentence says how): ScalarBytes: laid · ScalarSums: laid · ScalarProducts: laid · ScalarClamps: laid · ScalarRing: laid · ScalarSame: laid · ScalarLong: laid.
  DERIVED. THE GIVEN ROWS OF THIS SEAT. 7 by the template 'for every input the law returns true; each argument reads behind the call as it read before'; 0 by the template 'total and deterministic' (their statements: YtocjncflgbnglaaDoorTotals.lean).
  GIVEN WITH THE SEED: the statements are not yours to turn. If you find one false, say at which input.
  Laid BY PROGRAM, IN A SANDBOX (cutbox-rows.mjs): the forced cells as the released guide's own fill.sh prints them over the translation 5578c5e6ba11ae22… (all of the seat's roots in one cut). By AI agents, Wed Nov 11 2026. No macro, syntax, notation, axiom, sorry.
-/
import Derived.Test.YtocjncflgbnglaaDoorChecked
import GoSem.Claim
import GoSem.ClaimJoined
import GoSem.ClaimMapViews
import Derived.JoinedTies
import Derived.KernelRfl
namespace Go.Proofs.YtocjncflgbnglaaDoor
/- THE CELL 'sum', in the pinned program and in every row, IS THE sha256 OF THE DUMP (.gsa) THAT YtocjncflgbnglaaDoorProg.lean LOADS. Nothing in Lean hashes anything: it is a label: what it is worth is what the hold of that sum in a sandbox is worth. -/
noncomputable def Tryd.pinned : Pinned := { name := "ytocjncflgbnglaadoor", sum := "5578c5e6ba11ae22b200733f518af163b8c559a8c731d22d39b59b8a7431e365", checked := Tryd.checked }
namespace Rows
def none {H : Type} : Left H := { results := [], args := [] }

/- WHAT THE LISTED PACKAGE-LEVEL VARIABLES READ AS WHEN THE CALL BEGINS. Each datum BY PROGRAM (the guide's laid-datum.mjs) off the statement by which the dump's own 'gosem.cut.vars' lays the variable. In a bare row this is a premise. The card (YtocjncflgbnglaaDoorCards.lean) ties it to the program's text. -/
def laid_chicory_scalar_order {H : Type} : DataW H := .agg [.lit (.int .u64 2556006723728458995), .lit (.int .u64 2408513697996967765), .lit (.int .u64 14145484589129676432), .lit (.int .u64 18446744071508206569), .lit (.int .u64 18446744073709551615), .lit (.int .u64 18446744073709551615), .lit (.int .u64 4611686018427387903)]
def laid_chicory_scalar_rest {H : Type} : DataW H := .agg [.lit (.int .u64 15890737349981092621), .lit (.int .u64 16038230375712583850), .lit (.int .u64 4301259484579875183), .lit (.int .u64 2201345046)]

/-- 'chicorylaw06.ScalarBytes': WHATEVER THE INPUT: true; the input reads as it did. -/
def scalarBytesSpec : ChangeSpec := { name := "scalarBytes", fn := fun _ => fun
  | [d] => { results := [.lit (.bool true)], args := [d] }
  | _ => none }
def scalarBytesRow : OpenClaim := { program := "ytocjncflgbnglaadoor", sum := "5578c5e6ba11ae22b200733f518af163b8c559a8c731d22d39b59b8a7431e365", func := "chicory/chicorylaw06.ScalarBytes", spec := "scalarBytes", inPlace := ["math/bits.Sub64", "math/bits.Add64"], unfollowed := true, recurses := true, named := ["chicory/scalar.order", "chicory/scalar.rest"], apart := false, laid := [("chicory/scalar.order", laid_chicory_scalar_order), ("chicory/scalar.rest", laid_chicory_scalar_rest)] }
def ScalarBytesSaid : Prop := scalarBytesRow.holds Tryd.pinned (OpenSpec.ofChange scalarBytesSpec)

/-- ITS FALSE NEIGHBOUR: 'it returns false'. Refute it at one input. -/
def scalarBytesWrong : ChangeSpec := { name := "scalarBytes", fn := fun _ => fun
  | [d] => { results := [.lit (.bool false)], args := [d] }
  | _ => none }
def ScalarBytesWrongFalsely : Prop := scalarBytesRow.holds Tryd.pinned (OpenSpec.ofChange scalarBytesWrong)

/-- 'chicorylaw06.ScalarSums': WHATEVER THE INPUT: true; the input reads as it did. -/
def scalarSumsSpec : ChangeSpec := { name := "scalarSums", fn := fun _ => fun
  | [d1, d2, d3] => { results := [.lit (.bool true)], args := [d1, d2, d3] }
  | _ => none }
def scalarSumsRow : OpenClaim := { program := "ytocjncflgbnglaadoor", sum := "5578c5e6ba11ae22b200733f518af163b8c559a8c731d22d39b59b8a7431e365", func := "chicory/chicorylaw06.ScalarSums", spec := "scalarSums", inPlace := ["math/bits.Add64", "math/bits.Sub64"], unfollowed := true, recurses := true, named := ["chicory/scalar.rest", "chicory/scalar.order"], apart := false, laid := [("chicory/scalar.order", laid_chicory_scalar_order), ("chicory/scalar.rest", laid_chicory_scalar_rest)] }
def ScalarSumsSaid : Prop := scalarSumsRow.holds Tryd.pinned (OpenSpec.ofChange scalarSumsSpec)

/-- ITS FALSE NEIGHBOUR: 'it returns false'. Refute it at one input. -/
def scalarSumsWrong : ChangeSpec := { name := "scalarSums", fn := fun _ => fun
  | [d1, d2, d3] => { results := [.lit (.bool false)], args := [d1, d2, d3] }
  | _ => none }
def ScalarSumsWrongFalsely : Prop := scalarSumsRow.holds Tryd.pinned (OpenSpec.ofChange scalarSumsWrong)

/-- 'chicorylaw06.ScalarProducts': WHATEVER THE INPUT: true; the input reads as it did. -/
def scalarProductsSpec : ChangeSpec := { name := "scalarProducts", fn := fun _ => fun
  | [d1, d2] => { results := [.lit (.bool true)], args := [d1, d2] }
  | _ => none }
def scalarProductsRow : OpenClaim := { program := "ytocjncflgbnglaadoor", sum := "5578c5e6ba11ae22b200733f518af163b8c559a8c731d22d39b59b8a7431e365", func := "chicory/chicorylaw06.ScalarProducts", spec := "scalarProducts", inPlace := ["math/bits.Add64", "math/bits.Sub64"], unfollowed := true, recurses := true, named := ["chicory/scalar.rest", "chicory/scalar.order"], apart := false, laid := [("chicory/scalar.order", laid_chicory_scalar_order), ("chicory/scalar.rest", laid_chicory_scalar_rest)] }
def ScalarProductsSaid : Prop := scalarProductsRow.holds Tryd.pinned (OpenSpec.ofChange scalarProductsSpec)

/-- ITS FALSE NEIGHBOUR: 'it returns false'. Refute it at one input. -/
def scalarProductsWrong : ChangeSpec := { name := "scalarProducts", fn := fun _ => fun
  | [d1, d2] => { results := [.lit (.bool false)], args := [d1, d2] }
  | _ => none }
def ScalarProductsWrongFalsely : Prop := scalarProductsRow.holds Tryd.pinned (OpenSpec.ofChange scalarProductsWrong)

/-- 'chicorylaw06.ScalarClamps': WHATEVER THE INPUT: true; the input reads as it did. -/
def scalarClampsSpec : ChangeSpec := { name := "scalarClamps", fn := fun _ => fun
  | [d] => { results := [.lit (.bool true)], args := [d] }
  | _ => none }
def scalarClampsRow : OpenClaim := { program := "ytocjncflgbnglaadoor", sum := "5578c5e6ba11ae22b200733f518af163b8c559a8c731d22d39b59b8a7431e365", func := "chicory/chicorylaw06.ScalarClamps", spec := "scalarClamps", inPlace := ["math/bits.Sub64", "math/bits.Add64"], unfollowed := true, recurses := true, named := ["chicory/scalar.order"], apart := false, laid := [("chicory/scalar.order", laid_chicory_scalar_order)] }
def ScalarClampsSaid : Prop := scalarClampsRow.holds Tryd.pinned (OpenSpec.ofChange scalarClampsSpec)

/-- ITS FALSE NEIGHBOUR: 'it returns false'. Refute it at one input. -/
def scalarClampsWrong : ChangeSpec := { name := "scalarClamps", fn := fun _ => fun
  | [d] => { results := [.lit (.bool false)], args := [d] }
  | _ => none }
def ScalarClampsWrongFalsely : Prop := scalarClampsRow.holds Tryd.pinned (OpenSpec.ofChange scalarClampsWrong)

/-- 'chicorylaw06.ScalarRing': WHATEVER THE INPUT: true; the input reads as it did. -/
def scalarRingSpec : ChangeSpec := { name := "scalarRing", fn := fun _ => fun
  | [d1, d2, d3] => { results := [.lit (.bool true)], args := [d1, d2, d3] }
  | _ => none }
def scalarRingRow : OpenClaim := { program := "ytocjncflgbnglaadoor", sum := "5578c5e6ba11ae22b200733f518af163b8c559a8c731d22d39b59b8a7431e365", func := "chicory/chicorylaw06.ScalarRing", spec := "scalarRing", inPlace := ["math/bits.Add64", "math/bits.Sub64"], unfollowed := true, recurses := true, named := ["chicory/scalar.rest", "chicory/scalar.order"], apart := false, laid := [("chicory/scalar.order", laid_chicory_scalar_order), ("chicory/scalar.rest", laid_chicory_scalar_rest)] }
def ScalarRingSaid : Prop := scalarRingRow.holds Tryd.pinned (OpenSpec.ofChange scalarRingSpec)

/-- ITS FALSE NEIGHBOUR: 'it returns false'. Refute it at one input. -/
def scalarRingWrong : ChangeSpec := { name := "scalarRing", fn := fun _ => fun
  | [d1, d2, d3] => { results := [.lit (.bool false)], args := [d1, d2, d3] }
  | _ => none }
def ScalarRingWrongFalsely : Prop := scalarRingRow.holds Tryd.pinned (OpenSpec.ofChange scalarRingWrong)

/-- 'chicorylaw06.ScalarSame': WHATEVER THE INPUT: true; the input reads as it did. -/
def scalarSameSpec : ChangeSpec := { name := "scalarSame", fn := fun _ => fun
  | [d1, d2] => { results := [.lit (.bool true)], args := [d1, d2] }
  | _ => none }
def scalarSameRow : OpenClaim := { program := "ytocjncflgbnglaadoor", sum := "5578c5e6ba11ae22b200733f518af163b8c559a8c731d22d39b59b8a7431e365", func := "chicory/chicorylaw06.ScalarSame", spec := "scalarSame", inPlace := ["math/bits.Add64", "math/bits.Sub64"], unfollowed := true, recurses := true, named := ["chicory/scalar.rest", "chicory/scalar.order"], apart := false, laid := [("chicory/scalar.order", laid_chicory_scalar_order), ("chicory/scalar.rest", laid_chicory_scalar_rest)] }
def ScalarSameSaid : Prop := scalarSameRow.holds Tryd.pinned (OpenSpec.ofChange scalarSameSpec)

/-- ITS FALSE NEIGHBOUR: 'it returns false'. Refute it at one input. -/
def scalarSameWrong : ChangeSpec := { name := "scalarSame", fn := fun _ => fun
  | [d1, d2] => { results := [.lit (.bool false)], args := [d1, d2] }
  | _ => none }
def ScalarSameWrongFalsely : Prop := scalarSameRow.holds Tryd.pinned (OpenSpec.ofChange scalarSameWrong)

/-- 'chicorylaw06.ScalarLong': WHATEVER THE INPUT: true; the input reads as it did. -/
def scalarLongSpec : ChangeSpec := { name := "scalarLong", fn := fun _ => fun
  | [d1, d2, d3] => { results := [.lit (.bool true)], args := [d1, d2, d3] }
  | _ => none }
def scalarLongRow : OpenClaim := { program := "ytocjncflgbnglaadoor", sum := "5578c5e6ba11ae22b200733f518af163b8c559a8c731d22d39b59b8a7431e365", func := "chicory/chicorylaw06.ScalarLong", spec := "scalarLong", inPlace := ["math/bits.Sub64", "math/bits.Add64"], unfollowed := true, recurses := true, named := ["chicory/scalar.order", "chicory/scalar.rest"], apart := false, laid := [("chicory/scalar.order", laid_chicory_scalar_order), ("chicory/scalar.rest", laid_chicory_scalar_rest)] }
def ScalarLongSaid : Prop := scalarLongRow.holds Tryd.pinned (OpenSpec.ofChange scalarLongSpec)

/-- ITS FALSE NEIGHBOUR: 'it returns false'. Refute it at one input. -/
def scalarLongWrong : ChangeSpec := { name := "scalarLong", fn := fun _ => fun
  | [d1, d2, d3] => { results := [.lit (.bool false)], args := [d1, d2, d3] }
  | _ => none }
def ScalarLongWrongFalsely : Prop := scalarLongRow.holds Tryd.pinned (OpenSpec.ofChange scalarLongWrong)

/- THE SECOND FORM. 'bulk': how many values and letters a reading holds, each counted each time it is reached (what is shared counts as often as it is met; a slice's spare places count too). A statement '..UptoSaid' is the law's where the arguments, and the package variables that the reading takes, are together of bulk at most 1048576: NARROWER than '..Said'. Prove '..Said' where nothing that the law and all that it calls make is longer than what came in: it says more and counts as full. Else prove '..UptoSaid'. A law counts once. -/
mutual
def uptoBulk {H : Type} : DataW H → Nat
  | .lit (.string bytes) => bytes.length + 1
  | .lit _ => 1
  | .nil => 1
  | .ptr d => uptoBulk d + 1
  | .slice elems spare => uptoBulkAll elems + uptoBulkAll spare + 1
  | .agg parts => uptoBulkAll parts + 1
  | .iface _ d => uptoBulk d + 1
  | .map entries => uptoBulkEntries entries + 1
  | .held _ => 1
def uptoBulkAll {H : Type} : List (DataW H) → Nat
  | [] => 0
  | d :: r => uptoBulk d + uptoBulkAll r
def uptoBulkEntries {H : Type} : List (Lit × DataW H) → Nat
  | [] => 0
  | x :: r => uptoBulkEntry x + uptoBulkEntries r
def uptoBulkEntry {H : Type} : Lit × DataW H → Nat
  | (.string bytes, d) => bytes.length + uptoBulk d + 1
  | (_, d) => uptoBulk d + 1
 end
def uptoSmall : (H : Type) → List (DataW H) → Bool := fun _ ds => decide (uptoBulkAll ds ≤ 1048576)
def OpenSpec.upto (s : _root_.Go.ChangeSpec) : _root_.Go.OpenSpec := { _root_.Go.OpenSpec.ofChange s with cond := some uptoSmall }

/-- 'chicorylaw06.ScalarBytes', WHERE WHAT IT READS IS OF BULK AT MOST 1048576: true; the input reads as it did. -/
def scalarBytesUptoRow : OpenClaim := { program := "ytocjncflgbnglaadoor", sum := "5578c5e6ba11ae22b200733f518af163b8c559a8c731d22d39b59b8a7431e365", func := "chicory/chicorylaw06.ScalarBytes", spec := "scalarBytes", inPlace := ["math/bits.Sub64", "math/bits.Add64"], unfollowed := true, recurses := true, named := ["chicory/scalar.order", "chicory/scalar.rest"], apart := false, laid := [("chicory/scalar.order", laid_chicory_scalar_order), ("chicory/scalar.rest", laid_chicory_scalar_rest)], narrowed := true }
def ScalarBytesUptoSaid : Prop := scalarBytesUptoRow.holds Tryd.pinned (OpenSpec.upto scalarBytesSpec)

/-- 'chicorylaw06.ScalarSums', WHERE WHAT IT READS IS OF BULK AT MOST 1048576: true; the input reads as it did. -/
def scalarSumsUptoRow : OpenClaim := { program := "ytocjncflgbnglaadoor", sum := "5578c5e6ba11ae22b200733f518af163b8c559a8c731d22d39b59b8a7431e365", func := "chicory/chicorylaw06.ScalarSums", spec := "scalarSums", inPlace := ["math/bits.Add64", "math/bits.Sub64"], unfollowed := true, recurses := true, named := ["chicory/scalar.rest", "chicory/scalar.order"], apart := false, laid := [("chicory/scalar.order", laid_chicory_scalar_order), ("chicory/scalar.rest", laid_chicory_scalar_rest)], narrowed := true }
def ScalarSumsUptoSaid : Prop := scalarSumsUptoRow.holds Tryd.pinned (OpenSpec.upto scalarSumsSpec)

/-- 'chicorylaw06.ScalarProducts', WHERE WHAT IT READS IS OF BULK AT MOST 1048576: true; the input reads as it did. -/
def scalarProductsUptoRow : OpenClaim := { program := "ytocjncflgbnglaadoor", sum := "5578c5e6ba11ae22b200733f518af163b8c559a8c731d22d39b59b8a7431e365", func := "chicory/chicorylaw06.ScalarProducts", spec := "scalarProducts", inPlace := ["math/bits.Add64", "math/bits.Sub64"], unfollowed := true, recurses := true, named := ["chicory/scalar.rest", "chicory/scalar.order"], apart := false, laid := [("chicory/scalar.order", laid_chicory_scalar_order), ("chicory/scalar.rest", laid_chicory_scalar_rest)], narrowed := true }
def ScalarProductsUptoSaid : Prop := scalarProductsUptoRow.holds Tryd.pinned (OpenSpec.upto scalarProductsSpec)

/-- 'chicorylaw06.ScalarClamps', WHERE WHAT IT READS IS OF BULK AT MOST 1048576: true; the input reads as it did. -/
def scalarClampsUptoRow : OpenClaim := { program := "ytocjncflgbnglaadoor", sum := "5578c5e6ba11ae22b200733f518af163b8c559a8c731d22d39b59b8a7431e365", func := "chicory/chicorylaw06.ScalarClamps", spec := "scalarClamps", inPlace := ["math/bits.Sub64", "math/bits.Add64"], unfollowed := true, recurses := true, named := ["chicory/scalar.order"], apart := false, laid := [("chicory/scalar.order", laid_chicory_scalar_order)], narrowed := true }
def ScalarClampsUptoSaid : Prop := scalarClampsUptoRow.holds Tryd.pinned (OpenSpec.upto scalarClampsSpec)

/-- 'chicorylaw06.ScalarRing', WHERE WHAT IT READS IS OF BULK AT MOST 1048576: true; the input reads as it did. -/
def scalarRingUptoRow : OpenClaim := { program := "ytocjncflgbnglaadoor", sum := "5578c5e6ba11ae22b200733f518af163b8c559a8c731d22d39b59b8a7431e365", func := "chicory/chicorylaw06.ScalarRing", spec := "scalarRing", inPlace := ["math/bits.Add64", "math/bits.Sub64"], unfollowed := true, recurses := true, named := ["chicory/scalar.rest", "chicory/scalar.order"], apart := false, laid := [("chicory/scalar.order", laid_chicory_scalar_order), ("chicory/scalar.rest", laid_chicory_scalar_rest)], narrowed := true }
def ScalarRingUptoSaid : Prop := scalarRingUptoRow.holds Tryd.pinned (OpenSpec.upto scalarRingSpec)

/-- 'chicorylaw06.ScalarSame', WHERE WHAT IT READS IS OF BULK AT MOST 1048576: true; the input reads as it did. -/
def scalarSameUptoRow : OpenClaim := { program := "ytocjncflgbnglaadoor", sum := "5578c5e6ba11ae22b200733f518af163b8c559a8c731d22d39b59b8a7431e365", func := "chicory/chicorylaw06.ScalarSame", spec := "scalarSame", inPlace := ["math/bits.Add64", "math/bits.Sub64"], unfollowed := true, recurses := true, named := ["chicory/scalar.rest", "chicory/scalar.order"], apart := false, laid := [("chicory/scalar.order", laid_chicory_scalar_order), ("chicory/scalar.rest", laid_chicory_scalar_rest)], narrowed := true }
def ScalarSameUptoSaid : Prop := scalarSameUptoRow.holds Tryd.pinned (OpenSpec.upto scalarSameSpec)

/-- 'chicorylaw06.ScalarLong', WHERE WHAT IT READS IS OF BULK AT MOST 1048576: true; the input reads as it did. -/
def scalarLongUptoRow : OpenClaim := { program := "ytocjncflgbnglaadoor", sum := "5578c5e6ba11ae22b200733f518af163b8c559a8c731d22d39b59b8a7431e365", func := "chicory/chicorylaw06.ScalarLong", spec := "scalarLong", inPlace := ["math/bits.Sub64", "math/bits.Add64"], unfollowed := true, recurses := true, named := ["chicory/scalar.order", "chicory/scalar.rest"], apart := false, laid := [("chicory/scalar.order", laid_chicory_scalar_order), ("chicory/scalar.rest", laid_chicory_scalar_rest)], narrowed := true }
def ScalarLongUptoSaid : Prop := scalarLongUptoRow.holds Tryd.pinned (OpenSpec.upto scalarLongSpec)

end Rows
end Go.Proofs.YtocjncflgbnglaaDoor
