/-
  No cell of these rows narrows 'for every input' (looked for: loops, veiled, ifaces, maps, wideKeys, modest, calm, conditions, laid).
  DERIVED. THE GIVEN ROWS OF THIS SEAT. 9 by the template 'for every input the law returns true; each argument reads behind the call as it read before'; 0 by the template 'total and deterministic' (their statements: YtmnokjapapheiaaTotals.lean).
  GIVEN WITH THE SEED: the statements are not yours to turn. If you find one false, say at which input.
  Laid BY PROGRAM, IN A SANDBOX (cutbox-rows.mjs): the forced cells as the released guide's own fill.sh prints them over the translation 6537ea2c384c34f6… (all of the seat's roots in one cut). By AI agents, Wed Nov 11 2026. No macro, syntax, notation, axiom, sorry.
-/
import Derived.Test.YtmnokjapapheiaaChecked
import GoSem.Claim
import GoSem.ClaimJoined
import GoSem.ClaimMapViews
import Derived.JoinedTies
import Derived.KernelRfl
namespace Go.Proofs.Ytmnokjapapheiaa
/- THE CELL 'sum', in the pinned program and in every row, IS THE sha256 OF THE DUMP (.gsa) THAT YtmnokjapapheiaaProg.lean LOADS. Nothing in Lean hashes anything: it is a label: what it is worth is what the hold of that sum in a sandbox is worth. -/
noncomputable def Try.pinned : Pinned := { name := "ytmnokjapapheiaa", sum := "6537ea2c384c34f6b828e6d92a776903801ed528064e0038fae82c7219c32035", checked := Try.checked }
namespace Rows
def none {H : Type} : Left H := { results := [], args := [] }

/-- 'chicorylaw03.NumberBytes': WHATEVER THE INPUT: true; the input reads as it did. -/
def numberBytesSpec : ChangeSpec := { name := "numberBytes", fn := fun _ => fun
  | [d1, d2, d3] => { results := [.lit (.bool true)], args := [d1, d2, d3] }
  | _ => none }
def numberBytesRow : OpenClaim := { program := "ytmnokjapapheiaa", sum := "6537ea2c384c34f6b828e6d92a776903801ed528064e0038fae82c7219c32035", func := "chicory/chicorylaw03.NumberBytes", spec := "numberBytes", inPlace := ["math/bits.Add64", "math/bits.Sub64"], apart := false }
def NumberBytesSaid : Prop := numberBytesRow.holds Try.pinned (OpenSpec.ofChange numberBytesSpec)

/-- ITS FALSE NEIGHBOUR: 'it returns false'. Refute it at one input. -/
def numberBytesWrong : ChangeSpec := { name := "numberBytes", fn := fun _ => fun
  | [d1, d2, d3] => { results := [.lit (.bool false)], args := [d1, d2, d3] }
  | _ => none }
def NumberBytesWrongFalsely : Prop := numberBytesRow.holds Try.pinned (OpenSpec.ofChange numberBytesWrong)

/-- 'chicorylaw03.NumberCompares': WHATEVER THE INPUT: true; the input reads as it did. -/
def numberComparesSpec : ChangeSpec := { name := "numberCompares", fn := fun _ => fun
  | [d1, d2, d3] => { results := [.lit (.bool true)], args := [d1, d2, d3] }
  | _ => none }
def numberComparesRow : OpenClaim := { program := "ytmnokjapapheiaa", sum := "6537ea2c384c34f6b828e6d92a776903801ed528064e0038fae82c7219c32035", func := "chicory/chicorylaw03.NumberCompares", spec := "numberCompares", inPlace := ["math/bits.Add64", "math/bits.Sub64"], apart := false }
def NumberComparesSaid : Prop := numberComparesRow.holds Try.pinned (OpenSpec.ofChange numberComparesSpec)

/-- ITS FALSE NEIGHBOUR: 'it returns false'. Refute it at one input. -/
def numberComparesWrong : ChangeSpec := { name := "numberCompares", fn := fun _ => fun
  | [d1, d2, d3] => { results := [.lit (.bool false)], args := [d1, d2, d3] }
  | _ => none }
def NumberComparesWrongFalsely : Prop := numberComparesRow.holds Try.pinned (OpenSpec.ofChange numberComparesWrong)

/-- 'chicorylaw03.NumberSums': WHATEVER THE INPUT: true; the input reads as it did. -/
def numberSumsSpec : ChangeSpec := { name := "numberSums", fn := fun _ => fun
  | [d1, d2] => { results := [.lit (.bool true)], args := [d1, d2] }
  | _ => none }
def numberSumsRow : OpenClaim := { program := "ytmnokjapapheiaa", sum := "6537ea2c384c34f6b828e6d92a776903801ed528064e0038fae82c7219c32035", func := "chicory/chicorylaw03.NumberSums", spec := "numberSums", inPlace := ["math/bits.Add64", "math/bits.Sub64"], apart := false }
def NumberSumsSaid : Prop := numberSumsRow.holds Try.pinned (OpenSpec.ofChange numberSumsSpec)

/-- ITS FALSE NEIGHBOUR: 'it returns false'. Refute it at one input. -/
def numberSumsWrong : ChangeSpec := { name := "numberSums", fn := fun _ => fun
  | [d1, d2] => { results := [.lit (.bool false)], args := [d1, d2] }
  | _ => none }
def NumberSumsWrongFalsely : Prop := numberSumsRow.holds Try.pinned (OpenSpec.ofChange numberSumsWrong)

/-- 'chicorylaw03.NumberShifts': WHATEVER THE INPUT: true; the input reads as it did. -/
def numberShiftsSpec : ChangeSpec := { name := "numberShifts", fn := fun _ => fun
  | [d1, d2] => { results := [.lit (.bool true)], args := [d1, d2] }
  | _ => none }
def numberShiftsRow : OpenClaim := { program := "ytmnokjapapheiaa", sum := "6537ea2c384c34f6b828e6d92a776903801ed528064e0038fae82c7219c32035", func := "chicory/chicorylaw03.NumberShifts", spec := "numberShifts", inPlace := ["math/bits.Add64", "math/bits.Sub64"], apart := false }
def NumberShiftsSaid : Prop := numberShiftsRow.holds Try.pinned (OpenSpec.ofChange numberShiftsSpec)

/-- ITS FALSE NEIGHBOUR: 'it returns false'. Refute it at one input. -/
def numberShiftsWrong : ChangeSpec := { name := "numberShifts", fn := fun _ => fun
  | [d1, d2] => { results := [.lit (.bool false)], args := [d1, d2] }
  | _ => none }
def NumberShiftsWrongFalsely : Prop := numberShiftsRow.holds Try.pinned (OpenSpec.ofChange numberShiftsWrong)

/-- 'chicorylaw03.NumberDivides': WHATEVER THE INPUT: true; the input reads as it did. -/
def numberDividesSpec : ChangeSpec := { name := "numberDivides", fn := fun _ => fun
  | [d1, d2] => { results := [.lit (.bool true)], args := [d1, d2] }
  | _ => none }
def numberDividesRow : OpenClaim := { program := "ytmnokjapapheiaa", sum := "6537ea2c384c34f6b828e6d92a776903801ed528064e0038fae82c7219c32035", func := "chicory/chicorylaw03.NumberDivides", spec := "numberDivides", inPlace := ["math/bits.Add64", "math/bits.Sub64"], apart := false }
def NumberDividesSaid : Prop := numberDividesRow.holds Try.pinned (OpenSpec.ofChange numberDividesSpec)

/-- ITS FALSE NEIGHBOUR: 'it returns false'. Refute it at one input. -/
def numberDividesWrong : ChangeSpec := { name := "numberDivides", fn := fun _ => fun
  | [d1, d2] => { results := [.lit (.bool false)], args := [d1, d2] }
  | _ => none }
def NumberDividesWrongFalsely : Prop := numberDividesRow.holds Try.pinned (OpenSpec.ofChange numberDividesWrong)

/-- 'chicorylaw03.NumberWhole': WHATEVER THE INPUT: true; the input reads as it did. -/
def numberWholeSpec : ChangeSpec := { name := "numberWhole", fn := fun _ => fun
  | [d1, d2, d3] => { results := [.lit (.bool true)], args := [d1, d2, d3] }
  | _ => none }
def numberWholeRow : OpenClaim := { program := "ytmnokjapapheiaa", sum := "6537ea2c384c34f6b828e6d92a776903801ed528064e0038fae82c7219c32035", func := "chicory/chicorylaw03.NumberWhole", spec := "numberWhole", inPlace := ["math/bits.Add64", "math/bits.Sub64"], apart := false }
def NumberWholeSaid : Prop := numberWholeRow.holds Try.pinned (OpenSpec.ofChange numberWholeSpec)

/-- ITS FALSE NEIGHBOUR: 'it returns false'. Refute it at one input. -/
def numberWholeWrong : ChangeSpec := { name := "numberWhole", fn := fun _ => fun
  | [d1, d2, d3] => { results := [.lit (.bool false)], args := [d1, d2, d3] }
  | _ => none }
def NumberWholeWrongFalsely : Prop := numberWholeRow.holds Try.pinned (OpenSpec.ofChange numberWholeWrong)

/-- 'chicorylaw03.NumberOwn': WHATEVER THE INPUT: true; the input reads as it did. -/
def numberOwnSpec : ChangeSpec := { name := "numberOwn", fn := fun _ => fun
  | [d1, d2, d3] => { results := [.lit (.bool true)], args := [d1, d2, d3] }
  | _ => none }
def numberOwnRow : OpenClaim := { program := "ytmnokjapapheiaa", sum := "6537ea2c384c34f6b828e6d92a776903801ed528064e0038fae82c7219c32035", func := "chicory/chicorylaw03.NumberOwn", spec := "numberOwn", inPlace := ["math/bits.Add64", "math/bits.Sub64"], apart := false }
def NumberOwnSaid : Prop := numberOwnRow.holds Try.pinned (OpenSpec.ofChange numberOwnSpec)

/-- ITS FALSE NEIGHBOUR: 'it returns false'. Refute it at one input. -/
def numberOwnWrong : ChangeSpec := { name := "numberOwn", fn := fun _ => fun
  | [d1, d2, d3] => { results := [.lit (.bool false)], args := [d1, d2, d3] }
  | _ => none }
def NumberOwnWrongFalsely : Prop := numberOwnRow.holds Try.pinned (OpenSpec.ofChange numberOwnWrong)

/-- 'chicorylaw03.NumberBits': WHATEVER THE INPUT: true; the input reads as it did. -/
def numberBitsSpec : ChangeSpec := { name := "numberBits", fn := fun _ => fun
  | [d1, d2] => { results := [.lit (.bool true)], args := [d1, d2] }
  | _ => none }
def numberBitsRow : OpenClaim := { program := "ytmnokjapapheiaa", sum := "6537ea2c384c34f6b828e6d92a776903801ed528064e0038fae82c7219c32035", func := "chicory/chicorylaw03.NumberBits", spec := "numberBits", inPlace := ["math/bits.Add64", "math/bits.Sub64"], apart := false }
def NumberBitsSaid : Prop := numberBitsRow.holds Try.pinned (OpenSpec.ofChange numberBitsSpec)

/-- ITS FALSE NEIGHBOUR: 'it returns false'. Refute it at one input. -/
def numberBitsWrong : ChangeSpec := { name := "numberBits", fn := fun _ => fun
  | [d1, d2] => { results := [.lit (.bool false)], args := [d1, d2] }
  | _ => none }
def NumberBitsWrongFalsely : Prop := numberBitsRow.holds Try.pinned (OpenSpec.ofChange numberBitsWrong)

/-- 'chicorylaw03.NumberLeaves': WHATEVER THE INPUT: true; the input reads as it did. -/
def numberLeavesSpec : ChangeSpec := { name := "numberLeaves", fn := fun _ => fun
  | [d1, d2, d3] => { results := [.lit (.bool true)], args := [d1, d2, d3] }
  | _ => none }
def numberLeavesRow : OpenClaim := { program := "ytmnokjapapheiaa", sum := "6537ea2c384c34f6b828e6d92a776903801ed528064e0038fae82c7219c32035", func := "chicory/chicorylaw03.NumberLeaves", spec := "numberLeaves", inPlace := ["math/bits.Add64", "math/bits.Sub64"], apart := false }
def NumberLeavesSaid : Prop := numberLeavesRow.holds Try.pinned (OpenSpec.ofChange numberLeavesSpec)

/-- ITS FALSE NEIGHBOUR: 'it returns false'. Refute it at one input. -/
def numberLeavesWrong : ChangeSpec := { name := "numberLeaves", fn := fun _ => fun
  | [d1, d2, d3] => { results := [.lit (.bool false)], args := [d1, d2, d3] }
  | _ => none }
def NumberLeavesWrongFalsely : Prop := numberLeavesRow.holds Try.pinned (OpenSpec.ofChange numberLeavesWrong)

/- THE SECOND FORM. 'bulk': how many values and letters a reading holds, each counted each time it is reached (what is shared counts as often as it is met; a slice's spare places count too). A statement '..UptoSaid' is the law's where the arguments, and the package variables that the reading takes, are together of bulk at most 1048576: NARROWER than '..Said'. Prove '..Said' where nothing that the law and all that it calls make is longer than what came in: it says more and counts as full. Else prove '..UptoSaid'. A law counts once. -/
mutual
def uptoBulk {H : Type} : DataW H → Nat
  | .lit (.string bytes) => bytes.length + 1
  | .lit _ => 1
  | .nil => 1
  | .ptr d => uptoBulk d + 1
  | .slice elems spare => uptoBulkAll elems + uptoBulkAll spare + 1
  | .agg parts => uptoBulkAll parts + 1
  | .iface _ d => uptoBulk d + 1
  | .map entries => uptoBulkEntries entries + 1
  | .held _ => 1
def uptoBulkAll {H : Type} : List (DataW H) → Nat
  | [] => 0
  | d :: r => uptoBulk d + uptoBulkAll r
def uptoBulkEntries {H : Type} : List (Lit × DataW H) → Nat
  | [] => 0
  | x :: r => uptoBulkEntry x + uptoBulkEntries r
def uptoBulkEntry {H : Type} : Lit × DataW H → Nat
  | (.string bytes, d) => bytes.length + uptoBulk d + 1
  | (_, d) => uptoBulk d + 1
 end
def uptoSmall : (H : Type) → List (DataW H) → Bool := fun _ ds => decide (uptoBulkAll ds ≤ 1048576)
def OpenSpec.upto (s : _root_.Go.ChangeSpec) : _root_.Go.OpenSpec := { _root_.Go.OpenSpec.ofChange s with cond := some uptoSmall }

/-- 'chicorylaw03.NumberBytes', WHERE WHAT IT READS IS OF BULK AT MOST 1048576: true; the input reads as it did. -/
def numberBytesUptoRow : OpenClaim := { program := "ytmnokjapapheiaa", sum := "6537ea2c384c34f6b828e6d92a776903801ed528064e0038fae82c7219c32035", func := "chicory/chicorylaw03.NumberBytes", spec := "numberBytes", inPlace := ["math/bits.Add64", "math/bits.Sub64"], apart := false, narrowed := true }
def NumberBytesUptoSaid : Prop := numberBytesUptoRow.holds Try.pinned (OpenSpec.upto numberBytesSpec)

/-- 'chicorylaw03.NumberCompares', WHERE WHAT IT READS IS OF BULK AT MOST 1048576: true; the input reads as it did. -/
def numberComparesUptoRow : OpenClaim := { program := "ytmnokjapapheiaa", sum := "6537ea2c384c34f6b828e6d92a776903801ed528064e0038fae82c7219c32035", func := "chicory/chicorylaw03.NumberCompares", spec := "numberCompares", inPlace := ["math/bits.Add64", "math/bits.Sub64"], apart := false, narrowed := true }
def NumberComparesUptoSaid : Prop := numberComparesUptoRow.holds Try.pinned (OpenSpec.upto numberComparesSpec)

/-- 'chicorylaw03.NumberSums', WHERE WHAT IT READS IS OF BULK AT MOST 1048576: true; the input reads as it did. -/
def numberSumsUptoRow : OpenClaim := { program := "ytmnokjapapheiaa", sum := "6537ea2c384c34f6b828e6d92a776903801ed528064e0038fae82c7219c32035", func := "chicory/chicorylaw03.NumberSums", spec := "numberSums", inPlace := ["math/bits.Add64", "math/bits.Sub64"], apart := false, narrowed := true }
def NumberSumsUptoSaid : Prop := numberSumsUptoRow.holds Try.pinned (OpenSpec.upto numberSumsSpec)

/-- 'chicorylaw03.NumberShifts', WHERE WHAT IT READS IS OF BULK AT MOST 1048576: true; the input reads as it did. -/
def numberShiftsUptoRow : OpenClaim := { program := "ytmnokjapapheiaa", sum := "6537ea2c384c34f6b828e6d92a776903801ed528064e0038fae82c7219c32035", func := "chicory/chicorylaw03.NumberShifts", spec := "numberShifts", inPlace := ["math/bits.Add64", "math/bits.Sub64"], apart := false, narrowed := true }
def NumberShiftsUptoSaid : Prop := numberShiftsUptoRow.holds Try.pinned (OpenSpec.upto numberShiftsSpec)

/-- 'chicorylaw03.NumberDivides', WHERE WHAT IT READS IS OF BULK AT MOST 1048576: true; the input reads as it did. -/
def numberDividesUptoRow : OpenClaim := { program := "ytmnokjapapheiaa", sum := "6537ea2c384c34f6b828e6d92a776903801ed528064e0038fae82c7219c32035", func := "chicory/chicorylaw03.NumberDivides", spec := "numberDivides", inPlace := ["math/bits.Add64", "math/bits.Sub64"], apart := false, narrowed := true }
def NumberDividesUptoSaid : Prop := numberDividesUptoRow.holds Try.pinned (OpenSpec.upto numberDividesSpec)

/-- 'chicorylaw03.NumberWhole', WHERE WHAT IT READS IS OF BULK AT MOST 1048576: true; the input reads as it did. -/
def numberWholeUptoRow : OpenClaim := { program := "ytmnokjapapheiaa", sum := "6537ea2c384c34f6b828e6d92a776903801ed528064e0038fae82c7219c32035", func := "chicory/chicorylaw03.NumberWhole", spec := "numberWhole", inPlace := ["math/bits.Add64", "math/bits.Sub64"], apart := false, narrowed := true }
def NumberWholeUptoSaid : Prop := numberWholeUptoRow.holds Try.pinned (OpenSpec.upto numberWholeSpec)

/-- 'chicorylaw03.NumberOwn', WHERE WHAT IT READS IS OF BULK AT MOST 1048576: true; the input reads as it did. -/
def numberOwnUptoRow : OpenClaim := { program := "ytmnokjapapheiaa", sum := "6537ea2c384c34f6b828e6d92a776903801ed528064e0038fae82c7219c32035", func := "chicory/chicorylaw03.NumberOwn", spec := "numberOwn", inPlace := ["math/bits.Add64", "math/bits.Sub64"], apart := false, narrowed := true }
def NumberOwnUptoSaid : Prop := numberOwnUptoRow.holds Try.pinned (OpenSpec.upto numberOwnSpec)

/-- 'chicorylaw03.NumberBits', WHERE WHAT IT READS IS OF BULK AT MOST 1048576: true; the input reads as it did. -/
def numberBitsUptoRow : OpenClaim := { program := "ytmnokjapapheiaa", sum := "6537ea2c384c34f6b828e6d92a776903801ed528064e0038fae82c7219c32035", func := "chicory/chicorylaw03.NumberBits", spec := "numberBits", inPlace := ["math/bits.Add64", "math/bits.Sub64"], apart := false, narrowed := true }
def NumberBitsUptoSaid : Prop := numberBitsUptoRow.holds Try.pinned (OpenSpec.upto numberBitsSpec)

/-- 'chicorylaw03.NumberLeaves', WHERE WHAT IT READS IS OF BULK AT MOST 1048576: true; the input reads as it did. -/
def numberLeavesUptoRow : OpenClaim := { program := "ytmnokjapapheiaa", sum := "6537ea2c384c34f6b828e6d92a776903801ed528064e0038fae82c7219c32035", func := "chicory/chicorylaw03.NumberLeaves", spec := "numberLeaves", inPlace := ["math/bits.Add64", "math/bits.Sub64"], apart := false, narrowed := true }
def NumberLeavesUptoSaid : Prop := numberLeavesUptoRow.holds Try.pinned (OpenSpec.upto numberLeavesSpec)

end Rows
end Go.Proofs.Ytmnokjapapheiaa
