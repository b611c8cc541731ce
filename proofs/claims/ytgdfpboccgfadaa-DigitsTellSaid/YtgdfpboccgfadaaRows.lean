/-
  No cell of these rows narrows 'for every input' (looked for: loops, veiled, ifaces, maps, wideKeys, modest, calm, conditions, laid).
  DERIVED. THE GIVEN ROWS OF THIS SEAT. 5 by the template 'for every input the law returns true; each argument reads behind the call as it read before'; 0 by the template 'total and deterministic' (their statements: YtgdfpboccgfadaaTotals.lean).
  GIVEN WITH THE SEED: the statements are not yours to turn. If you find one false, say at which input.
  Laid BY PROGRAM, IN A SANDBOX (cutbox-rows.mjs): the forced cells as the released guide's own fill.sh prints them over the translation 4e5cc16299f0062e… (all of the seat's roots in one cut). By AI agents, Wed Nov 11 2026. No macro, syntax, notation, axiom, sorry.
-/
import Derived.Test.YtgdfpboccgfadaaChecked
import GoSem.Claim
import GoSem.ClaimJoined
import GoSem.ClaimMapViews
import Derived.JoinedTies
import Derived.KernelRfl
namespace Go.Proofs.Ytgdfpboccgfadaa
/- THE CELL 'sum', in the pinned program and in every row, IS THE sha256 OF THE DUMP (.gsa) THAT YtgdfpboccgfadaaProg.lean LOADS. Nothing in Lean hashes anything: it is a label: what it is worth is what the hold of that sum in a sandbox is worth. -/
noncomputable def Try.pinned : Pinned := { name := "ytgdfpboccgfadaa", sum := "4e5cc16299f0062e44f8ae9b6c0039fc292df4f3428fe95ea5dcbac1ea849a84", checked := Try.checked }
namespace Rows
def none {H : Type} : Left H := { results := [], args := [] }

/-- 'chicorylaw07.DigitsTell': WHATEVER THE INPUT: true; the input reads as it did. -/
def digitsTellSpec : ChangeSpec := { name := "digitsTell", fn := fun _ => fun
  | [d1, d2] => { results := [.lit (.bool true)], args := [d1, d2] }
  | _ => none }
def digitsTellRow : OpenClaim := { program := "ytgdfpboccgfadaa", sum := "4e5cc16299f0062e44f8ae9b6c0039fc292df4f3428fe95ea5dcbac1ea849a84", func := "chicory/chicorylaw07.DigitsTell", spec := "digitsTell", unfollowed := true, recurses := true, apart := false }
def DigitsTellSaid : Prop := digitsTellRow.holds Try.pinned (OpenSpec.ofChange digitsTellSpec)

/-- ITS FALSE NEIGHBOUR: 'it returns false'. Refute it at one input. -/
def digitsTellWrong : ChangeSpec := { name := "digitsTell", fn := fun _ => fun
  | [d1, d2] => { results := [.lit (.bool false)], args := [d1, d2] }
  | _ => none }
def DigitsTellWrongFalsely : Prop := digitsTellRow.holds Try.pinned (OpenSpec.ofChange digitsTellWrong)

/-- 'chicorylaw07.DigitsSum': WHATEVER THE INPUT: true; the input reads as it did. -/
def digitsSumSpec : ChangeSpec := { name := "digitsSum", fn := fun _ => fun
  | [d1, d2] => { results := [.lit (.bool true)], args := [d1, d2] }
  | _ => none }
def digitsSumRow : OpenClaim := { program := "ytgdfpboccgfadaa", sum := "4e5cc16299f0062e44f8ae9b6c0039fc292df4f3428fe95ea5dcbac1ea849a84", func := "chicory/chicorylaw07.DigitsSum", spec := "digitsSum", inPlace := ["math/bits.Add64"], unfollowed := true, recurses := true, apart := false }
def DigitsSumSaid : Prop := digitsSumRow.holds Try.pinned (OpenSpec.ofChange digitsSumSpec)

/-- ITS FALSE NEIGHBOUR: 'it returns false'. Refute it at one input. -/
def digitsSumWrong : ChangeSpec := { name := "digitsSum", fn := fun _ => fun
  | [d1, d2] => { results := [.lit (.bool false)], args := [d1, d2] }
  | _ => none }
def DigitsSumWrongFalsely : Prop := digitsSumRow.holds Try.pinned (OpenSpec.ofChange digitsSumWrong)

/-- 'chicorylaw07.DigitsNaf': WHATEVER THE INPUT: true; the input reads as it did. -/
def digitsNafSpec : ChangeSpec := { name := "digitsNaf", fn := fun _ => fun
  | [d1, d2] => { results := [.lit (.bool true)], args := [d1, d2] }
  | _ => none }
def digitsNafRow : OpenClaim := { program := "ytgdfpboccgfadaa", sum := "4e5cc16299f0062e44f8ae9b6c0039fc292df4f3428fe95ea5dcbac1ea849a84", func := "chicory/chicorylaw07.DigitsNaf", spec := "digitsNaf", inPlace := ["math/bits.Add64"], unfollowed := true, recurses := true, apart := false }
def DigitsNafSaid : Prop := digitsNafRow.holds Try.pinned (OpenSpec.ofChange digitsNafSpec)

/-- ITS FALSE NEIGHBOUR: 'it returns false'. Refute it at one input. -/
def digitsNafWrong : ChangeSpec := { name := "digitsNaf", fn := fun _ => fun
  | [d1, d2] => { results := [.lit (.bool false)], args := [d1, d2] }
  | _ => none }
def DigitsNafWrongFalsely : Prop := digitsNafRow.holds Try.pinned (OpenSpec.ofChange digitsNafWrong)

/-- 'chicorylaw07.DigitsColumns': WHATEVER THE INPUT: true; the input reads as it did. -/
def digitsColumnsSpec : ChangeSpec := { name := "digitsColumns", fn := fun _ => fun
  | [d1, d2] => { results := [.lit (.bool true)], args := [d1, d2] }
  | _ => none }
def digitsColumnsRow : OpenClaim := { program := "ytgdfpboccgfadaa", sum := "4e5cc16299f0062e44f8ae9b6c0039fc292df4f3428fe95ea5dcbac1ea849a84", func := "chicory/chicorylaw07.DigitsColumns", spec := "digitsColumns", unfollowed := true, recurses := true, apart := false }
def DigitsColumnsSaid : Prop := digitsColumnsRow.holds Try.pinned (OpenSpec.ofChange digitsColumnsSpec)

/-- ITS FALSE NEIGHBOUR: 'it returns false'. Refute it at one input. -/
def digitsColumnsWrong : ChangeSpec := { name := "digitsColumns", fn := fun _ => fun
  | [d1, d2] => { results := [.lit (.bool false)], args := [d1, d2] }
  | _ => none }
def DigitsColumnsWrongFalsely : Prop := digitsColumnsRow.holds Try.pinned (OpenSpec.ofChange digitsColumnsWrong)

/-- 'chicorylaw07.DigitsBytes': WHATEVER THE INPUT: true; the input reads as it did. -/
def digitsBytesSpec : ChangeSpec := { name := "digitsBytes", fn := fun _ => fun
  | [d] => { results := [.lit (.bool true)], args := [d] }
  | _ => none }
def digitsBytesRow : OpenClaim := { program := "ytgdfpboccgfadaa", sum := "4e5cc16299f0062e44f8ae9b6c0039fc292df4f3428fe95ea5dcbac1ea849a84", func := "chicory/chicorylaw07.DigitsBytes", spec := "digitsBytes", unfollowed := true, recurses := true, apart := false }
def DigitsBytesSaid : Prop := digitsBytesRow.holds Try.pinned (OpenSpec.ofChange digitsBytesSpec)

/-- ITS FALSE NEIGHBOUR: 'it returns false'. Refute it at one input. -/
def digitsBytesWrong : ChangeSpec := { name := "digitsBytes", fn := fun _ => fun
  | [d] => { results := [.lit (.bool false)], args := [d] }
  | _ => none }
def DigitsBytesWrongFalsely : Prop := digitsBytesRow.holds Try.pinned (OpenSpec.ofChange digitsBytesWrong)

/- THE SECOND FORM. 'bulk': how many values and letters a reading holds, each counted each time it is reached (what is shared counts as often as it is met; a slice's spare places count too). A statement '..UptoSaid' is the law's where the arguments, and the package variables that the reading takes, are together of bulk at most 1048576: NARROWER than '..Said'. Prove '..Said' where nothing that the law and all that it calls make is longer than what came in: it says more and counts as full. Else prove '..UptoSaid'. A law counts once. -/
mutual
def uptoBulk {H : Type} : DataW H → Nat
  | .lit (.string bytes) => bytes.length + 1
  | .lit _ => 1
  | .nil => 1
  | .ptr d => uptoBulk d + 1
  | .slice elems spare => uptoBulkAll elems + uptoBulkAll spare + 1
  | .agg parts => uptoBulkAll parts + 1
  | .iface _ d => uptoBulk d + 1
  | .map entries => uptoBulkEntries entries + 1
  | .held _ => 1
def uptoBulkAll {H : Type} : List (DataW H) → Nat
  | [] => 0
  | d :: r => uptoBulk d + uptoBulkAll r
def uptoBulkEntries {H : Type} : List (Lit × DataW H) → Nat
  | [] => 0
  | x :: r => uptoBulkEntry x + uptoBulkEntries r
def uptoBulkEntry {H : Type} : Lit × DataW H → Nat
  | (.string bytes, d) => bytes.length + uptoBulk d + 1
  | (_, d) => uptoBulk d + 1
 end
def uptoSmall : (H : Type) → List (DataW H) → Bool := fun _ ds => decide (uptoBulkAll ds ≤ 1048576)
def OpenSpec.upto (s : _root_.Go.ChangeSpec) : _root_.Go.OpenSpec := { _root_.Go.OpenSpec.ofChange s with cond := some uptoSmall }

/-- 'chicorylaw07.DigitsTell', WHERE WHAT IT READS IS OF BULK AT MOST 1048576: true; the input reads as it did. -/
def digitsTellUptoRow : OpenClaim := { program := "ytgdfpboccgfadaa", sum := "4e5cc16299f0062e44f8ae9b6c0039fc292df4f3428fe95ea5dcbac1ea849a84", func := "chicory/chicorylaw07.DigitsTell", spec := "digitsTell", unfollowed := true, recurses := true, apart := false, narrowed := true }
def DigitsTellUptoSaid : Prop := digitsTellUptoRow.holds Try.pinned (OpenSpec.upto digitsTellSpec)

/-- 'chicorylaw07.DigitsSum', WHERE WHAT IT READS IS OF BULK AT MOST 1048576: true; the input reads as it did. -/
def digitsSumUptoRow : OpenClaim := { program := "ytgdfpboccgfadaa", sum := "4e5cc16299f0062e44f8ae9b6c0039fc292df4f3428fe95ea5dcbac1ea849a84", func := "chicory/chicorylaw07.DigitsSum", spec := "digitsSum", inPlace := ["math/bits.Add64"], unfollowed := true, recurses := true, apart := false, narrowed := true }
def DigitsSumUptoSaid : Prop := digitsSumUptoRow.holds Try.pinned (OpenSpec.upto digitsSumSpec)

/-- 'chicorylaw07.DigitsNaf', WHERE WHAT IT READS IS OF BULK AT MOST 1048576: true; the input reads as it did. -/
def digitsNafUptoRow : OpenClaim := { program := "ytgdfpboccgfadaa", sum := "4e5cc16299f0062e44f8ae9b6c0039fc292df4f3428fe95ea5dcbac1ea849a84", func := "chicory/chicorylaw07.DigitsNaf", spec := "digitsNaf", inPlace := ["math/bits.Add64"], unfollowed := true, recurses := true, apart := false, narrowed := true }
def DigitsNafUptoSaid : Prop := digitsNafUptoRow.holds Try.pinned (OpenSpec.upto digitsNafSpec)

/-- 'chicorylaw07.DigitsColumns', WHERE WHAT IT READS IS OF BULK AT MOST 1048576: true; the input reads as it did. -/
def digitsColumnsUptoRow : OpenClaim := { program := "ytgdfpboccgfadaa", sum := "4e5cc16299f0062e44f8ae9b6c0039fc292df4f3428fe95ea5dcbac1ea849a84", func := "chicory/chicorylaw07.DigitsColumns", spec := "digitsColumns", unfollowed := true, recurses := true, apart := false, narrowed := true }
def DigitsColumnsUptoSaid : Prop := digitsColumnsUptoRow.holds Try.pinned (OpenSpec.upto digitsColumnsSpec)

/-- 'chicorylaw07.DigitsBytes', WHERE WHAT IT READS IS OF BULK AT MOST 1048576: true; the input reads as it did. -/
def digitsBytesUptoRow : OpenClaim := { program := "ytgdfpboccgfadaa", sum := "4e5cc16299f0062e44f8ae9b6c0039fc292df4f3428fe95ea5dcbac1ea849a84", func := "chicory/chicorylaw07.DigitsBytes", spec := "digitsBytes", unfollowed := true, recurses := true, apart := false, narrowed := true }
def DigitsBytesUptoSaid : Prop := digitsBytesUptoRow.holds Try.pinned (OpenSpec.upto digitsBytesSpec)

end Rows
end Go.Proofs.Ytgdfpboccgfadaa
