/-
  The contract of the laws' 'awake': the chapter's example holds.
-/
import Derived.Test.YtnjnmffjkcfdfaaDoorKecMath
import Derived.Test.YtnjnmffjkcfdfaaDoorKecEq
namespace Go.Proofs.YtnjnmffjkcfdfaaDoor
open Go.RowKit

theorem guard24 : Tryd.prog.eqGuardType Tryd.prog.depth 24 = false := by kernel_rfl
theorem awake_val : (L (permF (fun _ => 0) 0) == 17376452488221285863) = true := by rw [perm_zero]; rfl
/-- '==' of two states, as the walk asks it. -/
theorem eq24 (f g : Nat → BitVec 64) (w : World) : (Op.equalIn 10000 24 (.agg (A 25 f)) (.agg (A 25 g))).run Tryd.prog w = .ok (eqB 25 f g) w := run_equal_lanes lanes24 9998 f g w

set_option maxHeartbeats 800000 in
theorem awake_any (w : World) (hT : Tabs w) :
    Calls Tryd.prog 10 #[] w fun e w' => e = .returned (.bool true) ∧ Below w.heap.size w w' := by
  have HT := Lib.hid hT
  clear hT
  go_enter Tryd.func10, Tryd.ntmps10
  go_wp2_with (first
    | ((with_reducible apply lay_alloc lanes24); (case hgd => exact rfl); (case ho => exact rfl); intro _ _; go_simp))
  rw [← zero25]
  refine (perm_any _ _ HT.out).mono ?_
  rintro e w1 ⟨rfl, hb⟩
  have HB := Lib.hid hb
  clear hb
  go_wp2_with (first
    | ((with_reducible apply lay_alloc lanes24); (case hgd => exact rfl); (case ho => exact rfl); intro _ _; go_simp)
    | ((with_reducible apply lay_store lanes24); (case hgd => exact rfl); (case ho => exact rfl); (case hx => exact rfl); (case hy => exact rfl); (case hg => exact row1 _ _); intro _ _; go_simp))
  go_ret
  exact ⟨congrArg (fun b => Ending.returned (.bool b)) awake_val, HB.out.alloc HB.out.size _⟩
end Go.Proofs.YtnjnmffjkcfdfaaDoor
