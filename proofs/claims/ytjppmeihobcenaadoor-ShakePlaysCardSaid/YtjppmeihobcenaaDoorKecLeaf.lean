/-
  Contracts of the small functions of keccak: at, shift, RotateLeft64.
-/
import Derived.Test.YtjppmeihobcenaaDoorChecked
import Derived.Test.YtjppmeihobcenaaDoorKecRows
import Derived.WalkKit
import Derived.Lib.Hide
namespace Go.Proofs.YtjppmeihobcenaaDoor
open Go.RowKit

theorem size24 : (Tryd.prog.info? 54).map (·.size) = some 25 := by kernel_rfl
theorem size23 : (Tryd.prog.info? 51).map (·.size) = some 25 := by kernel_rfl
theorem size45 : (Tryd.prog.info? 62).map (·.size) = some 5 := by kernel_rfl
theorem zero25 : A 25 (fun _ => 0) = #[.int .u64 0, .int .u64 0, .int .u64 0, .int .u64 0, .int .u64 0, .int .u64 0, .int .u64 0, .int .u64 0, .int .u64 0, .int .u64 0, .int .u64 0, .int .u64 0, .int .u64 0, .int .u64 0, .int .u64 0, .int .u64 0, .int .u64 0, .int .u64 0, .int .u64 0, .int .u64 0, .int .u64 0, .int .u64 0, .int .u64 0, .int .u64 0, .int .u64 0] := by unfold A; rfl
theorem zero5 : A 5 (fun _ => 0) = #[.int .u64 0, .int .u64 0, .int .u64 0, .int .u64 0, .int .u64 0] := by unfold A; rfl
theorem size22 : (Tryd.prog.info? 50).map (·.size) = some 1 := by kernel_rfl
theorem lanes24 : IsLanes Tryd.prog 54 25 := ⟨Tryd.underlying54, size24, fun w => by rw [zero25]; exact Tryd.zeroValue54 w, Tryd.underlying50, size22⟩
theorem lanes23 : IsLanes Tryd.prog 51 25 := ⟨Tryd.underlying51, size23, fun w => by rw [zero25]; exact Tryd.zeroValue51 w, Tryd.underlying50, size22⟩
theorem lanes45 : IsLanes Tryd.prog 62 5 := ⟨Tryd.underlying62, size45, fun w => by rw [zero5]; exact Tryd.zeroValue62 w, Tryd.underlying50, size22⟩

set_option maxHeartbeats 400000 in
theorem at_any (x y : Int) (w : World) (h0 : 0 ≤ x) (h1 : x ≤ 1000) (h2 : 0 ≤ y) (h3 : y ≤ 1000) :
    Calls Tryd.prog 41 #[.int .i64 x, .int .i64 y] w fun e w' => e = .returned (.int .i64 ((x.toNat % 5 + 5 * y.toNat : Nat) : Int)) ∧ w = w' := by
  obtain ⟨x, rfl⟩ := Int.eq_ofNat_of_zero_le h0
  obtain ⟨y, rfl⟩ := Int.eq_ofNat_of_zero_le h2
  go_enter Tryd.func41, Tryd.ntmps41
  go_wp2
  go_ret
  exact ⟨congrArg (fun n => Ending.returned (.int .i64 n)) (by show (x : Int) % 5 + 5 * (y : Int) = _; simp), rfl⟩

set_option maxHeartbeats 400000 in
theorem rot_any (a : BitVec 64) (k : Nat) (w : World) (hk : k < 64) :
    Calls Tryd.prog 40 #[V a, .int .i64 k] w fun e w' => e = .returned (V (rotl a k)) ∧ w = w' := by
  have h63 := and63 k hk
  have hL := L_bd a
  go_enter Tryd.func40, Tryd.ntmps40
  go_wp2
  go_ret
  exact ⟨congrArg (fun n => Ending.returned (.int .u64 n)) (rot_bv a k hk), rfl⟩
end Go.Proofs.YtjppmeihobcenaaDoor
