/-
  The contract of keccak.spread.
-/
import Derived.Test.YtjppmeihobcenaaDoorKecLeaf
import Derived.Test.YtjppmeihobcenaaDoorKecRows
import Derived.Handy
namespace Go.Proofs.YtjppmeihobcenaaDoor
open Go.RowKit

/-- What the closure tells: the sum of column x, turned by k. -/
def colAt (s : Nat → BitVec 64) (x k : Int) : BitVec 64 := rotl (s (x.toNat % 5)) k.toNat

set_option maxHeartbeats 400000 in
theorem column_any (x k : Int) (b : Nat) (s : Nat → BitVec 64) (w : World) (h0 : 0 ≤ x) (h1 : x ≤ 1000) (k0 : 0 ≤ k) (k1 : k < 64) (hb : w.heap[b]? = some (.cells (A 5 s) 62)) :
    Calls Tryd.prog 39 #[.int .i64 x, .int .i64 k, .pointer (some ⟨b, 0, none⟩)] w fun e w' => e = .returned (V (colAt s x k)) ∧ w = w' := by
  obtain ⟨x, rfl⟩ := Int.eq_ofNat_of_zero_le h0
  obtain ⟨k, rfl⟩ := Int.eq_ofNat_of_zero_le k0
  have hc : w.cell? ⟨b, x % 5, none⟩ = some (V (s (x % 5))) := by
    rw [cell_of_row _ _ _ _ _ _ hb, A_get _ _ _ (by omega)]
  go_enter Tryd.func39, Tryd.ntmps39
  go_wp2_with (go_at_call 40; refine (rot_any _ _ _ (by omega)).mono ?_; rintro e w' ⟨rfl, rfl⟩)
  go_ret
  exact ⟨rfl, rfl⟩

/-- The sums of columns when i lanes are taken. -/
def sumsTo (f : Nat → BitVec 64) : Nat → Nat → BitVec 64
  | 0 => fun _ => 0
  | i + 1 => upd (sumsTo f i) (i % 5) (sumsTo f i (i % 5) ^^^ f i)

/-- What is laid on the lanes of column x. -/
def colD (f : Nat → BitVec 64) (x : Nat) : BitVec 64 := colAt (sumsTo f 25) ((x : Int) + 5 - 1) 0 ^^^ colAt (sumsTo f 25) ((x : Int) + 1) 1
/-- Column x when y lanes of it are done. -/
def colTo (g : Nat → BitVec 64) (x : Nat) (d : BitVec 64) : Nat → Nat → BitVec 64
  | 0 => g
  | y + 1 => upd (colTo g x d y) (x % 5 + 5 * y) (colTo g x d y (x % 5 + 5 * y) ^^^ d)
/-- The lanes when x columns are done. -/
def spreadTo (f : Nat → BitVec 64) : Nat → Nat → BitVec 64
  | 0 => f
  | x + 1 => colTo (spreadTo f x) x (colD f x) 5
def spreadF (f : Nat → BitVec 64) : Nat → BitVec 64 := spreadTo f 5

set_option maxHeartbeats 800000 in
theorem spread_any (f : Nat → BitVec 64) (w : World) :
    Calls Tryd.prog 35 #[.agg (A 25 f)] w fun e w' => e = .returned (.agg (A 25 (spreadF f))) ∧ Below w.heap.size w w' := by
  go_enter Tryd.func35, Tryd.ntmps35
  go_wp2_with (first
    | ((with_reducible apply lay_alloc lanes24); (case hgd => exact rfl); (case ho => exact rfl); intro _ _; go_simp)
    | ((with_reducible apply lay_alloc lanes45); (case hgd => exact rfl); (case ho => exact rfl); intro _ _; go_simp)
    | ((with_reducible apply lay_load lanes24); (case hgd => exact rfl); (case ho => exact rfl); (case hx => exact rfl); (case hg => exact row3a _ _ _ _); intro _ _; go_simp))
  go_loopw [11] (fun v wr => ∃ i : Nat, i ≤ 25 ∧ v = .int .i64 i ∧ wr = (((w.alloc (.cells (A 25 f) 54)).alloc (.cells (A 25 fun _ => 0) 54)).alloc (.cells (A 5 (sumsTo f i)) 62))) (fun v _ => 25 - (intOf v).toNat)
  case atStart => exact ⟨0, by omega, rfl, rfl⟩
  case round =>
    obtain ⟨i, hi, rfl, rfl⟩ := hrel
    by_cases hlt : i < 25
    · have hm : i % 5 < 5 := by omega
      go_wp2_with ((with_reducible apply lay_index lanes24); (case hgd => exact rfl); (case ho => exact rfl); (case hx => exact rfl); (case hy => exact rfl); (case hi => assumption); intro _ _; go_simp)
      go_roundw
      case rel => exact ⟨i + 1, by omega, by go_num, rfl⟩
      case measure => simp [intOf]; omega
    · obtain rfl : i = 25 := by omega
      clear hlt hi
      rw [show ((25 : Nat) : Int) = 25 from rfl]
      go_wp2_with fail
      go_loopw [24] (fun v wr => ∃ x : Nat, x ≤ 5 ∧ v = .int .i64 x ∧ wr = (((w.alloc (.cells (A 25 (spreadTo f x)) 54)).alloc (.cells (A 25 fun _ => 0) 54)).alloc (.cells (A 5 (sumsTo f 25)) 62))) (fun v _ => 5 - (intOf v).toNat)
      case atStart => exact ⟨0, by omega, rfl, rfl⟩
      case round =>
        obtain ⟨x, hx, rfl, rfl⟩ := hrel
        by_cases hlt : x < 5
        · go_wp2_with (go_at_call 39; refine (column_any _ _ _ _ _ (by omega) (by omega) (by omega) (by omega) (row3c _ _ _ _)).mono ?_; rintro e w' ⟨rfl, rfl⟩)
          go_loopw [37] (fun v wr => ∃ y : Nat, y ≤ 5 ∧ v = .int .i64 y ∧ wr = (((w.alloc (.cells (A 25 (colTo (spreadTo f x) x (colD f x) y)) 54)).alloc (.cells (A 25 fun _ => 0) 54)).alloc (.cells (A 5 (sumsTo f 25)) 62))) (fun v _ => 5 - (intOf v).toNat)
          case atStart => exact ⟨0, by omega, rfl, rfl⟩
          case round =>
            obtain ⟨y, hy, rfl, rfl⟩ := hrel
            by_cases hly : y < 5
            · have hb : x % 5 + 5 * y < 25 := by omega
              go_wp2_with (go_at_call 41; refine (at_any _ _ _ (by omega) (by omega) (by omega) (by omega)).mono ?_; rintro e w' ⟨rfl, rfl⟩)
              go_roundw
              case rel => exact ⟨y + 1, by omega, by go_num, rfl⟩
              case measure => simp [intOf]; omega
            · obtain rfl : y = 5 := by omega
              clear hly hy
              rw [show ((5 : Nat) : Int) = 5 from rfl]
              go_wp2_with fail
              go_roundw
              case rel => exact ⟨x + 1, by omega, by go_num, rfl⟩
              case measure => simp [intOf]; omega
        · obtain rfl : x = 5 := by omega
          clear hlt hx
          rw [show ((5 : Nat) : Int) = 5 from rfl]
          go_wp2_with (first
            | ((with_reducible apply lay_load lanes24); (case hgd => exact rfl); (case ho => exact rfl); (case hx => exact rfl); (case hg => exact row3a _ _ _ _); intro _ _; go_simp)
            | ((with_reducible apply lay_store lanes24); (case hgd => exact rfl); (case ho => exact rfl); (case hx => exact rfl); (case hy => exact rfl); (case hg => exact row3b _ _ _ _); intro _ _; go_simp))
          refine bodyPost_ret (lanes_result lanes24 Tryd.results35 _ _ _ rfl (row3b _ _ _ _)) rfl ⟨rfl, ?_⟩
          go_grown
end Go.Proofs.YtjppmeihobcenaaDoor
