/-
  The contract of keccak.turn.
-/
import Derived.Test.YtjppmeihobcenaaDoorKecLeaf
import Derived.StillTailTactics
import Derived.Handy
namespace Go.Proofs.YtjppmeihobcenaaDoor
open Go.RowKit

/-- The table of offsets. -/
def offs (i : Nat) : Nat := [0, 1, 62, 28, 27, 36, 44, 6, 55, 20, 3, 10, 43, 25, 39, 41, 45, 15, 21, 8, 18, 2, 61, 56, 14].getD i 0
/-- The rounds' constants. -/
def rcs (r : Nat) : BitVec 64 := ([1, 32898, 9223372036854808714, 9223372039002292224, 32907, 2147483649, 9223372039002292353, 9223372036854808585, 138, 136, 2147516425, 2147483658, 2147516555, 9223372036854775947, 9223372036854808713, 9223372036854808579, 9223372036854808578, 9223372036854775936, 32778, 9223372039002259466, 9223372039002292353, 9223372036854808704, 2147483649, 9223372039002292232] : List (BitVec 64)).getD r 0
theorem offs_lt : ∀ i, i < 25 → offs i < 64 := by decide
/-- What the program's two tables hold. -/
structure Tabs (w : World) : Prop where
  con : ∀ r, r < 24 → w.cell? ⟨0, r, none⟩ = some (V (rcs r))
  off : ∀ i, i < 25 → w.cell? ⟨1, i, none⟩ = some (.int .i64 (offs i : Int))
theorem Tabs.size {w : World} (h : Tabs w) : 2 ≤ w.heap.size := by
  have h1 := block_lt_of_cell (h.con 0 (by omega))
  have h2 := block_lt_of_cell (h.off 0 (by omega))
  simp at h1 h2
  omega
theorem Tabs.below {w w' : World} (h : Tabs w) (hb : Below w.heap.size w w') : Tabs w' := by
  have hs := h.size
  exact ⟨fun r hr => (hb.cell (p := ⟨_, r, none⟩) (by show 0 < w.heap.size; omega)).trans (h.con r hr), fun i hi => (hb.cell (p := ⟨_, i, none⟩) (by show 1 < w.heap.size; omega)).trans (h.off i hi)⟩

/-- Three blocks of lanes behind w. -/
structure Tri (w wr : World) (n1 n2 n3 : Nat) (t1 t2 t3 : TypeId) (f1 f2 f3 : Nat → BitVec 64) : Prop where
  bel : Below w.heap.size w wr
  r1 : wr.heap[w.heap.size]? = some (.cells (A n1 f1) t1)
  r2 : wr.heap[w.heap.size + 1]? = some (.cells (A n2 f2) t2)
  r3 : wr.heap[w.heap.size + 1 + 1]? = some (.cells (A n3 f3) t3)
theorem Tri.start (w : World) (n1 n2 n3 : Nat) (t1 t2 t3 : TypeId) (f1 f2 f3 : Nat → BitVec 64) : Tri w (((w.alloc (.cells (A n1 f1) t1)).alloc (.cells (A n2 f2) t2)).alloc (.cells (A n3 f3) t3)) n1 n2 n3 t1 t2 t3 f1 f2 f3 :=
  ⟨by go_grown, row3a _ _ _ _, row3b _ _ _ _, row3c _ _ _ _⟩
section
variable {w wr : World} {n1 n2 n3 : Nat} {t1 t2 t3 : TypeId} {f1 f2 f3 : Nat → BitVec 64}
theorem Tri.drew (h : Tri w wr n1 n2 n3 t1 t2 t3 f1 f2 f3) : Tri w wr.drew n1 n2 n3 t1 t2 t3 f1 f2 f3 := ⟨h.bel.drew, h.r1, h.r2, h.r3⟩
theorem Tri.c1 (h : Tri w wr n1 n2 n3 t1 t2 t3 f1 f2 f3) (i : Nat) (hi : i < n1) : wr.cell? ⟨w.heap.size, i, none⟩ = some (V (f1 i)) := by rw [cell_of_row _ _ _ _ _ _ h.r1, A_get _ _ _ hi]
theorem Tri.c2 (h : Tri w wr n1 n2 n3 t1 t2 t3 f1 f2 f3) (i : Nat) (hi : i < n2) : wr.cell? ⟨w.heap.size + 1, i, none⟩ = some (V (f2 i)) := by rw [cell_of_row _ _ _ _ _ _ h.r2, A_get _ _ _ hi]
theorem Tri.c3 (h : Tri w wr n1 n2 n3 t1 t2 t3 f1 f2 f3) (i : Nat) (hi : i < n3) : wr.cell? ⟨w.heap.size + 1 + 1, i, none⟩ = some (V (f3 i)) := by rw [cell_of_row _ _ _ _ _ _ h.r3, A_get _ _ _ hi]
theorem Tri.z3 (h : Tri w wr n1 n2 n3 t1 t2 t3 f1 f2 f3) (i : Nat) : wr.frozen? ⟨w.heap.size + 1 + 1, i, none⟩ = false := frozen_of_row _ _ _ _ _ h.r3
theorem Tri.set3 (h : Tri w wr n1 n2 n3 t1 t2 t3 f1 f2 f3) (i : Nat) (v : BitVec 64) : Tri w (wr.setCell ⟨w.heap.size + 1 + 1, i, none⟩ (V v)) n1 n2 n3 t1 t2 t3 f1 f2 (upd f3 i v) :=
  ⟨h.bel.setCell (by show w.heap.size ≤ w.heap.size + 1 + 1; omega) _,
   by rw [heap_setCell_other _ _ _ _ (by show w.heap.size ≠ w.heap.size + 1 + 1; omega)]; exact h.r1,
   by rw [heap_setCell_other _ _ _ _ (by show w.heap.size + 1 ≠ w.heap.size + 1 + 1; omega)]; exact h.r2,
   by rw [heap_setCell_same _ _ _ _ _ _ h.r3, A_set]⟩
theorem Tri.row2 (h : Tri w wr n1 n2 n3 t1 t2 t3 f1 f2 f3) (f : Nat → BitVec 64) : (wr.setRow (w.heap.size + 1) (A n2 f)).heap[w.heap.size + 1]? = some (.cells (A n2 f) t2) := setRow_heap _ _ _ _ _ _ h.r2
theorem Tri.bel2 (h : Tri w wr n1 n2 n3 t1 t2 t3 f1 f2 f3) (c : Array Value) : Below w.heap.size w (wr.setRow (w.heap.size + 1) c) :=
  ⟨h.bel.os, h.bel.tape, h.bel.output, by simpa using h.bel.size, fun k hk => (setRow_other _ _ _ _ (by omega)).trans (h.bel.block k hk)⟩
end

/-- Row y when x lanes of it are turned. -/
def rowTo (f g : Nat → BitVec 64) (y : Nat) : Nat → Nat → BitVec 64
  | 0 => g
  | x + 1 => upd (rowTo f g y x) (y % 5 + 5 * ((2 * x + 3 * y) % 5)) (rotl (f (x % 5 + 5 * y)) (offs (x % 5 + 5 * y)))
def turnTo (f : Nat → BitVec 64) : Nat → Nat → BitVec 64
  | 0 => fun _ => 0
  | y + 1 => rowTo f (turnTo f y) y 5
def turnF (f : Nat → BitVec 64) : Nat → BitVec 64 := turnTo f 5

theorem at_is (x y p : Nat) (w : World) (h1 : x ≤ 1000) (h3 : y ≤ 1000) (hp : x % 5 + 5 * y = p) :
    Calls Tryd.prog 41 #[.int .i64 x, .int .i64 y] w fun e w' => e = .returned (.int .i64 (p : Int)) ∧ w' = w := by
  subst hp
  exact (at_any x y w (by omega) (by omega) (by omega) (by omega)).mono fun _ _ ⟨h1, h2⟩ => ⟨h1, h2.symm⟩
theorem rot_still (a : BitVec 64) (k : Nat) (w : World) (hk : k < 64) :
    Calls Tryd.prog 40 #[V a, .int .i64 k] w fun e w' => e = .returned (V (rotl a k)) ∧ w' = w :=
  (rot_any a k w hk).mono fun _ _ ⟨h1, h2⟩ => ⟨h1, h2.symm⟩

set_option maxHeartbeats 800000 in
theorem turn_any (f : Nat → BitVec 64) (w : World) (hT : Tabs w) :
    Calls Tryd.prog 36 #[.agg (A 25 f)] w fun e w' => e = .returned (.agg (A 25 (turnF f))) ∧ Below w.heap.size w w' := by
  have HT := Lib.hid hT
  clear hT
  go_enter Tryd.func36, Tryd.ntmps36
  go_wp2_with ((with_reducible apply lay_alloc lanes24); (case hgd => exact rfl); (case ho => exact rfl); intro _ _; go_simp)
  go_loopw [6] (fun v wr => ∃ y : Nat, y ≤ 5 ∧ v = .int .i64 y ∧ Tri w wr 25 25 25 54 54 54 f (fun _ => 0) (turnTo f y)) (fun v _ => 5 - (intOf v).toNat)
  case atStart => exact ⟨0, by omega, rfl, Tri.start _ _ _ _ _ _ _ _ _ _⟩
  case round =>
    obtain ⟨y, hy, rfl, HR⟩ := hrel
    by_cases hly : y < 5
    · have hyd : decide ((y : Int) < 5) = true := by simp; omega
      go_wp2_with fail
      go_loopw [9] (fun v wr => ∃ x : Nat, x ≤ 5 ∧ v = .int .i64 x ∧ Tri w wr 25 25 25 54 54 54 f (fun _ => 0) (rowTo f (turnTo f y) y x)) (fun v _ => 5 - (intOf v).toNat)
      case atStart => exact ⟨0, by omega, rfl, HR⟩
      case round =>
        clear HR
        obtain ⟨x, hx, rfl, HR⟩ := hrel
        by_cases hlx : x < 5
        · go_wp2_with fail
          refine wp_region_still_tail 19 (by kernel_rfl) (by kernel_rfl) ?_
          change wpStill _ _ wr.drew (fun a' => wpList _ _ _ _ a' wr.drew) _ _
          have HD := Lib.hid HR.drew
          clear HR
          generalize wr.drew = w2 at *
          obtain ⟨p, hp⟩ : ∃ p, x % 5 + 5 * y = p := ⟨_, rfl⟩
          obtain ⟨r, hr⟩ : ∃ r, (2 * x + 3 * y) % 5 = r := ⟨_, rfl⟩
          obtain ⟨q, hq⟩ : ∃ q, y % 5 + 5 * r = q := ⟨_, rfl⟩
          have p25 : p < 25 := by omega
          have q25 : q < 25 := by omega
          have r5 : r < 5 := by omega
          have p25' : (p : Int) < 25 := by omega
          have q25' : (q : Int) < 25 := by omega
          have hc := HD.out.c1 p p25
          have ht := (HT.out.below HD.out.bel).off p p25
          have hd := HD.out.c3 q q25
          have hz := HD.out.z3 q
          have hk := offs_lt p p25
          have e1 : IntKind.i64.wrap (2 * (x : Int)) = 2 * (x : Int) := IntWalk.i64_in _ (by omega)
          have e2 : IntKind.i64.wrap (3 * (y : Int)) = 3 * (y : Int) := IntWalk.i64_in _ (by omega)
          have e3 : IntKind.i64.wrap (2 * (x : Int) + 3 * (y : Int)) = 2 * (x : Int) + 3 * (y : Int) := IntWalk.i64_in _ (by omega)
          have e4 : (2 * (x : Int) + 3 * (y : Int)).tmod 5 = (r : Int) := by rw [IntWalk.rem_in _ _ (by omega)]; omega
          have Hp := Lib.hid hp
          have Hr := Lib.hid hr
          have Hq := Lib.hid hq
          clear hp hr hq
          simp only [List.take_succ_cons, List.take_zero, List.drop_succ_cons, List.drop_zero]
          iterate 7 still_step
          still_call (at_is _ _ q _ (by omega) (by omega) Hq.out)
          iterate 2 still_step
          still_call (at_is _ _ p _ (by omega) (by omega) Hp.out)
          iterate 4 still_step
          still_call (at_is _ _ p _ (by omega) (by omega) Hp.out)
          iterate 2 still_step
          still_call (rot_still _ _ _ hk)
          refine wpStill_nil ?_
          go_wp2_with fail
          go_roundw
          case rel =>
            refine ⟨x + 1, by omega, by go_num, ?_⟩
            have h := HD.out.set3 q (rotl (f p) (offs p))
            rw [rowTo, Hp.out, Hr.out, Hq.out]
            exact h
          case measure => simp [intOf]; omega
        · obtain rfl : x = 5 := by omega
          clear hlx hx
          rw [show ((5 : Nat) : Int) = 5 from rfl]
          go_wp2_with fail
          go_roundw
          case rel => exact ⟨y + 1, by omega, by go_num, HR⟩
          case measure => simp [intOf]; omega
    · obtain rfl : y = 5 := by omega
      clear hly hy
      rw [show ((5 : Nat) : Int) = 5 from rfl]
      have HH := Lib.hid HR
      clear HR
      go_wp2_with (first
        | ((with_reducible apply lay_load lanes24); (case hgd => exact rfl); (case ho => exact rfl); (case hx => exact rfl); (case hg => exact HH.out.r3); intro _ _; go_simp)
        | ((with_reducible apply lay_store lanes24); (case hgd => exact rfl); (case ho => exact rfl); (case hx => exact rfl); (case hy => exact rfl); (case hg => exact HH.out.r2); intro _ _; go_simp))
      refine bodyPost_ret (lanes_result lanes24 Tryd.results36 _ _ _ rfl (HH.out.row2 _)) rfl ⟨rfl, HH.out.bel2 _⟩
end Go.Proofs.YtjppmeihobcenaaDoor
