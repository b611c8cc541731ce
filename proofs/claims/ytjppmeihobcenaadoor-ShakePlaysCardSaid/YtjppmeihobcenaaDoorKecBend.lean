/-
  The contract of keccak.bend.
-/
import Derived.Test.YtjppmeihobcenaaDoorKecTurn
namespace Go.Proofs.YtjppmeihobcenaaDoor
open Go.RowKit

/-- Row y when x lanes of it are bent. -/
def rowB (f g : Nat → BitVec 64) (y : Nat) : Nat → Nat → BitVec 64
  | 0 => g
  | x + 1 => upd (rowB f g y x) (x % 5 + 5 * y) (f (x % 5 + 5 * y) ^^^ (f ((x + 2) % 5 + 5 * y) &&& ~~~ f ((x + 1) % 5 + 5 * y)))
def bendTo (f : Nat → BitVec 64) : Nat → Nat → BitVec 64
  | 0 => fun _ => 0
  | y + 1 => rowB f (bendTo f y) y 5
def bendF (f : Nat → BitVec 64) : Nat → BitVec 64 := bendTo f 5

set_option maxHeartbeats 800000 in
theorem bend_any (f : Nat → BitVec 64) (w : World) :
    Calls Tryd.prog 37 #[.agg (A 25 f)] w fun e w' => e = .returned (.agg (A 25 (bendF f))) ∧ Below w.heap.size w w' := by
  go_enter Tryd.func37, Tryd.ntmps37
  go_wp2_with ((with_reducible apply lay_alloc lanes24); (case hgd => exact rfl); (case ho => exact rfl); intro _ _; go_simp)
  go_loopw [6] (fun v wr => ∃ y : Nat, y ≤ 5 ∧ v = .int .i64 y ∧ Tri w wr 25 25 25 54 54 54 f (fun _ => 0) (bendTo f y)) (fun v _ => 5 - (intOf v).toNat)
  case atStart => exact ⟨0, by omega, rfl, Tri.start _ _ _ _ _ _ _ _ _ _⟩
  case round =>
    obtain ⟨y, hy, rfl, HR⟩ := hrel
    by_cases hly : y < 5
    · have hyd : decide ((y : Int) < 5) = true := by simp; omega
      go_wp2_with fail
      go_loopw [9] (fun v wr => ∃ x : Nat, x ≤ 5 ∧ v = .int .i64 x ∧ Tri w wr 25 25 25 54 54 54 f (fun _ => 0) (rowB f (bendTo f y) y x)) (fun v _ => 5 - (intOf v).toNat)
      case atStart => exact ⟨0, by omega, rfl, HR⟩
      case round =>
        clear HR
        obtain ⟨x, hx, rfl, HR⟩ := hrel
        by_cases hlx : x < 5
        · go_wp2_with fail
          refine wp_region_still_tail 22 (by kernel_rfl) (by kernel_rfl) ?_
          change wpStill _ _ wr.drew (fun a' => wpList _ _ _ _ a' wr.drew) _ _
          have HD := Lib.hid HR.drew
          clear HR
          generalize wr.drew = w2 at *
          obtain ⟨p, hp⟩ : ∃ p, x % 5 + 5 * y = p := ⟨_, rfl⟩
          obtain ⟨x1, hx1⟩ : ∃ k, x + 1 = k := ⟨_, rfl⟩
          obtain ⟨x2, hx2⟩ : ∃ k, x + 2 = k := ⟨_, rfl⟩
          obtain ⟨p1, hp1⟩ : ∃ p, x1 % 5 + 5 * y = p := ⟨_, rfl⟩
          obtain ⟨p2, hp2⟩ : ∃ p, x2 % 5 + 5 * y = p := ⟨_, rfl⟩
          have p25 : p < 25 := by omega
          have q25 : p1 < 25 := by omega
          have r25 : p2 < 25 := by omega
          have p25' : (p : Int) < 25 := by omega
          have q25' : (p1 : Int) < 25 := by omega
          have r25' : (p2 : Int) < 25 := by omega
          have b1 : x1 ≤ 1000 := by omega
          have b2 : x2 ≤ 1000 := by omega
          have hc := HD.out.c1 p p25
          have hc1 := HD.out.c1 p1 q25
          have hc2 := HD.out.c1 p2 r25
          have hd := HD.out.c3 p p25
          have hz := HD.out.z3 p
          have e1 : IntKind.i64.wrap ((x : Int) + 1) = (x1 : Int) := (IntWalk.i64_in _ (by omega)).trans (by omega)
          have e2 : IntKind.i64.wrap ((x : Int) + 2) = (x2 : Int) := (IntWalk.i64_in _ (by omega)).trans (by omega)
          have Hp := Lib.hid hp
          have H1 := Lib.hid hx1
          have H2 := Lib.hid hx2
          have Hp1 := Lib.hid hp1
          have Hp2 := Lib.hid hp2
          clear hp hx1 hx2 hp1 hp2
          simp only [List.take_succ_cons, List.take_zero, List.drop_succ_cons, List.drop_zero]
          iterate 2 still_step
          still_call (at_is _ _ p _ (by omega) (by omega) Hp.out)
          iterate 2 still_step
          still_call (at_is _ _ p _ (by omega) (by omega) Hp.out)
          iterate 5 still_step
          still_call (at_is _ _ p2 _ (by omega) (by omega) Hp2.out)
          iterate 5 still_step
          still_call (at_is _ _ p1 _ (by omega) (by omega) Hp1.out)
          iterate 4 still_step
          clear e1 e2
          refine wpStill_nil ?_
          go_wp2_with fail
          go_roundw
          case rel =>
            refine ⟨x + 1, by omega, by go_num, ?_⟩
            have h := HD.out.set3 p (f p ^^^ (f p2 &&& ~~~ f p1))
            rw [rowB, Hp.out, H1.out, H2.out, Hp1.out, Hp2.out]
            exact h
          case measure => simp [intOf]; omega
        · obtain rfl : x = 5 := by omega
          clear hlx hx
          rw [show ((5 : Nat) : Int) = 5 from rfl]
          go_wp2_with fail
          go_roundw
          case rel => exact ⟨y + 1, by omega, by go_num, HR⟩
          case measure => simp [intOf]; omega
    · obtain rfl : y = 5 := by omega
      clear hly hy
      rw [show ((5 : Nat) : Int) = 5 from rfl]
      have HH := Lib.hid HR
      clear HR
      go_wp2_with (first
        | ((with_reducible apply lay_load lanes24); (case hgd => exact rfl); (case ho => exact rfl); (case hx => exact rfl); (case hg => exact HH.out.r3); intro _ _; go_simp)
        | ((with_reducible apply lay_store lanes24); (case hgd => exact rfl); (case ho => exact rfl); (case hx => exact rfl); (case hy => exact rfl); (case hg => exact HH.out.r2); intro _ _; go_simp))
      refine bodyPost_ret (lanes_result lanes24 Tryd.results37 _ _ _ rfl (HH.out.row2 _)) rfl ⟨rfl, HH.out.bel2 _⟩
end Go.Proofs.YtjppmeihobcenaaDoor
