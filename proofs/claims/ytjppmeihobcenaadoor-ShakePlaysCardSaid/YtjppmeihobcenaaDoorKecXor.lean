/-
  The contract of keccak.Xor.
-/
import Derived.Test.YtjppmeihobcenaaDoorKecByte
import Derived.Test.YtjppmeihobcenaaDoorKecPerm
namespace Go.Proofs.YtjppmeihobcenaaDoor
open Go.RowKit

theorem results_state_err {P : Program} {t : TypeId} (hT : IsLanes P t 25) {fn : Func} {p u : Tmp} (h : fn.results = #[.cell p t, .tmp u]) (tmps : Array Value) (w : World) (g : Nat) {tb : TypeId} {f : Nat → BitVec 64} {v : Value}
    (hp : tmps.getD p undef = .pointer (some ⟨g, 0, none⟩)) (hg : w.heap[g]? = some (.cells (A 25 f) tb)) (hu : tmps.getD u undef = v) : (results fn tmps).run P w = .ok (.tuple #[.agg (A 25 f), v]) w := by
  rw [results_cell_tmp h, hp]
  simp only [asAddr, Sem.run_pure, Result.andThen_ok, run_loadVar_row w g tb t _ (0, 0) _ hg hT.under rfl (by rw [A_size]; exact hT.size), hu]

set_option maxHeartbeats 800000 in
theorem xor_far (f : Nat → BitVec 64) (a : Option Addr) (n c : Nat) (w : World) (hn : 200 < n) (hm : n ≤ maxLen) :
    Calls Tryd.prog 34 #[.agg (A 25 f), .slice a n c] w fun e w' => e = .returned (.tuple #[.agg (A 25 fun _ => 0), .int .i64 11]) ∧ Below w.heap.size w w' := by
  unfold maxLen at hm
  have hd : (200 : Int) < (n : Int) := by omega
  go_enter Tryd.func34, Tryd.ntmps34
  go_wp2_with (first
    | ((with_reducible apply lay_alloc lanes24); (case hgd => exact rfl); (case ho => exact rfl); intro _ _; go_simp)
    | ((with_reducible apply lay_store lanes24); (case hgd => exact rfl); (case ho => exact rfl); (case hx => exact rfl); (case hy => exact congrArg Value.agg zero25.symm); (case hg => exact row2b _ _ _); intro _ _; go_simp))
  refine bodyPost_ret (results_state_err lanes24 Tryd.results34 _ _ _ rfl (row2b _ _ _) rfl) rfl ⟨rfl, ?_⟩
  go_grown

set_option maxHeartbeats 1600000 in
theorem xor_near (f : Nat → BitVec 64) (a : Option Addr) (n c : Nat) (g : Nat → BitVec 8) (w : World) (hn : n ≤ 200) (hs : Sl w w.heap.size a n c g) :
    Calls Tryd.prog 34 #[.agg (A 25 f), .slice a n c] w fun e w' => e = .returned (.tuple #[.agg (A 25 (xorTo f g n)), .int .i64 0]) ∧ Below w.heap.size w w' := by
  have HS := Lib.hid hs
  clear hs
  have hd : (n : Int) ≤ 200 := by omega
  have hnd : decide ((200 : Int) < (n : Int)) = false := by simp; omega
  go_enter Tryd.func34, Tryd.ntmps34
  go_wp2_with (first
    | ((with_reducible apply lay_alloc lanes24); (case hgd => exact rfl); (case ho => exact rfl); intro _ _; go_simp))
  go_loopw [14] (fun v wr => ∃ i : Nat, i ≤ n ∧ v = .int .i64 i ∧ Duo w wr 25 25 54 54 (xorTo f g i) (fun _ => 0)) (fun v _ => n - (intOf v).toNat)
  case atStart => exact ⟨0, by omega, rfl, Duo.start _ _ _ _ _ _ _⟩
  case round =>
    obtain ⟨i, hi, rfl, HR⟩ := hrel
    by_cases hlt : i < n
    · have hid : decide ((i : Int) < (n : Int)) = true := by simp; omega
      obtain ⟨b, o, rfl, hbB, hcell⟩ := (HS.out.below HR.bel).get i hlt
      have HH := Lib.hid HR
      clear HR
      go_wp2_with fail
      refine wp_region_still_tail 10 (by kernel_rfl) (by kernel_rfl) ?_
      change wpStill _ _ wr.drew (fun a' => wpList _ _ _ _ a' wr.drew) _ _
      have HD := Lib.hid HH.out.drew
      clear HH hcell
      generalize wr.drew = w2 at *
      obtain ⟨q, hq⟩ : ∃ q, i / 8 = q := ⟨_, rfl⟩
      obtain ⟨k, hk⟩ : ∃ k, i % 8 * 8 = k := ⟨_, rfl⟩
      have q25 : q < 25 := by omega
      have q25' : (q : Int) < 25 := by omega
      have k64 : (k : Int) ≤ 64 := by omega
      have hc := HD.out.c1 q q25
      have hz := HD.out.z1 q
      have e1 : IntKind.i64.wrap ((i : Int) / 8) = (q : Int) := (IntWalk.i64_in _ (by omega)).trans (by omega)
      have Hq := Lib.hid hq
      have Hk := Lib.hid hk
      clear hq hk
      simp only [List.take_succ_cons, List.take_zero, List.drop_succ_cons, List.drop_zero]
      iterate 7 still_step
      still_call (shift_any _ _ (by omega) k Hk.out)
      iterate 2 still_step
      refine wpStill_nil ?_
      clear e1
      go_wp2_with fail
      go_roundw
      case rel =>
        refine ⟨i + 1, by omega, by go_num, ?_⟩
        have h := HD.out.set1 q (xorTo f g i q ^^^ shl (zx (g i)) k)
        rw [xorTo, Hq.out, Hk.out]
        exact h
      case measure => simp [intOf]; omega
    · obtain rfl : i = n := by omega
      have HH := Lib.hid HR
      clear HR
      go_wp2_with (first
        | ((with_reducible apply lay_load lanes24); (case hgd => exact rfl); (case ho => exact rfl); (case hx => exact rfl); (case hg => exact HH.out.r1); intro _ _; go_simp)
        | ((with_reducible apply lay_store lanes24); (case hgd => exact rfl); (case ho => exact rfl); (case hx => exact rfl); (case hy => exact rfl); (case hg => exact HH.out.r2); intro _ _; go_simp))
      refine bodyPost_ret (results_state_err lanes24 Tryd.results34 _ _ _ rfl (HH.out.row2 _).r2 rfl) rfl ⟨rfl, (HH.out.row2 _).bel⟩
end Go.Proofs.YtjppmeihobcenaaDoor
