/-
  The contract of keccak.Permute.
-/
import Derived.Test.YtjppmeihobcenaaDoorKecSpread
import Derived.Test.YtjppmeihobcenaaDoorKecBend
namespace Go.Proofs.YtjppmeihobcenaaDoor
open Go.RowKit

/-- One round. -/
def roundF (f : Nat → BitVec 64) (r : Nat) : Nat → BitVec 64 := upd (bendF (turnF (spreadF f))) 0 (bendF (turnF (spreadF f)) 0 ^^^ rcs r)
/-- The lanes when r rounds are done. -/
def permTo (f : Nat → BitVec 64) : Nat → Nat → BitVec 64
  | 0 => f
  | r + 1 => roundF (permTo f r) r
def permF (f : Nat → BitVec 64) : Nat → BitVec 64 := permTo f 24

/-- Two blocks of lanes behind w. -/
structure Duo (w wr : World) (n1 n2 : Nat) (t1 t2 : TypeId) (f1 f2 : Nat → BitVec 64) : Prop where
  bel : Below w.heap.size w wr
  r1 : wr.heap[w.heap.size]? = some (.cells (A n1 f1) t1)
  r2 : wr.heap[w.heap.size + 1]? = some (.cells (A n2 f2) t2)
theorem row_lt {w : World} {g : Nat} {o : Obj} (h : w.heap[g]? = some o) : g < w.heap.size := by
  rcases Nat.lt_or_ge g w.heap.size with h' | h'
  · exact h'
  · rw [Array.getElem?_eq_none h'] at h; cases h
section
variable {w wr w1 : World} {n1 n2 : Nat} {t1 t2 : TypeId} {f1 f2 : Nat → BitVec 64}
theorem Duo.start (w : World) (n1 n2 : Nat) (t1 t2 : TypeId) (f1 f2 : Nat → BitVec 64) : Duo w ((w.alloc (.cells (A n1 f1) t1)).alloc (.cells (A n2 f2) t2)) n1 n2 t1 t2 f1 f2 :=
  ⟨by go_grown, row2a _ _ _, row2b _ _ _⟩
theorem Duo.size (h : Duo w wr n1 n2 t1 t2 f1 f2) : w.heap.size + 1 < wr.heap.size := row_lt h.r2
theorem Duo.call (h : Duo w wr n1 n2 t1 t2 f1 f2) (hb : Below wr.heap.size wr w1) : Duo w w1 n1 n2 t1 t2 f1 f2 :=
  ⟨h.bel.trans (hb.mono (by have := h.size; omega)), (hb.block _ (by have := h.size; omega)).trans h.r1, (hb.block _ h.size).trans h.r2⟩
theorem Duo.drew (h : Duo w wr n1 n2 t1 t2 f1 f2) : Duo w wr.drew n1 n2 t1 t2 f1 f2 := ⟨h.bel.drew, h.r1, h.r2⟩
theorem Duo.c1 (h : Duo w wr n1 n2 t1 t2 f1 f2) (i : Nat) (hi : i < n1) : wr.cell? ⟨w.heap.size, i, none⟩ = some (V (f1 i)) := by rw [cell_of_row _ _ _ _ _ _ h.r1, A_get _ _ _ hi]
theorem Duo.z1 (h : Duo w wr n1 n2 t1 t2 f1 f2) (i : Nat) : wr.frozen? ⟨w.heap.size, i, none⟩ = false := frozen_of_row _ _ _ _ _ h.r1
theorem Duo.set1 (h : Duo w wr n1 n2 t1 t2 f1 f2) (i : Nat) (v : BitVec 64) : Duo w (wr.setCell ⟨w.heap.size, i, none⟩ (V v)) n1 n2 t1 t2 (upd f1 i v) f2 :=
  ⟨h.bel.setCell (Nat.le_refl _) _, by rw [heap_setCell_same _ _ _ _ _ _ h.r1, A_set],
   by rw [heap_setCell_other _ _ _ _ (by show w.heap.size + 1 ≠ w.heap.size; omega)]; exact h.r2⟩
theorem Duo.row1 (h : Duo w wr n1 n2 t1 t2 f1 f2) (f : Nat → BitVec 64) : Duo w (wr.setRow w.heap.size (A n1 f)) n1 n2 t1 t2 f f2 :=
  ⟨⟨h.bel.os, h.bel.tape, h.bel.output, by simpa using h.bel.size, fun k hk => (setRow_other _ _ _ _ (by omega)).trans (h.bel.block k hk)⟩,
   setRow_heap _ _ _ _ _ _ h.r1, (setRow_other _ _ _ _ (by omega)).trans h.r2⟩
theorem Duo.row2 (h : Duo w wr n1 n2 t1 t2 f1 f2) (f : Nat → BitVec 64) : Duo w (wr.setRow (w.heap.size + 1) (A n2 f)) n1 n2 t1 t2 f1 f :=
  ⟨⟨h.bel.os, h.bel.tape, h.bel.output, by simpa using h.bel.size, fun k hk => (setRow_other _ _ _ _ (by omega)).trans (h.bel.block k hk)⟩,
   (setRow_other _ _ _ _ (by omega)).trans h.r1, setRow_heap _ _ _ _ _ _ h.r2⟩
end

set_option maxHeartbeats 800000 in
theorem perm_any (f : Nat → BitVec 64) (w : World) (hT : Tabs w) :
    Calls Tryd.prog 32 #[.agg (A 25 f)] w fun e w' => e = .returned (.agg (A 25 (permF f))) ∧ Below w.heap.size w w' := by
  have HT := Lib.hid hT
  clear hT
  go_enter Tryd.func32, Tryd.ntmps32
  go_wp2_with ((with_reducible apply lay_alloc lanes24); (case hgd => exact rfl); (case ho => exact rfl); intro _ _; go_simp)
  go_loopw [4] (fun v wr => ∃ r : Nat, r ≤ 24 ∧ v = .int .i64 r ∧ Duo w wr 25 25 54 54 (permTo f r) (fun _ => 0)) (fun v _ => 24 - (intOf v).toNat)
  case atStart => exact ⟨0, by omega, rfl, Duo.start _ _ _ _ _ _ _⟩
  case round =>
    obtain ⟨r, hr, rfl, HR⟩ := hrel
    by_cases hlr : r < 24
    · have hrd : decide ((r : Int) < 24) = true := by simp; omega
      have H1 := Lib.hid HR
      clear HR
      go_wp2_with (first
        | ((with_reducible apply lay_load lanes24); (case hgd => exact rfl); (case ho => exact rfl); (case hx => exact rfl); (case hg => exact H1.out.r1); intro _ _; go_simp))
      refine (spread_any _ _).mono ?_
      rintro e w1 ⟨rfl, hb⟩
      have H2 := Lib.hid (H1.out.call hb)
      clear H1 hb
      go_wp2_with (first
        | ((with_reducible apply lay_load lanes24); (case hgd => exact rfl); (case ho => exact rfl); (case hx => exact rfl); (case hg => exact (H2.out.row1 _).r1); intro _ _; go_simp)
        | ((with_reducible apply lay_store lanes24); (case hgd => exact rfl); (case ho => exact rfl); (case hx => exact rfl); (case hy => exact rfl); (case hg => exact H2.out.r1); intro _ _; go_simp))
      refine (turn_any _ _ (HT.out.below (H2.out.row1 _).bel)).mono ?_
      rintro e w2 ⟨rfl, hb⟩
      have H3 := Lib.hid ((H2.out.row1 _).call hb)
      clear H2 hb w1
      go_wp2_with (first
        | ((with_reducible apply lay_load lanes24); (case hgd => exact rfl); (case ho => exact rfl); (case hx => exact rfl); (case hg => exact (H3.out.row1 _).r1); intro _ _; go_simp)
        | ((with_reducible apply lay_store lanes24); (case hgd => exact rfl); (case ho => exact rfl); (case hx => exact rfl); (case hy => exact rfl); (case hg => exact H3.out.r1); intro _ _; go_simp))
      refine (bend_any _ _).mono ?_
      rintro e w3 ⟨rfl, hb⟩
      have H4 := Lib.hid ((H3.out.row1 _).call hb)
      clear H3 hb w2
      obtain ⟨g, hg⟩ : ∃ g, bendF (turnF (spreadF (permTo f r))) = g := ⟨_, rfl⟩
      rw [hg]
      have Hg := Lib.hid hg
      clear hg
      go_wp2_with (first
        | ((with_reducible apply lay_store lanes24); (case hgd => exact rfl); (case ho => exact rfl); (case hx => exact rfl); (case hy => exact rfl); (case hg => exact H4.out.r1); intro _ _; go_simp))
      have H5 := Lib.hid (H4.out.row1 g).drew
      clear H4
      refine wp_region_still_tail 6 (by kernel_rfl) (by kernel_rfl) ?_
      change wpStill _ _ (w3.setRow w.heap.size (A 25 g)).drew (fun a' => wpList _ _ _ _ a' (w3.setRow w.heap.size (A 25 g)).drew) _ _
      generalize (w3.setRow w.heap.size (A 25 g)).drew = w4 at *
      have hc := H5.out.c1 0 (by omega)
      have hz := H5.out.z1 0
      have ht := (HT.out.below H5.out.bel).con r hlr
      have hlr' : (r : Int) < 24 := by omega
      simp only [List.take_succ_cons, List.take_zero, List.drop_succ_cons, List.drop_zero]
      iterate 6 still_step
      refine wpStill_nil ?_
      go_wp2_with fail
      go_roundw
      case rel =>
        refine ⟨r + 1, by omega, by go_num, ?_⟩
        have h := H5.out.set1 0 (g 0 ^^^ rcs r)
        rw [permTo, roundF, Hg.out]
        exact h
      case measure => simp [intOf]; omega
    · obtain rfl : r = 24 := by omega
      clear hlr hr
      rw [show ((24 : Nat) : Int) = 24 from rfl]
      have H1 := Lib.hid HR
      clear HR
      go_wp2_with (first
        | ((with_reducible apply lay_load lanes24); (case hgd => exact rfl); (case ho => exact rfl); (case hx => exact rfl); (case hg => exact H1.out.r1); intro _ _; go_simp)
        | ((with_reducible apply lay_store lanes24); (case hgd => exact rfl); (case ho => exact rfl); (case hx => exact rfl); (case hy => exact rfl); (case hg => exact H1.out.r2); intro _ _; go_simp))
      refine bodyPost_ret (lanes_result lanes24 Tryd.results32 _ _ _ rfl (H1.out.row2 _).r2) rfl ⟨rfl, (H1.out.row2 _).bel⟩
end Go.Proofs.YtjppmeihobcenaaDoor
