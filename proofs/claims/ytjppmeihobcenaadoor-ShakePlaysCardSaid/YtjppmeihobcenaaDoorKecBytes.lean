/-
  The contracts of keccak.Bytes and of the laws' Bytes.
-/
import Derived.Test.YtjppmeihobcenaaDoorKecXor
import Derived.Laws.MakeOwn
import Derived.Deep.QuietTactic
import Derived.BigQuiet
namespace Go.Proofs.YtjppmeihobcenaaDoor
open Go.RowKit

/-- Two blocks behind w. -/
structure Two (w wr : World) (t1 t2 : TypeId) (c1 c2 : Array Value) : Prop where
  bel : Below w.heap.size w wr
  r1 : wr.heap[w.heap.size]? = some (.cells c1 t1)
  r2 : wr.heap[w.heap.size + 1]? = some (.cells c2 t2)
section
variable {w wr w1 : World} {t1 t2 : TypeId} {c1 c2 : Array Value}
theorem Two.start (w : World) (t1 t2 : TypeId) (c1 c2 : Array Value) : Two w ((w.alloc (.cells c1 t1)).alloc (.cells c2 t2)) t1 t2 c1 c2 :=
  ⟨by go_grown, row2a _ _ _, row2b _ _ _⟩
theorem Two.size (h : Two w wr t1 t2 c1 c2) : w.heap.size + 1 < wr.heap.size := row_lt h.r2
theorem Two.call (h : Two w wr t1 t2 c1 c2) (hb : Below wr.heap.size wr w1) : Two w w1 t1 t2 c1 c2 :=
  ⟨h.bel.trans (hb.mono (by have := h.size; omega)), (hb.block _ (by have := h.size; omega)).trans h.r1, (hb.block _ h.size).trans h.r2⟩
theorem Two.drew (h : Two w wr t1 t2 c1 c2) : Two w wr.drew t1 t2 c1 c2 := ⟨h.bel.drew, h.r1, h.r2⟩
theorem Two.z2 (h : Two w wr t1 t2 c1 c2) (i : Nat) : wr.frozen? ⟨w.heap.size + 1, i, none⟩ = false := frozen_of_row _ _ _ _ _ h.r2
theorem Two.set2 (h : Two w wr t1 t2 c1 c2) (i : Nat) (v : Value) : Two w (wr.setCell ⟨w.heap.size + 1, i, none⟩ v) t1 t2 c1 (c2.setIfInBounds i v) :=
  ⟨h.bel.setCell (by show w.heap.size ≤ w.heap.size + 1; omega) _,
   by rw [heap_setCell_other _ _ _ _ (by show w.heap.size ≠ w.heap.size + 1; omega)]; exact h.r1, heap_setCell_same _ _ _ _ _ _ h.r2⟩
end

theorem info5 : (Tryd.prog.info? 5).map (fun i => (i.zero, i.size, i.bytes)) = some (some (.int .u8 0), 1, 1) := by kernel_rfl
theorem info_u8 : ∃ i, Tryd.prog.info? 5 = some i ∧ i.zero = some (.int .u8 0) ∧ i.size = 1 ∧ i.bytes = 1 := by
  cases hq : Tryd.prog.info? 5 with
  | none => have := info5; simp [hq] at this
  | some i =>
    have := info5
    simp [hq] at this
    exact ⟨i, rfl, this.1, this.2.1, this.2.2⟩
theorem made200 : madeCells (Value.int .u8 0).cells 200 = AB 200 fun _ => 0 := by
  rw [AB_zero]
  kernel_rfl
theorem make200 (w : World) : (Instr.makeSlice 25 (.int .i64 200) (.int .i64 200)).run Tryd.prog w = .ok (.slice (some ⟨w.heap.size, 0, none⟩) 200 200) (w.alloc (.cells (AB 200 fun _ => 0) 5)) := by
  obtain ⟨i, hi, hz, hs, hb⟩ := info_u8
  have h := run_makeSlice (P := Tryd.prog) w 25 5 i (.int .u8 0) Tryd.underlying25 hi hz .i64 .i64 200 200 (by omega) (by omega) (by rw [hs]; omega) (by rw [hb]; omega) (by omega)
  rw [hs, show (200 : Int).toNat = 200 from rfl, Nat.mul_one, made200] at h
  exact h

/-- The bytes when i of them are told. -/
def bytesTo (f : Nat → BitVec 64) : Nat → Nat → BitVec 8
  | 0 => fun _ => 0
  | i + 1 => upd8 (bytesTo f i) i (low8 (shr (f (i / 8)) (i % 8 * 8)))
def bytesF (f : Nat → BitVec 64) (i : Nat) : BitVec 8 := low8 (shr (f (i / 8)) (i % 8 * 8))
theorem bytesTo_at (f : Nat → BitVec 64) : ∀ (n i : Nat), i < n → bytesTo f n i = bytesF f i
  | 0, i, h => by omega
  | n + 1, i, h => by
    rw [bytesTo, upd8]
    by_cases e : i = n
    · subst e; rw [if_pos rfl]; rfl
    · rw [if_neg e]; exact bytesTo_at f n i (by omega)

set_option maxHeartbeats 800000 in
theorem bytes_any (f : Nat → BitVec 64) (w : World) :
    Calls Tryd.prog 33 #[.agg (A 25 f)] w fun e w' => e = .returned (.slice (some ⟨w.heap.size + 1, 0, none⟩) 200 200) ∧ Two w w' 54 5 (A 25 f) (AB 200 (bytesF f)) := by
  have hmk := make200
  go_enter Tryd.func33, Tryd.ntmps33
  go_wp2_with fail
  clear hmk
  go_loopw [8] (fun v wr => ∃ i : Nat, i ≤ 200 ∧ v = .int .i64 i ∧ Two w wr 54 5 (A 25 f) (AB 200 (bytesTo f i))) (fun v _ => 200 - (intOf v).toNat)
  case atStart => exact ⟨0, by omega, rfl, Two.start _ _ _ _ _⟩
  case round =>
    obtain ⟨i, hi, rfl, HR⟩ := hrel
    by_cases hlt : i < 200
    · have hid : decide ((i : Int) < 200) = true := by simp; omega
      have HH := Lib.hid HR
      clear HR
      go_wp2_with fail
      refine wp_region_still_tail 10 (by kernel_rfl) (by kernel_rfl) ?_
      change wpStill _ _ wr.drew (fun a' => wpList _ _ _ _ a' wr.drew) _ _
      have HD := Lib.hid HH.out.drew
      clear HH
      generalize wr.drew = w2 at *
      obtain ⟨q, hq⟩ : ∃ q, i / 8 = q := ⟨_, rfl⟩
      obtain ⟨k, hk⟩ : ∃ k, i % 8 * 8 = k := ⟨_, rfl⟩
      have q25 : q < 25 := by omega
      have q25' : (q : Int) < 25 := by omega
      have i200 : (i : Int) < 200 := by omega
      have k64 : (k : Int) ≤ 64 := by omega
      have hc : w2.cell? ⟨w.heap.size, q, none⟩ = some (V (f q)) := by rw [cell_of_row _ _ _ _ _ _ HD.out.r1, A_get _ _ _ q25]
      have hd : w2.cell? ⟨w.heap.size + 1, i, none⟩ = some (U (bytesTo f i i)) := by rw [cell_of_row _ _ _ _ _ _ HD.out.r2, AB_get _ _ _ hlt]
      have hz := HD.out.z2 i
      have e1 : IntKind.i64.wrap ((i : Int) / 8) = (q : Int) := (IntWalk.i64_in _ (by omega)).trans (by omega)
      have Hq := Lib.hid hq
      have Hk := Lib.hid hk
      clear hq hk
      simp only [List.take_succ_cons, List.take_zero, List.drop_succ_cons, List.drop_zero]
      iterate 7 still_step
      still_call (shift_any _ _ (by omega) k Hk.out)
      iterate 2 still_step
      refine wpStill_nil ?_
      clear e1
      go_wp2_with fail
      go_roundw
      case rel =>
        refine ⟨i + 1, by omega, by go_num, ?_⟩
        have h := HD.out.set2 i (U (low8 (shr (f q) k)))
        rw [AB_set] at h
        rw [bytesTo, Hq.out, Hk.out]
        exact h
      case measure => simp [intOf]; omega
    · obtain rfl : i = 200 := by omega
      clear hlt hi
      rw [show ((200 : Nat) : Int) = 200 from rfl]
      have HH := Lib.hid HR
      clear HR
      go_wp2_with fail
      go_ret
      refine ⟨rfl, ?_⟩
      have e : AB 200 (bytesTo f 200) = AB 200 (bytesF f) := AB_congr (bytesTo_at f 200)
      rw [← e]
      exact HH.out

set_option maxHeartbeats 800000 in
/-- Two slices of the same bytes are the same. -/
theorem same_any (a a' : Option Addr) (n c c' : Nat) (f g : Nat → BitVec 8) (w : World) (hn : n ≤ 1000) (h1 : Sl w w.heap.size a n c f) (h2 : Sl w w.heap.size a' n c' g) (he : ∀ i, i < n → f i = g i) :
    Calls Tryd.prog 11 #[.slice a n c, .slice a' n c'] w fun e w' => e = .returned (.bool true) ∧ Below w.heap.size w w' := by
  have H1 := Lib.hid h1
  have H2 := Lib.hid (h2.congr fun i hi => (he i hi).symm)
  clear h1 h2 he
  have hn' : (n : Int) ≤ 1000 := by omega
  go_enter Tryd.func11, Tryd.ntmps11
  go_wp2_with fail
  go_loopw [5] (fun v wr => ∃ i : Nat, i ≤ n ∧ v = .int .i64 i ∧ Below w.heap.size w wr) (fun v _ => n - (intOf v).toNat)
  case atStart => exact ⟨0, by omega, rfl, Below.refl _ _⟩
  case round =>
    obtain ⟨i, hi, rfl, HR⟩ := hrel
    by_cases hlt : i < n
    · have hid : decide ((i : Int) < (n : Int)) = true := by simp; omega
      obtain ⟨b, o, rfl, hbB, hcell⟩ := (H1.out.below HR).get i hlt
      obtain ⟨b', o', rfl, hbB', hcell'⟩ := (H2.out.below HR).get i hlt
      have HH := Lib.hid HR
      clear HR
      go_wp2_with fail
      refine wp_region_still_lit (by kernel_rfl) (by kernel_rfl) ?_
      have HD := Lib.hid (Below.drew HH.out)
      have hc : wr.drew.cell? ⟨b, o + i, none⟩ = some (U (f i)) := hcell
      have hc' : wr.drew.cell? ⟨b', o' + i, none⟩ = some (U (f i)) := hcell'
      clear HH hcell hcell'
      change wpStill _ _ wr.drew (fun a' => Exit.then _ _ Exit.normal a' wr.drew) _ _
      generalize wr.drew = w2 at *
      have hlt' : (i : Int) < (n : Int) := by omega
      iterate 9 still_step
      refine wpStill_nil ?_
      go_wp2_with fail
      go_roundw
      case rel => exact ⟨i + 1, by omega, by go_num, HD.out⟩
      case measure => simp [intOf]; omega
    · obtain rfl : i = n := by omega
      have HH := Lib.hid HR
      clear HR
      go_wp2_with fail
      go_ret
      exact ⟨rfl, HH.out⟩
end Go.Proofs.YtjppmeihobcenaaDoor
