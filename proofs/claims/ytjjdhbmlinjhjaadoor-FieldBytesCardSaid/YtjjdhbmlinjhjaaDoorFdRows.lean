/-
  Rows of bytes that a law keeps: Bytes and P once more, their rows told.
-/
import Derived.Test.YtjjdhbmlinjhjaaDoorFdLaw1
namespace Go.Proofs.YtjjdhbmlinjhjaaDoor
open Go.RowKit

theorem Ow.add {w W W' : World} {l : List (Nat × Obj)} {g : Nat} {o : Obj} (h : Ow w W l) (hb : Below W.heap.size W W') (hg : W.heap.size ≤ g) (hr : W'.heap[g]? = some o) : Ow w W' ((g, o) :: l) := by
  have h' := h.call hb
  refine ⟨h'.bel, fun x hx => ?_, fun x hx => ?_, List.Pairwise.cons (fun x hx => ?_) h'.apart⟩
  · rcases List.mem_cons.1 hx with rfl | hx
    · exact hr
    · exact h'.has x hx
  · rcases List.mem_cons.1 hx with rfl | hx
    · exact Nat.le_trans h.bel.size hg
    · exact h'.new x hx
  · have := lt_row (h.has x hx)
    show g ≠ x.1
    omega
theorem rowSl {w : World} {g : Nat} {f : Nat → BitVec 8} (h : w.heap[g]? = some (BlkB 56 f)) : Sl w w.heap.size (some ⟨g, 0, none⟩) 56 56 f := Sl.own h (Nat.le_refl _) (Nat.le_refl _) (lt_row h)
set_option maxRecDepth 8000 in
set_option maxHeartbeats 1600000 in
theorem spell_row (x : Nat) (w : World) :
    Calls Tryd.prog 43 #[.agg (AZ .u64 8 (NZ (lF x)))] w fun e w' => ∃ g, e = .returned (.slice (some ⟨g, 0, none⟩) 56 56) ∧ w.heap.size ≤ g ∧ w'.heap[g]? = some (BlkB 56 (bX x)) ∧ Below w.heap.size w w' := by
  have H := Lib.hid (Ow.start w)
  go_enter Tryd.func43, Tryd.ntmps43
  go_wp2_with (first
    | ((fail_if_success have := g1); (with_reducible apply own_box H); (case hgd => exact rfl); (case ho => exact rfl); (case hx => exact rfl); intro w1 g1 H' _ _; replace H := H'; clear H'; go_simp)
    | ((with_reducible apply own_make H); (case hgd => exact rfl); (case ho => exact rfl); (case hx => exact (rfl : _ = Value.int .i64 ((56 : Nat) : Int))); (case hy => exact rfl); (case hc => omega); intro w2 g2 H' _ _; replace H := H'; clear H'; go_simp))
  go_loopw [8] (fun v wr => ∃ i : Nat, i ≤ 56 ∧ v = .int .i64 i ∧ Ow w wr [(g2, BlkB 56 (mix8 i (bX x) fun _ => 0)), (g1, Blk 25 .u64 8 (NZ (lF x)))]) (fun v _ => 56 - (intOf v).toNat)
  case atStart => exact ⟨0, by omega, rfl, by rw [mix8_zero]; exact H.out⟩
  case round =>
    clear H
    obtain ⟨i, hi, rfl, HR⟩ := hrel
    by_cases hlt : i < 56
    · have hid : decide ((i : Int) < 56) = true := by simp; omega
      have iN : (i : Int) < 56 := by omega
      have H1 := Lib.hid HR
      clear HR
      go_wp2_with fail
      refine wp_region_still_tail 11 (by kernel_rfl) (by kernel_rfl) ?_
      change wpStill _ _ wr.drew (fun a' => wpList _ _ _ _ a' wr.drew) _ _
      have D := Lib.hid H1.out.drew
      clear H1
      generalize wr.drew = w8 at *
      obtain ⟨q, hq⟩ : ∃ q, i / 7 = q := ⟨_, rfl⟩
      obtain ⟨s, hs⟩ : ∃ s, i % 7 * 8 = s := ⟨_, rfl⟩
      have eq1 : (i : Int) / 7 = (q : Int) := by omega
      have q8 : (q : Int) < 8 := by omega
      have f1 : IntKind.i64.wrap (q : Int) = (q : Int) := IntWalk.i64_in _ (by omega)
      have hc := D.out.cell 1 rfl q (by omega)
      have hz : w8.frozen? ⟨g2, i, none⟩ = false := (show RowB w8 g2 56 _ from D.out.row 0 rfl).thaw i
      have hc0 := (show RowB w8 g2 56 _ from D.out.row 0 rfl).cell i hlt
      have hb := byte_lF x i
      rw [hq, hs] at hb
      obtain ⟨y, hy⟩ : ∃ y, lF x q = y := ⟨_, rfl⟩
      have ny : NZ (lF x) q = (y : Int) := by rw [← hy]; rfl
      rw [ny] at hc
      rw [hy] at hb
      have HU := Lib.hid (D.out.byte 0 rfl i (bX x i))
      rw [mix8_upd] at HU
      have HB : Hid (U (bX x i) = .int .u8 ((y / 2 ^ s % 256 : Nat) : Int)) := Lib.hid (by
        show Value.int .u8 (U8 (bX x i)) = _
        rw [U8_bX, ← hb])
      rw [HB.out] at HU
      obtain ⟨z, hz'⟩ : ∃ z, y / 2 ^ s = z := ⟨_, rfl⟩
      obtain ⟨b, hb'⟩ : ∃ b, z % 256 = b := ⟨_, rfl⟩
      have e1 : (y : Int) / 2 ^ s = (z : Int) := by rw [← hz', Int.natCast_ediv, Int.natCast_pow]; rfl
      have e2 : IntKind.u8.wrap (z : Int) = (b : Int) := by rw [IntKind.wrap_u8]; omega
      have s48 : s ≤ 48 := by omega
      have sm : min s 64 = s := by omega
      have HS := Lib.hid hs
      rw [hz', hb'] at HU
      clear D HB hb hq hs hy ny hz' hb'
      simp only [List.take_succ_cons, List.take_zero, List.drop_succ_cons, List.drop_zero]
      iterate 7 still_step
      still_call (up_any i _ (by omega) s HS.out)
      iterate 3 still_step
      refine wpStill_nil ?_
      clear e1 e2 sm
      go_wp2_with fail
      go_roundw
      case rel => exact ⟨i + 1, by omega, by go_num, HU.out⟩
      case measure => simp [intOf]; omega
    · obtain rfl : i = 56 := by omega
      clear hlt hi
      rw [show ((56 : Nat) : Int) = 56 from rfl]
      have H := Lib.hid HR
      clear HR
      go_wp2_with fail
      go_ret
      have hr : RowB wr g2 56 _ := H.out.row 0 rfl
      refine ⟨g2, rfl, H.out.ge 0 rfl, hr.congr fun k hk => ?_, H.out.bel⟩
      unfold mix8
      rw [if_pos hk]

theorem bytes_row {f : Nat → Nat} {x : Nat} (w : World) (hf : Val f x) :
    Calls Tryd.prog 21 #[EV f] w fun e w' => ∃ g, e = .returned (.slice (some ⟨g, 0, none⟩) 56 56) ∧ w.heap.size ≤ g ∧ w'.heap[g]? = some (BlkB 56 (bX x)) ∧ Below w.heap.size w w' := by
  have HL := Lib.hid (fun w => least_any f w hf.1)
  rw [hf.2] at HL
  clear hf
  have H := Lib.hid (Ow.start w)
  go_enter Tryd.func21, Tryd.ntmps21
  go_wp2_with (first
    | ((fail_if_success have := g1); (with_reducible apply own_box H); (case hgd => exact rfl); (case ho => exact rfl); (case hx => exact rfl); intro w1 g1 H' _ _; replace H := H'; clear H'; go_simp)
    | ((with_reducible apply own_load rowE H); (case hgd => exact rfl); (case ho => exact rfl); (case hx => exact rfl); (case hi => first | exact at0 | exact at1 | exact at2 | exact at3 | exact at4 | exact at5 | exact at6); intro _ _; go_simp)
    | ((with_reducible refine (HL.out _).mono ?_); rintro e wc ⟨rfl, hb⟩; replace H := Lib.hid (H.out.call hb); clear hb))
  refine (spell_row x _).mono ?_
  rintro e w2 ⟨g, rfl, hg, hr, hb⟩
  have HR := Lib.hid (And.intro hg (And.intro hr hb))
  clear hg hr hb
  go_wp2_with fail
  go_ret
  exact ⟨g, rfl, Nat.le_trans H.out.bel.size HR.out.1, HR.out.2.1, H.out.bel.trans (HR.out.2.2.mono H.out.bel.size)⟩
theorem P_row (w : World) (hT : Tp w) :
    Calls Tryd.prog 15 #[] w fun e w' => ∃ g, e = .returned (.slice (some ⟨g, 0, none⟩) 56 56) ∧ w.heap.size ≤ g ∧ w'.heap[g]? = some (BlkB 56 (bX pN)) ∧ Below w.heap.size w w' := by
  have HT := Lib.hid hT
  clear hT
  go_enter Tryd.func15, Tryd.ntmps15
  go_wp2_with (first
    | ((with_reducible apply lay_load_p HT.out); (case hgd => exact rfl); (case ho => exact rfl); (case hx => exact rfl); intro _ _; rw [prW_lF]; go_simp))
  refine (spell_row pN _).mono ?_
  rintro e w2 ⟨g, rfl, hg, hr, hb⟩
  have HR := Lib.hid (And.intro hg (And.intro hr hb))
  clear hg hr hb
  go_wp2_with fail
  go_ret
  exact ⟨g, rfl, HR.out.1, HR.out.2.1, HR.out.2.2⟩
end Go.Proofs.YtjjdhbmlinjhjaaDoor
