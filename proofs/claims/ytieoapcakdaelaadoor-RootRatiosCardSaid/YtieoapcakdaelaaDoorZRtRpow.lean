/-
  The contract of the reference's Power. No statement is proved here: lemmas for the walks.
-/
import Derived.Test.YtieoapcakdaelaaDoorZRtPow
namespace Go.Proofs.YtieoapcakdaelaaDoor
open Go.RowKit

set_option maxRecDepth 8000 in
set_option maxHeartbeats 3200000 in
theorem refPower_k {a : K} (ad : Option Addr) (n c x : Nat) (w : World) (hs : Sb w w.heap.size ad n c x) (hn : n ≤ 1000) :
    Calls Tryd.prog 30 #[FV a.val, .slice ad n c] w fun e w' => e = .returned (FV (a ^ x).val) ∧ Below w.heap.size w w' := by
  have HS := Lib.hid hs
  have hnZ : (n : Int) ≤ 1000 := by omega
  have HB := Lib.hid (fun w (k : Nat) (hk : k < 8 * n) (h : Sb w w.heap.size ad n c x) => refBit_any ad n c x (k : Int) w (by omega) (by omega) h)
  clear hs
  have H := Lib.hid (Ow.start w)
  go_enter Tryd.func30, Tryd.ntmps30
  go_wp2_with (first
    | ((fail_if_success have := g2); (with_reducible apply own_box H); (case hgd => exact rfl); (case ho => exact rfl); (case hx => exact rfl); intro w2 g2 H' _ _; replace H := H'; clear H'; go_simp)
    | ((fail_if_success have := g4); (with_reducible apply own_alloc intsF.zero H); (case hgd => exact rfl); (case ho => exact rfl); intro w4 g4 H' _ _; replace H := H'; clear H'; go_simp)
    | ((with_reducible refine (refInt_k _ 1 (by omega) (by omega)).mono ?_); rintro e wc ⟨rfl, hb⟩; replace H := Lib.hid (H.out.call hb); clear hb)
    | ((fail_if_success have := g5); (with_reducible apply own_alloc intsF.zero H); (case hgd => exact rfl); (case ho => exact rfl); intro w5 g5 H' _ _; replace H := H'; clear H'; go_simp)
    | ((with_reducible apply own_store rowF H); (case hgd => exact rfl); (case ho => exact rfl); (case hx => exact rfl); (case hy => exact rfl); (case hi => first | exact at0 | exact at1 | exact at2 | exact at3 | exact at4 | exact at5 | exact at6 | exact at7 | exact at8 | exact at9); intro ws H' _ _; replace H := H'; clear H'; simp only [List.set_cons_zero] at H; go_simp))
  go_loopw [6] (fun v wr => ∃ (j : Nat), j ≤ 8 * n ∧ v = .int .i64 ((j : Int) - 1) ∧ Ow w wr [(g5, Blk 34 .i64 16 (dF (a ^ (x / 2 ^ j)).val)), (g4, Blk 34 .i64 16 fun _ => 0), (g2, Blk 34 .i64 16 (dF (a).val))]) (fun v _ => (intOf v + 1).toNat)
  case atStart => exact ⟨8 * n, Nat.le_refl _, by go_num, by rw [Nat.div_eq_of_lt HS.out.fits, fp_pow_zero, ← ofZ_one]; exact H.out⟩
  case round =>
    clear H
    obtain ⟨j, hj, rfl, HR⟩ := hrel
    cases j with
    | zero =>
      rw [show ((0 : Nat) : Int) - 1 = -1 from rfl]
      have H : Hid (Ow w wr [(g5, Blk 34 .i64 16 (dF (a ^ x).val)), (g4, Blk 34 .i64 16 fun _ => 0), (g2, Blk 34 .i64 16 (dF (a).val))]) := Lib.hid (by rw [Nat.pow_zero, Nat.div_one] at HR; exact HR)
      clear HR
      go_wp2_with (first
        | ((with_reducible apply own_load rowF H); (case hgd => exact rfl); (case ho => exact rfl); (case hx => exact rfl); (case hi => first | exact at0 | exact at1 | exact at2 | exact at3 | exact at4 | exact at5 | exact at6 | exact at7 | exact at8 | exact at9); intro _ _; go_simp)
        | ((with_reducible apply own_store rowF H); (case hgd => exact rfl); (case ho => exact rfl); (case hx => exact rfl); (case hy => exact rfl); (case hi => first | exact at0 | exact at1 | exact at2 | exact at3 | exact at4 | exact at5 | exact at6 | exact at7 | exact at8 | exact at9); intro ws H' _ _; replace H := H'; clear H'; simp only [List.set_cons_zero, List.set_cons_succ] at H; go_simp))
      exact bodyPost_ret (own_result 1 rowF rfl _ H rfl rfl) rfl ⟨rfl, H.out.bel⟩
    | succ k =>
      have hid : decide ((0 : Int) ≤ (k : Int)) = true := by simp
      rw [show ((k + 1 : Nat) : Int) - 1 = (k : Int) by omega]
      have HK := Lib.hid (fun w => HB.out w k (by omega))
      rw [show bitI x (k : Int) = ((x / 2 ^ k % 2 : Nat) : Int) by unfold bitI; rw [if_neg (by omega)]; rfl] at HK
      have hkn : k < 8000 := by omega
      obtain ⟨y, hy⟩ : ∃ y, a ^ (x / 2 ^ (k + 1)) = y := ⟨_, rfl⟩
      have Hy0 := fun h => pow_bit0 (a := a) (x := x) (k := k) h
      have Hy1 := fun h => pow_bit1 (a := a) (x := x) (k := k) h
      rw [hy] at HR Hy0 Hy1
      have H := Lib.hid HR
      have Hjn := Lib.hid hj
      obtain ⟨u, hu⟩ : ∃ u, x / 2 ^ k % 2 = u := ⟨_, rfl⟩
      have hu2 : u < 2 := by rw [← hu]; exact Nat.mod_lt _ (by omega)
      rw [hu] at HK Hy0 Hy1
      clear HR hj hy hu
      rcases (by omega : u = 0 ∨ u = 1) with rfl | rfl
      · have P0 := Lib.hid (Hy0 rfl)
        clear Hy0 Hy1
        rw [show ((0 : Nat) : Int) = 0 from rfl] at HK
        go_wp2_with (first
          | ((with_reducible apply own_load rowF H); (case hgd => exact rfl); (case ho => exact rfl); (case hx => exact rfl); (case hi => first | exact at0 | exact at1 | exact at2 | exact at3 | exact at4 | exact at5 | exact at6 | exact at7 | exact at8 | exact at9); intro _ _; go_simp)
          | ((with_reducible refine (refMul_k _ _ _).mono ?_); rintro e wc ⟨rfl, hb⟩; replace H := Lib.hid (H.out.call hb); clear hb)
          | ((with_reducible apply own_store rowF H); (case hgd => exact rfl); (case ho => exact rfl); (case hx => exact rfl); (case hy => exact rfl); (case hi => first | exact at0 | exact at1 | exact at2 | exact at3 | exact at4 | exact at5 | exact at6 | exact at7 | exact at8 | exact at9); intro ws H' _ _; replace H := H'; clear H'; simp only [List.set_cons_zero] at H; go_simp)
          | ((with_reducible refine (HK.out _ ((HS.out.below H.out.bel).more H.out.bel.size)).mono ?_); rintro e w' ⟨rfl, rfl⟩))
        rw [P0.out] at H
        go_roundw
        case rel => exact ⟨k, by have := Hjn.out; omega, by go_num, H.out⟩
        case measure => (simp [intOf] <;> omega)
      · have P1 := Lib.hid (Hy1 rfl)
        clear Hy0 Hy1
        rw [show ((1 : Nat) : Int) = 1 from rfl] at HK
        go_wp2_with (first
          | ((with_reducible apply own_load rowF H); (case hgd => exact rfl); (case ho => exact rfl); (case hx => exact rfl); (case hi => first | exact at0 | exact at1 | exact at2 | exact at3 | exact at4 | exact at5 | exact at6 | exact at7 | exact at8 | exact at9); intro _ _; go_simp)
          | ((with_reducible refine (refMul_k _ _ _).mono ?_); rintro e wc ⟨rfl, hb⟩; replace H := Lib.hid (H.out.call hb); clear hb)
          | ((with_reducible apply own_store rowF H); (case hgd => exact rfl); (case ho => exact rfl); (case hx => exact rfl); (case hy => exact rfl); (case hi => first | exact at0 | exact at1 | exact at2 | exact at3 | exact at4 | exact at5 | exact at6 | exact at7 | exact at8 | exact at9); intro ws H' _ _; replace H := H'; clear H'; simp only [List.set_cons_zero] at H; go_simp)
          | ((with_reducible refine (HK.out _ ((HS.out.below H.out.bel).more H.out.bel.size)).mono ?_); rintro e w' ⟨rfl, rfl⟩))
        rw [P1.out] at H
        go_roundw
        case rel => exact ⟨k, by have := Hjn.out; omega, by go_num, H.out⟩
        case measure => (simp [intOf] <;> omega)
end Go.Proofs.YtieoapcakdaelaaDoor
