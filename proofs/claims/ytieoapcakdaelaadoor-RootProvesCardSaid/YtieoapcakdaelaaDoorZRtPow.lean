/-
  The contract of package root's Power. No statement is proved here: lemmas for the walks.
-/
import Derived.Test.YtieoapcakdaelaaDoorZRtK
import Derived.Test.YtieoapcakdaelaaDoorBuR
import Derived.Test.YtieoapcakdaelaaDoorZRtAbs
namespace Go.Proofs.YtieoapcakdaelaaDoor
open Go.RowKit

theorem pow_bit (a : K) (x k : Nat) : a ^ (x / 2 ^ k) = a ^ (x / 2 ^ (k + 1)) * a ^ (x / 2 ^ (k + 1)) * (if x / 2 ^ k % 2 = 0 then 1 else a) := by
  have e : x / 2 ^ (k + 1) = x / 2 ^ k / 2 := (half_once x k).symm
  rw [e]
  generalize x / 2 ^ k = y
  rw [← fp_pow_add]
  split
  · rw [show y / 2 + y / 2 = y by omega]
    grind
  · rw [← fp_pow_succ, show y / 2 + y / 2 + 1 = y by omega]
theorem pow_bit0 {a : K} {x k : Nat} (h : x / 2 ^ k % 2 = 0) : a ^ (x / 2 ^ (k + 1)) * a ^ (x / 2 ^ (k + 1)) = a ^ (x / 2 ^ k) := by
  rw [pow_bit a x k, if_pos h]
  grind
theorem pow_bit1 {a : K} {x k : Nat} (h : x / 2 ^ k % 2 = 1) : a ^ (x / 2 ^ (k + 1)) * a ^ (x / 2 ^ (k + 1)) * a = a ^ (x / 2 ^ k) := by rw [pow_bit a x k, if_neg (by omega)]
set_option maxRecDepth 8000 in
set_option maxHeartbeats 3200000 in
theorem power_k {f : Nat → Nat} {a : K} (ad : Option Addr) (n c x : Nat) (w : World) (hT : Tp w) (hf : EK f a) (hs : Sb w w.heap.size ad n c x) (hn : n ≤ 1000) :
    Calls Tryd.prog 29 #[EV f, .slice ad n c] w fun e w' => ∃ h, e = .returned (EV h) ∧ EK h (a ^ x) ∧ Below w.heap.size w w' := by
  have HF := Lib.hid hf
  have HT := Lib.hid hT
  have HS := Lib.hid hs
  have hnZ : (n : Int) ≤ 1000 := by omega
  clear hf hT hs
  have H := Lib.hid (Ow.start w)
  go_enter Tryd.func29, Tryd.ntmps29
  go_wp2_with (first
    | ((fail_if_success have := g2); (with_reducible apply own_box H); (case hgd => exact rfl); (case ho => exact rfl); (case hx => exact rfl); intro w2 g2 H' _ _; replace H := H'; clear H'; go_simp)
    | ((fail_if_success have := g4); (with_reducible apply own_alloc nilE H); (case hgd => exact rfl); (case ho => exact rfl); intro w4 g4 H' _ _; replace H := H'; clear H'; go_simp))
  go_step3
  go_wp2_with (first
    | ((with_reducible refine (int_k 1 _ (HT.out.below H.out.bel) (by omega) (by omega)).mono ?_); rintro e wc ⟨h0, rfl, hv, hb⟩; replace H := Lib.hid (H.out.call hb); clear hb; have HV0 := Lib.hid hv; clear hv)
    | ((fail_if_success have := g5); (with_reducible apply own_alloc nilE H); (case hgd => exact rfl); (case ho => exact rfl); intro w5 g5 H' _ _; replace H := H'; clear H'; go_simp)
    | ((with_reducible apply own_store rowE H); (case hgd => exact rfl); (case ho => exact rfl); (case hx => exact rfl); (case hy => exact rfl); (case hi => first | exact at0 | exact at1 | exact at2 | exact at3 | exact at4 | exact at5 | exact at6 | exact at7 | exact at8 | exact at9); intro ws H' _ _; replace H := H'; clear H'; simp only [List.set_cons_zero] at H; go_simp))
  go_step3
  go_wp2_with fail
  go_loopw [6] (fun v wr => ∃ (j : Nat) (h : Nat → Nat), j ≤ 8 * n ∧ v = .int .i64 ((j : Int) - 1) ∧ EK h (a ^ (x / 2 ^ j)) ∧ Ow w wr [(g5, Blk 28 .u64 8 (NZ h)), (g4, Blk 28 .u64 8 fun _ => 0), (g2, Blk 28 .u64 8 (NZ f))]) (fun v _ => (intOf v + 1).toNat)
  case atStart => exact ⟨8 * n, h0, Nat.le_refl _, by go_num, HV0.out.eq (by rw [ofZ_one, Nat.div_eq_of_lt HS.out.fits, fp_pow_zero]), H.out⟩
  case round =>
    clear H
    obtain ⟨j, h, hj, rfl, hv, HR⟩ := hrel
    have HV := Lib.hid hv
    clear hv
    cases j with
    | zero =>
      rw [show ((0 : Nat) : Int) - 1 = -1 from rfl]
      have H := Lib.hid HR
      clear HR
      go_wp2_with (first
        | ((with_reducible apply own_load rowE H); (case hgd => exact rfl); (case ho => exact rfl); (case hx => exact rfl); (case hi => first | exact at0 | exact at1 | exact at2 | exact at3 | exact at4 | exact at5 | exact at6 | exact at7 | exact at8 | exact at9); intro _ _; go_simp)
        | ((with_reducible apply own_store rowE H); (case hgd => exact rfl); (case ho => exact rfl); (case hx => exact rfl); (case hy => exact rfl); (case hi => first | exact at0 | exact at1 | exact at2 | exact at3 | exact at4 | exact at5 | exact at6 | exact at7 | exact at8 | exact at9); intro ws H' _ _; replace H := H'; clear H'; simp only [List.set_cons_zero, List.set_cons_succ] at H; go_simp))
      rw [Exit.noGoto_ret]
      exact bodyPost_ret (own_result 1 rowE rfl _ H rfl rfl) rfl ⟨h, rfl, HV.out.eq (by rw [Nat.pow_zero, Nat.div_one]), H.out.bel⟩
    | succ k =>
      have hid : decide ((0 : Int) ≤ (k : Int)) = true := by simp
      rw [show ((k + 1 : Nat) : Int) - 1 = (k : Int) by omega]
      obtain ⟨q, hq⟩ : ∃ q, k / 8 = q := ⟨_, rfl⟩
      obtain ⟨s, hs⟩ : ∃ s, k % 8 = s := ⟨_, rfl⟩
      have hqn : q < n := by omega
      obtain ⟨b, o, rfl, hb, hcc⟩ := HS.out.sl.get q hqn
      obtain ⟨y, hy⟩ : ∃ y, (bt x q).toNat = y := ⟨_, rfl⟩
      have HC : Hid (w.cell? ⟨b, o + q, none⟩ = some (.int .u8 (y : Int))) := Lib.hid (by
        rw [hcc]
        exact congrArg (fun v => some (Value.int .u8 v)) (by rw [← hy]; rfl))
      have Hb := Lib.hid hb
      have e0 : (k : Int).tmod 8 = (s : Int) := by rw [Int.tmod_eq_emod_of_nonneg (by omega)]; omega
      have e1 : (k : Int) / 8 = (q : Int) := by omega
      have e2 : (k : Int) % 8 = (s : Int) := by omega
      obtain ⟨z, hz⟩ : ∃ z, y / 2 ^ s = z := ⟨_, rfl⟩
      have e3 : (y : Int) / 2 ^ s = (z : Int) := by rw [← hz, Int.natCast_ediv, Int.natCast_pow]; rfl
      have hy2 : y < 256 := by rw [← hy]; exact (bt x q).isLt
      have hz2 : z ≤ y := by rw [← hz]; exact Nat.div_le_self _ _
      have e4 : IntKind.u8.wrap (z : Int) = (z : Int) := by rw [IntKind.wrap_u8]; omega
      obtain ⟨u, hu⟩ : ∃ u, z % 2 = u := ⟨_, rfl⟩
      have e5 := u8_and1 z
      rw [hu] at e5
      have sm : min s 64 = s := by omega
      have s8 : (s : Int) < 8 := by omega
      have qn : (q : Int) < (n : Int) := by omega
      have HX : Hid (x / 2 ^ k % 2 = u) := Lib.hid (by
        rw [← hu, ← hz, ← hy, bt_nat, ← hq, ← hs, ← dg_bit]
        rfl)
      have H := Lib.hid HR
      have Hjn := Lib.hid hj
      clear HR hq hs hqn hcc hb hy hz hy2 hj
      rcases (by omega : u = 0 ∨ u = 1) with rfl | rfl
      · rw [show ((0 : Nat) : Int) = 0 from rfl] at e5
        go_wp2_with (first
          | ((with_reducible apply own_load rowE H); (case hgd => exact rfl); (case ho => exact rfl); (case hx => exact rfl); (case hi => first | exact at0 | exact at1 | exact at2 | exact at3 | exact at4 | exact at5 | exact at6 | exact at7 | exact at8 | exact at9); intro _ _; go_simp)
          | ((with_reducible refine (square_k _ HV.out).mono ?_); rintro e wc ⟨h1, rfl, hv, hb⟩; replace H := Lib.hid (H.out.call hb); clear hb; have HV1 := Lib.hid hv; clear hv)
          | ((with_reducible apply own_store rowE H); (case hgd => exact rfl); (case ho => exact rfl); (case hx => exact rfl); (case hy => exact rfl); (case hi => first | exact at0 | exact at1 | exact at2 | exact at3 | exact at4 | exact at5 | exact at6 | exact at7 | exact at8 | exact at9); intro ws H' _ _; replace H := H'; clear H'; have hc := (H.out.bel.cell (p := ⟨b, o + q, none⟩) Hb.out).trans HC.out; simp only [List.set_cons_zero] at H; go_simp))
        go_roundw
        case rel => exact ⟨k, h1, by have := Hjn.out; omega, by go_num, HV1.out.eq (pow_bit0 HX.out), H.out⟩
        case measure => (simp [intOf] <;> omega)
      · rw [show ((1 : Nat) : Int) = 1 from rfl] at e5
        go_wp2_with (first
          | ((with_reducible apply own_load rowE H); (case hgd => exact rfl); (case ho => exact rfl); (case hx => exact rfl); (case hi => first | exact at0 | exact at1 | exact at2 | exact at3 | exact at4 | exact at5 | exact at6 | exact at7 | exact at8 | exact at9); intro _ _; go_simp)
          | ((with_reducible refine (square_k _ HV.out).mono ?_); rintro e wc ⟨h1, rfl, hv, hb⟩; replace H := Lib.hid (H.out.call hb); clear hb; have HV1 := Lib.hid hv; clear hv)
          | ((with_reducible apply own_store rowE H); (case hgd => exact rfl); (case ho => exact rfl); (case hx => exact rfl); (case hy => exact rfl); (case hi => first | exact at0 | exact at1 | exact at2 | exact at3 | exact at4 | exact at5 | exact at6 | exact at7 | exact at8 | exact at9); intro ws H' _ _; replace H := H'; clear H'; have hc := (H.out.bel.cell (p := ⟨b, o + q, none⟩) Hb.out).trans HC.out; simp only [List.set_cons_zero] at H; go_simp)
          | ((with_reducible refine (mul_k _ HV1.out HF.out).mono ?_); rintro e wc ⟨h2, rfl, hv, hb⟩; replace H := Lib.hid (H.out.call hb); clear hb; have HV2 := Lib.hid hv; clear hv))
        go_roundw
        case rel => exact ⟨k, h2, by have := Hjn.out; omega, by go_num, HV2.out.eq (pow_bit1 HX.out), H.out⟩
        case measure => (simp [intOf] <;> omega)
end Go.Proofs.YtieoapcakdaelaaDoor
