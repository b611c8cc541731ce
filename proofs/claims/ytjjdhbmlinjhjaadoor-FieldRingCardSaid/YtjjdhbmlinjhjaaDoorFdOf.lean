/-
  The contracts of field.Of, Decode, Int, Swap.
-/
import Derived.Test.YtjjdhbmlinjhjaaDoorFdZero
import Derived.Test.YtjjdhbmlinjhjaaDoorFdTimes
namespace Go.Proofs.YtjjdhbmlinjhjaaDoor
open Go.RowKit

theorem hold_slice {w : World} {B : Nat} {a : Option Addr} {n c : Nat} {f : Nat → BitVec 8} (hs : Sl w B a n c f) (hn : 0 < n) : ∃ b o, a = some ⟨b, o, none⟩ ∧ b < B ∧ ∀ i, i < n → w.cell? ⟨b, o + i, none⟩ = some (U (f i)) := by
  obtain ⟨b, o, rfl, hb, _⟩ := hs.get 0 hn
  refine ⟨b, o, rfl, hb, fun i hi => ?_⟩
  obtain ⟨b', o', e, _, hc⟩ := hs.get i hi
  have := Option.some.inj e
  injection this with e1 e2
  subst e1 e2
  exact hc
/-- A limb of which the first bytes are there. -/
def oF (f : Nat → BitVec 8) (t k : Nat) : Nat := nB (fun j => f (7 * k + j)) (min 7 (t - 7 * k))
theorem oF_zero (f : Nat → BitVec 8) (k : Nat) : oF f 0 k = 0 := by
  unfold oF
  rw [Nat.zero_sub, Nat.min_zero]
  rfl
theorem oF_step (f : Nat → BitVec 8) (t : Nat) : updN (oF f t) (t / 7) (oF f t (t / 7) ||| (f t).toNat * 2 ^ (t % 7 * 8)) = oF f (t + 1) := by
  funext k
  unfold updN
  by_cases e : k = t / 7
  · subst e
    rw [if_pos rfl]
    have e1 : min 7 (t - 7 * (t / 7)) = t % 7 := by omega
    have e2 : min 7 (t + 1 - 7 * (t / 7)) = t % 7 + 1 := by omega
    have e3 : 7 * (t / 7) + t % 7 = t := by omega
    unfold oF
    rw [e1, e2]
    rw [show nB (fun j => f (7 * (t / 7) + j)) (t % 7 + 1) = nB (fun j => f (7 * (t / 7) + j)) (t % 7) + (f (7 * (t / 7) + t % 7)).toNat * 256 ^ (t % 7) from rfl, e3]
    have hl := nB_lt (fun j => f (7 * (t / 7) + j)) (t % 7)
    rw [show (256 : Nat) = 2 ^ 8 from rfl, ← Nat.pow_mul, Nat.mul_comm 8] at hl ⊢
    rw [Nat.or_comm, Nat.mul_comm, ← Nat.two_pow_add_eq_or_of_lt hl, Nat.add_comm]
  · rw [if_neg e]
    unfold oF
    congr 1
    omega
theorem oF_lt (f : Nat → BitVec 8) (t k : Nat) : oF f t k < 72057594037927936 :=
  Nat.lt_of_lt_of_le (nB_lt _ _) (Nat.pow_le_pow_right (n := 256) (by omega) (Nat.min_le_left 7 _))
theorem lv_oF (f : Nat → BitVec 8) : ∀ n, n ≤ 8 → lv (oF f 56) n = nB f (7 * n)
  | 0, _ => rfl
  | n + 1, hn => by
    rw [show lv (oF f 56) (n + 1) = lv (oF f 56) n + oF f 56 n * 72057594037927936 ^ n from rfl, lv_oF f n (by omega), show 7 * (n + 1) = 7 * n + 7 by omega, nB_split, pow_56]
    unfold oF
    rw [show min 7 (56 - 7 * n) = 7 by omega]
    congr 1
    exact Nat.mul_comm _ _
theorem NZ_upd (f : Nat → Nat) (i v : Nat) : updZ (NZ f) i (v : Int) = NZ (updN f i v) := by
  funext k
  unfold updZ NZ updN
  split <;> rfl
theorem lim_oF (f : Nat → BitVec 8) (t : Nat) : Lim (oF f t) := fun k _ => Nat.lt_of_lt_of_le (oF_lt f t k) (by omega)
set_option maxRecDepth 8000 in
set_option maxHeartbeats 1600000 in
theorem of_bad (a : Option Addr) (n c : Nat) (w : World) (hn : n ≠ 56) :
    Calls Tryd.prog 12 #[.slice a n c] w fun e w' => e = .returned (.tuple #[EV fun _ => 0, .int .i64 11]) ∧ Below w.heap.size w w' := by
  have hd : ((n : Int) != 56) = true := by rw [bne_iff_ne]; omega
  clear hn
  have H := Lib.hid (Ow.start w)
  go_enter Tryd.func12, Tryd.ntmps12
  go_wp2_with (first
    | ((fail_if_success have := g1); (with_reducible apply own_alloc nilE H); (case hgd => exact rfl); (case ho => exact rfl); intro w1 g1 H' _ _; replace H := H'; clear H'; go_simp)
    | ((with_reducible apply lay_build_E0); (case hgd => exact rfl); (case ho => exact rfl); intro _ _; go_simp)
    | ((with_reducible apply own_store rowE H); (case hgd => exact rfl); (case ho => exact rfl); (case hx => exact rfl); (case hy => exact rfl); (case hi => first | exact at0 | exact at1 | exact at2 | exact at3 | exact at4 | exact at5 | exact at6); intro ws H' _ _; replace H := H'; clear H'; simp only [List.set_cons_zero] at H; go_simp))
  exact bodyPost_ret (own_result_slot 0 rowE rfl _ H rfl rfl rfl) rfl ⟨rfl, H.out.bel⟩
set_option maxRecDepth 8000 in
set_option maxHeartbeats 1600000 in
theorem of_any (a : Option Addr) (c : Nat) (f : Nat → BitVec 8) (w : World) (hs : Sl w w.heap.size a 56 c f) :
    Calls Tryd.prog 12 #[.slice a 56 c] w fun e w' => e = .returned (.tuple #[EV (oF f 56), .int .i64 0]) ∧ Below w.heap.size w w' := by
  obtain ⟨b, o, rfl, hb, hcell⟩ := hold_slice hs (by omega)
  have HC := Lib.hid hcell
  have Hb := Lib.hid hb
  clear hs hcell hb
  have H := Lib.hid (Ow.start w)
  go_enter Tryd.func12, Tryd.ntmps12
  go_wp2_with (first
    | ((fail_if_success have := g1); (with_reducible apply own_alloc nilE H); (case hgd => exact rfl); (case ho => exact rfl); intro w1 g1 H' _ _; replace H := H'; clear H'; go_simp)
    | ((fail_if_success have := g2); (with_reducible apply own_alloc nilE H); (case hgd => exact rfl); (case ho => exact rfl); intro w2 g2 H' _ _; replace H := H'; clear H'; go_simp))
  replace H := Lib.hid (H.out.like 0 (g := NZ (oF f 0)) rfl fun k _ => by unfold NZ; rw [oF_zero]; rfl)
  simp only [List.set_cons_zero] at H
  go_loopw [13] (fun v wr => ∃ i : Nat, i ≤ 56 ∧ v = .int .i64 i ∧ Ow w wr [(g2, Blk 27 .u64 8 (NZ (oF f i))), (g1, Blk 27 .u64 8 fun _ => 0)]) (fun v _ => 56 - (intOf v).toNat)
  case atStart => exact ⟨0, by omega, rfl, H.out⟩
  case round =>
    clear H
    obtain ⟨i, hi, rfl, HR⟩ := hrel
    by_cases hlt : i < 56
    · have hid : decide ((i : Int) < 56) = true := by simp; omega
      have iN : (i : Int) < 56 := by omega
      have hc1 : wr.cell? ⟨b, o + i, none⟩ = some (U (f i)) := (HR.bel.cell (p := ⟨b, o + i, none⟩) Hb.out).trans (HC.out i hlt)
      obtain ⟨y, hy, hy2, hy3⟩ := byte_nat (f i)
      rw [show U (f i) = .int .u8 (y : Int) from congrArg (Value.int .u8) hy] at hc1
      have HY := Lib.hid hy2
      have H1 := Lib.hid HR
      clear HR hy hy2
      go_wp2_with fail
      refine wp_region_still_tail 13 (by kernel_rfl) (by kernel_rfl) ?_
      change wpStill _ _ wr.drew (fun a' => wpList _ _ _ _ a' wr.drew) _ _
      have D := Lib.hid H1.out.drew
      clear H1 hc1
      generalize wr.drew = w8 at *
      have HS := Lib.hid (oF_step f i)
      have hl := oF_lt f i (i / 7)
      have hl2 := oF_lt f (i + 1) (i / 7)
      rw [← HS.out, show updN (oF f i) (i / 7) (oF f i (i / 7) ||| (f i).toNat * 2 ^ (i % 7 * 8)) (i / 7) = oF f i (i / 7) ||| (f i).toNat * 2 ^ (i % 7 * 8) by unfold updN; rw [if_pos rfl]] at hl2
      rw [← HY.out] at HS hl2
      have hp : y * 2 ^ (i % 7 * 8) < 18446744073709551616 := by
        have h1 : 2 ^ (i % 7 * 8) ≤ 2 ^ 48 := Nat.pow_le_pow_right (by omega) (by omega)
        have h2 := Nat.mul_le_mul (show y ≤ 255 by omega) h1
        omega
      obtain ⟨q, hq⟩ : ∃ q, i / 7 = q := ⟨_, rfl⟩
      obtain ⟨s, hs⟩ : ∃ s, i % 7 * 8 = s := ⟨_, rfl⟩
      have eq1 : (i : Int) / 7 = (q : Int) := by omega
      have q8 : (q : Int) < 8 := by omega
      have q8' : q < 8 := by omega
      have f1 : IntKind.i64.wrap (q : Int) = (q : Int) := IntWalk.i64_in _ (by omega)
      rw [hq, hs] at HS hl2
      rw [hq] at hl
      rw [hs] at hp
      have hc := D.out.cell 0 rfl q q8'
      have hz := D.out.thaw 0 rfl q
      obtain ⟨x, hx⟩ : ∃ x, oF f i q = x := ⟨_, rfl⟩
      have nx : NZ (oF f i) q = (x : Int) := by rw [← hx]; rfl
      rw [nx] at hc
      rw [hx] at hl HS hl2
      obtain ⟨z, hz'⟩ : ∃ z, y * 2 ^ s = z := ⟨_, rfl⟩
      rw [hz'] at hp HS hl2
      have e1 : (y : Int) * 2 ^ s = (z : Int) := by rw [← hz', Int.natCast_mul, Int.natCast_pow]; rfl
      have e2 : IntKind.u64.wrap (z : Int) = (z : Int) := by rw [IntKind.wrap_u64]; omega
      have e0 : IntKind.u64.wrap (y : Int) = (y : Int) := by rw [IntKind.wrap_u64]; omega
      have e3 := u64_or_nat x z (by omega) hp
      obtain ⟨r, hr⟩ : ∃ r, x ||| z = r := ⟨_, rfl⟩
      rw [hr] at e3 HS hl2
      have sm : min s 64 = s := by omega
      have HU := Lib.hid (D.out.setCell 0 rfl q (r : Int))
      rw [NZ_upd, HS.out] at HU
      have HSs := Lib.hid hs
      clear D hl hl2 hp hq hs hx nx hz' hr HS
      simp only [List.take_succ_cons, List.take_zero, List.drop_succ_cons, List.drop_zero]
      iterate 8 still_step
      still_call (up_any i _ (by omega) s HSs.out)
      iterate 4 still_step
      refine wpStill_nil ?_
      clear e0 e1 e2 e3 sm
      go_wp2_with fail
      go_roundw
      case rel => exact ⟨i + 1, by omega, by go_num, HU.out⟩
      case measure => simp [intOf]; omega
    · obtain rfl : i = 56 := by omega
      clear hlt hi
      rw [show ((56 : Nat) : Int) = 56 from rfl]
      have H := Lib.hid HR
      clear HR
      go_wp2_with (first
        | ((with_reducible apply own_load rowE H); (case hgd => exact rfl); (case ho => exact rfl); (case hx => exact rfl); (case hi => first | exact at0 | exact at1 | exact at2 | exact at3 | exact at4 | exact at5 | exact at6); intro _ _; go_simp)
        | ((with_reducible apply own_store rowE H); (case hgd => exact rfl); (case ho => exact rfl); (case hx => exact rfl); (case hy => exact rfl); (case hi => first | exact at0 | exact at1 | exact at2 | exact at3 | exact at4 | exact at5 | exact at6); intro ws H' _ _; replace H := H'; clear H'; simp only [List.set_cons_zero, List.set_cons_succ] at H; go_simp))
      exact bodyPost_ret (own_result_slot 1 rowE rfl _ H rfl rfl rfl) rfl ⟨rfl, H.out.bel⟩
theorem lv_of (f : Nat → BitVec 8) : lv (oF f 56) 8 = nB f 56 := lv_oF f 8 (by omega)
set_option maxRecDepth 8000 in
set_option maxHeartbeats 1600000 in
theorem decode_bad (a : Option Addr) (n c : Nat) (w : World) (hn : n ≠ 56) :
    Calls Tryd.prog 13 #[.slice a n c] w fun e w' => e = .returned (.tuple #[EV fun _ => 0, .int .i64 11]) ∧ Below w.heap.size w w' := by
  have HO := Lib.hid (fun w => of_bad a n c w hn)
  clear hn
  have H := Lib.hid (Ow.start w)
  go_enter Tryd.func13, Tryd.ntmps13
  go_wp2_with (first
    | ((fail_if_success have := g1); (with_reducible apply own_alloc nilE H); (case hgd => exact rfl); (case ho => exact rfl); intro w1 g1 H' _ _; replace H := H'; clear H'; go_simp)
    | ((with_reducible refine (HO.out _).mono ?_); rintro e wc ⟨rfl, hb⟩; replace H := Lib.hid (H.out.call hb); clear hb)
    | ((fail_if_success have := g2); (with_reducible apply own_alloc nilE H); (case hgd => exact rfl); (case ho => exact rfl); intro w2 g2 H' _ _; replace H := H'; clear H'; go_simp)
    | ((with_reducible apply lay_build_E0); (case hgd => exact rfl); (case ho => exact rfl); intro _ _; go_simp)
    | ((with_reducible apply own_store rowE H); (case hgd => exact rfl); (case ho => exact rfl); (case hx => exact rfl); (case hy => exact rfl); (case hi => first | exact at0 | exact at1 | exact at2 | exact at3 | exact at4 | exact at5 | exact at6); intro ws H' _ _; replace H := H'; clear H'; simp only [List.set_cons_zero, List.set_cons_succ] at H; go_simp))
  exact bodyPost_ret (own_result_slot 1 rowE rfl _ H rfl rfl rfl) rfl ⟨rfl, H.out.bel⟩
set_option maxRecDepth 8000 in
set_option maxHeartbeats 1600000 in
theorem decode_far (a : Option Addr) (c : Nat) (f : Nat → BitVec 8) (w : World) (hs : Sl w w.heap.size a 56 c f) (hp : pN ≤ nB f 56) :
    Calls Tryd.prog 13 #[.slice a 56 c] w fun e w' => e = .returned (.tuple #[EV fun _ => 0, .int .i64 12]) ∧ Below w.heap.size w w' := by
  have HS := Lib.hid hs
  have HX := Lib.hid (fun w => excess_any (oF f 56) w (lim_oF f 56))
  have hx : exN (oF f 56) = 1 := by unfold exN; rw [lv_of, if_neg (by omega)]
  rw [hx] at HX
  clear hs hp hx
  have H := Lib.hid (Ow.start w)
  go_enter Tryd.func13, Tryd.ntmps13
  go_wp2_with (first
    | ((fail_if_success have := g1); (with_reducible apply own_alloc nilE H); (case hgd => exact rfl); (case ho => exact rfl); intro w1 g1 H' _ _; replace H := H'; clear H'; go_simp)
    | ((with_reducible refine (of_any a c f _ ((HS.out.below H.out.bel).more H.out.bel.size)).mono ?_); rintro e wc ⟨rfl, hb⟩; replace H := Lib.hid (H.out.call hb); clear hb)
    | ((fail_if_success have := g2); (with_reducible apply own_alloc nilE H); (case hgd => exact rfl); (case ho => exact rfl); intro w2 g2 H' _ _; replace H := H'; clear H'; go_simp)
    | ((with_reducible apply lay_build_E0); (case hgd => exact rfl); (case ho => exact rfl); intro _ _; go_simp)
    | ((with_reducible apply own_store rowE H); (case hgd => exact rfl); (case ho => exact rfl); (case hx => exact rfl); (case hy => exact rfl); (case hi => first | exact at0 | exact at1 | exact at2 | exact at3 | exact at4 | exact at5 | exact at6); intro ws H' _ _; replace H := H'; clear H'; simp only [List.set_cons_zero, List.set_cons_succ] at H; go_simp)
    | ((with_reducible apply own_load rowE H); (case hgd => exact rfl); (case ho => exact rfl); (case hx => exact rfl); (case hi => first | exact at0 | exact at1 | exact at2 | exact at3 | exact at4 | exact at5 | exact at6); intro _ _; go_simp)
    | ((with_reducible refine (HX.out _).mono ?_); rintro e wc ⟨rfl, hb⟩; replace H := Lib.hid (H.out.call hb); clear hb))
  exact bodyPost_ret (own_result_slot 1 rowE rfl _ H rfl rfl rfl) rfl ⟨rfl, H.out.bel⟩
set_option maxRecDepth 8000 in
set_option maxHeartbeats 1600000 in
theorem decode_near (a : Option Addr) (c : Nat) (f : Nat → BitVec 8) (w : World) (hs : Sl w w.heap.size a 56 c f) (hp : nB f 56 < pN) :
    Calls Tryd.prog 13 #[.slice a 56 c] w fun e w' => e = .returned (.tuple #[EV (oF f 56), .int .i64 0]) ∧ Below w.heap.size w w' := by
  have HS := Lib.hid hs
  have HX := Lib.hid (fun w => excess_any (oF f 56) w (lim_oF f 56))
  have hx : exN (oF f 56) = 0 := by unfold exN; rw [lv_of, if_pos hp]
  rw [hx] at HX
  clear hs hp hx
  have H := Lib.hid (Ow.start w)
  go_enter Tryd.func13, Tryd.ntmps13
  go_wp2_with (first
    | ((fail_if_success have := g1); (with_reducible apply own_alloc nilE H); (case hgd => exact rfl); (case ho => exact rfl); intro w1 g1 H' _ _; replace H := H'; clear H'; go_simp)
    | ((with_reducible refine (of_any a c f _ ((HS.out.below H.out.bel).more H.out.bel.size)).mono ?_); rintro e wc ⟨rfl, hb⟩; replace H := Lib.hid (H.out.call hb); clear hb)
    | ((fail_if_success have := g2); (with_reducible apply own_alloc nilE H); (case hgd => exact rfl); (case ho => exact rfl); intro w2 g2 H' _ _; replace H := H'; clear H'; go_simp)
    | ((with_reducible apply own_store rowE H); (case hgd => exact rfl); (case ho => exact rfl); (case hx => exact rfl); (case hy => exact rfl); (case hi => first | exact at0 | exact at1 | exact at2 | exact at3 | exact at4 | exact at5 | exact at6); intro ws H' _ _; replace H := H'; clear H'; simp only [List.set_cons_zero, List.set_cons_succ] at H; go_simp)
    | ((with_reducible apply own_load rowE H); (case hgd => exact rfl); (case ho => exact rfl); (case hx => exact rfl); (case hi => first | exact at0 | exact at1 | exact at2 | exact at3 | exact at4 | exact at5 | exact at6); intro _ _; go_simp)
    | ((with_reducible refine (HX.out _).mono ?_); rintro e wc ⟨rfl, hb⟩; replace H := Lib.hid (H.out.call hb); clear hb))
  exact bodyPost_ret (own_result_slot 1 rowE rfl _ H rfl rfl rfl) rfl ⟨rfl, H.out.bel⟩
end Go.Proofs.YtjjdhbmlinjhjaaDoor
