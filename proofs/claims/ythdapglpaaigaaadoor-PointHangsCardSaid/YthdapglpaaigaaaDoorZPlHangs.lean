/-
  The walk of PointHangs. No statement is proved here: lemmas for the walks.
-/
import Derived.Test.YthdapglpaaigaaaDoorZPlAwake
import Derived.Test.YthdapglpaaigaaaDoorZPlSpotB
import Derived.Deep.CutRange
import Derived.Deep.LoopGhost
namespace Go.Proofs.YthdapglpaaigaaaDoor
open Go.RowKit

/-- The first i bytes of a number, noughts behind. -/
def mxS (x i : Nat) : Nat → BitVec 8 := fun j => if j < i then bt x j else 0
theorem mxS_zero (x : Nat) : mxS x 0 = fun _ => 0 := by
  funext j
  unfold mxS
  rw [if_neg (by omega)]
theorem mxS_step (x i : Nat) : upd8 (mxS x i) i (bt x i) = mxS x (i + 1) := by
  funext j
  unfold upd8 mxS
  by_cases h : j = i
  · rw [if_pos h, if_pos (by omega), h]
  · rw [if_neg h]
    by_cases h2 : j < i
    · rw [if_pos h2, if_pos (by omega)]
    · rw [if_neg h2, if_neg (by omega)]
theorem mxS_num {x : Nat} (h : x < 2 ^ (8 * 57)) : Num57 (mxS x 57) x := ⟨h, fun i hi => by unfold mxS; rw [if_pos hi]⟩
theorem top_zero {u : Nat → BitVec 8} {x : Nat} (h : Num57 u x) (h0 : u 56 = 0) : x < 2 ^ (8 * 56) := by
  have h1 := h.fits
  have h2 := h.same 56 (by omega)
  rw [h0] at h2
  have h3 : (bt x 56).toNat = 0 := by rw [h2]; rfl
  rw [bt_nat] at h3
  obtain ⟨e, he⟩ : ∃ e, e = 8 * 56 := ⟨_, rfl⟩
  rw [← he] at h3 ⊢
  rw [show 8 * 57 = e + 8 by omega, Nat.pow_add] at h1
  have h4 : x / 2 ^ e < 256 := by
    rw [Nat.div_lt_iff_lt_mul (Nat.two_pow_pos _), Nat.mul_comm]
    exact h1
  rw [Nat.mod_eq_of_lt h4] at h3
  rcases Nat.div_eq_zero_iff.1 h3 with h5 | h5
  · have := Nat.two_pow_pos e
    omega
  · exact h5
theorem sum_fits {x1 x2 : Nat} (h1 : x1 < 2 ^ (8 * 56)) (h2 : x2 < 2 ^ (8 * 56)) : x1 + x2 < 2 ^ (8 * 57) := by
  obtain ⟨e, he⟩ : ∃ e, e = 8 * 56 := ⟨_, rfl⟩
  rw [← he] at h1 h2
  rw [show 8 * 57 = e + 8 by omega, Nat.pow_add]
  generalize 2 ^ e = p at *
  omega
theorem qn_sum (y z : Int) : (qn y + qn z) % 4 = qn (y.tmod 4 + z.tmod 4) := by
  have e : ∀ a : Int, a.tmod 4 % 4 = a % 4 := fun a => by
    have h1 : a.tmod 4 = if 0 ≤ a then a % 4 else -((-a) % 4) := by
      split
      · exact Int.tmod_eq_emod_of_nonneg (by omega)
      · have : a.tmod 4 = -((-a).tmod 4) := by rw [Int.neg_tmod, Int.neg_neg]
        rw [this, Int.tmod_eq_emod_of_nonneg (by omega)]
    rw [h1]
    split <;> omega
  have e1 := e y
  have e2 := e z
  unfold qn
  generalize y.tmod 4 = a at *
  generalize z.tmod 4 = b at *
  omega
theorem hangs_eq (x1 x2 : Nat) (y z : Int) : padd edK (spot x1 (qn y)) (spot x2 (qn z)) = spot (x1 + x2) (qn (y.tmod 4 + z.tmod 4)) := by rw [spot_add, ← spot_mod, qn_sum]
theorem byte_ne {b : BitVec 8} (h : b ≠ 0) : ∃ n : Nat, U8 b = (n : Int) ∧ ((n : Int) != 0) = true := ⟨b.toNat, rfl, by
  rw [bne_iff_ne]
  intro e
  exact h (BitVec.eq_of_toNat_eq (by have : b.toNat = 0 := by omega
                                     rw [this]; rfl))⟩
set_option maxRecDepth 20000 in
set_option maxHeartbeats 12800000 in
theorem hangs_far0 (u v : Nat → BitVec 8) (y z : Int) (w : World) (hT : Tp w) (h1 : u 56 ≠ 0) :
    Calls Tryd.prog 8 #[.agg (SpotA u y), .agg (SpotA v z)] w fun e w' => e = .returned (.bool true) ∧ Below w.heap.size w w' := by
  have HT := Lib.hid hT
  clear hT
  obtain ⟨n, hn, hd⟩ := byte_ne h1
  have H := Lib.hid (Ow.start w)
  go_enter Tryd.func8, Tryd.ntmps8
  go_upto_region 1 with (first
    | ((fail_if_success have := g2); (with_reducible apply own_boxS H); (case hgd => exact rfl); (case ho => exact rfl); (case hx => exact rfl); intro w2 g2 H' _ _; replace H := H'; clear H'; go_simp)
    | ((fail_if_success have := g3); (fail_if_success have := g3); (with_reducible apply own_boxS H); (case hgd => exact rfl); (case ho => exact rfl); (case hx => exact rfl); intro w3 g3 H' _ _; replace H := H'; clear H'; go_simp))
  have hc1 := H.out.sbyte 1 rfl 56 (by omega)
  rw [show U (u 56) = .int .u8 (n : Int) from congrArg (Value.int .u8) hn] at hc1
  clear h1 hn
  go_wp2_with (first
    | ((with_reducible refine (awake8_k _ (HT.out.below H.out.bel)).mono ?_); rintro e wc ⟨rfl, hb⟩; replace H := Lib.hid (H.out.call hb); clear hb))
  go_ret
  exact ⟨rfl, H.out.bel⟩
set_option maxRecDepth 20000 in
set_option maxHeartbeats 12800000 in
theorem hangs_far1 (u v : Nat → BitVec 8) (y z : Int) (w : World) (hT : Tp w) (h0 : u 56 = 0) (h1 : v 56 ≠ 0) :
    Calls Tryd.prog 8 #[.agg (SpotA u y), .agg (SpotA v z)] w fun e w' => e = .returned (.bool true) ∧ Below w.heap.size w w' := by
  have HT := Lib.hid hT
  clear hT
  obtain ⟨n, hn, hd⟩ := byte_ne h1
  have H := Lib.hid (Ow.start w)
  go_enter Tryd.func8, Tryd.ntmps8
  go_upto_region 1 with (first
    | ((fail_if_success have := g2); (with_reducible apply own_boxS H); (case hgd => exact rfl); (case ho => exact rfl); (case hx => exact rfl); intro w2 g2 H' _ _; replace H := H'; clear H'; go_simp)
    | ((fail_if_success have := g3); (fail_if_success have := g3); (with_reducible apply own_boxS H); (case hgd => exact rfl); (case ho => exact rfl); (case hx => exact rfl); intro w3 g3 H' _ _; replace H := H'; clear H'; go_simp))
  have hc1 := H.out.sbyte 1 rfl 56 (by omega)
  rw [show U (u 56) = .int .u8 0 by rw [h0]; rfl] at hc1
  have hc2 := H.out.sbyte 0 rfl 56 (by omega)
  rw [show U (v 56) = .int .u8 (n : Int) from congrArg (Value.int .u8) hn] at hc2
  clear h0 h1 hn
  go_wp2_with (first
    | ((with_reducible refine (awake8_k _ (HT.out.below H.out.bel)).mono ?_); rintro e wc ⟨rfl, hb⟩; replace H := Lib.hid (H.out.call hb); clear hb))
  go_ret
  exact ⟨rfl, H.out.bel⟩
set_option maxRecDepth 20000 in
set_option maxHeartbeats 12800000 in
theorem hangs_near (u v : Nat → BitVec 8) (y z : Int) (w : World) (hT : Tp w) (x1 x2 : Nat) (hx1 : Num57 u x1) (hx2 : Num57 v x2) (h0 : u 56 = 0) (h1 : v 56 = 0) :
    Calls Tryd.prog 8 #[.agg (SpotA u y), .agg (SpotA v z)] w fun e w' => e = .returned (.bool true) ∧ Below w.heap.size w w' := by
  have M1 := Lib.hid (fun w hT => made8_k u y x1 w hT hx1)
  have M2 := Lib.hid (fun w hT => made8_k v z x2 w hT hx2)
  have HM : Hid (∀ q w, Tp w → Calls Tryd.prog 16 #[.agg (SpotA (mxS (x1 + x2) 57) q)] w fun e w' => ∃ r, e = .returned (.tuple #[PO r, .bool true]) ∧ PtK r (spot (x1 + x2) (qn q)) ∧ Below w.heap.size w w') := Lib.hid (fun q w hT => made8_k _ q _ w hT (mxS_num (sum_fits (top_zero hx1 h0) (top_zero hx2 h1))))
  have HS1 : Hid (∀ i, i < 57 → U (u i) = .int .u8 ((dg x1 i : Nat) : Int)) := Lib.hid (fun i hi => by rw [← hx1.same i hi]; exact congrArg (Value.int .u8) (U8_bt x1 i))
  have HS2 : Hid (∀ i, i < 57 → U (v i) = .int .u8 ((dg x2 i : Nat) : Int)) := Lib.hid (fun i hi => by rw [← hx2.same i hi]; exact congrArg (Value.int .u8) (U8_bt x2 i))
  have HEQ := Lib.hid (hangs_eq x1 x2 y z)
  obtain ⟨P1, hP1⟩ : ∃ P, spot x1 (qn y) = P := ⟨_, rfl⟩
  obtain ⟨P2, hP2⟩ : ∃ P, spot x2 (qn z) = P := ⟨_, rfl⟩
  rw [hP1] at M1 HEQ
  rw [hP2] at M2 HEQ
  obtain ⟨ty, hty⟩ : ∃ t, y.tmod 4 = t := ⟨_, rfl⟩
  obtain ⟨tz, htz⟩ : ∃ t, z.tmod 4 = t := ⟨_, rfl⟩
  have b1 := tmod4_lt y
  have b2 := tmod4_lt z
  rw [hty] at b1 HEQ
  rw [htz] at b2 HEQ
  have f1 : IntKind.i64.wrap ty = ty := IntWalk.i64_in _ (by omega)
  have f2 : IntKind.i64.wrap tz = tz := IntWalk.i64_in _ (by omega)
  obtain ⟨ts, hts⟩ : ∃ t, ty + tz = t := ⟨_, rfl⟩
  rw [hts] at HEQ
  have f3 : IntKind.i64.wrap ts = ts := IntWalk.i64_in _ (by omega)
  have F1 := Lib.hid f1
  have F2 := Lib.hid f2
  have F3 := Lib.hid f3
  have HTY := Lib.hid hty
  have HTZ := Lib.hid htz
  have HTS := Lib.hid hts
  obtain ⟨x, hx⟩ : ∃ x, x1 + x2 = x := ⟨_, rfl⟩
  rw [hx] at HM HEQ
  have HXX := Lib.hid hx
  have h0' := Lib.hid h0
  have h1' := Lib.hid h1
  clear hP1 hP2 hty htz hts b1 b2 hx1 hx2 hx f1 f2 f3 h0 h1
  have HT := Lib.hid hT
  clear hT
  have H := Lib.hid (Ow.start w)
  go_enter Tryd.func8, Tryd.ntmps8
  go_upto_region 1 with (first
    | ((fail_if_success have := g2); (with_reducible apply own_boxS H); (case hgd => exact rfl); (case ho => exact rfl); (case hx => exact rfl); intro w2 g2 H' _ _; replace H := H'; clear H'; go_simp)
    | ((fail_if_success have := g3); (fail_if_success have := g3); (with_reducible apply own_boxS H); (case hgd => exact rfl); (case ho => exact rfl); (case hx => exact rfl); intro w3 g3 H' _ _; replace H := H'; clear H'; go_simp))
  have hc1 := H.out.sbyte 1 rfl 56 (by omega)
  rw [show U (u 56) = .int .u8 0 by rw [h0'.out]; rfl] at hc1
  have hc2 := H.out.sbyte 0 rfl 56 (by omega)
  rw [show U (v 56) = .int .u8 0 by rw [h1'.out]; rfl] at hc2
  clear h0' h1'
  go_upto_region 3 with fail
  clear hc1 hc2
  go_wp2_with (first
    | ((with_reducible apply own_loadS H); (case hgd => exact rfl); (case ho => exact rfl); (case hx => exact rfl); (case hi => first | exact at0 | exact at1 | exact at2 | exact at3 | exact at4 | exact at5 | exact at6 | exact at7 | exact at8 | exact at9); intro _ _; go_simp)
    | ((fail_if_success have := V1); (with_reducible refine (M1.out _ (HT.out.below H.out.bel)).mono ?_); rintro e wc ⟨k1, rfl, hv, hb⟩; replace H := Lib.hid (H.out.call hb); clear hb; have V1 := Lib.hid hv; clear hv)
    | ((fail_if_success have := V2); (with_reducible refine (M2.out _ (HT.out.below H.out.bel)).mono ?_); rintro e wc ⟨k2, rfl, hv, hb⟩; replace H := Lib.hid (H.out.call hb); clear hb; have V2 := Lib.hid hv; clear hv)
    | ((fail_if_success have := g5); (fail_if_success have := g5); (with_reducible apply own_alloc nilPt H); (case hgd => exact rfl); (case ho => exact rfl); intro w5 g5 H' _ _; replace H := H'; clear H'; go_simp)
    | ((fail_if_success have := g7); (fail_if_success have := g7); (with_reducible apply own_alloc nilPt H); (case hgd => exact rfl); (case ho => exact rfl); intro w7 g7 H' _ _; replace H := H'; clear H'; go_simp)
    | ((fail_if_success have := g9); (with_reducible apply own_allocS H); (case hgd => exact rfl); (case ho => exact rfl); intro w9 g9 H' _ _; replace H := H'; clear H'; go_simp)
    | ((with_reducible apply own_store rowPt H); (case hgd => exact rfl); (case ho => exact rfl); (case hx => exact rfl); (case hy => exact rfl); (case hi => first | exact at0 | exact at1 | exact at2 | exact at3 | exact at4 | exact at5 | exact at6 | exact at7 | exact at8 | exact at9); intro ws H' _ _; replace H := H'; clear H'; simp only [List.set_cons_zero] at H; go_simp))
  replace H := Lib.hid (mxS_zero x ▸ H.out)
  go_loopw [10, 11] (fun v10 v11 wr => ∃ i : Nat, i ≤ 57 ∧ v11 = .int .i64 (i : Int) ∧ v10 = .int .i64 ((car8 x1 x2 i : Nat) : Int) ∧ Ow w wr [(g9, BkS (mxS x i) 0), (g7, Blk 34 .u64 24 k2), (g5, Blk 34 .u64 24 k1), (g3, BkS v z), (g2, BkS u y)]) (fun _ v11 _ => 57 - (intOf v11).toNat)
  case atStart => exact ⟨0, by omega, rfl, by rw [car8_zero]; rfl, H.out⟩
  case round =>
    clear H
    obtain ⟨i, hi, rfl, rfl, HR⟩ := hrel
    by_cases hlt : i < 57
    · have hid : decide ((i : Int) < 57) = true := by simp; omega
      have iN : (i : Int) < 57 := by omega
      have hst := add8_step x1 x2 i
      rw [HXX.out] at hst
      have hcl := car8_le x1 x2 i
      have hl1 := dg_lt x1 i
      have hl2 := dg_lt x2 i
      have S1 := Lib.hid (HS1.out i hlt)
      have S2 := Lib.hid (HS2.out i hlt)
      obtain ⟨c, hc⟩ : ∃ c, car8 x1 x2 i = c := ⟨_, rfl⟩
      obtain ⟨d1, hd1⟩ : ∃ d, dg x1 i = d := ⟨_, rfl⟩
      obtain ⟨d2, hd2⟩ : ∃ d, dg x2 i = d := ⟨_, rfl⟩
      rw [hd1] at S1
      rw [hd2] at S2
      rw [hc] at hst hcl ⊢
      rw [hd1] at hst hl1
      rw [hd2] at hst hl2
      obtain ⟨s, hs⟩ : ∃ s, c + d1 = s := ⟨_, rfl⟩
      obtain ⟨o, ho⟩ : ∃ o, s + d2 = o := ⟨_, rfl⟩
      rw [hs, ho] at hst
      obtain ⟨q, hq⟩ : ∃ q, o / 256 = q := ⟨_, rfl⟩
      obtain ⟨r, hr⟩ : ∃ r, o % 256 = r := ⟨_, rfl⟩
      rw [hq, hr] at hst
      have e1 : (c : Int) + (d1 : Int) = (s : Int) := by omega
      have e2 : (s : Int) + (d2 : Int) = (o : Int) := by omega
      have e3 : (o : Int) / 256 = (q : Int) := by omega
      have e4 : (o : Int) % 256 = (r : Int) := by omega
      have e5 : (o : Int).tmod 256 = (r : Int) := by rw [Int.tmod_eq_emod_of_nonneg (by omega)]; exact e4
      have g1 : IntKind.i64.wrap (s : Int) = (s : Int) := IntWalk.i64_in _ (by omega)
      have g2' : IntKind.i64.wrap (o : Int) = (o : Int) := IntWalk.i64_in _ (by omega)
      have g3' : IntKind.i64.wrap (q : Int) = (q : Int) := IntWalk.i64_in _ (by omega)
      have g4 : IntKind.i64.wrap (r : Int) = (r : Int) := IntWalk.i64_in _ (by omega)
      have g5' : IntKind.u8.wrap (r : Int) = (r : Int) := by rw [IntKind.wrap_u8]; omega
      have d1b : (d1 : Int) < 256 := by omega
      have d2b : (d2 : Int) < 256 := by omega
      have ob : (o : Int) < 600 := by omega
      have HY : Hid (Value.int .u8 (r : Int) = U (bt x i)) := Lib.hid (by rw [← hst.1]; exact (congrArg (Value.int .u8) (U8_bt x i)).symm)
      have HQ : Hid (car8 x1 x2 (i + 1) = q) := Lib.hid hst.2
      have H := Lib.hid HR
      clear HR hst hcl hl1 hl2 hc hd1 hd2 hs ho hq hr hi
      go_upto_region 12 with fail
      have hk1 := H.out.sbyte 4 rfl i hlt
      rw [S1.out] at hk1
      have hk2 := H.out.sbyte 3 rfl i hlt
      rw [S2.out] at hk2
      refine wp_region_still_tail 13 (by kernel_rfl) (by kernel_rfl) ?_
      change wpStill _ _ (World.drew _) (fun a' => wpList _ _ _ _ a' (World.drew _)) _ _
      replace H := Lib.hid H.out.drew
      replace hk1 := show (World.drew _).cell? _ = _ from hk1
      replace hk2 := show (World.drew _).cell? _ = _ from hk2
      generalize World.drew _ = w8 at *
      simp only [List.take_succ_cons, List.take_zero, List.drop_succ_cons, List.drop_zero]
      iterate 13 still_step
      refine wpStill_nil ?_
      clear hk1 hk2
      go_wp2_with (first
        | ((with_reducible apply own_putS H); (case hgd => exact rfl); (case ho => exact rfl); (case hx => exact rfl); (case hy => exact HY.out); (case hi => first | exact at0 | exact at1 | exact at2 | exact at3 | exact at4 | exact at5 | exact at6 | exact at7 | exact at8 | exact at9); (case hj => omega); intro ws H' _ _; replace H := H'; clear H'; simp only [List.set_cons_zero] at H; go_simp))
      rw [mxS_step] at H
      go_roundw
      case rel => exact ⟨i + 1, by omega, by go_num, by rw [HQ.out]; exact congrArg (Value.int .i64) (by omega), H.out⟩
      case measure => (simp [intOf] <;> omega)
    · obtain rfl : i = 57 := by omega
      clear hlt hi
      rw [show ((57 : Nat) : Int) = 57 from rfl]
      have H := Lib.hid HR
      have f1 := F1.out
      have f2 := F2.out
      have f3 := F3.out
      have hty := HTY.out
      have htz := HTZ.out
      have hts := HTS.out
      clear HR
      go_upto_region 17 with (first
        | ((with_reducible apply own_quart H); (case hgd => exact rfl); (case ho => exact rfl); (case hx => exact rfl); (case hi => first | exact at0 | exact at1 | exact at2 | exact at3 | exact at4 | exact at5 | exact at6 | exact at7 | exact at8 | exact at9); intro _ _; go_simp)
        | ((with_reducible apply own_putQ H); (case hgd => exact rfl); (case ho => exact rfl); (case hx => exact rfl); (case hy => exact rfl); (case hi => first | exact at0 | exact at1 | exact at2 | exact at3 | exact at4 | exact at5 | exact at6 | exact at7 | exact at8 | exact at9); intro ws H' _ _; replace H := H'; clear H'; simp only [List.set_cons_zero] at H; go_simp)
        | ((with_reducible apply own_loadS H); (case hgd => exact rfl); (case ho => exact rfl); (case hx => exact rfl); (case hi => first | exact at0 | exact at1 | exact at2 | exact at3 | exact at4 | exact at5 | exact at6 | exact at7 | exact at8 | exact at9); intro _ _; go_simp)
        | ((fail_if_success have := V3); (with_reducible refine (HM.out _ _ (HT.out.below H.out.bel)).mono ?_); rintro e wc ⟨k3, rfl, hv, hb⟩; replace H := Lib.hid (H.out.call hb); clear hb; have V3 := Lib.hid hv; clear hv)
        | ((fail_if_success have := g12); (fail_if_success have := g12); (with_reducible apply own_alloc nilPt H); (case hgd => exact rfl); (case ho => exact rfl); intro w12 g12 H' _ _; replace H := H'; clear H'; go_simp)
        | ((with_reducible apply own_store rowPt H); (case hgd => exact rfl); (case ho => exact rfl); (case hx => exact rfl); (case hy => exact rfl); (case hi => first | exact at0 | exact at1 | exact at2 | exact at3 | exact at4 | exact at5 | exact at6 | exact at7 | exact at8 | exact at9); intro ws H' _ _; replace H := H'; clear H'; simp only [List.set_cons_zero] at H; go_simp))
      clear f1 f2 f3 hty htz hts
      refine wp_region_noPanic ?_
      refine wp_region_held_drew (S := fun W => W.heap[g5]? = some (Blk 34 .u64 24 (k1)) ∧ W.heap[g7]? = some (Blk 34 .u64 24 (k2)) ∧ W.heap[g12]? = some (Blk 34 .u64 24 (k3))) (by kernel_rfl) (⟨H.out.drew.row 3 rfl, H.out.drew.row 2 rfl, H.out.drew.row 0 rfl⟩) (fun hH => ?_)
      replace H := Lib.hid H.out.drew
      generalize World.drew _ = w8 at *
      refine held_value 0 79 (.bool true) rfl rfl (by kernel_rfl) (by kernel_rfl) (by kernel_rfl) rfl hH (fun w hw => by go_simp) ?_
      try simp only [Act.put, List.setIfInBounds_toArray, List.set_cons_zero, List.set_cons_succ]
      refine held_value 1 80 (.bool true) rfl rfl (by kernel_rfl) (by kernel_rfl) (by kernel_rfl) rfl hH (fun w hw => by go_simp) ?_
      try simp only [Act.put, List.setIfInBounds_toArray, List.set_cons_zero, List.set_cons_succ]
      refine held_row 2 81 rowPt rfl rfl (by kernel_rfl) (by kernel_rfl) (by kernel_rfl) rfl hH rfl rfl (fun _ h => h.1) ?_
      try simp only [Act.put, List.setIfInBounds_toArray, List.set_cons_zero, List.set_cons_succ]
      refine held_row 3 82 rowPt rfl rfl (by kernel_rfl) (by kernel_rfl) (by kernel_rfl) rfl hH rfl rfl (fun _ h => h.2.1) ?_
      try simp only [Act.put, List.setIfInBounds_toArray, List.set_cons_zero, List.set_cons_succ]
      refine held_row 5 84 rowPt rfl rfl (by kernel_rfl) (by kernel_rfl) (by kernel_rfl) rfl hH rfl rfl (fun _ h => h.2.2) ?_
      try simp only [Act.put, List.setIfInBounds_toArray, List.set_cons_zero, List.set_cons_succ]
      refine wpAnyH_ready (rs := [4]) (by kernel_rfl) (by simp) ?_
      refine AllReadyH.cons (o := _) rfl (fun K hK => ?_) AllReadyH.nil
      go_simp
      refine (ptAdd_k _ (HT.out.below H.out.bel) V1.out V2.out).mono ?_
      rintro e wc ⟨h83, rfl, hv, hb⟩
      replace H := Lib.hid (H.out.call hb)
      have HV83 := Lib.hid hv
      refine hK.out _ _ (⟨H.out.row 3 rfl, H.out.row 2 rfl, H.out.row 0 rfl⟩) (fun hN => ?_)
      clear hK K hH hb hv
      have hH := hN
      clear hN
      try simp only [Act.put, List.setIfInBounds_toArray, List.set_cons_zero, List.set_cons_succ]
      refine wpAnyH_ready (rs := [6]) (by kernel_rfl) (by simp) ?_
      refine AllReadyH.cons (o := _) rfl (fun K hK => ?_) AllReadyH.nil
      go_simp
      refine (ptEqual_k _ (HT.out.below H.out.bel) HV83.out V3.out (decide_eq_true (HEQ.out))).mono ?_
      rintro e wc ⟨rfl, hb⟩
      replace H := Lib.hid (H.out.call hb)
      refine hK.out _ _ (⟨H.out.row 3 rfl, H.out.row 2 rfl, H.out.row 0 rfl⟩) (fun hN => ?_)
      clear hK K hH hb
      have hH := hN
      clear hN
      try simp only [Act.put, List.setIfInBounds_toArray, List.set_cons_zero, List.set_cons_succ]
      refine held_value 7 86 (.bool true) rfl rfl (by kernel_rfl) (by kernel_rfl) (by kernel_rfl) rfl hH (fun w hw => by go_simp) ?_
      try simp only [Act.put, List.setIfInBounds_toArray, List.set_cons_zero, List.set_cons_succ]
      refine held_value 8 87 (.bool true) rfl rfl (by kernel_rfl) (by kernel_rfl) (by kernel_rfl) rfl hH (fun w hw => by go_simp) ?_
      try simp only [Act.put, List.setIfInBounds_toArray, List.set_cons_zero, List.set_cons_succ]
      refine wpAnyH_ready (rs := [9]) (by kernel_rfl) (by simp) ?_
      refine AllReadyH.cons (o := _) rfl (fun K hK => ?_) AllReadyH.nil
      go_simp
      refine (awake8_k _ (HT.out.below H.out.bel)).mono ?_
      rintro e wc ⟨rfl, hb⟩
      replace H := Lib.hid (H.out.call hb)
      refine hK.out _ _ (⟨H.out.row 3 rfl, H.out.row 2 rfl, H.out.row 0 rfl⟩) (fun hN => ?_)
      clear hK K hH hb
      have hH := hN
      clear hN
      try simp only [Act.put, List.setIfInBounds_toArray, List.set_cons_zero, List.set_cons_succ]
      refine held_value 10 89 (.bool true) rfl rfl (by kernel_rfl) (by kernel_rfl) (by kernel_rfl) rfl hH (fun w hw => by go_simp) ?_
      try simp only [Act.put, List.setIfInBounds_toArray, List.set_cons_zero, List.set_cons_succ]
      refine held_value 11 4 (.bool true) rfl rfl (by kernel_rfl) (by kernel_rfl) (by kernel_rfl) rfl hH (fun w hw => by go_simp) ?_
      try simp only [Act.put, List.setIfInBounds_toArray, List.set_cons_zero, List.set_cons_succ]
      try simp only [Act.put]
      refine wpAnyH_done (by kernel_rfl) ?_ _
      refine NoPanic.normal ?_
      clear hH
      go_wp2_with fail
      go_ret
      exact ⟨rfl, H.out.bel⟩
theorem hangs_walk (u v : Nat → BitVec 8) (y z : Int) (w : World) (hT : Tp w) :
    Calls Tryd.prog 8 #[.agg (SpotA u y), .agg (SpotA v z)] w fun e w' => e = .returned (.bool true) ∧ Below w.heap.size w w' := by
  by_cases h0 : u 56 = 0
  · by_cases h1 : v 56 = 0
    · obtain ⟨x1, hx1⟩ := num57 u
      obtain ⟨x2, hx2⟩ := num57 v
      exact hangs_near u v y z w hT x1 x2 hx1 hx2 h0 h1
    · exact hangs_far1 u v y z w hT h0 h1
  · exact hangs_far0 u v y z w hT h0
end Go.Proofs.YthdapglpaaigaaaDoor
