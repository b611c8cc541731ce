/-
  The contracts of the law's Quarter, Made, Plain, Is. No statement is proved here: lemmas for the walks.
-/
import Derived.Test.YtanfobboeehiaaaDoorBuH
import Derived.Test.YtanfobboeehiaaaDoorZPlTimes
import Derived.Test.YtanfobboeehiaaaDoorZPtOf
import Derived.Test.YtanfobboeehiaaaDoorZPtEq
import Derived.Test.YtanfobboeehiaaaDoorZPtBase
import Derived.Test.YtanfobboeehiaaaDoorZRfTimes
import Derived.Deep.CutRange
import Derived.Deep.LoopGhost
namespace Go.Proofs.YtanfobboeehiaaaDoor
open Go.RowKit

theorem quart_on : (ofZ 1 : K) * ofZ 1 + ofZ 0 * ofZ 0 = 1 + dK * (ofZ 1 * ofZ 1 * (ofZ 0 * ofZ 0)) := by decide +kernel
theorem quart_is : (⟨ofZ 1, ofZ 0, quart_on⟩ : Pt pN dK) = pquarter := Pt.same ofZ_one ofZ_zero
theorem quart_k {f g : Nat → Nat} (w : World) (hT : Tp w) (hf : EK f (ofZ 1)) (hg : EK g (ofZ 0)) :
    Calls Tryd.prog 44 #[EV f, EV g] w fun e w' => ∃ r, e = .returned (.tuple #[PO r, .int .i64 0]) ∧ PtK r pquarter ∧ Below w.heap.size w w' := quart_is ▸ ptOf_on w hT hf hg quart_on
set_option maxRecDepth 8000 in
set_option maxHeartbeats 3200000 in
theorem quarter_k (z : Int) (w : World) (hT : Tp w) :
    Calls Tryd.prog 28 #[.int .i64 z] w fun e w' => ∃ r, e = .returned (.tuple #[PO r, .bool true]) ∧ PtK r (pmul edK (qn z) pquarter) ∧ Below w.heap.size w w' := by
  obtain ⟨t, ht⟩ : ∃ t, z.tmod 4 = t := ⟨_, rfl⟩
  have hq := qn_tmod z
  have hl := tmod4_lt z
  have hq4 := qn_lt z
  rw [ht] at hq hl
  obtain ⟨s, hs⟩ : ∃ s : Nat, t + 4 = (s : Int) := ⟨(t + 4).toNat, by omega⟩
  rw [hs] at hq
  have hq' : (s : Int) % 4 = (qn z : Int) := by rw [← hq, Int.tmod_eq_emod_of_nonneg (by omega)]
  obtain ⟨q, hqq⟩ : ∃ q, qn z = q := ⟨_, rfl⟩
  rw [hqq] at hq hq' hq4 ⊢
  have f1 : IntKind.i64.wrap (s : Int) = (s : Int) := IntWalk.i64_in _ (by omega)
  have f2 : IntKind.i64.wrap t = t := IntWalk.i64_in _ (by omega)
  have q4 : (q : Int) < 4 := by omega
  clear hqq hl
  have HT := Lib.hid hT
  clear hT
  have H := Lib.hid (Ow.start w)
  go_enter Tryd.func28, Tryd.ntmps28
  go_wp2_with (first
    | ((fail_if_success have := g2); (with_reducible apply own_alloc nilPt H); (case hgd => exact rfl); (case ho => exact rfl); intro w2 g2 H' _ _; replace H := H'; clear H'; go_simp)
    | ((fail_if_success have := V1); (with_reducible refine (int_k 1 _ (HT.out.below H.out.bel) (by omega) (by omega)).mono ?_); rintro e wc ⟨k1, rfl, hv, hb⟩; replace H := Lib.hid (H.out.call hb); clear hb; have V1 := Lib.hid hv; clear hv)
    | ((fail_if_success have := V2); (with_reducible refine (int_k 0 _ (HT.out.below H.out.bel) (by omega) (by omega)).mono ?_); rintro e wc ⟨k2, rfl, hv, hb⟩; replace H := Lib.hid (H.out.call hb); clear hb; have V2 := Lib.hid hv; clear hv)
    | ((fail_if_success have := V3); (with_reducible refine (quart_k _ (HT.out.below H.out.bel) V1.out V2.out).mono ?_); rintro e wc ⟨k3, rfl, hv, hb⟩; replace H := Lib.hid (H.out.call hb); clear hb; have V3 := Lib.hid hv; clear hv)
    | ((fail_if_success have := g4); (fail_if_success have := g4); (with_reducible apply own_alloc nilPt H); (case hgd => exact rfl); (case ho => exact rfl); intro w4 g4 H' _ _; replace H := H'; clear H'; go_simp)
    | ((fail_if_success have := V0); (with_reducible refine (identity_k _ (HT.out.below H.out.bel)).mono ?_); rintro e wc ⟨k0, rfl, hv, hb⟩; replace H := Lib.hid (H.out.call hb); clear hb; have V0 := Lib.hid hv; clear hv)
    | ((fail_if_success have := g6); (fail_if_success have := g6); (with_reducible apply own_alloc nilPt H); (case hgd => exact rfl); (case ho => exact rfl); intro w6 g6 H' _ _; replace H := H'; clear H'; go_simp)
    | ((with_reducible apply own_store rowPt H); (case hgd => exact rfl); (case ho => exact rfl); (case hx => exact rfl); (case hy => exact rfl); (case hi => first | exact at0 | exact at1 | exact at2 | exact at3 | exact at4 | exact at5 | exact at6 | exact at7 | exact at8 | exact at9); intro ws H' _ _; replace H := H'; clear H'; simp only [List.set_cons_zero] at H; go_simp))
  go_loopw [7] (fun v7 wr => ∃ (i : Nat) (r : Nat → Int), i ≤ q ∧ v7 = .int .i64 (i : Int) ∧ PtK r (pmul edK i pquarter) ∧ Ow w wr [(g6, Blk 30 .u64 24 r), (g4, Blk 30 .u64 24 k3), (g2, Blk 30 .u64 24 fun _ => 0)]) (fun v7 _ => q - (intOf v7).toNat)
  case atStart => exact ⟨0, k0, by omega, rfl, V0.out.eq (pmul_zero edK _).symm, H.out⟩
  case round =>
    clear H V0
    obtain ⟨i, r, hi, rfl, hp, HR⟩ := hrel
    have VP := Lib.hid hp
    have H := Lib.hid HR
    clear hp HR
    by_cases hlt : i < q
    · have hid : decide ((i : Int) < (q : Int)) = true := by simp; omega
      go_wp2_with (first
        | ((with_reducible apply own_load rowPt H); (case hgd => exact rfl); (case ho => exact rfl); (case hx => exact rfl); (case hi => first | exact at0 | exact at1 | exact at2 | exact at3 | exact at4 | exact at5 | exact at6 | exact at7 | exact at8 | exact at9); intro _ _; go_simp)
        | ((fail_if_success have := V5); (with_reducible refine (ptAdd_k _ (HT.out.below H.out.bel) VP.out V3.out).mono ?_); rintro e wc ⟨k5, rfl, hv, hb⟩; replace H := Lib.hid (H.out.call hb); clear hb; have V5 := Lib.hid hv; clear hv)
        | ((with_reducible apply own_store rowPt H); (case hgd => exact rfl); (case ho => exact rfl); (case hx => exact rfl); (case hy => exact rfl); (case hi => first | exact at0 | exact at1 | exact at2 | exact at3 | exact at4 | exact at5 | exact at6 | exact at7 | exact at8 | exact at9); intro ws H' _ _; replace H := H'; clear H'; simp only [List.set_cons_zero] at H; go_simp))
      go_roundw
      case rel => exact ⟨i + 1, k5, by omega, by go_num, V5.out, H.out⟩
      case measure => (simp [intOf] <;> omega)
    · obtain rfl : i = q := by omega
      have hid : decide ((i : Int) < (i : Int)) = false := by simp
      clear hlt hi
      go_wp2_with (first
        | ((with_reducible apply own_load rowPt H); (case hgd => exact rfl); (case ho => exact rfl); (case hx => exact rfl); (case hi => first | exact at0 | exact at1 | exact at2 | exact at3 | exact at4 | exact at5 | exact at6 | exact at7 | exact at8 | exact at9); intro _ _; go_simp)
        | ((with_reducible apply own_store rowPt H); (case hgd => exact rfl); (case ho => exact rfl); (case hx => exact rfl); (case hy => exact rfl); (case hi => first | exact at0 | exact at1 | exact at2 | exact at3 | exact at4 | exact at5 | exact at6 | exact at7 | exact at8 | exact at9); intro ws H' _ _; replace H := H'; clear H'; simp only [List.set_cons_zero, List.set_cons_succ] at H; go_simp))
      exact bodyPost_ret (own_result_slot 2 rowPt rfl _ H rfl rfl rfl) rfl ⟨_, rfl, VP.out, H.out.bel⟩
set_option maxRecDepth 8000 in
set_option maxHeartbeats 3200000 in
theorem made8_k (u : Nat → BitVec 8) (z : Int) (x : Nat) (w : World) (hT : Tp w) (hx : Num57 u x) :
    Calls Tryd.prog 8 #[.agg (SpotA u z)] w fun e w' => ∃ r, e = .returned (.tuple #[PO r, .bool true]) ∧ PtK r (spot x (qn z)) ∧ Below w.heap.size w w' := by
  have HX := Lib.hid hx
  clear hx
  have HT := Lib.hid hT
  clear hT
  have H := Lib.hid (Ow.start w)
  go_enter Tryd.func8, Tryd.ntmps8
  go_wp2_with (first
    | ((fail_if_success have := g1); (with_reducible apply own_boxS H); (case hgd => exact rfl); (case ho => exact rfl); (case hx => exact rfl); intro w1 g1 H' _ _; replace H := H'; clear H'; go_simp)
    | ((fail_if_success have := g2); (with_reducible apply own_alloc nilPt H); (case hgd => exact rfl); (case ho => exact rfl); intro w2 g2 H' _ _; replace H := H'; clear H'; go_simp)
    | ((with_reducible apply own_quart H); (case hgd => exact rfl); (case ho => exact rfl); (case hx => exact rfl); (case hi => first | exact at0 | exact at1 | exact at2 | exact at3 | exact at4 | exact at5 | exact at6 | exact at7 | exact at8 | exact at9); intro _ _; go_simp)
    | ((fail_if_success have := V1); (with_reducible refine (quarter_k z _ (HT.out.below H.out.bel)).mono ?_); rintro e wc ⟨k1, rfl, hv, hb⟩; replace H := Lib.hid (H.out.call hb); clear hb; have V1 := Lib.hid hv; clear hv)
    | ((fail_if_success have := g4); (fail_if_success have := g4); (with_reducible apply own_alloc nilPt H); (case hgd => exact rfl); (case ho => exact rfl); intro w4 g4 H' _ _; replace H := H'; clear H'; go_simp)
    | ((with_reducible apply own_store rowPt H); (case hgd => exact rfl); (case ho => exact rfl); (case hx => exact rfl); (case hy => exact rfl); (case hi => first | exact at0 | exact at1 | exact at2 | exact at3 | exact at4 | exact at5 | exact at6 | exact at7 | exact at8 | exact at9); intro ws H' _ _; replace H := H'; clear H'; simp only [List.set_cons_zero] at H; go_simp))
  refine wp_region_noPanic ?_
  refine wp_region_held_drew (S := fun W => W.heap[g4]? = some (Blk 30 .u64 24 (k1))) (by kernel_rfl) (H.out.drew.row 0 rfl) (fun hH => ?_)
  replace H := Lib.hid H.out.drew
  generalize World.drew _ = w8 at *
  refine held_value 0 15 (.pointer (some ⟨g1, 0, none⟩)) rfl rfl (by kernel_rfl) (by kernel_rfl) (by kernel_rfl) rfl hH (fun w hw => by go_simp) ?_
  try simp only [Act.put, List.setIfInBounds_toArray, List.set_cons_zero, List.set_cons_succ]
  refine held_value 1 16 (.slice (some ⟨g1, 0, none⟩) 57 57) rfl rfl (by kernel_rfl) (by kernel_rfl) (by kernel_rfl) rfl hH (fun w hw => by go_simp) ?_
  try simp only [Act.put, List.setIfInBounds_toArray, List.set_cons_zero, List.set_cons_succ]
  refine held_row 4 19 rowPt rfl rfl (by kernel_rfl) (by kernel_rfl) (by kernel_rfl) rfl hH rfl rfl (fun _ h => h) ?_
  try simp only [Act.put, List.setIfInBounds_toArray, List.set_cons_zero, List.set_cons_succ]
  refine wpAnyH_ready (rs := [2]) (by kernel_rfl) (by simp) ?_
  refine AllReadyH.cons (o := _) rfl (fun K hK => ?_) AllReadyH.nil
  go_simp
  refine (base_k _ (HT.out.below H.out.bel)).mono ?_
  rintro e wc ⟨h17, rfl, hv, hb⟩
  replace H := Lib.hid (H.out.call hb)
  have HV17 := Lib.hid hv
  refine hK.out _ _ (H.out.row 0 rfl) (fun hN => ?_)
  clear hK K hH hb hv
  have hH := hN
  clear hN
  try simp only [Act.put, List.setIfInBounds_toArray, List.set_cons_zero, List.set_cons_succ]
  refine wpAnyH_ready (rs := [3]) (by kernel_rfl) (by simp) ?_
  refine AllReadyH.cons (o := _) rfl (fun K hK => ?_) AllReadyH.nil
  go_simp
  refine (lawTimes_k _ 57 57 x _ (HT.out.below H.out.bel) (by omega) (by omega) (spot_sb (H.out.row 2 rfl) HX.out) HV17.out).mono ?_
  rintro e wc ⟨h18, rfl, hv, hb⟩
  replace H := Lib.hid (H.out.call hb)
  have HV18 := Lib.hid hv
  refine hK.out _ _ (H.out.row 0 rfl) (fun hN => ?_)
  clear hK K hH hb hv
  have hH := hN
  clear hN
  try simp only [Act.put, List.setIfInBounds_toArray, List.set_cons_zero, List.set_cons_succ]
  refine wpAnyH_ready (rs := [5]) (by kernel_rfl) (by simp) ?_
  refine AllReadyH.cons (o := _) rfl (fun K hK => ?_) AllReadyH.nil
  go_simp
  refine (ptAdd_k _ (HT.out.below H.out.bel) HV18.out V1.out).mono ?_
  rintro e wc ⟨h20, rfl, hv, hb⟩
  replace H := Lib.hid (H.out.call hb)
  have HV20 := Lib.hid hv
  refine hK.out _ _ (H.out.row 0 rfl) (fun hN => ?_)
  clear hK K hH hb hv
  have hH := hN
  clear hN
  try simp only [Act.put, List.setIfInBounds_toArray, List.set_cons_zero, List.set_cons_succ]
  refine wpAnyH_ready (rs := [6]) (by kernel_rfl) (by simp) ?_
  refine AllReadyH.cons (o := _) rfl (fun K hK => ?_) AllReadyH.nil
  refine own_wp_store 1 rowPt H.out rfl rfl rfl rfl ?_
  intro ws HS
  simp only [List.set_cons_zero, List.set_cons_succ] at HS
  replace H := Lib.hid HS
  refine hK.out _ _ (H.out.row 0 rfl) (fun hN => ?_)
  clear hK K HS hH
  have hH := hN
  clear hN
  try simp only [Act.put, List.setIfInBounds_toArray]
  refine held_value 7 3 (.bool true) rfl rfl (by kernel_rfl) (by kernel_rfl) (by kernel_rfl) rfl hH (fun w hw => by go_simp) ?_
  try simp only [Act.put]
  try simp only [Act.put]
  refine wpAnyH_done (by kernel_rfl) ?_ _
  refine NoPanic.normal ?_
  clear hH
  go_wp2_with fail
  exact bodyPost_ret (own_result_slot 1 rowPt rfl _ H rfl rfl rfl) rfl ⟨_, rfl, HV20.out, H.out.bel⟩
set_option maxRecDepth 8000 in
set_option maxHeartbeats 3200000 in
theorem plain8_k (u : Nat → BitVec 8) (z : Int) (x : Nat) (w : World) (hx : Num57 u x) :
    Calls Tryd.prog 12 #[.agg (SpotA u z)] w fun e w' => ∃ r, e = .returned (QO r) ∧ RfK r (spot x (qn z)) ∧ Below w.heap.size w w' := by
  have HX := Lib.hid hx
  clear hx
  unfold spot
  obtain ⟨t, ht⟩ : ∃ t, z.tmod 4 = t := ⟨_, rfl⟩
  have hq := qn_tmod z
  have hl := tmod4_lt z
  have hq4 := qn_lt z
  rw [ht] at hq hl
  obtain ⟨s, hs⟩ : ∃ s : Nat, t + 4 = (s : Int) := ⟨(t + 4).toNat, by omega⟩
  rw [hs] at hq
  have hq' : (s : Int) % 4 = (qn z : Int) := by rw [← hq, Int.tmod_eq_emod_of_nonneg (by omega)]
  obtain ⟨q, hqq⟩ : ∃ q, qn z = q := ⟨_, rfl⟩
  rw [hqq] at hq hq' hq4 ⊢
  have f1 : IntKind.i64.wrap (s : Int) = (s : Int) := IntWalk.i64_in _ (by omega)
  have f2 : IntKind.i64.wrap t = t := IntWalk.i64_in _ (by omega)
  have q4 : (q : Int) < 4 := by omega
  clear hqq hl
  have H := Lib.hid (Ow.start w)
  go_enter Tryd.func12, Tryd.ntmps12
  go_upto_region 2 with (first
    | ((fail_if_success have := g1); (with_reducible apply own_boxS H); (case hgd => exact rfl); (case ho => exact rfl); (case hx => exact rfl); intro w1 g1 H' _ _; replace H := H'; clear H'; go_simp)
    | ((fail_if_success have := g2); (with_reducible apply own_alloc nilQt H); (case hgd => exact rfl); (case ho => exact rfl); intro w2 g2 H' _ _; replace H := H'; clear H'; go_simp)
    | ((with_reducible refine (refInt_k _ 1 (by omega) (by omega)).mono ?_); rintro e wc ⟨rfl, hb⟩; replace H := Lib.hid (H.out.call hb); clear hb)
    | ((with_reducible apply lay_build_F0); (case hgd => exact rfl); (case ho => exact rfl); intro _ _; go_simp)
    | ((with_reducible apply lay_build_qt); (case hgd => exact rfl); (case ho => exact rfl); (case hx => exact rfl); (case hy => exact rfl); (case hz => exact rfl); intro _ _; go_simp)
    | ((fail_if_success have := g3); (fail_if_success have := g3); (with_reducible apply own_alloc nilQt H); (case hgd => exact rfl); (case ho => exact rfl); intro w3 g3 H' _ _; replace H := H'; clear H'; go_simp)
    | ((with_reducible apply own_store rowQt H); (case hgd => exact rfl); (case ho => exact rfl); (case hx => exact rfl); (case hy => exact rfl); (case hi => first | exact at0 | exact at1 | exact at2 | exact at3 | exact at4 | exact at5 | exact at6 | exact at7 | exact at8 | exact at9); intro ws H' _ _; replace H := H'; clear H'; simp only [List.set_cons_zero] at H; go_simp))
  have VQ : Hid (RfK (t3 16 (dF (ofZ 1).val) (dF 0) (dF (ofZ 1).val)) pquarter) := Lib.hid ⟨ofZ 1, 0, ofZ 1, rfl, by rw [ofZ_one]; exact Rp.one edK pquarter⟩
  obtain ⟨kq, hkq⟩ : ∃ k, t3 16 (dF (ofZ 1).val) (dF 0) (dF (ofZ 1).val) = k := ⟨_, rfl⟩
  rw [hkq] at H VQ
  clear hkq
  go_cut [4] from 10 to 13 (fun v4 wx => ∃ g4 h13, v4 = .pointer (some ⟨g4, 0, none⟩) ∧ RfK h13 (pmul edK x pB) ∧ Ow w wx [(g4, Blk 40 .i64 48 (h13)), (g3, Blk 40 .i64 48 (kq)), (g2, Blk 40 .i64 48 fun _ => 0), (g1, BkS u z)])
  case first =>
    go_wp2_with fail
    refine wp_region_noPanic ?_
    refine wp_region_held_drew (S := fun W => True) (by kernel_rfl) (trivial) (fun hH => ?_)
    replace H := Lib.hid H.out.drew
    generalize World.drew _ = w8 at *
    refine held_value 0 10 (.pointer (some ⟨g1, 0, none⟩)) rfl rfl (by kernel_rfl) (by kernel_rfl) (by kernel_rfl) rfl hH (fun w hw => by go_simp) ?_
    try simp only [Act.put, List.setIfInBounds_toArray, List.set_cons_zero, List.set_cons_succ]
    refine held_value 1 11 (.slice (some ⟨g1, 0, none⟩) 57 57) rfl rfl (by kernel_rfl) (by kernel_rfl) (by kernel_rfl) rfl hH (fun w hw => by go_simp) ?_
    try simp only [Act.put, List.setIfInBounds_toArray, List.set_cons_zero, List.set_cons_succ]
    refine wpAnyH_ready (rs := [2, 4]) (by kernel_rfl) (by simp) ?_
    refine AllReadyH.cons (o := _) rfl (fun K hK => ?_) (AllReadyH.cons (o := _) rfl (fun K hK => ?_) AllReadyH.nil)
    · skip
      go_simp
      refine (refBase_k _).mono ?_
      rintro e wc ⟨h12, rfl, hv, hb⟩
      replace H := Lib.hid (H.out.call hb)
      have HV12 := Lib.hid hv
      refine hK.out _ _ (trivial) (fun hN => ?_)
      clear hK K hH hb hv
      have hH := hN
      clear hN
      try simp only [Act.put, List.setIfInBounds_toArray, List.set_cons_zero, List.set_cons_succ]
      refine wpAnyH_ready (rs := [3, 4]) (by kernel_rfl) (by simp) ?_
      refine AllReadyH.cons (o := _) rfl (fun K hK => ?_) (AllReadyH.cons (o := _) rfl (fun K hK => ?_) AllReadyH.nil)
      · skip
        go_simp
        refine (refTimes_k _ 57 57 x _ (by omega) (spot_sb (H.out.row 2 rfl) HX.out) HV12.out).mono ?_
        rintro e wc ⟨h13, rfl, hv, hb⟩
        replace H := Lib.hid (H.out.call hb)
        have HV13 := Lib.hid hv
        refine hK.out _ _ (trivial) (fun hN => ?_)
        clear hK K hH hb hv
        have hH := hN
        clear hN
        try simp only [Act.put, List.setIfInBounds_toArray, List.set_cons_zero, List.set_cons_succ]
        refine wpAnyH_ready (rs := [4]) (by kernel_rfl) (by simp) ?_
        refine AllReadyH.cons (o := _) rfl (fun K hK => ?_) AllReadyH.nil
        refine own_wp_allocB 4 rfl nilQt H.out rfl ?_
        intro w4 g4 H3 hb
        replace H := Lib.hid H3
        refine hK.out _ _ (trivial) (fun hN => ?_)
        clear hK K hH H3 hb
        have hH := hN
        clear hN
        try simp only [Act.put, List.setIfInBounds_toArray, List.set_cons_zero, List.set_cons_succ]
        refine wpAnyH_ready (rs := [5]) (by kernel_rfl) (by simp) ?_
        refine AllReadyH.cons (o := _) rfl (fun K hK => ?_) AllReadyH.nil
        refine own_wp_store 0 rowQt H.out rfl rfl rfl rfl ?_
        intro ws HS
        simp only [List.set_cons_zero] at HS
        replace H := Lib.hid HS
        refine hK.out _ _ (trivial) (fun hN => ?_)
        clear hK K HS hH
        have hH := hN
        clear hN
        try simp only [Act.put, List.setIfInBounds_toArray]
        try simp only [Act.put]
        refine wpAnyH_done (by kernel_rfl) ?_ _
        refine NoPanic.normal ?_
        clear hH
        go_wp2_with fail
        go_meet
        exact ⟨g4, h13, rfl, HV13.out, H.out⟩
      · skip
        refine own_wp_allocB 4 rfl nilQt H.out rfl ?_
        intro w4 g4 H3 hb
        replace H := Lib.hid H3
        refine hK.out _ _ (trivial) (fun hN => ?_)
        clear hK K hH H3 hb
        have hH := hN
        clear hN
        try simp only [Act.put, List.setIfInBounds_toArray, List.set_cons_zero, List.set_cons_succ]
        refine wpAnyH_ready (rs := [3]) (by kernel_rfl) (by simp) ?_
        refine AllReadyH.cons (o := _) rfl (fun K hK => ?_) AllReadyH.nil
        go_simp
        refine (refTimes_k _ 57 57 x _ (by omega) (spot_sb (H.out.row 3 rfl) HX.out) HV12.out).mono ?_
        rintro e wc ⟨h13, rfl, hv, hb⟩
        replace H := Lib.hid (H.out.call hb)
        have HV13 := Lib.hid hv
        refine hK.out _ _ (trivial) (fun hN => ?_)
        clear hK K hH hb hv
        have hH := hN
        clear hN
        try simp only [Act.put, List.setIfInBounds_toArray, List.set_cons_zero, List.set_cons_succ]
        refine wpAnyH_ready (rs := [5]) (by kernel_rfl) (by simp) ?_
        refine AllReadyH.cons (o := _) rfl (fun K hK => ?_) AllReadyH.nil
        refine own_wp_store 0 rowQt H.out rfl rfl rfl rfl ?_
        intro ws HS
        simp only [List.set_cons_zero] at HS
        replace H := Lib.hid HS
        refine hK.out _ _ (trivial) (fun hN => ?_)
        clear hK K HS hH
        have hH := hN
        clear hN
        try simp only [Act.put, List.setIfInBounds_toArray]
        try simp only [Act.put]
        refine wpAnyH_done (by kernel_rfl) ?_ _
        refine NoPanic.normal ?_
        clear hH
        go_wp2_with fail
        go_meet
        exact ⟨g4, h13, rfl, HV13.out, H.out⟩
    · skip
      refine own_wp_allocB 4 rfl nilQt H.out rfl ?_
      intro w4 g4 H3 hb
      replace H := Lib.hid H3
      refine hK.out _ _ (trivial) (fun hN => ?_)
      clear hK K hH H3 hb
      have hH := hN
      clear hN
      try simp only [Act.put, List.setIfInBounds_toArray, List.set_cons_zero, List.set_cons_succ]
      refine wpAnyH_ready (rs := [2]) (by kernel_rfl) (by simp) ?_
      refine AllReadyH.cons (o := _) rfl (fun K hK => ?_) AllReadyH.nil
      go_simp
      refine (refBase_k _).mono ?_
      rintro e wc ⟨h12, rfl, hv, hb⟩
      replace H := Lib.hid (H.out.call hb)
      have HV12 := Lib.hid hv
      refine hK.out _ _ (trivial) (fun hN => ?_)
      clear hK K hH hb hv
      have hH := hN
      clear hN
      try simp only [Act.put, List.setIfInBounds_toArray, List.set_cons_zero, List.set_cons_succ]
      refine wpAnyH_ready (rs := [3]) (by kernel_rfl) (by simp) ?_
      refine AllReadyH.cons (o := _) rfl (fun K hK => ?_) AllReadyH.nil
      go_simp
      refine (refTimes_k _ 57 57 x _ (by omega) (spot_sb (H.out.row 3 rfl) HX.out) HV12.out).mono ?_
      rintro e wc ⟨h13, rfl, hv, hb⟩
      replace H := Lib.hid (H.out.call hb)
      have HV13 := Lib.hid hv
      refine hK.out _ _ (trivial) (fun hN => ?_)
      clear hK K hH hb hv
      have hH := hN
      clear hN
      try simp only [Act.put, List.setIfInBounds_toArray, List.set_cons_zero, List.set_cons_succ]
      refine wpAnyH_ready (rs := [5]) (by kernel_rfl) (by simp) ?_
      refine AllReadyH.cons (o := _) rfl (fun K hK => ?_) AllReadyH.nil
      refine own_wp_store 0 rowQt H.out rfl rfl rfl rfl ?_
      intro ws HS
      simp only [List.set_cons_zero] at HS
      replace H := Lib.hid HS
      refine hK.out _ _ (trivial) (fun hN => ?_)
      clear hK K HS hH
      have hH := hN
      clear hN
      try simp only [Act.put, List.setIfInBounds_toArray]
      try simp only [Act.put]
      refine wpAnyH_done (by kernel_rfl) ?_ _
      refine NoPanic.normal ?_
      clear hH
      go_wp2_with fail
      go_meet
      exact ⟨g4, h13, rfl, HV13.out, H.out⟩
  clear H
  obtain ⟨g4, h13, rfl, hv13, HRR⟩ := hcut
  have V0 := Lib.hid hv13
  have H := Lib.hid HRR
  clear HRR hv13
  go_wp2_with fail
  go_loopw [5] (fun v5 wr => ∃ (i : Nat) (r : Nat → Int), i ≤ q ∧ v5 = .int .i64 (i : Int) ∧ RfK r (padd edK (pmul edK x pB) (pmul edK i pquarter)) ∧ Ow w wr [(g4, Blk 40 .i64 48 r), (g3, Blk 40 .i64 48 kq), (g2, Blk 40 .i64 48 fun _ => 0), (g1, BkS u z)]) (fun v5 _ => q - (intOf v5).toNat)
  case atStart => exact ⟨0, h13, by omega, rfl, V0.out.eq (by rw [pmul_zero, padd_zero]), H.out⟩
  case round =>
    clear H V0
    obtain ⟨i, r, hi, rfl, hp, HR⟩ := hrel
    have VP := Lib.hid hp
    have H := Lib.hid HR
    clear hp HR
    by_cases hlt : i < q
    · have hid : decide ((i : Int) < (q : Int)) = true := by simp; omega
      go_wp2_with (first
        | ((with_reducible apply own_quart H); (case hgd => exact rfl); (case ho => exact rfl); (case hx => exact rfl); (case hi => first | exact at0 | exact at1 | exact at2 | exact at3 | exact at4 | exact at5 | exact at6 | exact at7 | exact at8 | exact at9); intro _ _; go_simp)
        | ((with_reducible apply own_load rowQt H); (case hgd => exact rfl); (case ho => exact rfl); (case hx => exact rfl); (case hi => first | exact at0 | exact at1 | exact at2 | exact at3 | exact at4 | exact at5 | exact at6 | exact at7 | exact at8 | exact at9); intro _ _; go_simp)
        | ((fail_if_success have := V5); (with_reducible refine (refPtAdd_k _ VP.out VQ.out).mono ?_); rintro e wc ⟨k5, rfl, hv, hb⟩; replace H := Lib.hid (H.out.call hb); clear hb; have V5 := Lib.hid hv; clear hv)
        | ((with_reducible apply own_store rowQt H); (case hgd => exact rfl); (case ho => exact rfl); (case hx => exact rfl); (case hy => exact rfl); (case hi => first | exact at0 | exact at1 | exact at2 | exact at3 | exact at4 | exact at5 | exact at6 | exact at7 | exact at8 | exact at9); intro ws H' _ _; replace H := H'; clear H'; simp only [List.set_cons_zero] at H; go_simp))
      go_roundw
      case rel => exact ⟨i + 1, k5, by omega, by go_num, V5.out.eq (by rw [padd_assoc, ← pmul_succ]), H.out⟩
      case measure => (simp [intOf] <;> omega)
    · obtain rfl : i = q := by omega
      have hid : decide ((i : Int) < (i : Int)) = false := by simp
      clear hlt hi
      go_wp2_with (first
        | ((with_reducible apply own_quart H); (case hgd => exact rfl); (case ho => exact rfl); (case hx => exact rfl); (case hi => first | exact at0 | exact at1 | exact at2 | exact at3 | exact at4 | exact at5 | exact at6 | exact at7 | exact at8 | exact at9); intro _ _; go_simp)
        | ((with_reducible apply own_load rowQt H); (case hgd => exact rfl); (case ho => exact rfl); (case hx => exact rfl); (case hi => first | exact at0 | exact at1 | exact at2 | exact at3 | exact at4 | exact at5 | exact at6 | exact at7 | exact at8 | exact at9); intro _ _; go_simp)
        | ((with_reducible apply own_store rowQt H); (case hgd => exact rfl); (case ho => exact rfl); (case hx => exact rfl); (case hy => exact rfl); (case hi => first | exact at0 | exact at1 | exact at2 | exact at3 | exact at4 | exact at5 | exact at6 | exact at7 | exact at8 | exact at9); intro ws H' _ _; replace H := H'; clear H'; simp only [List.set_cons_zero, List.set_cons_succ] at H; go_simp))
      exact bodyPost_ret (own_result 2 rowQt rfl _ H rfl rfl) rfl ⟨_, rfl, VP.out, H.out.bel⟩
theorem is_kb {f : Nat → Nat} {a b : K} {e0 : Bool} (w : World) (hf : EK f a) (h : decide (a = b) = e0) : Calls Tryd.prog 55 #[EV f, FV b.val] w fun e w' => e = .returned (.bool e0) ∧ Below w.heap.size w w' := h ▸ is_k b w hf
set_option maxRecDepth 8000 in
set_option maxHeartbeats 3200000 in
theorem isPt_false {v r : Nat → Int} {P Q : Pt pN dK} (w : World) (hp : PtK v P) (hq : RfK r Q) (h : P.x ≠ Q.x) :
    Calls Tryd.prog 16 #[PO v, QO r] w fun e w' => e = .returned (.bool false) ∧ Below w.heap.size w w' := by
  have HP := Lib.hid hp
  have HQ := Lib.hid hq
  have H1 : Hid (decide (P.x = Q.x) = false) := Lib.hid (decide_eq_false h)
  clear hp hq h
  have H := Lib.hid (Ow.start w)
  go_enter Tryd.func16, Tryd.ntmps16
  go_wp2_with (first
    | ((fail_if_success have := g2); (with_reducible apply own_box H); (case hgd => exact rfl); (case ho => exact rfl); (case hx => exact rfl); intro w2 g2 H' _ _; replace H := H'; clear H'; go_simp)
    | ((fail_if_success have := g3); (fail_if_success have := g3); (with_reducible apply own_box H); (case hgd => exact rfl); (case ho => exact rfl); (case hx => exact rfl); intro w3 g3 H' _ _; replace H := H'; clear H'; go_simp)
    | ((with_reducible apply own_load rowPt H); (case hgd => exact rfl); (case ho => exact rfl); (case hx => exact rfl); (case hi => first | exact at0 | exact at1 | exact at2 | exact at3 | exact at4 | exact at5 | exact at6 | exact at7 | exact at8 | exact at9); intro _ _; go_simp)
    | ((with_reducible apply own_load rowQt H); (case hgd => exact rfl); (case ho => exact rfl); (case hx => exact rfl); (case hi => first | exact at0 | exact at1 | exact at2 | exact at3 | exact at4 | exact at5 | exact at6 | exact at7 | exact at8 | exact at9); intro _ _; go_simp)
    | ((fail_if_success have := A1); (with_reducible refine (ptAffine_k _ HP.out).mono ?_); rintro e wc ⟨k1, k2, rfl, hv1, hv2, hb⟩; replace H := Lib.hid (H.out.call hb); clear hb; have A1 := Lib.hid hv1; have A2 := Lib.hid hv2; clear hv1 hv2)
    | ((with_reducible refine (refAffine_k _ HQ.out).mono ?_); rintro e wc ⟨rfl, hb⟩; replace H := Lib.hid (H.out.call hb); clear hb)
    | ((fail_if_success have := g5); (fail_if_success have := g5); (with_reducible apply own_alloc nilE H); (case hgd => exact rfl); (case ho => exact rfl); intro w5 g5 H' _ _; replace H := H'; clear H'; go_simp)
    | ((fail_if_success have := g6); (fail_if_success have := g6); (with_reducible apply own_alloc nilE H); (case hgd => exact rfl); (case ho => exact rfl); intro w6 g6 H' _ _; replace H := H'; clear H'; go_simp)
    | ((fail_if_success have := g7); (fail_if_success have := g7); (with_reducible apply own_alloc intsF.zero H); (case hgd => exact rfl); (case ho => exact rfl); intro w7 g7 H' _ _; replace H := H'; clear H'; go_simp)
    | ((fail_if_success have := g8); (fail_if_success have := g8); (with_reducible apply own_alloc intsF.zero H); (case hgd => exact rfl); (case ho => exact rfl); intro w8 g8 H' _ _; replace H := H'; clear H'; go_simp)
    | ((with_reducible apply own_store rowE H); (case hgd => exact rfl); (case ho => exact rfl); (case hx => exact rfl); (case hy => exact rfl); (case hi => first | exact at0 | exact at1 | exact at2 | exact at3 | exact at4 | exact at5 | exact at6 | exact at7 | exact at8 | exact at9); intro ws H' _ _; replace H := H'; clear H'; simp only [List.set_cons_zero, List.set_cons_succ] at H; go_simp)
    | ((with_reducible apply own_store rowF H); (case hgd => exact rfl); (case ho => exact rfl); (case hx => exact rfl); (case hy => exact rfl); (case hi => first | exact at0 | exact at1 | exact at2 | exact at3 | exact at4 | exact at5 | exact at6 | exact at7 | exact at8 | exact at9); intro ws H' _ _; replace H := H'; clear H'; simp only [List.set_cons_zero, List.set_cons_succ] at H; go_simp)
    | ((with_reducible apply own_load rowE H); (case hgd => exact rfl); (case ho => exact rfl); (case hx => exact rfl); (case hi => first | exact at0 | exact at1 | exact at2 | exact at3 | exact at4 | exact at5 | exact at6 | exact at7 | exact at8 | exact at9); intro _ _; go_simp)
    | ((with_reducible apply own_load rowF H); (case hgd => exact rfl); (case ho => exact rfl); (case hx => exact rfl); (case hi => first | exact at0 | exact at1 | exact at2 | exact at3 | exact at4 | exact at5 | exact at6 | exact at7 | exact at8 | exact at9); intro _ _; go_simp)
    | ((with_reducible refine (is_kb _ A1.out H1.out).mono ?_); rintro e wc ⟨rfl, hb⟩; replace H := Lib.hid (H.out.call hb); clear hb))
  go_ret
  exact ⟨rfl, H.out.bel⟩
set_option maxRecDepth 8000 in
set_option maxHeartbeats 3200000 in
theorem isPt_true {v r : Nat → Int} {P Q : Pt pN dK} (w : World) (hp : PtK v P) (hq : RfK r Q) (h : P.x = Q.x) (b : Bool) (hb : decide (P.y = Q.y) = b) :
    Calls Tryd.prog 16 #[PO v, QO r] w fun e w' => e = .returned (.bool b) ∧ Below w.heap.size w w' := by
  have HP := Lib.hid hp
  have HQ := Lib.hid hq
  have H1 : Hid (decide (P.x = Q.x) = true) := Lib.hid (decide_eq_true h)
  have H2 := Lib.hid hb
  clear hb
  clear hp hq h
  have H := Lib.hid (Ow.start w)
  go_enter Tryd.func16, Tryd.ntmps16
  go_wp2_with (first
    | ((fail_if_success have := g2); (with_reducible apply own_box H); (case hgd => exact rfl); (case ho => exact rfl); (case hx => exact rfl); intro w2 g2 H' _ _; replace H := H'; clear H'; go_simp)
    | ((fail_if_success have := g3); (fail_if_success have := g3); (with_reducible apply own_box H); (case hgd => exact rfl); (case ho => exact rfl); (case hx => exact rfl); intro w3 g3 H' _ _; replace H := H'; clear H'; go_simp)
    | ((with_reducible apply own_load rowPt H); (case hgd => exact rfl); (case ho => exact rfl); (case hx => exact rfl); (case hi => first | exact at0 | exact at1 | exact at2 | exact at3 | exact at4 | exact at5 | exact at6 | exact at7 | exact at8 | exact at9); intro _ _; go_simp)
    | ((with_reducible apply own_load rowQt H); (case hgd => exact rfl); (case ho => exact rfl); (case hx => exact rfl); (case hi => first | exact at0 | exact at1 | exact at2 | exact at3 | exact at4 | exact at5 | exact at6 | exact at7 | exact at8 | exact at9); intro _ _; go_simp)
    | ((fail_if_success have := A1); (with_reducible refine (ptAffine_k _ HP.out).mono ?_); rintro e wc ⟨k1, k2, rfl, hv1, hv2, hb⟩; replace H := Lib.hid (H.out.call hb); clear hb; have A1 := Lib.hid hv1; have A2 := Lib.hid hv2; clear hv1 hv2)
    | ((with_reducible refine (refAffine_k _ HQ.out).mono ?_); rintro e wc ⟨rfl, hb⟩; replace H := Lib.hid (H.out.call hb); clear hb)
    | ((fail_if_success have := g5); (fail_if_success have := g5); (with_reducible apply own_alloc nilE H); (case hgd => exact rfl); (case ho => exact rfl); intro w5 g5 H' _ _; replace H := H'; clear H'; go_simp)
    | ((fail_if_success have := g6); (fail_if_success have := g6); (with_reducible apply own_alloc nilE H); (case hgd => exact rfl); (case ho => exact rfl); intro w6 g6 H' _ _; replace H := H'; clear H'; go_simp)
    | ((fail_if_success have := g7); (fail_if_success have := g7); (with_reducible apply own_alloc intsF.zero H); (case hgd => exact rfl); (case ho => exact rfl); intro w7 g7 H' _ _; replace H := H'; clear H'; go_simp)
    | ((fail_if_success have := g8); (fail_if_success have := g8); (with_reducible apply own_alloc intsF.zero H); (case hgd => exact rfl); (case ho => exact rfl); intro w8 g8 H' _ _; replace H := H'; clear H'; go_simp)
    | ((with_reducible apply own_store rowE H); (case hgd => exact rfl); (case ho => exact rfl); (case hx => exact rfl); (case hy => exact rfl); (case hi => first | exact at0 | exact at1 | exact at2 | exact at3 | exact at4 | exact at5 | exact at6 | exact at7 | exact at8 | exact at9); intro ws H' _ _; replace H := H'; clear H'; simp only [List.set_cons_zero, List.set_cons_succ] at H; go_simp)
    | ((with_reducible apply own_store rowF H); (case hgd => exact rfl); (case ho => exact rfl); (case hx => exact rfl); (case hy => exact rfl); (case hi => first | exact at0 | exact at1 | exact at2 | exact at3 | exact at4 | exact at5 | exact at6 | exact at7 | exact at8 | exact at9); intro ws H' _ _; replace H := H'; clear H'; simp only [List.set_cons_zero, List.set_cons_succ] at H; go_simp)
    | ((with_reducible apply own_load rowE H); (case hgd => exact rfl); (case ho => exact rfl); (case hx => exact rfl); (case hi => first | exact at0 | exact at1 | exact at2 | exact at3 | exact at4 | exact at5 | exact at6 | exact at7 | exact at8 | exact at9); intro _ _; go_simp)
    | ((with_reducible apply own_load rowF H); (case hgd => exact rfl); (case ho => exact rfl); (case hx => exact rfl); (case hi => first | exact at0 | exact at1 | exact at2 | exact at3 | exact at4 | exact at5 | exact at6 | exact at7 | exact at8 | exact at9); intro _ _; go_simp)
    | ((with_reducible refine (is_kb _ A1.out H1.out).mono ?_); rintro e wc ⟨rfl, hb⟩; replace H := Lib.hid (H.out.call hb); clear hb)
    | ((with_reducible apply own_loadg rowE H); (case hw => exact rfl); (case ho => exact rfl); (case hx => exact rfl); (case hi => first | exact at0 | exact at1 | exact at2 | exact at3 | exact at4 | exact at5 | exact at6 | exact at7 | exact at8 | exact at9); intro _ _; go_simp)
    | ((with_reducible apply own_loadg rowF H); (case hw => exact rfl); (case ho => exact rfl); (case hx => exact rfl); (case hi => first | exact at0 | exact at1 | exact at2 | exact at3 | exact at4 | exact at5 | exact at6 | exact at7 | exact at8 | exact at9); intro _ _; go_simp)
    | ((with_reducible refine (is_kb _ A2.out H2.out).mono ?_); rintro e wc ⟨rfl, hb⟩; replace H := Lib.hid (H.out.call hb); clear hb))
  go_ret
  exact ⟨rfl, H.out.bel⟩
theorem isPt_k {v r : Nat → Int} {P Q : Pt pN dK} {b : Bool} (w : World) (hp : PtK v P) (hq : RfK r Q) (hb : decide (P = Q) = b) :
    Calls Tryd.prog 16 #[PO v, QO r] w fun e w' => e = .returned (.bool b) ∧ Below w.heap.size w w' := by
  by_cases h : P.x = Q.x
  · refine isPt_true w hp hq h b ?_
    rw [← hb]
    exact decide_eq_decide.2 ⟨fun e => Pt.same h e, fun e => by rw [e]⟩
  · rw [← hb, decide_eq_false (fun e => h (by rw [e]))]
    exact isPt_false w hp hq h
end Go.Proofs.YtanfobboeehiaaaDoor
