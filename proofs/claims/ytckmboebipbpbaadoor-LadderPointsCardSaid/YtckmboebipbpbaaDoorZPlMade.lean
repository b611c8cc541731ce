/-
  The contracts of the law's Quarter, Made, Plain, Is. No statement is proved here: lemmas for the walks.
-/
import Derived.Test.YtckmboebipbpbaaDoorBuH
import Derived.Test.YtckmboebipbpbaaDoorZPlTimes
import Derived.Test.YtckmboebipbpbaaDoorZPtOf
import Derived.Test.YtckmboebipbpbaaDoorZPtEq
import Derived.Test.YtckmboebipbpbaaDoorZPtBase
import Derived.Test.YtckmboebipbpbaaDoorZRfTimes
import Derived.Deep.CutRange
import Derived.Deep.LoopGhost
namespace Go.Proofs.YtckmboebipbpbaaDoor
open Go.RowKit

theorem quart_on : (ofZ 1 : K) * ofZ 1 + ofZ 0 * ofZ 0 = 1 + dK * (ofZ 1 * ofZ 1 * (ofZ 0 * ofZ 0)) := by decide +kernel
theorem quart_is : (⟨ofZ 1, ofZ 0, quart_on⟩ : Pt pN dK) = pquarter := Pt.same ofZ_one ofZ_zero
theorem quart_k {f g : Nat → Nat} (w : World) (hT : Tp w) (hf : EK f (ofZ 1)) (hg : EK g (ofZ 0)) :
    Calls Tryd.prog 89 #[EV f, EV g] w fun e w' => ∃ r, e = .returned (.tuple #[PO r, .int .i64 0]) ∧ PtK r pquarter ∧ Below w.heap.size w w' := quart_is ▸ ptOf_on w hT hf hg quart_on
set_option maxRecDepth 8000 in
set_option maxHeartbeats 3200000 in
theorem quarter_k (z : Int) (w : World) (hT : Tp w) :
    Calls Tryd.prog 57 #[.int .i64 z] w fun e w' => ∃ r, e = .returned (.tuple #[PO r, .bool true]) ∧ PtK r (pmul edK (qn z) pquarter) ∧ Below w.heap.size w w' := by
  obtain ⟨t, ht⟩ : ∃ t, z.tmod 4 = t := ⟨_, rfl⟩
  have hq := qn_tmod z
  have hl := tmod4_lt z
  have hq4 := qn_lt z
  rw [ht] at hq hl
  obtain ⟨s, hs⟩ : ∃ s : Nat, t + 4 = (s : Int) := ⟨(t + 4).toNat, by omega⟩
  rw [hs] at hq
  have hq' : (s : Int) % 4 = (qn z : Int) := by rw [← hq, Int.tmod_eq_emod_of_nonneg (by omega)]
  obtain ⟨q, hqq⟩ : ∃ q, qn z = q := ⟨_, rfl⟩
  rw [hqq] at hq hq' hq4 ⊢
  have f1 : IntKind.i64.wrap (s : Int) = (s : Int) := IntWalk.i64_in _ (by omega)
  have f2 : IntKind.i64.wrap t = t := IntWalk.i64_in _ (by omega)
  have q4 : (q : Int) < 4 := by omega
  clear hqq hl
  have HT := Lib.hid hT
  clear hT
  have H := Lib.hid (Ow.start w)
  go_enter Tryd.func57, Tryd.ntmps57
  go_wp2_with (first
    | ((fail_if_success have := g2); (with_reducible apply own_alloc nilPt H); (case hgd => exact rfl); (case ho => exact rfl); intro w2 g2 H' _ _; replace H := H'; clear H'; go_simp)
    | ((fail_if_success have := V1); (with_reducible refine (int_k 1 _ (HT.out.below H.out.bel) (by omega) (by omega)).mono ?_); rintro e wc ⟨k1, rfl, hv, hb⟩; replace H := Lib.hid (H.out.call hb); clear hb; have V1 := Lib.hid hv; clear hv)
    | ((fail_if_success have := V2); (with_reducible refine (int_k 0 _ (HT.out.below H.out.bel) (by omega) (by omega)).mono ?_); rintro e wc ⟨k2, rfl, hv, hb⟩; replace H := Lib.hid (H.out.call hb); clear hb; have V2 := Lib.hid hv; clear hv)
    | ((fail_if_success have := V3); (with_reducible refine (quart_k _ (HT.out.below H.out.bel) V1.out V2.out).mono ?_); rintro e wc ⟨k3, rfl, hv, hb⟩; replace H := Lib.hid (H.out.call hb); clear hb; have V3 := Lib.hid hv; clear hv)
    | ((fail_if_success have := g4); (fail_if_success have := g4); (with_reducible apply own_alloc nilPt H); (case hgd => exact rfl); (case ho => exact rfl); intro w4 g4 H' _ _; replace H := H'; clear H'; go_simp)
    | ((fail_if_success have := V0); (with_reducible refine (identity_k _ (HT.out.below H.out.bel)).mono ?_); rintro e wc ⟨k0, rfl, hv, hb⟩; replace H := Lib.hid (H.out.call hb); clear hb; have V0 := Lib.hid hv; clear hv)
    | ((fail_if_success have := g6); (fail_if_success have := g6); (with_reducible apply own_alloc nilPt H); (case hgd => exact rfl); (case ho => exact rfl); intro w6 g6 H' _ _; replace H := H'; clear H'; go_simp)
    | ((with_reducible apply own_store rowPt H); (case hgd => exact rfl); (case ho => exact rfl); (case hx => exact rfl); (case hy => exact rfl); (case hi => first | exact at0 | exact at1 | exact at2 | exact at3 | exact at4 | exact at5 | exact at6 | exact at7 | exact at8 | exact at9); intro ws H' _ _; replace H := H'; clear H'; simp only [List.set_cons_zero] at H; go_simp))
  go_loopw [7] (fun v7 wr => ∃ (i : Nat) (r : Nat → Int), i ≤ q ∧ v7 = .int .i64 (i : Int) ∧ PtK r (pmul edK i pquarter) ∧ Ow w wr [(g6, Blk 67 .u64 24 r), (g4, Blk 67 .u64 24 k3), (g2, Blk 67 .u64 24 fun _ => 0)]) (fun v7 _ => q - (intOf v7).toNat)
  case atStart => exact ⟨0, k0, by omega, rfl, V0.out.eq (pmul_zero edK _).symm, H.out⟩
  case round =>
    clear H V0
    obtain ⟨i, r, hi, rfl, hp, HR⟩ := hrel
    have VP := Lib.hid hp
    have H := Lib.hid HR
    clear hp HR
    by_cases hlt : i < q
    · have hid : decide ((i : Int) < (q : Int)) = true := by simp; omega
      go_wp2_with (first
        | ((with_reducible apply own_load rowPt H); (case hgd => exact rfl); (case ho => exact rfl); (case hx => exact rfl); (case hi => first | exact at0 | exact at1 | exact at2 | exact at3 | exact at4 | exact at5 | exact at6 | exact at7 | exact at8 | exact at9); intro _ _; go_simp)
        | ((fail_if_success have := V5); (with_reducible refine (ptAdd_k _ (HT.out.below H.out.bel) VP.out V3.out).mono ?_); rintro e wc ⟨k5, rfl, hv, hb⟩; replace H := Lib.hid (H.out.call hb); clear hb; have V5 := Lib.hid hv; clear hv)
        | ((with_reducible apply own_store rowPt H); (case hgd => exact rfl); (case ho => exact rfl); (case hx => exact rfl); (case hy => exact rfl); (case hi => first | exact at0 | exact at1 | exact at2 | exact at3 | exact at4 | exact at5 | exact at6 | exact at7 | exact at8 | exact at9); intro ws H' _ _; replace H := H'; clear H'; simp only [List.set_cons_zero] at H; go_simp))
      go_roundw
      case rel => exact ⟨i + 1, k5, by omega, by go_num, V5.out, H.out⟩
      case measure => (simp [intOf] <;> omega)
    · obtain rfl : i = q := by omega
      have hid : decide ((i : Int) < (i : Int)) = false := by simp
      clear hlt hi
      go_wp2_with (first
        | ((with_reducible apply own_load rowPt H); (case hgd => exact rfl); (case ho => exact rfl); (case hx => exact rfl); (case hi => first | exact at0 | exact at1 | exact at2 | exact at3 | exact at4 | exact at5 | exact at6 | exact at7 | exact at8 | exact at9); intro _ _; go_simp)
        | ((with_reducible apply own_store rowPt H); (case hgd => exact rfl); (case ho => exact rfl); (case hx => exact rfl); (case hy => exact rfl); (case hi => first | exact at0 | exact at1 | exact at2 | exact at3 | exact at4 | exact at5 | exact at6 | exact at7 | exact at8 | exact at9); intro ws H' _ _; replace H := H'; clear H'; simp only [List.set_cons_zero, List.set_cons_succ] at H; go_simp))
      exact bodyPost_ret (own_result_slot 2 rowPt rfl _ H rfl rfl rfl) rfl ⟨_, rfl, VP.out, H.out.bel⟩
set_option maxRecDepth 8000 in
set_option maxHeartbeats 3200000 in
theorem made8_k (u : Nat → BitVec 8) (z : Int) (x : Nat) (w : World) (hT : Tp w) (hx : Num57 u x) :
    Calls Tryd.prog 29 #[.agg (SpotA u z)] w fun e w' => ∃ r, e = .returned (.tuple #[PO r, .bool true]) ∧ PtK r (spot x (qn z)) ∧ Below w.heap.size w w' := by
  have HX := Lib.hid hx
  clear hx
  have HT := Lib.hid hT
  clear hT
  have H := Lib.hid (Ow.start w)
  go_enter Tryd.func29, Tryd.ntmps29
  go_wp2_with (first
    | ((fail_if_success have := g1); (with_reducible apply own_boxS H); (case hgd => exact rfl); (case ho => exact rfl); (case hx => exact rfl); intro w1 g1 H' _ _; replace H := H'; clear H'; go_simp)
    | ((fail_if_success have := g2); (with_reducible apply own_alloc nilPt H); (case hgd => exact rfl); (case ho => exact rfl); intro w2 g2 H' _ _; replace H := H'; clear H'; go_simp)
    | ((with_reducible apply own_quart H); (case hgd => exact rfl); (case ho => exact rfl); (case hx => exact rfl); (case hi => first | exact at0 | exact at1 | exact at2 | exact at3 | exact at4 | exact at5 | exact at6 | exact at7 | exact at8 | exact at9); intro _ _; go_simp)
    | ((fail_if_success have := V1); (with_reducible refine (quarter_k z _ (HT.out.below H.out.bel)).mono ?_); rintro e wc ⟨k1, rfl, hv, hb⟩; replace H := Lib.hid (H.out.call hb); clear hb; have V1 := Lib.hid hv; clear hv)
    | ((fail_if_success have := g4); (fail_if_success have := g4); (with_reducible apply own_alloc nilPt H); (case hgd => exact rfl); (case ho => exact rfl); intro w4 g4 H' _ _; replace H := H'; clear H'; go_simp)
    | ((with_reducible apply own_store rowPt H); (case hgd => exact rfl); (case ho => exact rfl); (case hx => exact rfl); (case hy => exact rfl); (case hi => first | exact at0 | exact at1 | exact at2 | exact at3 | exact at4 | exact at5 | exact at6 | exact at7 | exact at8 | exact at9); intro ws H' _ _; replace H := H'; clear H'; simp only [List.set_cons_zero] at H; go_simp))
  refine wp_region_noPanic ?_
  refine wp_region_held_drew (S := fun W => W.heap[g4]? = some (Blk 67 .u64 24 (k1))) (by kernel_rfl) (H.out.drew.row 0 rfl) (fun hH => ?_)
  replace H := Lib.hid H.out.drew
  generalize World.drew _ = w8 at *
  refine held_value 0 15 (.pointer (some ⟨g1, 0, none⟩)) rfl rfl (by kernel_rfl) (by kernel_rfl) (by kernel_rfl) rfl hH (fun w hw => by go_simp) ?_
  try simp only [Act.put, List.setIfInBounds_toArray, List.set_cons_zero, List.set_cons_succ]
  refine held_value 1 16 (.slice (some ⟨g1, 0, none⟩) 57 57) rfl rfl (by kernel_rfl) (by kernel_rfl) (by kernel_rfl) rfl hH (fun w hw => by go_simp) ?_
  try simp only [Act.put, List.setIfInBounds_toArray, List.set_cons_zero, List.set_cons_succ]
  refine held_row 4 19 rowPt rfl rfl (by kernel_rfl) (by kernel_rfl) (by kernel_rfl) rfl hH rfl rfl (fun _ h => h) ?_
  try simp only [Act.put, List.setIfInBounds_toArray, List.set_cons_zero, List.set_cons_succ]
  refine wpAnyH_ready (rs := [2]) (by kernel_rfl) (by simp) ?_
  refine AllReadyH.cons (o := _) rfl (fun K hK => ?_) AllReadyH.nil
  go_simp
  refine (base_k _ (HT.out.below H.out.bel)).mono ?_
  rintro e wc ⟨h17, rfl, hv, hb⟩
  replace H := Lib.hid (H.out.call hb)
  have HV17 := Lib.hid hv
  refine hK.out _ _ (H.out.row 0 rfl) (fun hN => ?_)
  clear hK K hH hb hv
  have hH := hN
  clear hN
  try simp only [Act.put, List.setIfInBounds_toArray, List.set_cons_zero, List.set_cons_succ]
  refine wpAnyH_ready (rs := [3]) (by kernel_rfl) (by simp) ?_
  refine AllReadyH.cons (o := _) rfl (fun K hK => ?_) AllReadyH.nil
  go_simp
  refine (lawTimes_k _ 57 57 x _ (HT.out.below H.out.bel) (by omega) (by omega) (spot_sb (H.out.row 2 rfl) HX.out) HV17.out).mono ?_
  rintro e wc ⟨h18, rfl, hv, hb⟩
  replace H := Lib.hid (H.out.call hb)
  have HV18 := Lib.hid hv
  refine hK.out _ _ (H.out.row 0 rfl) (fun hN => ?_)
  clear hK K hH hb hv
  have hH := hN
  clear hN
  try simp only [Act.put, List.setIfInBounds_toArray, List.set_cons_zero, List.set_cons_succ]
  refine wpAnyH_ready (rs := [5]) (by kernel_rfl) (by simp) ?_
  refine AllReadyH.cons (o := _) rfl (fun K hK => ?_) AllReadyH.nil
  go_simp
  refine (ptAdd_k _ (HT.out.below H.out.bel) HV18.out V1.out).mono ?_
  rintro e wc ⟨h20, rfl, hv, hb⟩
  replace H := Lib.hid (H.out.call hb)
  have HV20 := Lib.hid hv
  refine hK.out _ _ (H.out.row 0 rfl) (fun hN => ?_)
  clear hK K hH hb hv
  have hH := hN
  clear hN
  try simp only [Act.put, List.setIfInBounds_toArray, List.set_cons_zero, List.set_cons_succ]
  refine wpAnyH_ready (rs := [6]) (by kernel_rfl) (by simp) ?_
  refine AllReadyH.cons (o := _) rfl (fun K hK => ?_) AllReadyH.nil
  refine own_wp_store 1 rowPt H.out rfl rfl rfl rfl ?_
  intro ws HS
  simp only [List.set_cons_zero, List.set_cons_succ] at HS
  replace H := Lib.hid HS
  refine hK.out _ _ (H.out.row 0 rfl) (fun hN => ?_)
  clear hK K HS hH
  have hH := hN
  clear hN
  try simp only [Act.put, List.setIfInBounds_toArray]
  refine held_value 7 3 (.bool true) rfl rfl (by kernel_rfl) (by kernel_rfl) (by kernel_rfl) rfl hH (fun w hw => by go_simp) ?_
  try simp only [Act.put]
  try simp only [Act.put]
  refine wpAnyH_done (by kernel_rfl) ?_ _
  refine NoPanic.normal ?_
  clear hH
  go_wp2_with fail
  exact bodyPost_ret (own_result_slot 1 rowPt rfl _ H rfl rfl rfl) rfl ⟨_, rfl, HV20.out, H.out.bel⟩




































































































































































































































































































end Go.Proofs.YtckmboebipbpbaaDoor
