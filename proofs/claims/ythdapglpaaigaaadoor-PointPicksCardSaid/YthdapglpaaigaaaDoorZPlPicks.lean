/-
  The walk of PointPicks. No statement is proved here: lemmas for the walks.
-/
import Derived.Test.YthdapglpaaigaaaDoorZPlAwake
import Derived.Deep.CutRange
namespace Go.Proofs.YthdapglpaaigaaaDoor
open Go.RowKit

theorem even_t {z : Int} (h : z % 2 = 0) : z.tmod 2 = 0 := Int.tmod_eq_zero_of_dvd (Int.dvd_of_emod_eq_zero h)
theorem odd_t {z : Int} (h : ¬ z % 2 = 0) : z.tmod 2 ≠ 0 := fun e => h (Int.emod_eq_zero_of_dvd (Int.dvd_of_tmod_eq_zero e))
theorem small_t (z : Int) : -2 < z.tmod 2 ∧ z.tmod 2 < 2 := by
  have h1 : z.tmod 2 = if 0 ≤ z then z % 2 else -((-z) % 2) := by
    split
    · exact Int.tmod_eq_emod_of_nonneg (by omega)
    · have : z.tmod 2 = -((-z).tmod 2) := by rw [Int.neg_tmod, Int.neg_neg]
      rw [this, Int.tmod_eq_emod_of_nonneg (by omega)]
  rw [h1]
  split <;> omega
set_option maxRecDepth 20000 in
set_option maxHeartbeats 12800000 in
theorem picks_walk (u v : Nat → BitVec 8) (y z : Int) (n : Int) (w : World) (hT : Tp w) :
    Calls Tryd.prog 5 #[.agg (SpotA u y), .agg (SpotA v z), .int .i64 n] w fun e w' => e = .returned (.bool true) ∧ Below w.heap.size w w' := by
  obtain ⟨x1, hx1⟩ := num57 u
  have M1 := Lib.hid (fun w hT => made8_k u y x1 w hT hx1)
  have N1 := Lib.hid (fun w => plain8_k u y x1 w hx1)
  obtain ⟨P1, hP1⟩ : ∃ P, spot x1 (qn y) = P := ⟨_, rfl⟩
  rw [hP1] at M1 N1
  clear hP1 hx1
  obtain ⟨x2, hx2⟩ := num57 v
  have M2 := Lib.hid (fun w hT => made8_k v z x2 w hT hx2)
  have N2 := Lib.hid (fun w => plain8_k v z x2 w hx2)
  obtain ⟨P2, hP2⟩ : ∃ P, spot x2 (qn z) = P := ⟨_, rfl⟩
  rw [hP2] at M2 N2
  clear hP2 hx2
  obtain ⟨b1, hb1⟩ : ∃ b, decide (P1 = P2) = b := ⟨_, rfl⟩
  obtain ⟨b2, hb2⟩ : ∃ b, decide (P1 = pneg P1) = b := ⟨_, rfl⟩
  have HB1 := Lib.hid hb1
  have HB2 := Lib.hid hb2
  clear hb1 hb2
  obtain ⟨t, ht⟩ : ∃ t, n.tmod 2 = t := ⟨_, rfl⟩
  have hs := small_t n
  rw [ht] at hs
  have f1 : IntKind.i64.wrap t = t := IntWalk.i64_in _ (by omega)
  have HTT := Lib.hid ht
  clear hs
  have HT := Lib.hid hT
  clear hT
  have H := Lib.hid (Ow.start w)
  go_enter Tryd.func5, Tryd.ntmps5
  go_wp2_with (first
    | ((fail_if_success have := g3); (with_reducible apply own_boxS H); (case hgd => exact rfl); (case ho => exact rfl); (case hx => exact rfl); intro w3 g3 H' _ _; replace H := H'; clear H'; go_simp)
    | ((fail_if_success have := g4); (fail_if_success have := g4); (with_reducible apply own_boxS H); (case hgd => exact rfl); (case ho => exact rfl); (case hx => exact rfl); intro w4 g4 H' _ _; replace H := H'; clear H'; go_simp)
    | ((with_reducible apply own_loadS H); (case hgd => exact rfl); (case ho => exact rfl); (case hx => exact rfl); (case hi => first | exact at0 | exact at1 | exact at2 | exact at3 | exact at4 | exact at5 | exact at6 | exact at7 | exact at8 | exact at9); intro _ _; go_simp)
    | ((fail_if_success have := V1); (with_reducible refine (M1.out _ (HT.out.below H.out.bel)).mono ?_); rintro e wc ⟨k1, rfl, hv, hb⟩; replace H := Lib.hid (H.out.call hb); clear hb; have V1 := Lib.hid hv; clear hv)
    | ((fail_if_success have := V2); (with_reducible refine (M2.out _ (HT.out.below H.out.bel)).mono ?_); rintro e wc ⟨k2, rfl, hv, hb⟩; replace H := Lib.hid (H.out.call hb); clear hb; have V2 := Lib.hid hv; clear hv)
    | ((fail_if_success have := W1); (with_reducible refine (N1.out _).mono ?_); rintro e wc ⟨r1, rfl, hv, hb⟩; replace H := Lib.hid (H.out.call hb); clear hb; have W1 := Lib.hid hv; clear hv)
    | ((fail_if_success have := W2); (with_reducible refine (N2.out _).mono ?_); rintro e wc ⟨r2, rfl, hv, hb⟩; replace H := Lib.hid (H.out.call hb); clear hb; have W2 := Lib.hid hv; clear hv)
    | ((fail_if_success have := g7); (fail_if_success have := g7); (with_reducible apply own_alloc nilPt H); (case hgd => exact rfl); (case ho => exact rfl); intro w7 g7 H' _ _; replace H := H'; clear H'; go_simp)
    | ((fail_if_success have := g9); (fail_if_success have := g9); (with_reducible apply own_alloc nilPt H); (case hgd => exact rfl); (case ho => exact rfl); intro w9 g9 H' _ _; replace H := H'; clear H'; go_simp)
    | ((fail_if_success have := g11); (fail_if_success have := g11); (with_reducible apply own_alloc nilQt H); (case hgd => exact rfl); (case ho => exact rfl); intro w11 g11 H' _ _; replace H := H'; clear H'; go_simp)
    | ((fail_if_success have := g12); (fail_if_success have := g12); (with_reducible apply own_alloc nilQt H); (case hgd => exact rfl); (case ho => exact rfl); intro w12 g12 H' _ _; replace H := H'; clear H'; go_simp)
    | ((with_reducible apply own_store rowPt H); (case hgd => exact rfl); (case ho => exact rfl); (case hx => exact rfl); (case hy => exact rfl); (case hi => first | exact at0 | exact at1 | exact at2 | exact at3 | exact at4 | exact at5 | exact at6 | exact at7 | exact at8 | exact at9); intro ws H' _ _; replace H := H'; clear H'; simp only [List.set_cons_zero] at H; go_simp)
    | ((with_reducible apply own_store rowQt H); (case hgd => exact rfl); (case ho => exact rfl); (case hx => exact rfl); (case hy => exact rfl); (case hi => first | exact at0 | exact at1 | exact at2 | exact at3 | exact at4 | exact at5 | exact at6 | exact at7 | exact at8 | exact at9); intro ws H' _ _; replace H := H'; clear H'; simp only [List.set_cons_zero] at H; go_simp))
  refine wp_region_noPanic ?_
  refine wp_region_held_drew (S := fun W => W.heap[g7]? = some (Blk 34 .u64 24 (k1)) ∧ W.heap[g9]? = some (Blk 34 .u64 24 (k2)) ∧ W.heap[g11]? = some (Blk 52 .i64 48 (r1)) ∧ W.heap[g12]? = some (Blk 52 .i64 48 (r2))) (by kernel_rfl) (⟨H.out.drew.row 3 rfl, H.out.drew.row 2 rfl, H.out.drew.row 1 rfl, H.out.drew.row 0 rfl⟩) (fun hH => ?_)
  replace H := Lib.hid H.out.drew
  generalize World.drew _ = w8 at *
  refine held_row 0 33 rowPt rfl rfl (by kernel_rfl) (by kernel_rfl) (by kernel_rfl) rfl hH rfl rfl (fun _ h => h.1) ?_
  try simp only [Act.put, List.setIfInBounds_toArray, List.set_cons_zero, List.set_cons_succ]
  refine held_row 1 34 rowPt rfl rfl (by kernel_rfl) (by kernel_rfl) (by kernel_rfl) rfl hH rfl rfl (fun _ h => h.2.1) ?_
  try simp only [Act.put, List.setIfInBounds_toArray, List.set_cons_zero, List.set_cons_succ]
  refine held_row 3 36 rowQt rfl rfl (by kernel_rfl) (by kernel_rfl) (by kernel_rfl) rfl hH rfl rfl (fun _ h => h.2.2.1) ?_
  try simp only [Act.put, List.setIfInBounds_toArray, List.set_cons_zero, List.set_cons_succ]
  refine held_row 4 37 rowQt rfl rfl (by kernel_rfl) (by kernel_rfl) (by kernel_rfl) rfl hH rfl rfl (fun _ h => h.2.2.2) ?_
  try simp only [Act.put, List.setIfInBounds_toArray, List.set_cons_zero, List.set_cons_succ]
  refine wpAnyH_ready (rs := [2]) (by kernel_rfl) (by simp) ?_
  refine AllReadyH.cons (o := _) rfl (fun K hK => ?_) AllReadyH.nil
  go_simp
  refine (ptEqual_k _ (HT.out.below H.out.bel) V1.out V2.out (HB1.out)).mono ?_
  rintro e wc ⟨rfl, hb⟩
  replace H := Lib.hid (H.out.call hb)
  refine hK.out _ _ (⟨H.out.row 3 rfl, H.out.row 2 rfl, H.out.row 1 rfl, H.out.row 0 rfl⟩) (fun hN => ?_)
  clear hK K hH hb
  have hH := hN
  clear hN
  try simp only [Act.put, List.setIfInBounds_toArray, List.set_cons_zero, List.set_cons_succ]
  refine wpAnyH_ready (rs := [5]) (by kernel_rfl) (by simp) ?_
  refine AllReadyH.cons (o := _) rfl (fun K hK => ?_) AllReadyH.nil
  go_simp
  refine (refPtSame_k _ W1.out W2.out HB1.out).mono ?_
  rintro e wc ⟨rfl, hb⟩
  replace H := Lib.hid (H.out.call hb)
  refine hK.out _ _ (⟨H.out.row 3 rfl, H.out.row 2 rfl, H.out.row 1 rfl, H.out.row 0 rfl⟩) (fun hN => ?_)
  clear hK K hH hb
  have hH := hN
  clear hN
  try simp only [Act.put, List.setIfInBounds_toArray, List.set_cons_zero, List.set_cons_succ]
  refine held_value 6 39 (.bool false) rfl rfl (by kernel_rfl) (by kernel_rfl) (by kernel_rfl) rfl hH (fun w hw => by cases b1 <;> go_simp) ?_
  try simp only [Act.put, List.setIfInBounds_toArray, List.set_cons_zero, List.set_cons_succ]
  refine held_value 7 40 (.bool false) rfl rfl (by kernel_rfl) (by kernel_rfl) (by kernel_rfl) rfl hH (fun w hw => by go_simp) ?_
  try simp only [Act.put, List.setIfInBounds_toArray, List.set_cons_zero, List.set_cons_succ]
  refine held_row 8 41 rowPt rfl rfl (by kernel_rfl) (by kernel_rfl) (by kernel_rfl) rfl hH rfl rfl (fun _ h => h.1) ?_
  try simp only [Act.put, List.setIfInBounds_toArray, List.set_cons_zero, List.set_cons_succ]
  refine held_row 9 42 rowPt rfl rfl (by kernel_rfl) (by kernel_rfl) (by kernel_rfl) rfl hH rfl rfl (fun _ h => h.1) ?_
  try simp only [Act.put, List.setIfInBounds_toArray, List.set_cons_zero, List.set_cons_succ]
  refine held_row 12 45 rowQt rfl rfl (by kernel_rfl) (by kernel_rfl) (by kernel_rfl) rfl hH rfl rfl (fun _ h => h.2.2.1) ?_
  try simp only [Act.put, List.setIfInBounds_toArray, List.set_cons_zero, List.set_cons_succ]
  refine held_row 13 46 rowQt rfl rfl (by kernel_rfl) (by kernel_rfl) (by kernel_rfl) rfl hH rfl rfl (fun _ h => h.2.2.1) ?_
  try simp only [Act.put, List.setIfInBounds_toArray, List.set_cons_zero, List.set_cons_succ]
  refine wpAnyH_ready (rs := [10]) (by kernel_rfl) (by simp) ?_
  refine AllReadyH.cons (o := _) rfl (fun K hK => ?_) AllReadyH.nil
  go_simp
  refine (ptNeg_k _ (HT.out.below H.out.bel) V1.out).mono ?_
  rintro e wc ⟨h43, rfl, hv, hb⟩
  replace H := Lib.hid (H.out.call hb)
  have HV43 := Lib.hid hv
  refine hK.out _ _ (⟨H.out.row 3 rfl, H.out.row 2 rfl, H.out.row 1 rfl, H.out.row 0 rfl⟩) (fun hN => ?_)
  clear hK K hH hb hv
  have hH := hN
  clear hN
  try simp only [Act.put, List.setIfInBounds_toArray, List.set_cons_zero, List.set_cons_succ]
  refine wpAnyH_ready (rs := [11]) (by kernel_rfl) (by simp) ?_
  refine AllReadyH.cons (o := _) rfl (fun K hK => ?_) AllReadyH.nil
  go_simp
  refine (ptEqual_k _ (HT.out.below H.out.bel) V1.out HV43.out (HB2.out)).mono ?_
  rintro e wc ⟨rfl, hb⟩
  replace H := Lib.hid (H.out.call hb)
  refine hK.out _ _ (⟨H.out.row 3 rfl, H.out.row 2 rfl, H.out.row 1 rfl, H.out.row 0 rfl⟩) (fun hN => ?_)
  clear hK K hH hb
  have hH := hN
  clear hN
  try simp only [Act.put, List.setIfInBounds_toArray, List.set_cons_zero, List.set_cons_succ]
  refine wpAnyH_ready (rs := [14]) (by kernel_rfl) (by simp) ?_
  refine AllReadyH.cons (o := _) rfl (fun K hK => ?_) AllReadyH.nil
  go_simp
  refine (refPtNeg_k _ W1.out).mono ?_
  rintro e wc ⟨h47, rfl, hv, hb⟩
  replace H := Lib.hid (H.out.call hb)
  have HV47 := Lib.hid hv
  refine hK.out _ _ (⟨H.out.row 3 rfl, H.out.row 2 rfl, H.out.row 1 rfl, H.out.row 0 rfl⟩) (fun hN => ?_)
  clear hK K hH hb hv
  have hH := hN
  clear hN
  try simp only [Act.put, List.setIfInBounds_toArray, List.set_cons_zero, List.set_cons_succ]
  refine wpAnyH_ready (rs := [15]) (by kernel_rfl) (by simp) ?_
  refine AllReadyH.cons (o := _) rfl (fun K hK => ?_) AllReadyH.nil
  go_simp
  refine (refPtSame_k _ W1.out HV47.out HB2.out).mono ?_
  rintro e wc ⟨rfl, hb⟩
  replace H := Lib.hid (H.out.call hb)
  refine hK.out _ _ (⟨H.out.row 3 rfl, H.out.row 2 rfl, H.out.row 1 rfl, H.out.row 0 rfl⟩) (fun hN => ?_)
  clear hK K hH hb
  have hH := hN
  clear hN
  try simp only [Act.put, List.setIfInBounds_toArray, List.set_cons_zero, List.set_cons_succ]
  refine held_value 16 49 (.bool false) rfl rfl (by kernel_rfl) (by kernel_rfl) (by kernel_rfl) rfl hH (fun w hw => by cases b2 <;> go_simp) ?_
  try simp only [Act.put, List.setIfInBounds_toArray, List.set_cons_zero, List.set_cons_succ]
  refine held_value 17 50 (.bool false) rfl rfl (by kernel_rfl) (by kernel_rfl) (by kernel_rfl) rfl hH (fun w hw => by go_simp) ?_
  try simp only [Act.put, List.setIfInBounds_toArray, List.set_cons_zero, List.set_cons_succ]
  refine held_value 18 51 (.bool false) rfl rfl (by kernel_rfl) (by kernel_rfl) (by kernel_rfl) rfl hH (fun w hw => by go_simp) ?_
  try simp only [Act.put, List.setIfInBounds_toArray, List.set_cons_zero, List.set_cons_succ]
  refine wpAnyH_ready (rs := [19]) (by kernel_rfl) (by simp) ?_
  refine AllReadyH.cons (o := _) rfl (fun K hK => ?_) AllReadyH.nil
  go_simp
  refine (identity_k _ (HT.out.below H.out.bel)).mono ?_
  rintro e wc ⟨h52, rfl, hv, hb⟩
  replace H := Lib.hid (H.out.call hb)
  have HV52 := Lib.hid hv
  refine hK.out _ _ (⟨H.out.row 3 rfl, H.out.row 2 rfl, H.out.row 1 rfl, H.out.row 0 rfl⟩) (fun hN => ?_)
  clear hK K hH hb hv
  have hH := hN
  clear hN
  try simp only [Act.put, List.setIfInBounds_toArray, List.set_cons_zero, List.set_cons_succ]
  refine wpAnyH_ready (rs := [20]) (by kernel_rfl) (by simp) ?_
  refine AllReadyH.cons (o := _) rfl (fun K hK => ?_) AllReadyH.nil
  go_simp
  refine (refIdentity_k _).mono ?_
  rintro e wc ⟨h53, rfl, hv, hb⟩
  replace H := Lib.hid (H.out.call hb)
  have HV53 := Lib.hid hv
  refine hK.out _ _ (⟨H.out.row 3 rfl, H.out.row 2 rfl, H.out.row 1 rfl, H.out.row 0 rfl⟩) (fun hN => ?_)
  clear hK K hH hb hv
  have hH := hN
  clear hN
  try simp only [Act.put, List.setIfInBounds_toArray, List.set_cons_zero, List.set_cons_succ]
  refine wpAnyH_ready (rs := [21]) (by kernel_rfl) (by simp) ?_
  refine AllReadyH.cons (o := _) rfl (fun K hK => ?_) AllReadyH.nil
  go_simp
  refine (isPt_k _ HV52.out HV53.out (decide_eq_true (rfl))).mono ?_
  rintro e wc ⟨rfl, hb⟩
  replace H := Lib.hid (H.out.call hb)
  refine hK.out _ _ (⟨H.out.row 3 rfl, H.out.row 2 rfl, H.out.row 1 rfl, H.out.row 0 rfl⟩) (fun hN => ?_)
  clear hK K hH hb
  have hH := hN
  clear hN
  try simp only [Act.put, List.setIfInBounds_toArray, List.set_cons_zero, List.set_cons_succ]
  refine held_value 22 55 (.bool false) rfl rfl (by kernel_rfl) (by kernel_rfl) (by kernel_rfl) rfl hH (fun w hw => by go_simp) ?_
  try simp only [Act.put, List.setIfInBounds_toArray, List.set_cons_zero, List.set_cons_succ]
  refine held_value 23 56 (.bool false) rfl rfl (by kernel_rfl) (by kernel_rfl) (by kernel_rfl) rfl hH (fun w hw => by go_simp) ?_
  try simp only [Act.put, List.setIfInBounds_toArray, List.set_cons_zero, List.set_cons_succ]
  refine held_value 24 57 (.bool false) rfl rfl (by kernel_rfl) (by kernel_rfl) (by kernel_rfl) rfl hH (fun w hw => by go_simp) ?_
  try simp only [Act.put, List.setIfInBounds_toArray, List.set_cons_zero, List.set_cons_succ]
  refine wpAnyH_ready (rs := [25]) (by kernel_rfl) (by simp) ?_
  refine AllReadyH.cons (o := _) rfl (fun K hK => ?_) AllReadyH.nil
  go_simp
  refine (base_k _ (HT.out.below H.out.bel)).mono ?_
  rintro e wc ⟨h58, rfl, hv, hb⟩
  replace H := Lib.hid (H.out.call hb)
  have HV58 := Lib.hid hv
  refine hK.out _ _ (⟨H.out.row 3 rfl, H.out.row 2 rfl, H.out.row 1 rfl, H.out.row 0 rfl⟩) (fun hN => ?_)
  clear hK K hH hb hv
  have hH := hN
  clear hN
  try simp only [Act.put, List.setIfInBounds_toArray, List.set_cons_zero, List.set_cons_succ]
  refine wpAnyH_ready (rs := [26]) (by kernel_rfl) (by simp) ?_
  refine AllReadyH.cons (o := _) rfl (fun K hK => ?_) AllReadyH.nil
  go_simp
  refine (refBase_k _).mono ?_
  rintro e wc ⟨h59, rfl, hv, hb⟩
  replace H := Lib.hid (H.out.call hb)
  have HV59 := Lib.hid hv
  refine hK.out _ _ (⟨H.out.row 3 rfl, H.out.row 2 rfl, H.out.row 1 rfl, H.out.row 0 rfl⟩) (fun hN => ?_)
  clear hK K hH hb hv
  have hH := hN
  clear hN
  try simp only [Act.put, List.setIfInBounds_toArray, List.set_cons_zero, List.set_cons_succ]
  refine wpAnyH_ready (rs := [27]) (by kernel_rfl) (by simp) ?_
  refine AllReadyH.cons (o := _) rfl (fun K hK => ?_) AllReadyH.nil
  go_simp
  refine (isPt_k _ HV58.out HV59.out (decide_eq_true (rfl))).mono ?_
  rintro e wc ⟨rfl, hb⟩
  replace H := Lib.hid (H.out.call hb)
  refine hK.out _ _ (⟨H.out.row 3 rfl, H.out.row 2 rfl, H.out.row 1 rfl, H.out.row 0 rfl⟩) (fun hN => ?_)
  clear hK K hH hb
  have hH := hN
  clear hN
  try simp only [Act.put, List.setIfInBounds_toArray, List.set_cons_zero, List.set_cons_succ]
  refine held_value 28 61 (.bool false) rfl rfl (by kernel_rfl) (by kernel_rfl) (by kernel_rfl) rfl hH (fun w hw => by go_simp) ?_
  try simp only [Act.put, List.setIfInBounds_toArray, List.set_cons_zero, List.set_cons_succ]
  refine held_value 29 62 (.bool false) rfl rfl (by kernel_rfl) (by kernel_rfl) (by kernel_rfl) rfl hH (fun w hw => by go_simp) ?_
  try simp only [Act.put, List.setIfInBounds_toArray, List.set_cons_zero, List.set_cons_succ]
  try simp only [Act.put]
  refine wpAnyH_done (by kernel_rfl) ?_ _
  refine NoPanic.normal ?_
  clear hH
  clear HB1 HB2
  by_cases h2 : n % 2 = 0
  · have HR2 := Lib.hid h2
    obtain rfl : t = 0 := by rw [← HTT.out]; exact even_t h2
    clear h2 HTT
    go_wp2_with fail
    refine wp_region_noPanic ?_
    refine wp_region_held_drew (S := fun W => W.heap[g7]? = some (Blk 34 .u64 24 (k1)) ∧ W.heap[g9]? = some (Blk 34 .u64 24 (k2)) ∧ W.heap[g11]? = some (Blk 52 .i64 48 (r1))) (by kernel_rfl) (⟨H.out.drew.row 3 rfl, H.out.drew.row 2 rfl, H.out.drew.row 1 rfl⟩) (fun hH => ?_)
    replace H := Lib.hid H.out.drew
    generalize World.drew _ = w8 at *
    refine held_value 0 66 (.int .i64 n) rfl rfl (by kernel_rfl) (by kernel_rfl) (by kernel_rfl) rfl hH (fun w hw => by go_simp) ?_
    try simp only [Act.put, List.setIfInBounds_toArray, List.set_cons_zero, List.set_cons_succ]
    refine held_row 1 67 rowPt rfl rfl (by kernel_rfl) (by kernel_rfl) (by kernel_rfl) rfl hH rfl rfl (fun _ h => h.1) ?_
    try simp only [Act.put, List.setIfInBounds_toArray, List.set_cons_zero, List.set_cons_succ]
    refine held_row 2 68 rowPt rfl rfl (by kernel_rfl) (by kernel_rfl) (by kernel_rfl) rfl hH rfl rfl (fun _ h => h.2.1) ?_
    try simp only [Act.put, List.setIfInBounds_toArray, List.set_cons_zero, List.set_cons_succ]
    refine held_row 4 70 rowQt rfl rfl (by kernel_rfl) (by kernel_rfl) (by kernel_rfl) rfl hH rfl rfl (fun _ h => h.2.2) ?_
    try simp only [Act.put, List.setIfInBounds_toArray, List.set_cons_zero, List.set_cons_succ]
    refine wpAnyH_ready (rs := [3]) (by kernel_rfl) (by simp) ?_
    refine AllReadyH.cons (o := _) rfl (fun K hK => ?_) AllReadyH.nil
    go_simp
    refine (ptSelect_k n _ V1.out V2.out (if_pos HR2.out)).mono ?_
    rintro e wc ⟨h69, rfl, hv, hb⟩
    replace H := Lib.hid (H.out.call hb)
    have HV69 := Lib.hid hv
    refine hK.out _ _ (⟨H.out.row 3 rfl, H.out.row 2 rfl, H.out.row 1 rfl⟩) (fun hN => ?_)
    clear hK K hH hb hv
    have hH := hN
    clear hN
    try simp only [Act.put, List.setIfInBounds_toArray, List.set_cons_zero, List.set_cons_succ]
    refine wpAnyH_ready (rs := [5]) (by kernel_rfl) (by simp) ?_
    refine AllReadyH.cons (o := _) rfl (fun K hK => ?_) AllReadyH.nil
    go_simp
    refine (isPt_k _ HV69.out W1.out (decide_eq_true (rfl))).mono ?_
    rintro e wc ⟨rfl, hb⟩
    replace H := Lib.hid (H.out.call hb)
    refine hK.out _ _ (⟨H.out.row 3 rfl, H.out.row 2 rfl, H.out.row 1 rfl⟩) (fun hN => ?_)
    clear hK K hH hb
    have hH := hN
    clear hN
    try simp only [Act.put, List.setIfInBounds_toArray, List.set_cons_zero, List.set_cons_succ]
    refine held_value 6 72 (.bool true) rfl rfl (by kernel_rfl) (by kernel_rfl) (by kernel_rfl) rfl hH (fun w hw => by go_simp) ?_
    try simp only [Act.put, List.setIfInBounds_toArray, List.set_cons_zero, List.set_cons_succ]
    refine wpAnyH_ready (rs := [7]) (by kernel_rfl) (by simp) ?_
    refine AllReadyH.cons (o := _) rfl (fun K hK => ?_) AllReadyH.nil
    go_simp
    refine (awake8_k _ (HT.out.below H.out.bel)).mono ?_
    rintro e wc ⟨rfl, hb⟩
    replace H := Lib.hid (H.out.call hb)
    refine hK.out _ _ (⟨H.out.row 3 rfl, H.out.row 2 rfl, H.out.row 1 rfl⟩) (fun hN => ?_)
    clear hK K hH hb
    have hH := hN
    clear hN
    try simp only [Act.put, List.setIfInBounds_toArray, List.set_cons_zero, List.set_cons_succ]
    refine held_value 8 74 (.bool true) rfl rfl (by kernel_rfl) (by kernel_rfl) (by kernel_rfl) rfl hH (fun w hw => by go_simp) ?_
    try simp only [Act.put, List.setIfInBounds_toArray, List.set_cons_zero, List.set_cons_succ]
    refine held_value 9 6 (.bool true) rfl rfl (by kernel_rfl) (by kernel_rfl) (by kernel_rfl) rfl hH (fun w hw => by go_simp) ?_
    try simp only [Act.put, List.setIfInBounds_toArray, List.set_cons_zero, List.set_cons_succ]
    try simp only [Act.put]
    refine wpAnyH_done (by kernel_rfl) ?_ _
    refine NoPanic.normal ?_
    clear hH
    go_wp2_with fail
    go_ret
    exact ⟨rfl, H.out.bel⟩
  · have HR2 := Lib.hid h2
    have hd : (t == 0) = false := by rw [beq_eq_false_iff_ne, ← HTT.out]; exact odd_t h2
    have hd2 : decide (t = 0) = false := by rw [decide_eq_false_iff_not, ← HTT.out]; exact odd_t h2
    clear h2 HTT
    go_wp2_with fail
    refine wp_region_noPanic ?_
    refine wp_region_held_drew (S := fun W => W.heap[g7]? = some (Blk 34 .u64 24 (k1)) ∧ W.heap[g9]? = some (Blk 34 .u64 24 (k2)) ∧ W.heap[g12]? = some (Blk 52 .i64 48 (r2))) (by kernel_rfl) (⟨H.out.drew.row 3 rfl, H.out.drew.row 2 rfl, H.out.drew.row 0 rfl⟩) (fun hH => ?_)
    replace H := Lib.hid H.out.drew
    generalize World.drew _ = w8 at *
    refine held_value 0 75 (.int .i64 n) rfl rfl (by kernel_rfl) (by kernel_rfl) (by kernel_rfl) rfl hH (fun w hw => by go_simp) ?_
    try simp only [Act.put, List.setIfInBounds_toArray, List.set_cons_zero, List.set_cons_succ]
    refine held_row 1 76 rowPt rfl rfl (by kernel_rfl) (by kernel_rfl) (by kernel_rfl) rfl hH rfl rfl (fun _ h => h.1) ?_
    try simp only [Act.put, List.setIfInBounds_toArray, List.set_cons_zero, List.set_cons_succ]
    refine held_row 2 77 rowPt rfl rfl (by kernel_rfl) (by kernel_rfl) (by kernel_rfl) rfl hH rfl rfl (fun _ h => h.2.1) ?_
    try simp only [Act.put, List.setIfInBounds_toArray, List.set_cons_zero, List.set_cons_succ]
    refine held_row 4 79 rowQt rfl rfl (by kernel_rfl) (by kernel_rfl) (by kernel_rfl) rfl hH rfl rfl (fun _ h => h.2.2) ?_
    try simp only [Act.put, List.setIfInBounds_toArray, List.set_cons_zero, List.set_cons_succ]
    refine wpAnyH_ready (rs := [3]) (by kernel_rfl) (by simp) ?_
    refine AllReadyH.cons (o := _) rfl (fun K hK => ?_) AllReadyH.nil
    go_simp
    refine (ptSelect_k n _ V1.out V2.out (if_neg HR2.out)).mono ?_
    rintro e wc ⟨h78, rfl, hv, hb⟩
    replace H := Lib.hid (H.out.call hb)
    have HV78 := Lib.hid hv
    refine hK.out _ _ (⟨H.out.row 3 rfl, H.out.row 2 rfl, H.out.row 0 rfl⟩) (fun hN => ?_)
    clear hK K hH hb hv
    have hH := hN
    clear hN
    try simp only [Act.put, List.setIfInBounds_toArray, List.set_cons_zero, List.set_cons_succ]
    refine wpAnyH_ready (rs := [5]) (by kernel_rfl) (by simp) ?_
    refine AllReadyH.cons (o := _) rfl (fun K hK => ?_) AllReadyH.nil
    go_simp
    refine (isPt_k _ HV78.out W2.out (decide_eq_true (rfl))).mono ?_
    rintro e wc ⟨rfl, hb⟩
    replace H := Lib.hid (H.out.call hb)
    refine hK.out _ _ (⟨H.out.row 3 rfl, H.out.row 2 rfl, H.out.row 0 rfl⟩) (fun hN => ?_)
    clear hK K hH hb
    have hH := hN
    clear hN
    try simp only [Act.put, List.setIfInBounds_toArray, List.set_cons_zero, List.set_cons_succ]
    refine held_value 6 81 (.bool true) rfl rfl (by kernel_rfl) (by kernel_rfl) (by kernel_rfl) rfl hH (fun w hw => by go_simp) ?_
    try simp only [Act.put, List.setIfInBounds_toArray, List.set_cons_zero, List.set_cons_succ]
    refine wpAnyH_ready (rs := [7]) (by kernel_rfl) (by simp) ?_
    refine AllReadyH.cons (o := _) rfl (fun K hK => ?_) AllReadyH.nil
    go_simp
    refine (awake8_k _ (HT.out.below H.out.bel)).mono ?_
    rintro e wc ⟨rfl, hb⟩
    replace H := Lib.hid (H.out.call hb)
    refine hK.out _ _ (⟨H.out.row 3 rfl, H.out.row 2 rfl, H.out.row 0 rfl⟩) (fun hN => ?_)
    clear hK K hH hb
    have hH := hN
    clear hN
    try simp only [Act.put, List.setIfInBounds_toArray, List.set_cons_zero, List.set_cons_succ]
    refine held_value 8 83 (.bool true) rfl rfl (by kernel_rfl) (by kernel_rfl) (by kernel_rfl) rfl hH (fun w hw => by go_simp) ?_
    try simp only [Act.put, List.setIfInBounds_toArray, List.set_cons_zero, List.set_cons_succ]
    refine held_value 9 6 (.bool true) rfl rfl (by kernel_rfl) (by kernel_rfl) (by kernel_rfl) rfl hH (fun w hw => by go_simp) ?_
    try simp only [Act.put, List.setIfInBounds_toArray, List.set_cons_zero, List.set_cons_succ]
    try simp only [Act.put]
    refine wpAnyH_done (by kernel_rfl) ?_ _
    refine NoPanic.normal ?_
    clear hH
    go_wp2_with fail
    go_ret
    exact ⟨rfl, H.out.bel⟩
end Go.Proofs.YthdapglpaaigaaaDoor
