/-
  The contracts of the law's wrong and awake. No statement is proved here: lemmas for the walks.
-/
import Derived.Test.YtkkmjlkeohkgnaaGreatDoorBuY
import Derived.Test.YtkkmjlkeohkgnaaGreatDoorZCbMade
import Derived.Test.YtkkmjlkeohkgnaaGreatDoorZPtEq
import Derived.Test.YtkkmjlkeohkgnaaGreatDoorZPtBase
import Derived.Test.YtkkmjlkeohkgnaaGreatDoorBuM
import Derived.Test.YtkkmjlkeohkgnaaGreatDoorBuX
import Derived.Deep.CutRange
namespace Go.Proofs.YtkkmjlkeohkgnaaGreatDoor
open Go.RowKit

set_option maxRecDepth 8000 in
set_option maxHeartbeats 3200000 in
theorem wrong12_k (a : Option Addr) (n c : Nat) (w : World) {z : Int} (hz : (if n < 1 ∨ 64 < n then 11 else 0) = z) :
    Calls Tryz.prog 12 #[.slice a n c] w fun e w' => e = .returned (.int .i64 z) ∧ Below w.heap.size w w' := by
  rcases (by omega : n < 1 ∨ (1 ≤ n ∧ 64 < n) ∨ (1 ≤ n ∧ n ≤ 64)) with h | h | h
  · have d1 : decide ((n : Int) < 1) = true := by (simp; omega)
    have EZ : Hid ((11 : Int) = z) := Lib.hid (by rw [← hz, if_pos (by omega)])
    clear hz h
    have H := Lib.hid (Ow.start w)
    go_enter Tryz.func12, Tryz.ntmps12
    go_wp2_with fail
    go_ret
    exact ⟨by rw [← EZ.out]; rfl, H.out.bel⟩
  · have d1 : decide ((n : Int) < 1) = false := by (simp; omega)
    have d2 : decide ((64 : Int) < (n : Int)) = true := by (simp; omega)
    have EZ : Hid ((11 : Int) = z) := Lib.hid (by rw [← hz, if_pos (by omega)])
    clear hz h
    have H := Lib.hid (Ow.start w)
    go_enter Tryz.func12, Tryz.ntmps12
    go_wp2_with fail
    go_ret
    exact ⟨by rw [← EZ.out]; rfl, H.out.bel⟩
  · have d1 : decide ((n : Int) < 1) = false := by (simp; omega)
    have d2 : decide ((64 : Int) < (n : Int)) = false := by (simp; omega)
    have EZ : Hid ((0 : Int) = z) := Lib.hid (by rw [← hz, if_neg (by omega)])
    clear hz h
    have H := Lib.hid (Ow.start w)
    go_enter Tryz.func12, Tryz.ntmps12
    go_wp2_with fail
    go_ret
    exact ⟨by rw [← EZ.out]; rfl, H.out.bel⟩
theorem yb_sb12 {w : World} {g n x : Nat} (h : w.heap[g]? = some (YB n (bt x))) (hx : x < 2 ^ (8 * n)) : Sb w w.heap.size (some ⟨g, 0, none⟩) n n x :=
  ⟨⟨Nat.le_refl _, (fun e => by cases e), fun ad e _ => ⟨g, 0, (Option.some.inj e).symm, lt_row h, fun i hi => by rw [Nat.zero_add]; exact (blk_rowB h).cell i hi⟩⟩, hx⟩
theorem ex_3 : pmul edK 3 pB = padd edK pB (padd edK pB pB) := by
  rw [show 3 = 1 + 2 * 1 from rfl, pmul_add, pmul_two, pmul_one]
theorem ex_3ne : ¬ pmul edK 3 pB = pB := by
  intro h
  rw [ex_3] at h
  have h2 : padd edK pB pB = pzero := padd_left edK (h.trans (padd_zero edK pB).symm)
  have h3 : pB = pneg pB := padd_left edK (h2.trans (padd_neg edK pB).symm)
  exact absurd (congrArg Pt.x h3) (by decide +kernel)
set_option maxRecDepth 8000 in
set_option maxHeartbeats 3200000 in
theorem awake12_k (w : World) (hT : Tp w) :
    Calls Tryz.prog 10 #[] w fun e w' => e = .returned (.bool true) ∧ Below w.heap.size w w' := by
  have HT := Lib.hid hT
  clear hT
  have H := Lib.hid (Ow.start w)
  go_enter Tryz.func10, Tryz.ntmps10
  go_upto_region 3 with (first
    | ((fail_if_success have := V0); (with_reducible refine (base_k _ (HT.out.below H.out.bel)).mono ?_); rintro e wc ⟨k0, rfl, hv, hb⟩; replace H := Lib.hid (H.out.call hb); have V0 := Lib.hid hv; clear hb hv)
    | ((fail_if_success have := g1); (with_reducible apply own_alloc nilPt H); (case hgd => exact rfl); (case ho => exact rfl); intro w1 g1 H' _ _; replace H := H'; clear H'; go_simp)
    | ((with_reducible apply own_store rowPt H); (case hgd => exact rfl); (case ho => exact rfl); (case hx => exact rfl); (case hy => exact rfl); (case hi => first | exact at0 | exact at1 | exact at2 | exact at3 | exact at4 | exact at5 | exact at6 | exact at7 | exact at8 | exact at9); intro ws H' _ _; replace H := H'; clear H'; simp only [List.set_cons_zero] at H; go_simp)
    | ((fail_if_success have := gb); (with_reducible apply lay_b1 (x := 3) H); (case hgd => exact rfl); (case ho => exact rfl); (case h0 => exact rfl); intro wb gb H' _ _; replace H := H'; clear H'; go_simp)
    | ((with_reducible apply own_load rowPt H); (case hgd => exact rfl); (case ho => exact rfl); (case hx => exact rfl); (case hi => first | exact at0 | exact at1 | exact at2 | exact at3 | exact at4 | exact at5 | exact at6 | exact at7 | exact at8 | exact at9); intro _ _; go_simp)
    | ((fail_if_success have := V2); (with_reducible refine (mult_k _ (HT.out.below H.out.bel) (yb_sb12 (H.out.row 0 rfl) (by decide)) V0.out (by omega) (by omega)).mono ?_); rintro e wc ⟨k2, rfl, hv, hb⟩; replace H := Lib.hid (H.out.call hb); have V2 := Lib.hid hv; clear hb hv)
    | ((fail_if_success have := g2); (with_reducible apply own_alloc nilPt H); (case hgd => exact rfl); (case ho => exact rfl); intro w2 g2 H' _ _; replace H := H'; clear H'; go_simp))
  refine wp_region_noPanic ?_
  refine wp_region_held_drew (S := fun W => W.heap[g2]? = some (Blk 30 .u64 24 (k2)) ∧ W.heap[g1]? = some (Blk 30 .u64 24 (k0))) (by kernel_rfl) (⟨H.out.drew.row 0 rfl, H.out.drew.row 2 rfl⟩) (fun hH => ?_)
  replace H := Lib.hid H.out.drew
  generalize World.drew _ = w8 at *
  refine held_value 0 11 (.int .i64 0) rfl rfl (by kernel_rfl) (by kernel_rfl) (by kernel_rfl) rfl hH (fun w hw => by go_simp) ?_
  try simp only [Act.put, List.setIfInBounds_toArray, List.set_cons_zero, List.set_cons_succ]
  refine held_value 1 12 (.bool true) rfl rfl (by kernel_rfl) (by kernel_rfl) (by kernel_rfl) rfl hH (fun w hw => by go_simp) ?_
  try simp only [Act.put, List.setIfInBounds_toArray, List.set_cons_zero, List.set_cons_succ]
  refine held_value 2 13 (.bool true) rfl rfl (by kernel_rfl) (by kernel_rfl) (by kernel_rfl) rfl hH (fun w hw => by go_simp) ?_
  try simp only [Act.put, List.setIfInBounds_toArray, List.set_cons_zero, List.set_cons_succ]
  refine held_row 3 14 rowPt rfl rfl (by kernel_rfl) (by kernel_rfl) (by kernel_rfl) rfl hH rfl rfl (fun _ h => h.1) ?_
  try simp only [Act.put, List.setIfInBounds_toArray, List.set_cons_zero, List.set_cons_succ]
  refine held_row 4 15 rowPt rfl rfl (by kernel_rfl) (by kernel_rfl) (by kernel_rfl) rfl hH rfl rfl (fun _ h => h.2) ?_
  try simp only [Act.put, List.setIfInBounds_toArray, List.set_cons_zero, List.set_cons_succ]
  refine held_row 5 16 rowPt rfl rfl (by kernel_rfl) (by kernel_rfl) (by kernel_rfl) rfl hH rfl rfl (fun _ h => h.2) ?_
  try simp only [Act.put, List.setIfInBounds_toArray, List.set_cons_zero, List.set_cons_succ]
  refine wpAnyH_ready (rs := [6]) (by kernel_rfl) (by simp) ?_
  refine AllReadyH.cons (o := _) rfl (fun K hK => ?_) AllReadyH.nil
  go_simp
  refine (ptDouble_k _ (HT.out.below H.out.bel) V0.out).mono ?_
  rintro e wc ⟨k17, rfl, hv, hb⟩
  replace H := Lib.hid (H.out.call hb)
  have HV17 := Lib.hid hv
  refine hK.out _ _ (⟨H.out.row 0 rfl, H.out.row 2 rfl⟩) (fun hN => ?_)
  clear hK K hH hb hv
  have hH := hN
  clear hN
  try simp only [Act.put, List.setIfInBounds_toArray, List.set_cons_zero, List.set_cons_succ]
  refine wpAnyH_ready (rs := [7]) (by kernel_rfl) (by simp) ?_
  refine AllReadyH.cons (o := _) rfl (fun K hK => ?_) AllReadyH.nil
  go_simp
  refine (ptAdd_k _ (HT.out.below H.out.bel) V0.out HV17.out).mono ?_
  rintro e wc ⟨k18, rfl, hv, hb⟩
  replace H := Lib.hid (H.out.call hb)
  have HV18 := Lib.hid hv
  refine hK.out _ _ (⟨H.out.row 0 rfl, H.out.row 2 rfl⟩) (fun hN => ?_)
  clear hK K hH hb hv
  have hH := hN
  clear hN
  try simp only [Act.put, List.setIfInBounds_toArray, List.set_cons_zero, List.set_cons_succ]
  refine wpAnyH_ready (rs := [8]) (by kernel_rfl) (by simp) ?_
  refine AllReadyH.cons (o := _) rfl (fun K hK => ?_) AllReadyH.nil
  go_simp
  refine (ptEqual_k _ (HT.out.below H.out.bel) V2.out HV18.out (decide_eq_true ex_3)).mono ?_
  rintro e wc ⟨rfl, hb⟩
  replace H := Lib.hid (H.out.call hb)
  refine hK.out _ _ (⟨H.out.row 0 rfl, H.out.row 2 rfl⟩) (fun hN => ?_)
  clear hK K hH hb
  have hH := hN
  clear hN
  try simp only [Act.put, List.setIfInBounds_toArray, List.set_cons_zero, List.set_cons_succ]
  refine held_value 9 20 (.bool true) rfl rfl (by kernel_rfl) (by kernel_rfl) (by kernel_rfl) rfl hH (fun w hw => by go_simp) ?_
  try simp only [Act.put, List.setIfInBounds_toArray, List.set_cons_zero, List.set_cons_succ]
  refine held_value 10 21 (.bool true) rfl rfl (by kernel_rfl) (by kernel_rfl) (by kernel_rfl) rfl hH (fun w hw => by go_simp) ?_
  try simp only [Act.put, List.setIfInBounds_toArray, List.set_cons_zero, List.set_cons_succ]
  refine held_row 11 22 rowPt rfl rfl (by kernel_rfl) (by kernel_rfl) (by kernel_rfl) rfl hH rfl rfl (fun _ h => h.1) ?_
  try simp only [Act.put, List.setIfInBounds_toArray, List.set_cons_zero, List.set_cons_succ]
  refine held_row 12 23 rowPt rfl rfl (by kernel_rfl) (by kernel_rfl) (by kernel_rfl) rfl hH rfl rfl (fun _ h => h.2) ?_
  try simp only [Act.put, List.setIfInBounds_toArray, List.set_cons_zero, List.set_cons_succ]
  refine wpAnyH_ready (rs := [13]) (by kernel_rfl) (by simp) ?_
  refine AllReadyH.cons (o := _) rfl (fun K hK => ?_) AllReadyH.nil
  go_simp
  refine (ptEqual_k _ (HT.out.below H.out.bel) V2.out V0.out (decide_eq_false ex_3ne)).mono ?_
  rintro e wc ⟨rfl, hb⟩
  replace H := Lib.hid (H.out.call hb)
  refine hK.out _ _ (⟨H.out.row 0 rfl, H.out.row 2 rfl⟩) (fun hN => ?_)
  clear hK K hH hb
  have hH := hN
  clear hN
  try simp only [Act.put, List.setIfInBounds_toArray, List.set_cons_zero, List.set_cons_succ]
  refine held_value 14 25 (.bool true) rfl rfl (by kernel_rfl) (by kernel_rfl) (by kernel_rfl) rfl hH (fun w hw => by go_simp) ?_
  try simp only [Act.put, List.setIfInBounds_toArray, List.set_cons_zero, List.set_cons_succ]
  refine held_value 15 26 (.bool true) rfl rfl (by kernel_rfl) (by kernel_rfl) (by kernel_rfl) rfl hH (fun w hw => by go_simp) ?_
  try simp only [Act.put, List.setIfInBounds_toArray, List.set_cons_zero, List.set_cons_succ]
  refine held_value 16 0 (.bool true) rfl rfl (by kernel_rfl) (by kernel_rfl) (by kernel_rfl) rfl hH (fun w hw => by go_simp) ?_
  try simp only [Act.put, List.setIfInBounds_toArray, List.set_cons_zero]
  try simp only [Act.put]
  refine wpAnyH_done (by kernel_rfl) ?_ _
  refine NoPanic.normal ?_
  clear hH
  go_wp2_with fail
  go_ret
  exact ⟨rfl, H.out.bel⟩
end Go.Proofs.YtkkmjlkeohkgnaaGreatDoor
