/-
  The walk of FieldNumbers.
-/
import Derived.Test.YtjjdhbmlinjhjaaDoorFdLaw1
import Derived.Test.YtjjdhbmlinjhjaaDoorFdNumM
namespace Go.Proofs.YtjjdhbmlinjhjaaDoor
open Go.RowKit

set_option maxRecDepth 20000 in
set_option maxHeartbeats 6400000 in
theorem numbers_near (a : Nat → BitVec 8) (m n : Int) (w : World) (hT : Tp w) (h1 : -1073741824 ≤ m) (h2 : m ≤ 1073741824) (h3 : -1073741824 ≤ n) (h4 : n ≤ 1073741824) :
    Calls Tryd.prog 10 #[.agg (AZ .u8 56 (UB a)), .int .i64 m, .int .i64 n] w fun e w' => e = .returned (.bool true) ∧ Below w.heap.size w w' := by
  obtain ⟨f, x, hm1, hp1, hv1, hl1, -⟩ := raw_facts a
  have HM1 := Lib.hid hm1
  have HP1 := Lib.hid hp1
  have HV1 := Lib.hid hv1
  have HL1 := Lib.hid hl1
  clear hm1 hp1 hv1 hl1
  have HT := Lib.hid hT
  clear hT
  obtain ⟨q1, q2⟩ := small_mul h1 h2 h3 h4
  have HSM := Lib.hid (num_same h1 h2 h3 h4)
  obtain ⟨s, hs⟩ : ∃ s, m + n = s := ⟨_, rfl⟩
  obtain ⟨d, hd⟩ : ∃ d, m - n = d := ⟨_, rfl⟩
  obtain ⟨q, hq⟩ : ∃ q, m * n = q := ⟨_, rfl⟩
  have A1 := num_add m n
  have A2 := num_sub m n
  have A3 := num_mul m n
  have A4 := num_dist x m n
  have A5 := num_twice x m n
  rw [hs] at A1 A4
  rw [hd] at A2
  rw [hq] at A3 A5 q1 q2
  have B1 := Lib.hid A1
  have B2 := Lib.hid A2
  have B3 := Lib.hid A3
  have B4 := Lib.hid A4
  have B5 := Lib.hid A5
  have f1 : IntKind.i64.wrap s = s := IntWalk.i64_in _ (by omega)
  have f2 : IntKind.i64.wrap d = d := IntWalk.i64_in _ (by omega)
  have f3 : IntKind.i64.wrap q = q := IntWalk.i64_in _ (by omega)
  have HNm : Hid (-9223372036854775808 ≤ m ∧ m ≤ 9223372036854775807) := Lib.hid (by omega)
  have HNn : Hid (-9223372036854775808 ≤ n ∧ n ≤ 9223372036854775807) := Lib.hid (by omega)
  have HNs : Hid (-9223372036854775808 ≤ s ∧ s ≤ 9223372036854775807) := Lib.hid (by omega)
  have HNd : Hid (-9223372036854775808 ≤ d ∧ d ≤ 9223372036854775807) := Lib.hid (by omega)
  have HNq : Hid (-9223372036854775808 ≤ q ∧ q ≤ 9223372036854775807) := Lib.hid (by omega)
  clear A1 A2 A3 A4 A5 q1 q2
  have d1 : decide (m < -1073741824) = false := by simp; omega
  have d2 : decide (1073741824 < m) = false := by simp; omega
  have d3 : decide (n < -1073741824) = false := by simp; omega
  have d4 : decide (1073741824 < n) = false := by simp; omega
  have HC : Hid (decide ((m % pZ).toNat = (n % pZ).toNat) = (m == n)) := Lib.hid (by
    rw [Bool.eq_iff_iff, decide_eq_true_eq, beq_iff_eq]
    exact HSM.out)
  have H := Lib.hid (Ow.start w)
  go_enter Tryd.func10, Tryd.ntmps10
  go_wp2_with (first
    | ((fail_if_success have := g1); (with_reducible apply own_box H); (case hgd => exact rfl); (case ho => exact rfl); (case hx => exact rfl); intro w1 g1 H' _ _; replace H := H'; clear H'; go_simp)
    | ((with_reducible apply own_load rowB H); (case hgd => exact rfl); (case ho => exact rfl); (case hx => exact rfl); (case hi => first | exact at0 | exact at1 | exact at2 | exact at3 | exact at4 | exact at5 | exact at6); intro _ _; go_simp)
    | ((with_reducible refine (HM1.out _).mono ?_); rintro e wc ⟨rfl, hb⟩; replace H := Lib.hid (H.out.call hb); clear hb)
    | ((fail_if_success have := g2); (with_reducible apply own_alloc nilE H); (case hgd => exact rfl); (case ho => exact rfl); intro w2 g2 H' _ _; replace H := H'; clear H'; go_simp)
    | ((with_reducible apply own_store rowE H); (case hgd => exact rfl); (case ho => exact rfl); (case hx => exact rfl); (case hy => exact rfl); (case hi => first | exact at0 | exact at1 | exact at2 | exact at3 | exact at4 | exact at5 | exact at6); intro ws H' _ _; replace H := H'; clear H'; simp only [List.set_cons_zero] at H; go_simp)
    | ((fail_if_success have := g3); (with_reducible apply own_alloc nilE H); (case hgd => exact rfl); (case ho => exact rfl); intro w3 g3 H' _ _; replace H := H'; clear H'; go_simp)
    | ((fail_if_success have := g4); (with_reducible apply own_alloc nilE H); (case hgd => exact rfl); (case ho => exact rfl); intro w4 g4 H' _ _; replace H := H'; clear H'; go_simp)
    | ((with_reducible apply own_load rowE H); (case hgd => exact rfl); (case ho => exact rfl); (case hx => exact rfl); (case hi => first | exact at0 | exact at1 | exact at2 | exact at3 | exact at4 | exact at5 | exact at6); intro _ _; go_simp)
    | ((with_reducible apply own_loadg rowE H); (case hw => exact rfl); (case ho => exact rfl); (case hx => exact rfl); (case hi => first | exact at0 | exact at1 | exact at2 | exact at3 | exact at4 | exact at5 | exact at6); intro _ _; go_simp)
    | ((with_reducible refine (int_v m _ (HT.out.below H.out.bel) HNm.out.1 HNm.out.2).mono ?_); rintro e wc ⟨i1, rfl, hv, hb⟩; have HVI1 := Lib.hid hv; replace H := Lib.hid (H.out.call hb); clear hb hv)
    | ((with_reducible refine (int_v n _ (HT.out.below H.out.bel) HNn.out.1 HNn.out.2).mono ?_); rintro e wc ⟨i2, rfl, hv, hb⟩; have HVI2 := Lib.hid hv; replace H := Lib.hid (H.out.call hb); clear hb hv)
    | ((with_reducible refine (add_v _ HVI1.out HVI2.out).mono ?_); rintro e wc ⟨hA, rfl, hv, hb⟩; have HVA := Lib.hid hv; replace H := Lib.hid (H.out.call hb); clear hb hv)
    | ((with_reducible refine (int_v s _ (HT.out.below H.out.bel) HNs.out.1 HNs.out.2).mono ?_); rintro e wc ⟨i3, rfl, hv, hb⟩; have HVI3 := Lib.hid hv; replace H := Lib.hid (H.out.call hb); clear hb hv)
    | ((with_reducible refine (equal_true _ (HT.out.below H.out.bel) HVA.out HVI3.out B1.out).mono ?_); rintro e wc ⟨rfl, hb⟩; replace H := Lib.hid (H.out.call hb); clear hb)
    | ((with_reducible refine (sub_v _ (HT.out.below H.out.bel) HVI1.out HVI2.out).mono ?_); rintro e wc ⟨hB, rfl, hv, hb⟩; have HVB := Lib.hid hv; replace H := Lib.hid (H.out.call hb); clear hb hv)
    | ((with_reducible refine (int_v d _ (HT.out.below H.out.bel) HNd.out.1 HNd.out.2).mono ?_); rintro e wc ⟨i4, rfl, hv, hb⟩; have HVI4 := Lib.hid hv; replace H := Lib.hid (H.out.call hb); clear hb hv)
    | ((with_reducible refine (equal_true _ (HT.out.below H.out.bel) HVB.out HVI4.out B2.out).mono ?_); rintro e wc ⟨rfl, hb⟩; replace H := Lib.hid (H.out.call hb); clear hb)
    | ((with_reducible refine (mul_v _ HVI1.out HVI2.out).mono ?_); rintro e wc ⟨hC, rfl, hv, hb⟩; have HVC := Lib.hid hv; replace H := Lib.hid (H.out.call hb); clear hb hv)
    | ((with_reducible refine (int_v q _ (HT.out.below H.out.bel) HNq.out.1 HNq.out.2).mono ?_); rintro e wc ⟨i5, rfl, hv, hb⟩; have HVI5 := Lib.hid hv; replace H := Lib.hid (H.out.call hb); clear hb hv)
    | ((with_reducible refine (equal_true _ (HT.out.below H.out.bel) HVC.out HVI5.out B3.out).mono ?_); rintro e wc ⟨rfl, hb⟩; replace H := Lib.hid (H.out.call hb); clear hb)
    | ((with_reducible refine (equal_v _ (HT.out.below H.out.bel) HVI1.out HVI2.out).mono ?_); rintro e wc ⟨rfl, hb⟩; rw [HC.out]; replace H := Lib.hid (H.out.call hb); clear hb))
  refine wp_region_noPanic ?_
  refine wp_region_held_drew (S := fun W => Ow w W [(g4, Blk 27 .u64 8 (NZ i2)), (g3, Blk 27 .u64 8 (NZ i1)), (g2, Blk 27 .u64 8 (NZ f)), (g1, Blk 41 .u8 56 (UB a))]) (by kernel_rfl) H.out.drew (fun hH => ?_)
  clear H
  refine held_row 0 82 rowE rfl rfl (by kernel_rfl) (by kernel_rfl) (by kernel_rfl) rfl hH rfl rfl (fun _ h => h.row 2 rfl) ?_
  try simp only [Act.put, List.setIfInBounds_toArray, List.set_cons_zero, List.set_cons_succ]
  refine held_value 1 83 (.int .i64 m) rfl rfl (by kernel_rfl) (by kernel_rfl) (by kernel_rfl) rfl hH (fun w hw => by go_simp) ?_
  try simp only [Act.put, List.setIfInBounds_toArray, List.set_cons_zero, List.set_cons_succ]
  refine held_row 3 85 rowE rfl rfl (by kernel_rfl) (by kernel_rfl) (by kernel_rfl) rfl hH rfl rfl (fun _ h => h.row 2 rfl) ?_
  try simp only [Act.put, List.setIfInBounds_toArray, List.set_cons_zero, List.set_cons_succ]
  refine held_value 4 86 (.int .i64 n) rfl rfl (by kernel_rfl) (by kernel_rfl) (by kernel_rfl) rfl hH (fun w hw => by go_simp) ?_
  try simp only [Act.put, List.setIfInBounds_toArray, List.set_cons_zero, List.set_cons_succ]
  refine held_row 7 89 rowE rfl rfl (by kernel_rfl) (by kernel_rfl) (by kernel_rfl) rfl hH rfl rfl (fun _ h => h.row 2 rfl) ?_
  try simp only [Act.put, List.setIfInBounds_toArray, List.set_cons_zero, List.set_cons_succ]
  refine held_value 8 90 (.int .i64 m) rfl rfl (by kernel_rfl) (by kernel_rfl) (by kernel_rfl) rfl hH (fun w hw => by go_simp) ?_
  try simp only [Act.put, List.setIfInBounds_toArray, List.set_cons_zero, List.set_cons_succ]
  refine held_value 9 91 (.int .i64 n) rfl rfl (by kernel_rfl) (by kernel_rfl) (by kernel_rfl) rfl hH (fun w hw => by go_simp) ?_
  try simp only [Act.put, List.setIfInBounds_toArray, List.set_cons_zero, List.set_cons_succ]
  refine held_value 10 92 (.int .i64 s) rfl rfl (by kernel_rfl) (by kernel_rfl) (by kernel_rfl) rfl hH (fun w hw => by go_simp) ?_
  try simp only [Act.put, List.setIfInBounds_toArray, List.set_cons_zero, List.set_cons_succ]
  refine wpAnyH_ready (rs := [2]) (by kernel_rfl) (by simp) ?_
  refine AllReadyH.cons (o := _) rfl (fun K hK => ?_) AllReadyH.nil
  go_simp
  refine (times_v _ _ (HT.out.below hH.bel) HV1.out HNm.out.1 HNm.out.2).mono ?_
  rintro e wc ⟨h84, rfl, hv, hb⟩
  
  have HV84 := Lib.hid hv
  refine hK.out _ _ (hH.call hb) (fun hN => ?_)
  clear hK K hH hb hv
  have hH := hN
  clear hN
  try simp only [Act.put, List.setIfInBounds_toArray, List.set_cons_zero, List.set_cons_succ]
  refine wpAnyH_ready (rs := [5]) (by kernel_rfl) (by simp) ?_
  refine AllReadyH.cons (o := _) rfl (fun K hK => ?_) AllReadyH.nil
  go_simp
  refine (times_v _ _ (HT.out.below hH.bel) HV1.out HNn.out.1 HNn.out.2).mono ?_
  rintro e wc ⟨h87, rfl, hv, hb⟩
  
  have HV87 := Lib.hid hv
  refine hK.out _ _ (hH.call hb) (fun hN => ?_)
  clear hK K hH hb hv
  have hH := hN
  clear hN
  try simp only [Act.put, List.setIfInBounds_toArray, List.set_cons_zero, List.set_cons_succ]
  refine wpAnyH_ready (rs := [6]) (by kernel_rfl) (by simp) ?_
  refine AllReadyH.cons (o := _) rfl (fun K hK => ?_) AllReadyH.nil
  go_simp
  refine (add_v _ HV84.out HV87.out).mono ?_
  rintro e wc ⟨h88, rfl, hv, hb⟩
  
  have HV88 := Lib.hid hv
  refine hK.out _ _ (hH.call hb) (fun hN => ?_)
  clear hK K hH hb hv
  have hH := hN
  clear hN
  try simp only [Act.put, List.setIfInBounds_toArray, List.set_cons_zero, List.set_cons_succ]
  refine wpAnyH_ready (rs := [11]) (by kernel_rfl) (by simp) ?_
  refine AllReadyH.cons (o := _) rfl (fun K hK => ?_) AllReadyH.nil
  go_simp
  refine (times_v _ _ (HT.out.below hH.bel) HV1.out HNs.out.1 HNs.out.2).mono ?_
  rintro e wc ⟨h93, rfl, hv, hb⟩
  
  have HV93 := Lib.hid hv
  refine hK.out _ _ (hH.call hb) (fun hN => ?_)
  clear hK K hH hb hv
  have hH := hN
  clear hN
  try simp only [Act.put, List.setIfInBounds_toArray, List.set_cons_zero, List.set_cons_succ]
  refine wpAnyH_ready (rs := [12]) (by kernel_rfl) (by simp) ?_
  refine AllReadyH.cons (o := _) rfl (fun K hK => ?_) AllReadyH.nil
  go_simp
  refine (equal_true _ (HT.out.below hH.bel) HV88.out HV93.out (B4.out)).mono ?_
  rintro e wc ⟨rfl, hb⟩
  
  
  refine hK.out _ _ (hH.call hb) (fun hN => ?_)
  clear hK K hH hb 
  have hH := hN
  clear hN
  try simp only [Act.put, List.setIfInBounds_toArray, List.set_cons_zero, List.set_cons_succ]
  refine held_value 13 95 (.bool true) rfl rfl (by kernel_rfl) (by kernel_rfl) (by kernel_rfl) rfl hH (fun w hw => by go_simp) ?_
  try simp only [Act.put, List.setIfInBounds_toArray, List.set_cons_zero, List.set_cons_succ]
  refine held_row 14 96 rowE rfl rfl (by kernel_rfl) (by kernel_rfl) (by kernel_rfl) rfl hH rfl rfl (fun _ h => h.row 2 rfl) ?_
  try simp only [Act.put, List.setIfInBounds_toArray, List.set_cons_zero, List.set_cons_succ]
  refine held_value 15 97 (.int .i64 m) rfl rfl (by kernel_rfl) (by kernel_rfl) (by kernel_rfl) rfl hH (fun w hw => by go_simp) ?_
  try simp only [Act.put, List.setIfInBounds_toArray, List.set_cons_zero, List.set_cons_succ]
  refine held_value 17 99 (.int .i64 n) rfl rfl (by kernel_rfl) (by kernel_rfl) (by kernel_rfl) rfl hH (fun w hw => by go_simp) ?_
  try simp only [Act.put, List.setIfInBounds_toArray, List.set_cons_zero, List.set_cons_succ]
  refine held_row 19 101 rowE rfl rfl (by kernel_rfl) (by kernel_rfl) (by kernel_rfl) rfl hH rfl rfl (fun _ h => h.row 2 rfl) ?_
  try simp only [Act.put, List.setIfInBounds_toArray, List.set_cons_zero, List.set_cons_succ]
  refine held_value 20 102 (.int .i64 m) rfl rfl (by kernel_rfl) (by kernel_rfl) (by kernel_rfl) rfl hH (fun w hw => by go_simp) ?_
  try simp only [Act.put, List.setIfInBounds_toArray, List.set_cons_zero, List.set_cons_succ]
  refine held_value 21 103 (.int .i64 n) rfl rfl (by kernel_rfl) (by kernel_rfl) (by kernel_rfl) rfl hH (fun w hw => by go_simp) ?_
  try simp only [Act.put, List.setIfInBounds_toArray, List.set_cons_zero, List.set_cons_succ]
  refine held_value 22 104 (.int .i64 q) rfl rfl (by kernel_rfl) (by kernel_rfl) (by kernel_rfl) rfl hH (fun w hw => by go_simp) ?_
  try simp only [Act.put, List.setIfInBounds_toArray, List.set_cons_zero, List.set_cons_succ]
  refine wpAnyH_ready (rs := [16]) (by kernel_rfl) (by simp) ?_
  refine AllReadyH.cons (o := _) rfl (fun K hK => ?_) AllReadyH.nil
  go_simp
  refine (times_v _ _ (HT.out.below hH.bel) HV1.out HNm.out.1 HNm.out.2).mono ?_
  rintro e wc ⟨h98, rfl, hv, hb⟩
  
  have HV98 := Lib.hid hv
  refine hK.out _ _ (hH.call hb) (fun hN => ?_)
  clear hK K hH hb hv
  have hH := hN
  clear hN
  try simp only [Act.put, List.setIfInBounds_toArray, List.set_cons_zero, List.set_cons_succ]
  refine wpAnyH_ready (rs := [18]) (by kernel_rfl) (by simp) ?_
  refine AllReadyH.cons (o := _) rfl (fun K hK => ?_) AllReadyH.nil
  go_simp
  refine (times_v _ _ (HT.out.below hH.bel) HV98.out HNn.out.1 HNn.out.2).mono ?_
  rintro e wc ⟨h100, rfl, hv, hb⟩
  
  have HV100 := Lib.hid hv
  refine hK.out _ _ (hH.call hb) (fun hN => ?_)
  clear hK K hH hb hv
  have hH := hN
  clear hN
  try simp only [Act.put, List.setIfInBounds_toArray, List.set_cons_zero, List.set_cons_succ]
  refine wpAnyH_ready (rs := [23]) (by kernel_rfl) (by simp) ?_
  refine AllReadyH.cons (o := _) rfl (fun K hK => ?_) AllReadyH.nil
  go_simp
  refine (times_v _ _ (HT.out.below hH.bel) HV1.out HNq.out.1 HNq.out.2).mono ?_
  rintro e wc ⟨h105, rfl, hv, hb⟩
  
  have HV105 := Lib.hid hv
  refine hK.out _ _ (hH.call hb) (fun hN => ?_)
  clear hK K hH hb hv
  have hH := hN
  clear hN
  try simp only [Act.put, List.setIfInBounds_toArray, List.set_cons_zero, List.set_cons_succ]
  refine wpAnyH_ready (rs := [24]) (by kernel_rfl) (by simp) ?_
  refine AllReadyH.cons (o := _) rfl (fun K hK => ?_) AllReadyH.nil
  go_simp
  refine (equal_true _ (HT.out.below hH.bel) HV100.out HV105.out (B5.out)).mono ?_
  rintro e wc ⟨rfl, hb⟩
  
  
  refine hK.out _ _ (hH.call hb) (fun hN => ?_)
  clear hK K hH hb 
  have hH := hN
  clear hN
  try simp only [Act.put, List.setIfInBounds_toArray, List.set_cons_zero, List.set_cons_succ]
  refine held_value 25 107 (.bool true) rfl rfl (by kernel_rfl) (by kernel_rfl) (by kernel_rfl) rfl hH (fun w hw => by go_simp) ?_
  try simp only [Act.put, List.setIfInBounds_toArray, List.set_cons_zero, List.set_cons_succ]
  refine held_value 26 108 (.bool true) rfl rfl (by kernel_rfl) (by kernel_rfl) (by kernel_rfl) rfl hH (fun w hw => by go_simp) ?_
  try simp only [Act.put, List.setIfInBounds_toArray, List.set_cons_zero, List.set_cons_succ]
  refine wpAnyH_ready (rs := [27]) (by kernel_rfl) (by simp) ?_
  refine AllReadyH.cons (o := _) rfl (fun K hK => ?_) AllReadyH.nil
  go_simp
  refine (awake_any _ (HT.out.below hH.bel)).mono ?_
  rintro e wc ⟨rfl, hb⟩
  
  
  refine hK.out _ _ (hH.call hb) (fun hN => ?_)
  clear hK K hH hb 
  have hH := hN
  clear hN
  try simp only [Act.put, List.setIfInBounds_toArray, List.set_cons_zero, List.set_cons_succ]
  refine held_value 28 110 (.bool true) rfl rfl (by kernel_rfl) (by kernel_rfl) (by kernel_rfl) rfl hH (fun w hw => by go_simp) ?_
  try simp only [Act.put, List.setIfInBounds_toArray, List.set_cons_zero, List.set_cons_succ]
  refine held_value 29 6 (.bool true) rfl rfl (by kernel_rfl) (by kernel_rfl) (by kernel_rfl) rfl hH (fun w hw => by go_simp) ?_
  try simp only [Act.put, List.setIfInBounds_toArray, List.set_cons_zero, List.set_cons_succ]
  refine wpAnyH_done (by kernel_rfl) ?_ _
  refine NoPanic.normal ?_
  have H := Lib.hid hH
  clear hH
  go_wp2_with fail
  go_ret
  exact ⟨rfl, H.out.bel⟩
set_option maxRecDepth 20000 in
set_option maxHeartbeats 6400000 in
theorem numbers_far (a : Nat → BitVec 8) (m n : Int) (w : World) (hT : Tp w) (h : m < -1073741824 ∨ 1073741824 < m ∨ n < -1073741824 ∨ 1073741824 < n) :
    Calls Tryd.prog 10 #[.agg (AZ .u8 56 (UB a)), .int .i64 m, .int .i64 n] w fun e w' => e = .returned (.bool true) ∧ Below w.heap.size w w' := by
  obtain ⟨f, x, hm1, hp1, hv1, hl1, -⟩ := raw_facts a
  have HM1 := Lib.hid hm1
  have HP1 := Lib.hid hp1
  have HV1 := Lib.hid hv1
  have HL1 := Lib.hid hl1
  clear hm1 hp1 hv1 hl1
  have HT := Lib.hid hT
  clear hT
  rcases (show m < -1073741824 ∨ (-1073741824 ≤ m ∧ 1073741824 < m) ∨ (-1073741824 ≤ m ∧ m ≤ 1073741824 ∧ n < -1073741824) ∨ (-1073741824 ≤ m ∧ m ≤ 1073741824 ∧ -1073741824 ≤ n ∧ 1073741824 < n) by omega) with h1 | ⟨h1, h2⟩ | ⟨h1, h2, h3⟩ | ⟨h1, h2, h3, h4⟩
  · have d1 : decide (m < -1073741824) = true := by simpa using h1
    clear h h1
    have H := Lib.hid (Ow.start w)
    go_enter Tryd.func10, Tryd.ntmps10
    go_wp2_with (first
      | ((fail_if_success have := g1); (with_reducible apply own_box H); (case hgd => exact rfl); (case ho => exact rfl); (case hx => exact rfl); intro w1 g1 H' _ _; replace H := H'; clear H'; go_simp)
      | ((with_reducible apply own_load rowB H); (case hgd => exact rfl); (case ho => exact rfl); (case hx => exact rfl); (case hi => first | exact at0 | exact at1 | exact at2 | exact at3 | exact at4 | exact at5 | exact at6); intro _ _; go_simp)
      | ((with_reducible refine (HM1.out _).mono ?_); rintro e wc ⟨rfl, hb⟩; replace H := Lib.hid (H.out.call hb); clear hb)
      | ((fail_if_success have := g2); (with_reducible apply own_alloc nilE H); (case hgd => exact rfl); (case ho => exact rfl); intro w2 g2 H' _ _; replace H := H'; clear H'; go_simp)
      | ((with_reducible apply own_store rowE H); (case hgd => exact rfl); (case ho => exact rfl); (case hx => exact rfl); (case hy => exact rfl); (case hi => first | exact at0 | exact at1 | exact at2 | exact at3 | exact at4 | exact at5 | exact at6); intro ws H' _ _; replace H := H'; clear H'; simp only [List.set_cons_zero] at H; go_simp)
      | ((with_reducible refine (awake_any _ (HT.out.below H.out.bel)).mono ?_); rintro e wc ⟨rfl, hb⟩; replace H := Lib.hid (H.out.call hb); clear hb))
    go_ret
    exact ⟨rfl, H.out.bel⟩
  · have d1 : decide (m < -1073741824) = false := by simp; omega
    have d2 : decide (1073741824 < m) = true := by simpa using h2
    clear h h1 h2
    have H := Lib.hid (Ow.start w)
    go_enter Tryd.func10, Tryd.ntmps10
    go_wp2_with (first
      | ((fail_if_success have := g1); (with_reducible apply own_box H); (case hgd => exact rfl); (case ho => exact rfl); (case hx => exact rfl); intro w1 g1 H' _ _; replace H := H'; clear H'; go_simp)
      | ((with_reducible apply own_load rowB H); (case hgd => exact rfl); (case ho => exact rfl); (case hx => exact rfl); (case hi => first | exact at0 | exact at1 | exact at2 | exact at3 | exact at4 | exact at5 | exact at6); intro _ _; go_simp)
      | ((with_reducible refine (HM1.out _).mono ?_); rintro e wc ⟨rfl, hb⟩; replace H := Lib.hid (H.out.call hb); clear hb)
      | ((fail_if_success have := g2); (with_reducible apply own_alloc nilE H); (case hgd => exact rfl); (case ho => exact rfl); intro w2 g2 H' _ _; replace H := H'; clear H'; go_simp)
      | ((with_reducible apply own_store rowE H); (case hgd => exact rfl); (case ho => exact rfl); (case hx => exact rfl); (case hy => exact rfl); (case hi => first | exact at0 | exact at1 | exact at2 | exact at3 | exact at4 | exact at5 | exact at6); intro ws H' _ _; replace H := H'; clear H'; simp only [List.set_cons_zero] at H; go_simp)
      | ((with_reducible refine (awake_any _ (HT.out.below H.out.bel)).mono ?_); rintro e wc ⟨rfl, hb⟩; replace H := Lib.hid (H.out.call hb); clear hb))
    go_ret
    exact ⟨rfl, H.out.bel⟩
  · have d1 : decide (m < -1073741824) = false := by simp; omega
    have d2 : decide (1073741824 < m) = false := by simp; omega
    have d3 : decide (n < -1073741824) = true := by simpa using h3
    clear h h1 h2 h3
    have H := Lib.hid (Ow.start w)
    go_enter Tryd.func10, Tryd.ntmps10
    go_wp2_with (first
      | ((fail_if_success have := g1); (with_reducible apply own_box H); (case hgd => exact rfl); (case ho => exact rfl); (case hx => exact rfl); intro w1 g1 H' _ _; replace H := H'; clear H'; go_simp)
      | ((with_reducible apply own_load rowB H); (case hgd => exact rfl); (case ho => exact rfl); (case hx => exact rfl); (case hi => first | exact at0 | exact at1 | exact at2 | exact at3 | exact at4 | exact at5 | exact at6); intro _ _; go_simp)
      | ((with_reducible refine (HM1.out _).mono ?_); rintro e wc ⟨rfl, hb⟩; replace H := Lib.hid (H.out.call hb); clear hb)
      | ((fail_if_success have := g2); (with_reducible apply own_alloc nilE H); (case hgd => exact rfl); (case ho => exact rfl); intro w2 g2 H' _ _; replace H := H'; clear H'; go_simp)
      | ((with_reducible apply own_store rowE H); (case hgd => exact rfl); (case ho => exact rfl); (case hx => exact rfl); (case hy => exact rfl); (case hi => first | exact at0 | exact at1 | exact at2 | exact at3 | exact at4 | exact at5 | exact at6); intro ws H' _ _; replace H := H'; clear H'; simp only [List.set_cons_zero] at H; go_simp)
      | ((with_reducible refine (awake_any _ (HT.out.below H.out.bel)).mono ?_); rintro e wc ⟨rfl, hb⟩; replace H := Lib.hid (H.out.call hb); clear hb))
    go_ret
    exact ⟨rfl, H.out.bel⟩
  · have d1 : decide (m < -1073741824) = false := by simp; omega
    have d2 : decide (1073741824 < m) = false := by simp; omega
    have d3 : decide (n < -1073741824) = false := by simp; omega
    have d4 : decide (1073741824 < n) = true := by simpa using h4
    clear h h1 h2 h3 h4
    have H := Lib.hid (Ow.start w)
    go_enter Tryd.func10, Tryd.ntmps10
    go_wp2_with (first
      | ((fail_if_success have := g1); (with_reducible apply own_box H); (case hgd => exact rfl); (case ho => exact rfl); (case hx => exact rfl); intro w1 g1 H' _ _; replace H := H'; clear H'; go_simp)
      | ((with_reducible apply own_load rowB H); (case hgd => exact rfl); (case ho => exact rfl); (case hx => exact rfl); (case hi => first | exact at0 | exact at1 | exact at2 | exact at3 | exact at4 | exact at5 | exact at6); intro _ _; go_simp)
      | ((with_reducible refine (HM1.out _).mono ?_); rintro e wc ⟨rfl, hb⟩; replace H := Lib.hid (H.out.call hb); clear hb)
      | ((fail_if_success have := g2); (with_reducible apply own_alloc nilE H); (case hgd => exact rfl); (case ho => exact rfl); intro w2 g2 H' _ _; replace H := H'; clear H'; go_simp)
      | ((with_reducible apply own_store rowE H); (case hgd => exact rfl); (case ho => exact rfl); (case hx => exact rfl); (case hy => exact rfl); (case hi => first | exact at0 | exact at1 | exact at2 | exact at3 | exact at4 | exact at5 | exact at6); intro ws H' _ _; replace H := H'; clear H'; simp only [List.set_cons_zero] at H; go_simp)
      | ((with_reducible refine (awake_any _ (HT.out.below H.out.bel)).mono ?_); rintro e wc ⟨rfl, hb⟩; replace H := Lib.hid (H.out.call hb); clear hb))
    go_ret
    exact ⟨rfl, H.out.bel⟩
end Go.Proofs.YtjjdhbmlinjhjaaDoor
