/-
  The walk of FieldSums.
-/
import Derived.Test.YtjjdhbmlinjhjaaDoorFdLaw1
namespace Go.Proofs.YtjjdhbmlinjhjaaDoor
open Go.RowKit

set_option maxRecDepth 20000 in
set_option maxHeartbeats 6400000 in
theorem sums_walk (a b : Nat → BitVec 8) (w : World) (hT : Tp w) :
    Calls Tryd.prog 4 #[.agg (AZ .u8 56 (UB a)), .agg (AZ .u8 56 (UB b))] w fun e w' => e = .returned (.bool true) ∧ Below w.heap.size w w' := by
  obtain ⟨f, x, hm1, hp1, hv1, hl1, -⟩ := raw_facts a
  obtain ⟨g, y, hm2, hp2, hv2, hl2, -⟩ := raw_facts b
  have HM1 := Lib.hid hm1
  have HM2 := Lib.hid hm2
  have HP1 := Lib.hid hp1
  have HP2 := Lib.hid hp2
  have HV1 := Lib.hid hv1
  have HV2 := Lib.hid hv2
  have HL1 := Lib.hid hl1
  have HL2 := Lib.hid hl2
  have HT := Lib.hid hT
  clear hm1 hm2 hp1 hp2 hv1 hv2 hl1 hl2 hT
  have H := Lib.hid (Ow.start w)
  go_enter Tryd.func4, Tryd.ntmps4
  go_wp2_with (first
    | ((fail_if_success have := g1); (with_reducible apply own_box H); (case hgd => exact rfl); (case ho => exact rfl); (case hx => exact rfl); intro w1 g1 H' _ _; replace H := H'; clear H'; go_simp)
    | ((fail_if_success have := g2); (with_reducible apply own_box H); (case hgd => exact rfl); (case ho => exact rfl); (case hx => exact rfl); intro w2 g2 H' _ _; replace H := H'; clear H'; go_simp)
    | ((with_reducible apply own_load rowB H); (case hgd => exact rfl); (case ho => exact rfl); (case hx => exact rfl); (case hi => first | exact at0 | exact at1 | exact at2 | exact at3 | exact at4 | exact at5 | exact at6); intro _ _; go_simp)
    | ((with_reducible refine (HM1.out _).mono ?_); rintro e wc ⟨rfl, hb⟩; replace H := Lib.hid (H.out.call hb); clear hb)
    | ((with_reducible refine (HM2.out _).mono ?_); rintro e wc ⟨rfl, hb⟩; replace H := Lib.hid (H.out.call hb); clear hb)
    | ((fail_if_success have := g3); (with_reducible apply own_alloc nilE H); (case hgd => exact rfl); (case ho => exact rfl); intro w3 g3 H' _ _; replace H := H'; clear H'; go_simp)
    | ((fail_if_success have := g4); (with_reducible apply own_alloc nilE H); (case hgd => exact rfl); (case ho => exact rfl); intro w4 g4 H' _ _; replace H := H'; clear H'; go_simp)
    | ((with_reducible apply own_store rowE H); (case hgd => exact rfl); (case ho => exact rfl); (case hx => exact rfl); (case hy => exact rfl); (case hi => first | exact at0 | exact at1 | exact at2 | exact at3 | exact at4 | exact at5 | exact at6); intro ws H' _ _; replace H := H'; clear H'; simp only [List.set_cons_zero] at H; go_simp)
    | ((with_reducible refine (HP1.out _).mono ?_); rintro e wc ⟨rfl, hb⟩; replace H := Lib.hid (H.out.call hb); clear hb)
    | ((with_reducible refine (HP2.out _).mono ?_); rintro e wc ⟨rfl, hb⟩; replace H := Lib.hid (H.out.call hb); clear hb)
    | ((fail_if_success have := g5); (with_reducible apply own_alloc intsF.zero H); (case hgd => exact rfl); (case ho => exact rfl); intro w5 g5 H' _ _; replace H := H'; clear H'; go_simp)
    | ((fail_if_success have := g6); (with_reducible apply own_alloc intsF.zero H); (case hgd => exact rfl); (case ho => exact rfl); intro w6 g6 H' _ _; replace H := H'; clear H'; go_simp)
    | ((with_reducible apply own_store rowF H); (case hgd => exact rfl); (case ho => exact rfl); (case hx => exact rfl); (case hy => exact rfl); (case hi => first | exact at0 | exact at1 | exact at2 | exact at3 | exact at4 | exact at5 | exact at6); intro ws H' _ _; replace H := H'; clear H'; simp only [List.set_cons_zero] at H; go_simp))
  refine wp_region_noPanic ?_
  refine wp_region_held_drew (S := fun W => Ow w W [(g6, Blk 36 .i64 16 (dF (y))), (g5, Blk 36 .i64 16 (dF (x))), (g4, Blk 27 .u64 8 (NZ g)), (g3, Blk 27 .u64 8 (NZ f)), (g2, Blk 41 .u8 56 (UB b)), (g1, Blk 41 .u8 56 (UB a))]) (by kernel_rfl) H.out.drew (fun hH => ?_)
  clear H
  refine held_row 0 31 rowE rfl rfl (by kernel_rfl) (by kernel_rfl) (by kernel_rfl) rfl hH rfl rfl (fun _ h => h.row 3 rfl) ?_
  try simp only [Act.put, List.setIfInBounds_toArray, List.set_cons_zero, List.set_cons_succ]
  refine held_row 1 32 rowE rfl rfl (by kernel_rfl) (by kernel_rfl) (by kernel_rfl) rfl hH rfl rfl (fun _ h => h.row 2 rfl) ?_
  try simp only [Act.put, List.setIfInBounds_toArray, List.set_cons_zero, List.set_cons_succ]
  refine held_row 3 34 rowF rfl rfl (by kernel_rfl) (by kernel_rfl) (by kernel_rfl) rfl hH rfl rfl (fun _ h => h.row 1 rfl) ?_
  try simp only [Act.put, List.setIfInBounds_toArray, List.set_cons_zero, List.set_cons_succ]
  refine held_row 4 35 rowF rfl rfl (by kernel_rfl) (by kernel_rfl) (by kernel_rfl) rfl hH rfl rfl (fun _ h => h.row 0 rfl) ?_
  try simp only [Act.put, List.setIfInBounds_toArray, List.set_cons_zero, List.set_cons_succ]
  refine wpAnyH_ready (rs := [2]) (by kernel_rfl) (by simp) ?_
  refine AllReadyH.cons (o := _) rfl (fun K hK => ?_) AllReadyH.nil
  go_simp
  refine (add_v _ HV1.out HV2.out).mono ?_
  rintro e wc ⟨h33, rfl, hv, hb⟩
  
  have HV33 := Lib.hid hv
  refine hK.out _ _ (hH.call hb) (fun hN => ?_)
  clear hK K hH hb hv
  have hH := hN
  clear hN
  try simp only [Act.put, List.setIfInBounds_toArray, List.set_cons_zero, List.set_cons_succ]
  refine wpAnyH_ready (rs := [5]) (by kernel_rfl) (by simp) ?_
  refine AllReadyH.cons (o := _) rfl (fun K hK => ?_) AllReadyH.nil
  go_simp
  refine (refAdd_any _ _ _ HL1.out HL2.out).mono ?_
  rintro e wc ⟨rfl, hb⟩
  
  
  refine hK.out _ _ (hH.call hb) (fun hN => ?_)
  clear hK K hH hb 
  have hH := hN
  clear hN
  try simp only [Act.put, List.setIfInBounds_toArray, List.set_cons_zero, List.set_cons_succ]
  have HL36 : Hid (((x) + (y)) % pN < pN) := Lib.hid (Nat.mod_lt _ pN_pos)
  refine wpAnyH_ready (rs := [6]) (by kernel_rfl) (by simp) ?_
  refine AllReadyH.cons (o := _) rfl (fun K hK => ?_) AllReadyH.nil
  go_simp
  refine (is_true _ HV33.out HL36.out (rfl)).mono ?_
  rintro e wc ⟨rfl, hb⟩
  
  
  refine hK.out _ _ (hH.call hb) (fun hN => ?_)
  clear hK K hH hb 
  have hH := hN
  clear hN
  try simp only [Act.put, List.setIfInBounds_toArray, List.set_cons_zero, List.set_cons_succ]
  refine held_value 7 38 (.bool true) rfl rfl (by kernel_rfl) (by kernel_rfl) (by kernel_rfl) rfl hH (fun w hw => by go_simp) ?_
  try simp only [Act.put, List.setIfInBounds_toArray, List.set_cons_zero, List.set_cons_succ]
  refine held_row 8 39 rowE rfl rfl (by kernel_rfl) (by kernel_rfl) (by kernel_rfl) rfl hH rfl rfl (fun _ h => h.row 3 rfl) ?_
  try simp only [Act.put, List.setIfInBounds_toArray, List.set_cons_zero, List.set_cons_succ]
  refine held_row 9 40 rowE rfl rfl (by kernel_rfl) (by kernel_rfl) (by kernel_rfl) rfl hH rfl rfl (fun _ h => h.row 2 rfl) ?_
  try simp only [Act.put, List.setIfInBounds_toArray, List.set_cons_zero, List.set_cons_succ]
  refine held_row 11 42 rowF rfl rfl (by kernel_rfl) (by kernel_rfl) (by kernel_rfl) rfl hH rfl rfl (fun _ h => h.row 1 rfl) ?_
  try simp only [Act.put, List.setIfInBounds_toArray, List.set_cons_zero, List.set_cons_succ]
  refine held_row 12 43 rowF rfl rfl (by kernel_rfl) (by kernel_rfl) (by kernel_rfl) rfl hH rfl rfl (fun _ h => h.row 0 rfl) ?_
  try simp only [Act.put, List.setIfInBounds_toArray, List.set_cons_zero, List.set_cons_succ]
  refine wpAnyH_ready (rs := [10]) (by kernel_rfl) (by simp) ?_
  refine AllReadyH.cons (o := _) rfl (fun K hK => ?_) AllReadyH.nil
  go_simp
  refine (sub_v _ (HT.out.below hH.bel) HV1.out HV2.out).mono ?_
  rintro e wc ⟨h41, rfl, hv, hb⟩
  
  have HV41 := Lib.hid hv
  refine hK.out _ _ (hH.call hb) (fun hN => ?_)
  clear hK K hH hb hv
  have hH := hN
  clear hN
  try simp only [Act.put, List.setIfInBounds_toArray, List.set_cons_zero, List.set_cons_succ]
  refine wpAnyH_ready (rs := [13]) (by kernel_rfl) (by simp) ?_
  refine AllReadyH.cons (o := _) rfl (fun K hK => ?_) AllReadyH.nil
  go_simp
  refine (refSub_any _ _ _ HL1.out HL2.out).mono ?_
  rintro e wc ⟨rfl, hb⟩
  
  
  refine hK.out _ _ (hH.call hb) (fun hN => ?_)
  clear hK K hH hb 
  have hH := hN
  clear hN
  try simp only [Act.put, List.setIfInBounds_toArray, List.set_cons_zero, List.set_cons_succ]
  have HL44 : Hid (((x) + (pN - (y))) % pN < pN) := Lib.hid (Nat.mod_lt _ pN_pos)
  refine wpAnyH_ready (rs := [14]) (by kernel_rfl) (by simp) ?_
  refine AllReadyH.cons (o := _) rfl (fun K hK => ?_) AllReadyH.nil
  go_simp
  refine (is_true _ HV41.out HL44.out (rfl)).mono ?_
  rintro e wc ⟨rfl, hb⟩
  
  
  refine hK.out _ _ (hH.call hb) (fun hN => ?_)
  clear hK K hH hb 
  have hH := hN
  clear hN
  try simp only [Act.put, List.setIfInBounds_toArray, List.set_cons_zero, List.set_cons_succ]
  refine held_value 15 46 (.bool true) rfl rfl (by kernel_rfl) (by kernel_rfl) (by kernel_rfl) rfl hH (fun w hw => by go_simp) ?_
  try simp only [Act.put, List.setIfInBounds_toArray, List.set_cons_zero, List.set_cons_succ]
  refine held_value 16 47 (.bool true) rfl rfl (by kernel_rfl) (by kernel_rfl) (by kernel_rfl) rfl hH (fun w hw => by go_simp) ?_
  try simp only [Act.put, List.setIfInBounds_toArray, List.set_cons_zero, List.set_cons_succ]
  refine held_row 17 48 rowE rfl rfl (by kernel_rfl) (by kernel_rfl) (by kernel_rfl) rfl hH rfl rfl (fun _ h => h.row 3 rfl) ?_
  try simp only [Act.put, List.setIfInBounds_toArray, List.set_cons_zero, List.set_cons_succ]
  refine held_row 19 50 rowF rfl rfl (by kernel_rfl) (by kernel_rfl) (by kernel_rfl) rfl hH rfl rfl (fun _ h => h.row 1 rfl) ?_
  try simp only [Act.put, List.setIfInBounds_toArray, List.set_cons_zero, List.set_cons_succ]
  refine wpAnyH_ready (rs := [18]) (by kernel_rfl) (by simp) ?_
  refine AllReadyH.cons (o := _) rfl (fun K hK => ?_) AllReadyH.nil
  go_simp
  refine (neg_v _ (HT.out.below hH.bel) HV1.out).mono ?_
  rintro e wc ⟨h49, rfl, hv, hb⟩
  
  have HV49 := Lib.hid hv
  refine hK.out _ _ (hH.call hb) (fun hN => ?_)
  clear hK K hH hb hv
  have hH := hN
  clear hN
  try simp only [Act.put, List.setIfInBounds_toArray, List.set_cons_zero, List.set_cons_succ]
  refine wpAnyH_ready (rs := [20]) (by kernel_rfl) (by simp) ?_
  refine AllReadyH.cons (o := _) rfl (fun K hK => ?_) AllReadyH.nil
  go_simp
  refine (refNeg_any _ _ HL1.out).mono ?_
  rintro e wc ⟨rfl, hb⟩
  
  
  refine hK.out _ _ (hH.call hb) (fun hN => ?_)
  clear hK K hH hb 
  have hH := hN
  clear hN
  try simp only [Act.put, List.setIfInBounds_toArray, List.set_cons_zero, List.set_cons_succ]
  have HL51 : Hid ((pN - (x)) % pN < pN) := Lib.hid (Nat.mod_lt _ pN_pos)
  refine wpAnyH_ready (rs := [21]) (by kernel_rfl) (by simp) ?_
  refine AllReadyH.cons (o := _) rfl (fun K hK => ?_) AllReadyH.nil
  go_simp
  refine (is_true _ HV49.out HL51.out (rfl)).mono ?_
  rintro e wc ⟨rfl, hb⟩
  
  
  refine hK.out _ _ (hH.call hb) (fun hN => ?_)
  clear hK K hH hb 
  have hH := hN
  clear hN
  try simp only [Act.put, List.setIfInBounds_toArray, List.set_cons_zero, List.set_cons_succ]
  refine held_value 22 53 (.bool true) rfl rfl (by kernel_rfl) (by kernel_rfl) (by kernel_rfl) rfl hH (fun w hw => by go_simp) ?_
  try simp only [Act.put, List.setIfInBounds_toArray, List.set_cons_zero, List.set_cons_succ]
  refine held_value 23 54 (.bool true) rfl rfl (by kernel_rfl) (by kernel_rfl) (by kernel_rfl) rfl hH (fun w hw => by go_simp) ?_
  try simp only [Act.put, List.setIfInBounds_toArray, List.set_cons_zero, List.set_cons_succ]
  refine wpAnyH_ready (rs := [24]) (by kernel_rfl) (by simp) ?_
  refine AllReadyH.cons (o := _) rfl (fun K hK => ?_) AllReadyH.nil
  go_simp
  refine (awake_any _ (HT.out.below hH.bel)).mono ?_
  rintro e wc ⟨rfl, hb⟩
  
  
  refine hK.out _ _ (hH.call hb) (fun hN => ?_)
  clear hK K hH hb 
  have hH := hN
  clear hN
  try simp only [Act.put, List.setIfInBounds_toArray, List.set_cons_zero, List.set_cons_succ]
  refine held_value 25 56 (.bool true) rfl rfl (by kernel_rfl) (by kernel_rfl) (by kernel_rfl) rfl hH (fun w hw => by go_simp) ?_
  try simp only [Act.put, List.setIfInBounds_toArray, List.set_cons_zero, List.set_cons_succ]
  refine held_value 26 4 (.bool true) rfl rfl (by kernel_rfl) (by kernel_rfl) (by kernel_rfl) rfl hH (fun w hw => by go_simp) ?_
  try simp only [Act.put, List.setIfInBounds_toArray, List.set_cons_zero, List.set_cons_succ]
  refine wpAnyH_done (by kernel_rfl) ?_ _
  refine NoPanic.normal ?_
  have H := Lib.hid hH
  clear hH
  go_wp2_with fail
  go_ret
  exact ⟨rfl, H.out.bel⟩
end Go.Proofs.YtjjdhbmlinjhjaaDoor
