/-
  The walk of FieldBytes.
-/
import Derived.Test.YtjjdhbmlinjhjaaDoorFdRows
namespace Go.Proofs.YtjjdhbmlinjhjaaDoor
open Go.RowKit

theorem lawsame_true (a a' : Option Addr) (c c' : Nat) (f g : Nat → BitVec 8) (w : World) (h1 : Sl w w.heap.size a 56 c f) (h2 : Sl w w.heap.size a' 56 c' g) (h : ∀ i, i < 56 → f i = g i) :
    Calls Tryd.prog 14 #[.slice a 56 c, .slice a' 56 c'] w fun e w' => e = .returned (.bool true) ∧ Below w.heap.size w w' :=
  (bytes_any a a' 56 c c' f g w (by omega) h1 h2).mono fun e w' ⟨r, he, hr, hb⟩ => ⟨by rw [he, hr.2 h], hb⟩
set_option maxRecDepth 20000 in
set_option maxHeartbeats 6400000 in
theorem fbytes_far (a : Option Addr) (n c : Nat) (_f : Nat → BitVec 8) (w : World) (hT : Tp w) (hn : 100 < n) (hm : n ≤ maxLen) :
    Calls Tryd.prog 3 #[.slice a n c] w fun e w' => e = .returned (.bool true) ∧ Below w.heap.size w w' := by
  have HT := Lib.hid hT
  clear hT
  unfold maxLen at hm
  have hn' : (100 : Int) < (n : Int) := by omega
  have hd : decide ((100 : Int) < (n : Int)) = true := by simpa using hn'
  have H := Lib.hid (Ow.start w)
  go_enter Tryd.func3, Tryd.ntmps3
  go_wp2_with (first
    | ((with_reducible refine (awake_any _ (HT.out.below H.out.bel)).mono ?_); rintro e wc ⟨rfl, hb⟩; replace H := Lib.hid (H.out.call hb); clear hb))
  go_ret
  exact ⟨rfl, H.out.bel⟩
set_option maxRecDepth 20000 in
set_option maxHeartbeats 6400000 in
theorem fbytes_size (a : Option Addr) (n c : Nat) (_f : Nat → BitVec 8) (w : World) (hT : Tp w) (hn : n ≤ 100) (h56 : n ≠ 56) :
    Calls Tryd.prog 3 #[.slice a n c] w fun e w' => e = .returned (.bool true) ∧ Below w.heap.size w w' := by
  have HT := Lib.hid hT
  clear hT
  have hn' : (n : Int) ≤ 100 := by omega
  have hd : decide ((100 : Int) < (n : Int)) = false := by simp; omega
  have hd2 : ((n : Int) != 56) = true := by rw [bne_iff_ne]; omega
  have HN := Lib.hid h56
  clear h56
  have H := Lib.hid (Ow.start w)
  go_enter Tryd.func3, Tryd.ntmps3
  go_wp2_with (first
    | ((with_reducible refine (of_bad _ _ _ _ HN.out).mono ?_); rintro e wc ⟨rfl, hb⟩; replace H := Lib.hid (H.out.call hb); clear hb)
    | ((with_reducible refine (decode_bad _ _ _ _ HN.out).mono ?_); rintro e wc ⟨rfl, hb⟩; replace H := Lib.hid (H.out.call hb); clear hb)
    | ((fail_if_success have := g1); (with_reducible apply own_alloc nilE H); (case hgd => exact rfl); (case ho => exact rfl); intro w1 g1 H' _ _; replace H := H'; clear H'; go_simp)
    | ((fail_if_success have := g2); (with_reducible apply own_alloc nilE H); (case hgd => exact rfl); (case ho => exact rfl); intro w2 g2 H' _ _; replace H := H'; clear H'; go_simp)
    | ((with_reducible apply own_store rowE H); (case hgd => exact rfl); (case ho => exact rfl); (case hx => exact rfl); (case hy => exact rfl); (case hi => first | exact at0 | exact at1 | exact at2 | exact at3 | exact at4 | exact at5 | exact at6); intro ws H' _ _; replace H := H'; clear H'; simp only [List.set_cons_zero] at H; go_simp)
    | ((fail_if_success have := g3); (with_reducible refine (P_row _ (HT.out.below H.out.bel)).mono ?_); rintro e wc ⟨g3, rfl, hge, hr, hb⟩; replace H := Lib.hid (H.out.add hb hge hr); clear hb hge hr)
    | ((with_reducible refine (refPrime_any _).mono ?_); rintro e wc ⟨v, rfl, ⟨gq, cq, rfl, _, hs2⟩, hb⟩; have HS2 := Lib.hid hs2; replace H := Lib.hid (H.out.call hb); clear hb hs2)
    | ((with_reducible refine (lawsame_true _ _ _ _ _ _ _ (rowSl (H.out.row 0 rfl)) HS2.out (fun _ _ => rfl)).mono ?_); rintro e wc ⟨rfl, hb⟩; replace H := Lib.hid (H.out.call hb); clear hb)
    | ((with_reducible apply own_load rowE H); (case hgd => exact rfl); (case ho => exact rfl); (case hx => exact rfl); (case hi => first | exact at0 | exact at1 | exact at2 | exact at3 | exact at4 | exact at5 | exact at6); intro _ _; go_simp)
    | ((with_reducible apply own_loadg rowE H); (case hw => exact rfl); (case ho => exact rfl); (case hx => exact rfl); (case hi => first | exact at0 | exact at1 | exact at2 | exact at3 | exact at4 | exact at5 | exact at6); intro _ _; go_simp)
    | ((with_reducible refine (zero_true _ zero_val rfl).mono ?_); rintro e wc ⟨rfl, hb⟩; replace H := Lib.hid (H.out.call hb); clear hb)
    | ((with_reducible refine (awake_any _ (HT.out.below H.out.bel)).mono ?_); rintro e wc ⟨rfl, hb⟩; replace H := Lib.hid (H.out.call hb); clear hb))
  go_ret
  exact ⟨rfl, H.out.bel⟩
set_option maxRecDepth 20000 in
set_option maxHeartbeats 6400000 in
theorem fbytes_form (a : Option Addr) (c : Nat) (f : Nat → BitVec 8) (w : World) (hT : Tp w) (hs : Sl w w.heap.size a 56 c f) (hp : ¬ nB f 56 < pN) :
    Calls Tryd.prog 3 #[.slice a 56 c] w fun e w' => e = .returned (.bool true) ∧ Below w.heap.size w w' := by
  have HT := Lib.hid hT
  clear hT
  have HS := Lib.hid hs
  have HP := Lib.hid hp
  have HV := Lib.hid (of_v f)
  clear hs hp
  have H := Lib.hid (Ow.start w)
  go_enter Tryd.func3, Tryd.ntmps3
  go_wp2_with (first
    | ((with_reducible refine (of_any _ _ f _ ((HS.out.below H.out.bel).more H.out.bel.size)).mono ?_); rintro e wc ⟨rfl, hb⟩; replace H := Lib.hid (H.out.call hb); clear hb)
    | ((with_reducible refine (decode_far _ _ f _ ((HS.out.below H.out.bel).more H.out.bel.size) (Nat.le_of_not_lt HP.out)).mono ?_); rintro e wc ⟨rfl, hb⟩; replace H := Lib.hid (H.out.call hb); clear hb)
    | ((fail_if_success have := g1); (with_reducible apply own_alloc nilE H); (case hgd => exact rfl); (case ho => exact rfl); intro w1 g1 H' _ _; replace H := H'; clear H'; go_simp)
    | ((fail_if_success have := g2); (with_reducible apply own_alloc nilE H); (case hgd => exact rfl); (case ho => exact rfl); intro w2 g2 H' _ _; replace H := H'; clear H'; go_simp)
    | ((with_reducible apply own_store rowE H); (case hgd => exact rfl); (case ho => exact rfl); (case hx => exact rfl); (case hy => exact rfl); (case hi => first | exact at0 | exact at1 | exact at2 | exact at3 | exact at4 | exact at5 | exact at6); intro ws H' _ _; replace H := H'; clear H'; simp only [List.set_cons_zero] at H; go_simp)
    | ((fail_if_success have := g3); (with_reducible refine (P_row _ (HT.out.below H.out.bel)).mono ?_); rintro e wc ⟨g3, rfl, hge, hr, hb⟩; replace H := Lib.hid (H.out.add hb hge hr); clear hb hge hr)
    | ((with_reducible refine (refPrime_any _).mono ?_); rintro e wc ⟨v, rfl, ⟨gq, cq, rfl, _, hs2⟩, hb⟩; have HS2 := Lib.hid hs2; replace H := Lib.hid (H.out.call hb); clear hb hs2)
    | ((with_reducible refine (lawsame_true _ _ _ _ _ _ _ (rowSl (H.out.row 0 rfl)) HS2.out (fun _ _ => rfl)).mono ?_); rintro e wc ⟨rfl, hb⟩; replace H := Lib.hid (H.out.call hb); clear hb))
  refine wp_region_noPanic ?_
  refine wp_region_held_drew (S := fun W => Ow w W [(g3, BlkB 56 (bX pN)), (g2, Blk 27 .u64 8 (NZ fun _ => 0)), (g1, Blk 27 .u64 8 (NZ (oF f 56)))]) (by kernel_rfl) H.out.drew (fun hH => ?_)
  clear H
  refine held_value 0 45 (.int .i64 0) rfl rfl (by kernel_rfl) (by kernel_rfl) (by kernel_rfl) rfl hH (fun w hw => by go_simp) ?_
  try simp only [Act.put, List.setIfInBounds_toArray, List.set_cons_zero, List.set_cons_succ]
  refine held_value 1 46 (.bool false) rfl rfl (by kernel_rfl) (by kernel_rfl) (by kernel_rfl) rfl hH (fun w hw => by go_simp) ?_
  try simp only [Act.put, List.setIfInBounds_toArray, List.set_cons_zero, List.set_cons_succ]
  refine held_value 2 47 (.bool false) rfl rfl (by kernel_rfl) (by kernel_rfl) (by kernel_rfl) rfl hH (fun w hw => by go_simp) ?_
  try simp only [Act.put, List.setIfInBounds_toArray, List.set_cons_zero, List.set_cons_succ]
  refine held_row 3 48 rowE rfl rfl (by kernel_rfl) (by kernel_rfl) (by kernel_rfl) rfl hH rfl rfl (fun _ h => h.row 2 rfl) ?_
  try simp only [Act.put, List.setIfInBounds_toArray, List.set_cons_zero, List.set_cons_succ]
  refine held_value 4 49 (.slice a 56 c) rfl rfl (by kernel_rfl) (by kernel_rfl) (by kernel_rfl) rfl hH (fun w hw => by go_simp) ?_
  try simp only [Act.put, List.setIfInBounds_toArray, List.set_cons_zero, List.set_cons_succ]
  refine wpAnyH_ready (rs := [5]) (by kernel_rfl) (by simp) ?_
  refine AllReadyH.cons (o := _) rfl (fun K hK => ?_) AllReadyH.nil
  go_simp
  refine (refOf_any _ _ _ _ (Lib.hid ((HS.out.below hH.bel).more hH.bel.size)).out).mono ?_
  rintro e wc ⟨rfl, hb⟩
  
  
  refine hK.out _ _ (hH.call hb) (fun hN => ?_)
  clear hK K hH hb 
  have hH := hN
  clear hN
  try simp only [Act.put, List.setIfInBounds_toArray, List.set_cons_zero, List.set_cons_succ]
  have HL50 : Hid (nB f 56 % pN < pN) := Lib.hid (Nat.mod_lt _ pN_pos)
  refine wpAnyH_ready (rs := [6]) (by kernel_rfl) (by simp) ?_
  refine AllReadyH.cons (o := _) rfl (fun K hK => ?_) AllReadyH.nil
  go_simp
  refine (is_true _ HV.out HL50.out (rfl)).mono ?_
  rintro e wc ⟨rfl, hb⟩
  
  
  refine hK.out _ _ (hH.call hb) (fun hN => ?_)
  clear hK K hH hb 
  have hH := hN
  clear hN
  try simp only [Act.put, List.setIfInBounds_toArray, List.set_cons_zero, List.set_cons_succ]
  refine held_value 7 52 (.bool false) rfl rfl (by kernel_rfl) (by kernel_rfl) (by kernel_rfl) rfl hH (fun w hw => by go_simp) ?_
  try simp only [Act.put, List.setIfInBounds_toArray, List.set_cons_zero, List.set_cons_succ]
  refine held_value 8 53 (.bool false) rfl rfl (by kernel_rfl) (by kernel_rfl) (by kernel_rfl) rfl hH (fun w hw => by go_simp) ?_
  try simp only [Act.put, List.setIfInBounds_toArray, List.set_cons_zero, List.set_cons_succ]
  refine wpAnyH_done (by kernel_rfl) ?_ _
  refine NoPanic.normal ?_
  have H := Lib.hid hH
  clear hH
  go_wp2_with (first
    | ((with_reducible refine (refFits_any _ _ f _ ((HS.out.below H.out.bel).more H.out.bel.size)).mono ?_); rintro e wc ⟨rfl, hb⟩; rw [decide_eq_false HP.out]; replace H := Lib.hid (H.out.call hb); clear hb)
    | ((with_reducible apply own_load rowE H); (case hgd => exact rfl); (case ho => exact rfl); (case hx => exact rfl); (case hi => first | exact at0 | exact at1 | exact at2 | exact at3 | exact at4 | exact at5 | exact at6); intro _ _; go_simp)
    | ((with_reducible apply own_loadg rowE H); (case hw => exact rfl); (case ho => exact rfl); (case hx => exact rfl); (case hi => first | exact at0 | exact at1 | exact at2 | exact at3 | exact at4 | exact at5 | exact at6); intro _ _; go_simp)
    | ((with_reducible refine (zero_true _ zero_val rfl).mono ?_); rintro e wc ⟨rfl, hb⟩; replace H := Lib.hid (H.out.call hb); clear hb)
    | ((with_reducible refine (awake_any _ (HT.out.below H.out.bel)).mono ?_); rintro e wc ⟨rfl, hb⟩; replace H := Lib.hid (H.out.call hb); clear hb))
  go_ret
  exact ⟨rfl, H.out.bel⟩
set_option maxRecDepth 20000 in
set_option maxHeartbeats 6400000 in
theorem fbytes_fits (a : Option Addr) (c : Nat) (f : Nat → BitVec 8) (w : World) (hT : Tp w) (hs : Sl w w.heap.size a 56 c f) (hp : nB f 56 < pN) :
    Calls Tryd.prog 3 #[.slice a 56 c] w fun e w' => e = .returned (.bool true) ∧ Below w.heap.size w w' := by
  have HT := Lib.hid hT
  clear hT
  have HS := Lib.hid hs
  have HP := Lib.hid hp
  have HV := Lib.hid (of_v f)
  clear hs hp
  have H := Lib.hid (Ow.start w)
  go_enter Tryd.func3, Tryd.ntmps3
  go_wp2_with (first
    | ((with_reducible refine (of_any _ _ f _ ((HS.out.below H.out.bel).more H.out.bel.size)).mono ?_); rintro e wc ⟨rfl, hb⟩; replace H := Lib.hid (H.out.call hb); clear hb)
    | ((with_reducible refine (decode_near _ _ f _ ((HS.out.below H.out.bel).more H.out.bel.size) HP.out).mono ?_); rintro e wc ⟨rfl, hb⟩; replace H := Lib.hid (H.out.call hb); clear hb)
    | ((fail_if_success have := g1); (with_reducible apply own_alloc nilE H); (case hgd => exact rfl); (case ho => exact rfl); intro w1 g1 H' _ _; replace H := H'; clear H'; go_simp)
    | ((fail_if_success have := g2); (with_reducible apply own_alloc nilE H); (case hgd => exact rfl); (case ho => exact rfl); intro w2 g2 H' _ _; replace H := H'; clear H'; go_simp)
    | ((with_reducible apply own_store rowE H); (case hgd => exact rfl); (case ho => exact rfl); (case hx => exact rfl); (case hy => exact rfl); (case hi => first | exact at0 | exact at1 | exact at2 | exact at3 | exact at4 | exact at5 | exact at6); intro ws H' _ _; replace H := H'; clear H'; simp only [List.set_cons_zero] at H; go_simp)
    | ((fail_if_success have := g3); (with_reducible refine (P_row _ (HT.out.below H.out.bel)).mono ?_); rintro e wc ⟨g3, rfl, hge, hr, hb⟩; replace H := Lib.hid (H.out.add hb hge hr); clear hb hge hr)
    | ((with_reducible refine (refPrime_any _).mono ?_); rintro e wc ⟨v, rfl, ⟨gq, cq, rfl, _, hs2⟩, hb⟩; have HS2 := Lib.hid hs2; replace H := Lib.hid (H.out.call hb); clear hb hs2)
    | ((with_reducible refine (lawsame_true _ _ _ _ _ _ _ (rowSl (H.out.row 0 rfl)) HS2.out (fun _ _ => rfl)).mono ?_); rintro e wc ⟨rfl, hb⟩; replace H := Lib.hid (H.out.call hb); clear hb))
  refine wp_region_noPanic ?_
  refine wp_region_held_drew (S := fun W => Ow w W [(g3, BlkB 56 (bX pN)), (g2, Blk 27 .u64 8 (NZ (oF f 56))), (g1, Blk 27 .u64 8 (NZ (oF f 56)))]) (by kernel_rfl) H.out.drew (fun hH => ?_)
  clear H
  refine held_value 0 45 (.int .i64 0) rfl rfl (by kernel_rfl) (by kernel_rfl) (by kernel_rfl) rfl hH (fun w hw => by go_simp) ?_
  try simp only [Act.put, List.setIfInBounds_toArray, List.set_cons_zero, List.set_cons_succ]
  refine held_value 1 46 (.bool false) rfl rfl (by kernel_rfl) (by kernel_rfl) (by kernel_rfl) rfl hH (fun w hw => by go_simp) ?_
  try simp only [Act.put, List.setIfInBounds_toArray, List.set_cons_zero, List.set_cons_succ]
  refine held_value 2 47 (.bool false) rfl rfl (by kernel_rfl) (by kernel_rfl) (by kernel_rfl) rfl hH (fun w hw => by go_simp) ?_
  try simp only [Act.put, List.setIfInBounds_toArray, List.set_cons_zero, List.set_cons_succ]
  refine held_row 3 48 rowE rfl rfl (by kernel_rfl) (by kernel_rfl) (by kernel_rfl) rfl hH rfl rfl (fun _ h => h.row 2 rfl) ?_
  try simp only [Act.put, List.setIfInBounds_toArray, List.set_cons_zero, List.set_cons_succ]
  refine held_value 4 49 (.slice a 56 c) rfl rfl (by kernel_rfl) (by kernel_rfl) (by kernel_rfl) rfl hH (fun w hw => by go_simp) ?_
  try simp only [Act.put, List.setIfInBounds_toArray, List.set_cons_zero, List.set_cons_succ]
  refine wpAnyH_ready (rs := [5]) (by kernel_rfl) (by simp) ?_
  refine AllReadyH.cons (o := _) rfl (fun K hK => ?_) AllReadyH.nil
  go_simp
  refine (refOf_any _ _ _ _ (Lib.hid ((HS.out.below hH.bel).more hH.bel.size)).out).mono ?_
  rintro e wc ⟨rfl, hb⟩
  
  
  refine hK.out _ _ (hH.call hb) (fun hN => ?_)
  clear hK K hH hb 
  have hH := hN
  clear hN
  try simp only [Act.put, List.setIfInBounds_toArray, List.set_cons_zero, List.set_cons_succ]
  have HL50 : Hid (nB f 56 % pN < pN) := Lib.hid (Nat.mod_lt _ pN_pos)
  refine wpAnyH_ready (rs := [6]) (by kernel_rfl) (by simp) ?_
  refine AllReadyH.cons (o := _) rfl (fun K hK => ?_) AllReadyH.nil
  go_simp
  refine (is_true _ HV.out HL50.out (rfl)).mono ?_
  rintro e wc ⟨rfl, hb⟩
  
  
  refine hK.out _ _ (hH.call hb) (fun hN => ?_)
  clear hK K hH hb 
  have hH := hN
  clear hN
  try simp only [Act.put, List.setIfInBounds_toArray, List.set_cons_zero, List.set_cons_succ]
  refine held_value 7 52 (.bool false) rfl rfl (by kernel_rfl) (by kernel_rfl) (by kernel_rfl) rfl hH (fun w hw => by go_simp) ?_
  try simp only [Act.put, List.setIfInBounds_toArray, List.set_cons_zero, List.set_cons_succ]
  refine held_value 8 53 (.bool false) rfl rfl (by kernel_rfl) (by kernel_rfl) (by kernel_rfl) rfl hH (fun w hw => by go_simp) ?_
  try simp only [Act.put, List.setIfInBounds_toArray, List.set_cons_zero, List.set_cons_succ]
  refine wpAnyH_done (by kernel_rfl) ?_ _
  refine NoPanic.normal ?_
  have H := Lib.hid hH
  clear hH
  go_wp2_with (first
    | ((with_reducible refine (refFits_any _ _ f _ ((HS.out.below H.out.bel).more H.out.bel.size)).mono ?_); rintro e wc ⟨rfl, hb⟩; rw [decide_eq_true HP.out]; replace H := Lib.hid (H.out.call hb); clear hb)
    | ((with_reducible apply own_load rowE H); (case hgd => exact rfl); (case ho => exact rfl); (case hx => exact rfl); (case hi => first | exact at0 | exact at1 | exact at2 | exact at3 | exact at4 | exact at5 | exact at6); intro _ _; go_simp)
    | ((with_reducible apply own_loadg rowE H); (case hw => exact rfl); (case ho => exact rfl); (case hx => exact rfl); (case hi => first | exact at0 | exact at1 | exact at2 | exact at3 | exact at4 | exact at5 | exact at6); intro _ _; go_simp)
    | ((with_reducible refine (bytes_v _ HV.out).mono ?_); rintro e wc ⟨a9, c9, rfl, hs2, hb⟩; have HS9 := Lib.hid hs2; replace H := Lib.hid (H.out.call hb); clear hb hs2)
    | ((with_reducible refine (lawsame_true _ _ _ _ _ f _ HS9.out ((HS.out.below H.out.bel).more H.out.bel.size) (fun i hi => by rw [Nat.mod_eq_of_lt HP.out, bX_nB f 56 i hi])).mono ?_); rintro e wc ⟨rfl, hb⟩; replace H := Lib.hid (H.out.call hb); clear hb)
    | ((with_reducible refine (awake_any _ (HT.out.below H.out.bel)).mono ?_); rintro e wc ⟨rfl, hb⟩; replace H := Lib.hid (H.out.call hb); clear hb))
  go_ret
  exact ⟨rfl, H.out.bel⟩
end Go.Proofs.YtjjdhbmlinjhjaaDoor
