/-
 Lemmas for the walks, several texts in one. No statement is proved here.
-/
import Derived.Test.YtoeokhfhcpcjlaaGreatDoorBuK
import Derived.Test.YtoeokhfhcpcjlaaGreatDoorBuR
import Derived.Test.YtoeokhfhcpcjlaaGreatDoorBuN
/-
 The contract of package root's Power. No statement is proved here: lemmas for the walks.
-/
namespace Go.Proofs.YtoeokhfhcpcjlaaGreatDoor
open Go.RowKit
theorem pow_bit (a : K) (x k : Nat) : a ^ (x / 2 ^ k) = a ^ (x / 2 ^ (k + 1)) * a ^ (x / 2 ^ (k + 1)) * (if x / 2 ^ k % 2 = 0 then 1 else a) := by
 have e : x / 2 ^ (k + 1) = x / 2 ^ k / 2 := (half_once x k).symm
 rw [e]
 generalize x / 2 ^ k = y
 rw [← fp_pow_add]
 split
 ·rw [show y / 2 + y / 2 = y by omega]
  grind
 ·rw [← fp_pow_succ, show y / 2 + y / 2 + 1 = y by omega]
theorem pow_bit0 {a : K} {x k : Nat} (h : x / 2 ^ k % 2 = 0) : a ^ (x / 2 ^ (k + 1)) * a ^ (x / 2 ^ (k + 1)) = a ^ (x / 2 ^ k) := by
 rw [pow_bit a x k, if_pos h]
 grind
theorem pow_bit1 {a : K} {x k : Nat} (h : x / 2 ^ k % 2 = 1) : a ^ (x / 2 ^ (k + 1)) * a ^ (x / 2 ^ (k + 1)) * a = a ^ (x / 2 ^ k) := by rw [pow_bit a x k, if_neg (by omega)]
end Go.Proofs.YtoeokhfhcpcjlaaGreatDoor
/-
 The contract of the reference's Power. No statement is proved here: lemmas for the walks.
-/
namespace Go.Proofs.YtoeokhfhcpcjlaaGreatDoor
open Go.RowKit
set_option maxRecDepth 8000 in
set_option maxHeartbeats 3200000 in
theorem refPower_k {a : K} (ad : Option Addr) (n c x : Nat) (w : World) (hs : Sb w w.heap.size ad n c x) (hn : n ≤ 1000) :
  Calls Tryz.prog 119 #[FV a.val, .slice ad n c] w fun e w' => e = .returned (FV (a ^ x).val) ∧ Below w.heap.size w w' := by
 have HS := Lib.hid hs
 have hnZ : (n : Int) ≤ 1000 := by omega
 have HB := Lib.hid (fun w (k : Nat) (hk : k < 8 * n) (h : Sb w w.heap.size ad n c x) => refBit_any ad n c x (k : Int) w (by omega) (by omega) h)
 clear hs
 have H := Lib.hid (Ow.start w)
 go_enter Tryz.func119, Tryz.ntmps119
 go_wp2_with (first
  | ((fail_if_success have := g2); (with_reducible apply own_box H); (case hgd | ho | hx => exact rfl); intro w2 g2 H' _ _; replace H := H'; clear H'; go_simp)
  | ((fail_if_success have := g4); (with_reducible apply own_alloc intsF.zero H); (case hgd | ho => exact rfl); intro w4 g4 H' _ _; replace H := H'; clear H'; go_simp)
  | ((with_reducible refine (refInt_k _ 1 (by omega) (by omega)).mono ?_); rintro e wc ⟨rfl, hb⟩; replace H := Lib.hid (H.out.call hb); clear hb)
  | ((fail_if_success have := g5); (with_reducible apply own_alloc intsF.zero H); (case hgd | ho => exact rfl); intro w5 g5 H' _ _; replace H := H'; clear H'; go_simp)
  | ((with_reducible apply own_store rowF H); (case hgd | ho | hx | hy => exact rfl); (case hi => first|exact at0|exact at1|exact at2|exact at3|exact at4|exact at5|exact at6|exact at7|exact at8|exact at9); intro ws H' _ _; replace H := H'; clear H'; simp only [List.set_cons_zero] at H; go_simp))
 go_loopw [6] (fun v wr => ∃ (j : Nat), j ≤ 8 * n ∧ v = .int .i64 ((j : Int) - 1) ∧ Ow w wr [(g5, Blk 31 .i64 16 (dF (a ^ (x / 2 ^ j)).val)), (g4, Blk 31 .i64 16 fun _ => 0), (g2, Blk 31 .i64 16 (dF (a).val))]) (fun v _ => (intOf v + 1).toNat)
 case atStart => exact ⟨8 * n, Nat.le_refl _, by go_num, by rw [Nat.div_eq_of_lt HS.out.fits, fp_pow_zero, ← ofZ_one]; exact H.out⟩
 case round =>
  clear H
  obtain ⟨j, hj, rfl, HR⟩ := hrel
  cases j with
  | zero =>
   rw [show ((0 : Nat) : Int) - 1 = -1 from rfl]
   have H : Hid (Ow w wr [(g5, Blk 31 .i64 16 (dF (a ^ x).val)), (g4, Blk 31 .i64 16 fun _ => 0), (g2, Blk 31 .i64 16 (dF (a).val))]) := Lib.hid (by rw [Nat.pow_zero, Nat.div_one] at HR; exact HR)
   clear HR
   go_wp2_with (first
    | ((with_reducible apply own_load rowF H); (case hgd | ho | hx => exact rfl); (case hi => first|exact at0|exact at1|exact at2|exact at3|exact at4|exact at5|exact at6|exact at7|exact at8|exact at9); intro _ _; go_simp)
    | ((with_reducible apply own_store rowF H); (case hgd | ho | hx | hy => exact rfl); (case hi => first|exact at0|exact at1|exact at2|exact at3|exact at4|exact at5|exact at6|exact at7|exact at8|exact at9); intro ws H' _ _; replace H := H'; clear H'; simp only [List.set_cons_zero, List.set_cons_succ] at H; go_simp))
   exact bodyPost_ret (own_result 1 rowF rfl _ H rfl rfl) rfl ⟨rfl, H.out.bel⟩
  | succ k =>
   have hid : decide ((0 : Int) ≤ (k : Int)) = true := by simp
   rw [show ((k + 1 : Nat) : Int) - 1 = (k : Int) by omega]
   have HK := Lib.hid (fun w => HB.out w k (by omega))
   rw [show bitI x (k : Int) = ((x / 2 ^ k % 2 : Nat) : Int) by unfold bitI; rw [if_neg (by omega)]; rfl] at HK
   have hkn : k < 8000 := by omega
   obtain ⟨y, hy⟩ : ∃ y, a ^ (x / 2 ^ (k + 1)) = y := ⟨_, rfl⟩
   have Hy0 := fun h => pow_bit0 (a := a) (x := x) (k := k) h
   have Hy1 := fun h => pow_bit1 (a := a) (x := x) (k := k) h
   rw [hy] at HR Hy0 Hy1
   have H := Lib.hid HR
   have Hjn := Lib.hid hj
   obtain ⟨u, hu⟩ : ∃ u, x / 2 ^ k % 2 = u := ⟨_, rfl⟩
   have hu2 : u < 2 := by rw [← hu]; exact Nat.mod_lt _ (by omega)
   rw [hu] at HK Hy0 Hy1
   clear HR hj hy hu
   rcases (by omega : u = 0 ∨ u = 1) with rfl | rfl
   ·have P0 := Lib.hid (Hy0 rfl)
    clear Hy0 Hy1
    rw [show ((0 : Nat) : Int) = 0 from rfl] at HK
    go_wp2_with (first
     | ((with_reducible apply own_load rowF H); (case hgd | ho | hx => exact rfl); (case hi => first|exact at0|exact at1|exact at2|exact at3|exact at4|exact at5|exact at6|exact at7|exact at8|exact at9); intro _ _; go_simp)
     | ((with_reducible refine (refMul_k _ _ _).mono ?_); rintro e wc ⟨rfl, hb⟩; replace H := Lib.hid (H.out.call hb); clear hb)
     | ((with_reducible apply own_store rowF H); (case hgd | ho | hx | hy => exact rfl); (case hi => first|exact at0|exact at1|exact at2|exact at3|exact at4|exact at5|exact at6|exact at7|exact at8|exact at9); intro ws H' _ _; replace H := H'; clear H'; simp only [List.set_cons_zero] at H; go_simp)
     | ((with_reducible refine (HK.out _ ((HS.out.below H.out.bel).more H.out.bel.size)).mono ?_); rintro e w' ⟨rfl, rfl⟩))
    rw [P0.out] at H
    go_roundw
    case rel => exact ⟨k, by have := Hjn.out; omega, by go_num, H.out⟩
    case measure => (simp [intOf] <;> omega)
   ·have P1 := Lib.hid (Hy1 rfl)
    clear Hy0 Hy1
    rw [show ((1 : Nat) : Int) = 1 from rfl] at HK
    go_wp2_with (first
     | ((with_reducible apply own_load rowF H); (case hgd | ho | hx => exact rfl); (case hi => first|exact at0|exact at1|exact at2|exact at3|exact at4|exact at5|exact at6|exact at7|exact at8|exact at9); intro _ _; go_simp)
     | ((with_reducible refine (refMul_k _ _ _).mono ?_); rintro e wc ⟨rfl, hb⟩; replace H := Lib.hid (H.out.call hb); clear hb)
     | ((with_reducible apply own_store rowF H); (case hgd | ho | hx | hy => exact rfl); (case hi => first|exact at0|exact at1|exact at2|exact at3|exact at4|exact at5|exact at6|exact at7|exact at8|exact at9); intro ws H' _ _; replace H := H'; clear H'; simp only [List.set_cons_zero] at H; go_simp)
     | ((with_reducible refine (HK.out _ ((HS.out.below H.out.bel).more H.out.bel.size)).mono ?_); rintro e w' ⟨rfl, rfl⟩))
    rw [P1.out] at H
    go_roundw
    case rel => exact ⟨k, by have := Hjn.out; omega, by go_num, H.out⟩
    case measure => (simp [intOf] <;> omega)
end Go.Proofs.YtoeokhfhcpcjlaaGreatDoor
/-
 What the reference's roots want: bytes of numbers, arrays compared. No statement is proved here: lemmas for the walks.
-/
namespace Go.Proofs.YtoeokhfhcpcjlaaGreatDoor
open Go.RowKit
theorem bX_bt (x : Nat) : bX x = bt x := by
 funext i
 unfold bX bt
 rw [show (256 : Nat) = 2 ^ 8 from rfl, ← Nat.pow_mul]
theorem refPrime_sb (w : World) : Calls Tryz.prog 121 #[] w fun e w' => ∃ a c, e = .returned (.slice a 56 c) ∧ Sb w' w'.heap.size a 56 c pN ∧ Below w.heap.size w w' :=
 (refPrime_any w).mono fun _ _ ⟨_, he, ⟨g, c, hv, _, hs⟩, hb⟩ => ⟨some ⟨g, 0, none⟩, c, by rw [he, hv], ⟨by rw [← bX_bt]; exact hs, by decide +kernel⟩, hb⟩
theorem fits_56 {x : Nat} (h : x ≤ pN + 1) : dl 8 x ≤ 56 := (dl_le 8 x 56 (by omega)).2 (Nat.lt_of_le_of_lt h (by decide +kernel))
end Go.Proofs.YtoeokhfhcpcjlaaGreatDoor
/-
 The contracts of the reference's Inverse, Negative and Abs. No statement is proved here: lemmas for the walks.
-/
namespace Go.Proofs.YtoeokhfhcpcjlaaGreatDoor
open Go.RowKit
set_option maxRecDepth 8000 in
set_option maxHeartbeats 3200000 in
theorem refInverse_k {a : K} (w : World) :
  Calls Tryz.prog 94 #[FV a.val] w fun e w' => e = .returned (FV (inv a).val) ∧ Below w.heap.size w w' := by
 have h56 := fits_56 (show pN - 2 ≤ pN + 1 by omega)
 have H := Lib.hid (Ow.start w)
 go_enter Tryz.func94, Tryz.ntmps94
 go_wp2_with (first
  | ((fail_if_success have := g1); (with_reducible apply own_box H); (case hgd | ho | hx => exact rfl); intro w1 g1 H' _ _; replace H := H'; clear H'; go_simp)
  | ((fail_if_success have := g2); (with_reducible apply own_alloc intsF.zero H); (case hgd | ho => exact rfl); intro w2 g2 H' _ _; replace H := H'; clear H'; go_simp))
 refine wp_region_noPanic ?_
 refine wp_region_held_drew (S := fun W => W.heap[g1]? = some (Blk 31 .i64 16 (dF (a).val))) (by kernel_rfl) (H.out.drew.row 1 rfl) (fun hH => ?_)
 replace H := Lib.hid H.out.drew
 generalize World.drew _ = w8 at *
 refine held_row 0 3 rowF rfl rfl (by kernel_rfl) (by kernel_rfl) (by kernel_rfl) rfl hH rfl rfl (fun _ h => h) ?_
 try simp only [Act.put, List.setIfInBounds_toArray, List.set_cons_zero, List.set_cons_succ]
 refine wpAnyH_ready (rs := [1, 2]) (by kernel_rfl) (by simp) ?_
 refine AllReadyH.cons (o := _) rfl (fun K hK => ?_) (AllReadyH.cons (o := _) rfl (fun K hK => ?_) AllReadyH.nil)
 ·skip
  go_simp
  refine (refPrime_sb _).mono ?_
  rintro e wc ⟨a4, c4, rfl, hs, hb⟩
  replace H := Lib.hid (H.out.call hb)
  have HS4 := Lib.hid hs
  refine hK.out _ _ (H.out.row 1 rfl) (fun hN => ?_)
  clear hK K hH hb hs
  have hH := hN
  clear hN
  try simp only [Act.put, List.setIfInBounds_toArray, List.set_cons_zero, List.set_cons_succ]
  refine wpAnyH_ready (rs := [2]) (by kernel_rfl) (by simp) ?_
  refine AllReadyH.cons (o := _) rfl (fun K hK => ?_) AllReadyH.nil
  refine own_wp_byte 5 rfl (v := 2) (by omega) H.out rfl ?_
  intro w5 g5 H3 hs hb
  replace HS4 := Lib.hid (HS4.out.call hb)
  replace H := Lib.hid H3
  have HS5 := Lib.hid hs
  refine hK.out _ _ (H.out.row 2 rfl) (fun hN => ?_)
  clear hK K hH H3 hs hb
  have hH := hN
  clear hN
  try simp only [Act.put, List.setIfInBounds_toArray, List.set_cons_zero, List.set_cons_succ]
  refine wpAnyH_ready (rs := [3]) (by kernel_rfl) (by simp) ?_
  refine AllReadyH.cons (o := _) rfl (fun K hK => ?_) AllReadyH.nil
  go_simp
  refine (nrefSub_any _ _ _ _ _ _ _ _ _ (by omega) (by omega) HS4.out HS5.out (by decide +kernel)).mono ?_
  rintro e wc ⟨_, rfl, a6, c6, rfl, hs, hb⟩
  replace HS4 := Lib.hid (HS4.out.call hb)
  replace HS5 := Lib.hid (HS5.out.call hb)
  replace H := Lib.hid (H.out.call hb)
  have HS6 := Lib.hid hs
  refine hK.out _ _ (H.out.row 2 rfl) (fun hN => ?_)
  clear hK K hH hb hs
  have hH := hN
  clear hN
  try simp only [Act.put, List.setIfInBounds_toArray, List.set_cons_zero, List.set_cons_succ]
  refine wpAnyH_ready (rs := [4]) (by kernel_rfl) (by simp) ?_
  refine AllReadyH.cons (o := _) rfl (fun K hK => ?_) AllReadyH.nil
  go_simp
  refine (refPower_k _ _ _ _ _ HS6.out (by omega)).mono ?_
  rintro e wc ⟨rfl, hb⟩
  replace HS4 := Lib.hid (HS4.out.call hb)
  replace HS5 := Lib.hid (HS5.out.call hb)
  replace HS6 := Lib.hid (HS6.out.call hb)
  replace H := Lib.hid (H.out.call hb)
  refine hK.out _ _ (H.out.row 2 rfl) (fun hN => ?_)
  clear hK K hH hb
  have hH := hN
  clear hN
  try simp only [Act.put, List.setIfInBounds_toArray, List.set_cons_zero, List.set_cons_succ]
  refine wpAnyH_ready (rs := [5]) (by kernel_rfl) (by simp) ?_
  refine AllReadyH.cons (o := _) rfl (fun K hK => ?_) AllReadyH.nil
  refine own_wp_store 1 rowF H.out rfl rfl rfl rfl ?_
  intro ws HS
  simp only [List.set_cons_zero, List.set_cons_succ] at HS
  replace H := Lib.hid HS
  refine hK.out _ _ (H.out.row 2 rfl) (fun hN => ?_)
  clear hK K HS hH
  have hH := hN
  clear hN
  try simp only [Act.put, List.setIfInBounds_toArray]
  try simp only [Act.put]
  refine wpAnyH_done (by kernel_rfl) ?_ _
  refine NoPanic.normal ?_
  clear hH
  go_wp2_with fail
  exact bodyPost_ret (own_result 1 rowF rfl _ H rfl rfl) rfl ⟨rfl, H.out.bel⟩
 ·skip
  refine own_wp_byte 5 rfl (v := 2) (by omega) H.out rfl ?_
  intro w5 g5 H3 hs hb
  replace H := Lib.hid H3
  have HS5 := Lib.hid hs
  refine hK.out _ _ (H.out.row 2 rfl) (fun hN => ?_)
  clear hK K hH H3 hs hb
  have hH := hN
  clear hN
  try simp only [Act.put, List.setIfInBounds_toArray, List.set_cons_zero, List.set_cons_succ]
  refine wpAnyH_ready (rs := [1]) (by kernel_rfl) (by simp) ?_
  refine AllReadyH.cons (o := _) rfl (fun K hK => ?_) AllReadyH.nil
  go_simp
  refine (refPrime_sb _).mono ?_
  rintro e wc ⟨a4, c4, rfl, hs, hb⟩
  replace HS5 := Lib.hid (HS5.out.call hb)
  replace H := Lib.hid (H.out.call hb)
  have HS4 := Lib.hid hs
  refine hK.out _ _ (H.out.row 2 rfl) (fun hN => ?_)
  clear hK K hH hb hs
  have hH := hN
  clear hN
  try simp only [Act.put, List.setIfInBounds_toArray, List.set_cons_zero, List.set_cons_succ]
  refine wpAnyH_ready (rs := [3]) (by kernel_rfl) (by simp) ?_
  refine AllReadyH.cons (o := _) rfl (fun K hK => ?_) AllReadyH.nil
  go_simp
  refine (nrefSub_any _ _ _ _ _ _ _ _ _ (by omega) (by omega) HS4.out HS5.out (by decide +kernel)).mono ?_
  rintro e wc ⟨_, rfl, a6, c6, rfl, hs, hb⟩
  replace HS5 := Lib.hid (HS5.out.call hb)
  replace HS4 := Lib.hid (HS4.out.call hb)
  replace H := Lib.hid (H.out.call hb)
  have HS6 := Lib.hid hs
  refine hK.out _ _ (H.out.row 2 rfl) (fun hN => ?_)
  clear hK K hH hb hs
  have hH := hN
  clear hN
  try simp only [Act.put, List.setIfInBounds_toArray, List.set_cons_zero, List.set_cons_succ]
  refine wpAnyH_ready (rs := [4]) (by kernel_rfl) (by simp) ?_
  refine AllReadyH.cons (o := _) rfl (fun K hK => ?_) AllReadyH.nil
  go_simp
  refine (refPower_k _ _ _ _ _ HS6.out (by omega)).mono ?_
  rintro e wc ⟨rfl, hb⟩
  replace HS5 := Lib.hid (HS5.out.call hb)
  replace HS4 := Lib.hid (HS4.out.call hb)
  replace HS6 := Lib.hid (HS6.out.call hb)
  replace H := Lib.hid (H.out.call hb)
  refine hK.out _ _ (H.out.row 2 rfl) (fun hN => ?_)
  clear hK K hH hb
  have hH := hN
  clear hN
  try simp only [Act.put, List.setIfInBounds_toArray, List.set_cons_zero, List.set_cons_succ]
  refine wpAnyH_ready (rs := [5]) (by kernel_rfl) (by simp) ?_
  refine AllReadyH.cons (o := _) rfl (fun K hK => ?_) AllReadyH.nil
  refine own_wp_store 1 rowF H.out rfl rfl rfl rfl ?_
  intro ws HS
  simp only [List.set_cons_zero, List.set_cons_succ] at HS
  replace H := Lib.hid HS
  refine hK.out _ _ (H.out.row 2 rfl) (fun hN => ?_)
  clear hK K HS hH
  have hH := hN
  clear hN
  try simp only [Act.put, List.setIfInBounds_toArray]
  try simp only [Act.put]
  refine wpAnyH_done (by kernel_rfl) ?_ _
  refine NoPanic.normal ?_
  clear hH
  go_wp2_with fail
  exact bodyPost_ret (own_result 1 rowF rfl _ H rfl rfl) rfl ⟨rfl, H.out.bel⟩
set_option maxRecDepth 8000 in
set_option maxHeartbeats 3200000 in
theorem refNegative_k {a : K} (w : World) :
  Calls Tryz.prog 93 #[FV a.val] w fun e w' => e = .returned (.bool (decide (a.val % 2 = 1))) ∧ Below w.heap.size w w' := by
 obtain ⟨y, hy⟩ : ∃ y : Nat, dF a.val 0 = (y : Int) := ⟨_, rfl⟩
 have hy2 : (y : Int) < 268435456 := by rw [← hy]; exact (dF_bd _ _).2
 obtain ⟨z, hz⟩ : ∃ z, y % 2 = z := ⟨_, rfl⟩
 have HZ : Hid (((z : Int) == 1) = decide (a.val % 2 = 1)) := Lib.hid (by
  have h1 : a.val / 268435456 ^ 0 % 268435456 = y := by
   have := hy
   unfold dF at this
   exact_mod_cast this
  rw [Nat.pow_zero, Nat.div_one] at h1
  rw [Bool.eq_iff_iff, beq_iff_eq, decide_eq_true_eq]
  omega)
 have e1 : (y : Int) % 2 = (z : Int) := by omega
 have e2 : (y : Int).tmod 2 = (z : Int) := by rw [Int.tmod_eq_emod_of_nonneg (by omega)]; omega
 clear hz
 have H := Lib.hid (Ow.start w)
 go_enter Tryz.func93, Tryz.ntmps93
 go_wp2_with (first
  | ((fail_if_success have := g1); (with_reducible apply own_box H); (case hgd | ho | hx => exact rfl); intro w1 g1 H' _ _; replace H := H'; clear H'; go_simp)
  | ((with_reducible apply own_get oneI H); (case hgd | ho | hx => exact rfl); (case hi => first|exact at0|exact at1|exact at2|exact at3|exact at4|exact at5|exact at6|exact at7|exact at8|exact at9); (case hj => omega); intro _ _; rw [hy]; go_simp))
 go_ret
 exact ⟨by rw [← HZ.out]; rfl, H.out.bel⟩
end Go.Proofs.YtoeokhfhcpcjlaaGreatDoor
