/-
  The walk of CodingSame. No statement is proved here: lemmas for the walks.
-/
import Derived.Test.YtanfobboeehiaaaDoorZClAwake
import Derived.Test.YtanfobboeehiaaaDoorZPlMade
import Derived.Test.YtanfobboeehiaaaDoorBuH
import Derived.Deep.CutRange
namespace Go.Proofs.YtanfobboeehiaaaDoor
open Go.RowKit

theorem sg_neg_same (x : K) : (U8 (sg x) == U8 (sg (-x))) = decide (x = 0) := by
  by_cases h : x = 0
  · rw [decide_eq_true h, h]
    decide +kernel
  · rw [decide_eq_false h]
    have h1 := neg_odd pN_odd h
    rcases sg_or x with ⟨h2, h3⟩ | ⟨h2, h3⟩
    · rw [h3, sg_even (show (-x).val % 2 = 0 by omega)]
      rfl
    · rw [h3, sg_odd (h1.2 h2)]
      rfl
theorem cdN_half (P : Pt pN dK) : cdN P % 2 ^ (8 * 56) = cdN (pneg P) % 2 ^ (8 * 56) := (cdN_mod P).trans (cdN_mod (pneg P)).symm
theorem cmp_k (a a' : Option Addr) (c c' : Nat) {P Q : Pt pN dK} {b : Bool} (w : World) (h1 : Sb w w.heap.size a 57 c (cdN P)) (h2 : Sb w w.heap.size a' 57 c' (cdN Q)) (h : decide (P = Q) = b) :
    Calls Tryd.prog 9 #[.slice a 57 c, .slice a' 57 c'] w fun e w' => e = .returned (.bool b) ∧ Below w.heap.size w w' :=
  (cmp_same a a' 57 c c' _ _ w (by omega) h1 h2).mono fun _ _ ⟨he, hb⟩ => ⟨by rw [he, cdN_same, h], hb⟩
theorem zero_kd {f : Nat → Nat} {a : K} {b : Bool} (w : World) (hf : EK f a) (h : decide (a = 0) = b) :
    Calls Tryd.prog 20 #[EV f] w fun e w' => e = .returned (.bool b) ∧ Below w.heap.size w w' := h ▸ zero_k w hf
theorem code_half {w : World} {g c : Nat} {P : Pt pN dK} (h : w.heap[g]? = some (YB c (bt (cdN P)))) (hc : 57 ≤ c) : Sb w w.heap.size (some ⟨g, 0, none⟩) 56 c (cdN P % 2 ^ (8 * 56)) := (code_sb h hc).first (by omega) (by omega) (by omega)
set_option maxRecDepth 20000 in
set_option maxHeartbeats 12800000 in
theorem same_walk (u v : Nat → BitVec 8) (y z : Int) (w : World) (hT : Tp w) :
    Calls Tryd.prog 6 #[.agg (SpotA u y), .agg (SpotA v z)] w fun e w' => e = .returned (.bool true) ∧ Below w.heap.size w w' := by
  obtain ⟨x1, hx1⟩ := num57 u
  have M1 := Lib.hid (fun w hT => made8_k u y x1 w hT hx1)
  obtain ⟨P1, hP1⟩ : ∃ P, spot x1 (qn y) = P := ⟨_, rfl⟩
  rw [hP1] at M1
  clear hP1 hx1
  obtain ⟨x2, hx2⟩ := num57 v
  have M2 := Lib.hid (fun w hT => made8_k v z x2 w hT hx2)
  obtain ⟨P2, hP2⟩ : ∃ P, spot x2 (qn z) = P := ⟨_, rfl⟩
  rw [hP2] at M2
  clear hP2 hx2
  obtain ⟨b, hb0⟩ : ∃ b, decide (P1 = P2) = b := ⟨_, rfl⟩
  have HB := Lib.hid hb0
  obtain ⟨z, hz0⟩ : ∃ z, decide (P1.x = 0) = z := ⟨_, rfl⟩
  have HZ := Lib.hid hz0
  have HE : Hid ((U8 (sg P1.x) == U8 (sg (-P1.x))) = z) := Lib.hid ((sg_neg_same P1.x).trans hz0)
  clear hb0 hz0
  have HT := Lib.hid hT
  clear hT
  have H := Lib.hid (Ow.start w)
  go_enter Tryd.func6, Tryd.ntmps6
  go_wp2_with (first
    | ((fail_if_success have := g2); (with_reducible apply own_boxS H); (case hgd => exact rfl); (case ho => exact rfl); (case hx => exact rfl); intro w2 g2 H' _ _; replace H := H'; clear H'; go_simp)
    | ((fail_if_success have := g3); (fail_if_success have := g3); (with_reducible apply own_boxS H); (case hgd => exact rfl); (case ho => exact rfl); (case hx => exact rfl); intro w3 g3 H' _ _; replace H := H'; clear H'; go_simp)
    | ((with_reducible apply own_loadS H); (case hgd => exact rfl); (case ho => exact rfl); (case hx => exact rfl); (case hi => first | exact at0 | exact at1 | exact at2 | exact at3 | exact at4 | exact at5 | exact at6 | exact at7 | exact at8 | exact at9); intro _ _; go_simp)
    | ((fail_if_success have := V1); (with_reducible refine (M1.out _ (HT.out.below H.out.bel)).mono ?_); rintro e wc ⟨k1, rfl, hv, hb⟩; replace H := Lib.hid (H.out.call hb); clear hb; have V1 := Lib.hid hv; clear hv)
    | ((fail_if_success have := V2); (with_reducible refine (M2.out _ (HT.out.below H.out.bel)).mono ?_); rintro e wc ⟨k2, rfl, hv, hb⟩; replace H := Lib.hid (H.out.call hb); clear hb; have V2 := Lib.hid hv; clear hv)
    | ((fail_if_success have := g5); (fail_if_success have := g5); (with_reducible apply own_alloc nilPt H); (case hgd => exact rfl); (case ho => exact rfl); intro w5 g5 H' _ _; replace H := H'; clear H'; go_simp)
    | ((fail_if_success have := g7); (fail_if_success have := g7); (with_reducible apply own_alloc nilPt H); (case hgd => exact rfl); (case ho => exact rfl); intro w7 g7 H' _ _; replace H := H'; clear H'; go_simp)
    | ((with_reducible apply own_store rowPt H); (case hgd => exact rfl); (case ho => exact rfl); (case hx => exact rfl); (case hy => exact rfl); (case hi => first | exact at0 | exact at1 | exact at2 | exact at3 | exact at4 | exact at5 | exact at6 | exact at7 | exact at8 | exact at9); intro ws H' _ _; replace H := H'; clear H'; simp only [List.set_cons_zero] at H; go_simp)
    | ((with_reducible apply own_load rowPt H); (case hgd => exact rfl); (case ho => exact rfl); (case hx => exact rfl); (case hi => first | exact at0 | exact at1 | exact at2 | exact at3 | exact at4 | exact at5 | exact at6 | exact at7 | exact at8 | exact at9); intro _ _; go_simp)
    | ((fail_if_success have := L31); (with_reducible refine (encode_k _ V1.out).mono ?_); rintro e wc ⟨g31, c31, rfl, hc, hg, hr, hb⟩; replace H := Lib.hid (H.out.add hb hg hr); have L31 := Lib.hid hc; clear hb hg hr hc)
    | ((fail_if_success have := L33); (with_reducible refine (encode_k _ V2.out).mono ?_); rintro e wc ⟨g33, c33, rfl, hc, hg, hr, hb⟩; replace H := Lib.hid (H.out.add hb hg hr); have L33 := Lib.hid hc; clear hb hg hr hc)
    | ((fail_if_success have := V4); (with_reducible refine (ptNeg_k _ (HT.out.below H.out.bel) V1.out).mono ?_); rintro e wc ⟨k4, rfl, hv, hb⟩; replace H := Lib.hid (H.out.call hb); clear hb; have V4 := Lib.hid hv; clear hv)
    | ((fail_if_success have := L36); (with_reducible refine (encode_k _ V4.out).mono ?_); rintro e wc ⟨g36, c36, rfl, hc, hg, hr, hb⟩; replace H := Lib.hid (H.out.add hb hg hr); have L36 := Lib.hid hc; clear hb hg hr hc)
    | ((fail_if_success have := A1); (with_reducible refine (ptAffine_k _ V1.out).mono ?_); rintro e wc ⟨a1, a2, rfl, hv1, hv2, hb⟩; replace H := Lib.hid (H.out.call hb); clear hb; have A1 := Lib.hid hv1; have A2 := Lib.hid hv2; clear hv1 hv2)
    | ((fail_if_success have := g12); (fail_if_success have := g12); (with_reducible apply own_alloc nilE H); (case hgd => exact rfl); (case ho => exact rfl); intro w12 g12 H' _ _; replace H := H'; clear H'; go_simp)
    | ((fail_if_success have := g13); (fail_if_success have := g13); (with_reducible apply own_alloc nilE H); (case hgd => exact rfl); (case ho => exact rfl); intro w13 g13 H' _ _; replace H := H'; clear H'; go_simp)
    | ((with_reducible apply own_store rowE H); (case hgd => exact rfl); (case ho => exact rfl); (case hx => exact rfl); (case hy => exact rfl); (case hi => first | exact at0 | exact at1 | exact at2 | exact at3 | exact at4 | exact at5 | exact at6 | exact at7 | exact at8 | exact at9); intro ws H' _ _; replace H := H'; clear H'; simp only [List.set_cons_zero, List.set_cons_succ] at H; go_simp))
  have C9 := Lib.hid (code_cell (H.out.row 4 rfl) L31.out 56 (by omega) (congrArg U (cdN_top P1)))
  have C11 := Lib.hid (code_cell (H.out.row 2 rfl) L36.out 56 (by omega) (congrArg U (cdN_top (pneg P1))))
  refine wp_region_noPanic ?_
  refine wp_region_held_drew (S := fun W => W.heap[g5]? = some (Blk 30 .u64 24 (k1)) ∧ W.heap[g7]? = some (Blk 30 .u64 24 (k2)) ∧ W.heap[g12]? = some (Blk 28 .u64 8 (NZ a1)) ∧ W.cell? ⟨g31, 56, none⟩ = some (U (sg P1.x)) ∧ W.cell? ⟨g36, 56, none⟩ = some (U (sg (-P1.x)))) (by kernel_rfl) (⟨H.out.drew.row 6 rfl, H.out.drew.row 5 rfl, H.out.drew.row 1 rfl, C9.out, C11.out⟩) (fun hH => ?_)
  replace H := Lib.hid H.out.drew
  replace C9 := Lib.hid (show (World.drew _).cell? _ = _ from C9.out)
  replace C11 := Lib.hid (show (World.drew _).cell? _ = _ from C11.out)
  generalize World.drew _ = w8 at *
  refine held_value 0 55 (.slice (some ⟨g31, 0, none⟩) 57 c31) rfl rfl (by kernel_rfl) (by kernel_rfl) (by kernel_rfl) rfl hH (fun w hw => by go_simp) ?_
  try simp only [Act.put, List.setIfInBounds_toArray, List.set_cons_zero, List.set_cons_succ]
  refine held_value 1 56 (.slice (some ⟨g33, 0, none⟩) 57 c33) rfl rfl (by kernel_rfl) (by kernel_rfl) (by kernel_rfl) rfl hH (fun w hw => by go_simp) ?_
  try simp only [Act.put, List.setIfInBounds_toArray, List.set_cons_zero, List.set_cons_succ]
  refine held_row 3 58 rowPt rfl rfl (by kernel_rfl) (by kernel_rfl) (by kernel_rfl) rfl hH rfl rfl (fun _ h => h.1) ?_
  try simp only [Act.put, List.setIfInBounds_toArray, List.set_cons_zero, List.set_cons_succ]
  refine held_row 4 59 rowPt rfl rfl (by kernel_rfl) (by kernel_rfl) (by kernel_rfl) rfl hH rfl rfl (fun _ h => h.2.1) ?_
  try simp only [Act.put, List.setIfInBounds_toArray, List.set_cons_zero, List.set_cons_succ]
  refine wpAnyH_ready (rs := [2]) (by kernel_rfl) (by simp) ?_
  refine AllReadyH.cons (o := _) rfl (fun K hK => ?_) AllReadyH.nil
  go_simp
  refine (cmp_k _ _ _ _ _ (code_sb (H.out.row 4 rfl) L31.out) (code_sb (H.out.row 3 rfl) L33.out) HB.out).mono ?_
  rintro e wc ⟨rfl, hb⟩
  replace C9 := Lib.hid ((Below.cell hb (p := ⟨g31, 56, none⟩) (block_lt_of_cell C9.out)).trans C9.out)
  replace C11 := Lib.hid ((Below.cell hb (p := ⟨g36, 56, none⟩) (block_lt_of_cell C11.out)).trans C11.out)
  replace H := Lib.hid (H.out.call hb)
  refine hK.out _ _ (⟨H.out.row 6 rfl, H.out.row 5 rfl, H.out.row 1 rfl, C9.out, C11.out⟩) (fun hN => ?_)
  clear hK K hH hb
  have hH := hN
  clear hN
  try simp only [Act.put, List.setIfInBounds_toArray, List.set_cons_zero, List.set_cons_succ]
  refine wpAnyH_ready (rs := [5]) (by kernel_rfl) (by simp) ?_
  refine AllReadyH.cons (o := _) rfl (fun K hK => ?_) AllReadyH.nil
  go_simp
  refine (ptEqual_k _ (HT.out.below H.out.bel) V1.out V2.out HB.out).mono ?_
  rintro e wc ⟨rfl, hb⟩
  replace C9 := Lib.hid ((Below.cell hb (p := ⟨g31, 56, none⟩) (block_lt_of_cell C9.out)).trans C9.out)
  replace C11 := Lib.hid ((Below.cell hb (p := ⟨g36, 56, none⟩) (block_lt_of_cell C11.out)).trans C11.out)
  replace H := Lib.hid (H.out.call hb)
  refine hK.out _ _ (⟨H.out.row 6 rfl, H.out.row 5 rfl, H.out.row 1 rfl, C9.out, C11.out⟩) (fun hN => ?_)
  clear hK K hH hb
  have hH := hN
  clear hN
  try simp only [Act.put, List.setIfInBounds_toArray, List.set_cons_zero, List.set_cons_succ]
  refine held_value 6 61 (.bool true) rfl rfl (by kernel_rfl) (by kernel_rfl) (by kernel_rfl) rfl hH (fun w hw => by cases b <;> go_simp) ?_
  try simp only [Act.put, List.setIfInBounds_toArray, List.set_cons_zero, List.set_cons_succ]
  refine held_value 7 62 (.bool true) rfl rfl (by kernel_rfl) (by kernel_rfl) (by kernel_rfl) rfl hH (fun w hw => by go_simp) ?_
  try simp only [Act.put, List.setIfInBounds_toArray, List.set_cons_zero, List.set_cons_succ]
  refine held_value 8 63 (.slice (some ⟨g31, 0, none⟩) 57 c31) rfl rfl (by kernel_rfl) (by kernel_rfl) (by kernel_rfl) rfl hH (fun w hw => by go_simp) ?_
  try simp only [Act.put, List.setIfInBounds_toArray, List.set_cons_zero, List.set_cons_succ]
  refine held_value 9 64 (.slice (some ⟨g31, 0, none⟩) 56 c31) rfl rfl (by kernel_rfl) (by kernel_rfl) (by kernel_rfl) rfl hH (fun w hw => by have h1 : (56 : Int) ≤ (c31 : Int) := Int.ofNat_le.2 (Nat.le_of_succ_le L31.out); go_simp) ?_
  try simp only [Act.put, List.setIfInBounds_toArray, List.set_cons_zero, List.set_cons_succ]
  refine held_value 10 65 (.slice (some ⟨g36, 0, none⟩) 57 c36) rfl rfl (by kernel_rfl) (by kernel_rfl) (by kernel_rfl) rfl hH (fun w hw => by go_simp) ?_
  try simp only [Act.put, List.setIfInBounds_toArray, List.set_cons_zero, List.set_cons_succ]
  refine held_value 11 66 (.slice (some ⟨g36, 0, none⟩) 56 c36) rfl rfl (by kernel_rfl) (by kernel_rfl) (by kernel_rfl) rfl hH (fun w hw => by have h1 : (56 : Int) ≤ (c36 : Int) := Int.ofNat_le.2 (Nat.le_of_succ_le L36.out); go_simp) ?_
  try simp only [Act.put, List.setIfInBounds_toArray, List.set_cons_zero, List.set_cons_succ]
  refine wpAnyH_ready (rs := [12]) (by kernel_rfl) (by simp) ?_
  refine AllReadyH.cons (o := _) rfl (fun K hK => ?_) AllReadyH.nil
  go_simp
  refine (cmp_dec _ _ _ _ _ _ _ _ (by omega) (code_half (H.out.row 4 rfl) L31.out) (code_half (H.out.row 2 rfl) L36.out) (cdN_half P1)).mono ?_
  rintro e wc ⟨rfl, hb⟩
  replace C9 := Lib.hid ((Below.cell hb (p := ⟨g31, 56, none⟩) (block_lt_of_cell C9.out)).trans C9.out)
  replace C11 := Lib.hid ((Below.cell hb (p := ⟨g36, 56, none⟩) (block_lt_of_cell C11.out)).trans C11.out)
  replace H := Lib.hid (H.out.call hb)
  refine hK.out _ _ (⟨H.out.row 6 rfl, H.out.row 5 rfl, H.out.row 1 rfl, C9.out, C11.out⟩) (fun hN => ?_)
  clear hK K hH hb
  have hH := hN
  clear hN
  try simp only [Act.put, List.setIfInBounds_toArray, List.set_cons_zero, List.set_cons_succ]
  refine held_value 13 68 (.bool true) rfl rfl (by kernel_rfl) (by kernel_rfl) (by kernel_rfl) rfl hH (fun w hw => by go_simp) ?_
  try simp only [Act.put, List.setIfInBounds_toArray, List.set_cons_zero, List.set_cons_succ]
  refine held_value 14 69 (.bool true) rfl rfl (by kernel_rfl) (by kernel_rfl) (by kernel_rfl) rfl hH (fun w hw => by go_simp) ?_
  try simp only [Act.put, List.setIfInBounds_toArray, List.set_cons_zero, List.set_cons_succ]
  refine held_value 15 70 (.slice (some ⟨g31, 0, none⟩) 57 c31) rfl rfl (by kernel_rfl) (by kernel_rfl) (by kernel_rfl) rfl hH (fun w hw => by go_simp) ?_
  try simp only [Act.put, List.setIfInBounds_toArray, List.set_cons_zero, List.set_cons_succ]
  refine held_value 16 71 (.pointer (some ⟨g31, 56, none⟩)) rfl rfl (by kernel_rfl) (by kernel_rfl) (by kernel_rfl) rfl hH (fun w hw => by go_simp) ?_
  try simp only [Act.put, List.setIfInBounds_toArray, List.set_cons_zero, List.set_cons_succ]
  refine held_value 17 72 (U (sg P1.x)) rfl rfl (by kernel_rfl) (by kernel_rfl) (by kernel_rfl) rfl hH (fun w hw => by have hc := hw.2.2.2.1; go_simp) ?_
  try simp only [Act.put, List.setIfInBounds_toArray, List.set_cons_zero, List.set_cons_succ]
  refine held_value 18 73 (.slice (some ⟨g36, 0, none⟩) 57 c36) rfl rfl (by kernel_rfl) (by kernel_rfl) (by kernel_rfl) rfl hH (fun w hw => by go_simp) ?_
  try simp only [Act.put, List.setIfInBounds_toArray, List.set_cons_zero, List.set_cons_succ]
  refine held_value 19 74 (.pointer (some ⟨g36, 56, none⟩)) rfl rfl (by kernel_rfl) (by kernel_rfl) (by kernel_rfl) rfl hH (fun w hw => by go_simp) ?_
  try simp only [Act.put, List.setIfInBounds_toArray, List.set_cons_zero, List.set_cons_succ]
  refine held_value 20 75 (U (sg (-P1.x))) rfl rfl (by kernel_rfl) (by kernel_rfl) (by kernel_rfl) rfl hH (fun w hw => by have hc := hw.2.2.2.2; go_simp) ?_
  try simp only [Act.put, List.setIfInBounds_toArray, List.set_cons_zero, List.set_cons_succ]
  refine held_value 21 76 (.bool z) rfl rfl (by kernel_rfl) (by kernel_rfl) (by kernel_rfl) rfl hH (fun w hw => by rw [← HE.out]; go_simp) ?_
  try simp only [Act.put, List.setIfInBounds_toArray, List.set_cons_zero, List.set_cons_succ]
  refine held_row 22 77 rowE rfl rfl (by kernel_rfl) (by kernel_rfl) (by kernel_rfl) rfl hH rfl rfl (fun _ h => h.2.2.1) ?_
  try simp only [Act.put, List.setIfInBounds_toArray, List.set_cons_zero, List.set_cons_succ]
  refine wpAnyH_ready (rs := [23]) (by kernel_rfl) (by simp) ?_
  refine AllReadyH.cons (o := _) rfl (fun K hK => ?_) AllReadyH.nil
  go_simp
  refine (zero_kd _ A1.out HZ.out).mono ?_
  rintro e wc ⟨rfl, hb⟩
  replace C9 := Lib.hid ((Below.cell hb (p := ⟨g31, 56, none⟩) (block_lt_of_cell C9.out)).trans C9.out)
  replace C11 := Lib.hid ((Below.cell hb (p := ⟨g36, 56, none⟩) (block_lt_of_cell C11.out)).trans C11.out)
  replace H := Lib.hid (H.out.call hb)
  refine hK.out _ _ (⟨H.out.row 6 rfl, H.out.row 5 rfl, H.out.row 1 rfl, C9.out, C11.out⟩) (fun hN => ?_)
  clear hK K hH hb
  have hH := hN
  clear hN
  try simp only [Act.put, List.setIfInBounds_toArray, List.set_cons_zero, List.set_cons_succ]
  refine held_value 24 79 (.bool true) rfl rfl (by kernel_rfl) (by kernel_rfl) (by kernel_rfl) rfl hH (fun w hw => by cases z <;> go_simp) ?_
  try simp only [Act.put, List.setIfInBounds_toArray, List.set_cons_zero, List.set_cons_succ]
  refine held_value 25 80 (.bool true) rfl rfl (by kernel_rfl) (by kernel_rfl) (by kernel_rfl) rfl hH (fun w hw => by go_simp) ?_
  try simp only [Act.put, List.setIfInBounds_toArray, List.set_cons_zero, List.set_cons_succ]
  refine held_value 26 81 (.bool true) rfl rfl (by kernel_rfl) (by kernel_rfl) (by kernel_rfl) rfl hH (fun w hw => by go_simp) ?_
  try simp only [Act.put, List.setIfInBounds_toArray, List.set_cons_zero, List.set_cons_succ]
  refine wpAnyH_ready (rs := [27]) (by kernel_rfl) (by simp) ?_
  refine AllReadyH.cons (o := _) rfl (fun K hK => ?_) AllReadyH.nil
  go_simp
  refine (awake9_k _ (HT.out.below H.out.bel)).mono ?_
  rintro e wc ⟨rfl, hb⟩
  replace C9 := Lib.hid ((Below.cell hb (p := ⟨g31, 56, none⟩) (block_lt_of_cell C9.out)).trans C9.out)
  replace C11 := Lib.hid ((Below.cell hb (p := ⟨g36, 56, none⟩) (block_lt_of_cell C11.out)).trans C11.out)
  replace H := Lib.hid (H.out.call hb)
  refine hK.out _ _ (⟨H.out.row 6 rfl, H.out.row 5 rfl, H.out.row 1 rfl, C9.out, C11.out⟩) (fun hN => ?_)
  clear hK K hH hb
  have hH := hN
  clear hN
  try simp only [Act.put, List.setIfInBounds_toArray, List.set_cons_zero, List.set_cons_succ]
  refine held_value 28 83 (.bool true) rfl rfl (by kernel_rfl) (by kernel_rfl) (by kernel_rfl) rfl hH (fun w hw => by go_simp) ?_
  try simp only [Act.put, List.setIfInBounds_toArray, List.set_cons_zero, List.set_cons_succ]
  refine held_value 29 4 (.bool true) rfl rfl (by kernel_rfl) (by kernel_rfl) (by kernel_rfl) rfl hH (fun w hw => by go_simp) ?_
  try simp only [Act.put, List.setIfInBounds_toArray, List.set_cons_zero, List.set_cons_succ]
  try simp only [Act.put]
  refine wpAnyH_done (by kernel_rfl) ?_ _
  refine NoPanic.normal ?_
  clear hH
  go_wp2_with fail
  go_ret
  exact ⟨rfl, H.out.bel⟩
end Go.Proofs.YtanfobboeehiaaaDoor
