/-
  The walk of ScalarLong. No statement is proved here: lemmas for the walks.
-/
import Derived.Test.YtocjncflgbnglaaDoorZScLongM
namespace Go.Proofs.YtocjncflgbnglaaDoor
open Go.RowKit

set_option maxRecDepth 20000 in
set_option maxHeartbeats 12800000 in
theorem long_near (a : Option Addr) (n c v m : Nat) (p q : Int) (w : World) (hT : Tl true w) (hn : n ≤ 128) (hm : m ≤ n) (hp1 : -1073741824 ≤ p) (hp2 : p ≤ 1073741824) (hq1 : -1073741824 ≤ q) (hq2 : q ≤ 1073741824) (hs : Sb w w.heap.size a n c v) : Calls Tryd.prog 9 #[.slice a n c, .int .i64 (m : Int), PV p q] w fun e w' => e = .returned (.bool true) ∧ Below w.heap.size w w' := by
  obtain ⟨k, hk⟩ : ∃ k, ofL (v : Int) = k := ⟨_, rfl⟩
  obtain ⟨kl, hkl⟩ : ∃ k, ofL ((v % 2 ^ (8 * m) : Nat) : Int) = k := ⟨_, rfl⟩
  obtain ⟨kh, hkh⟩ : ∃ k, ofL ((v / 2 ^ (8 * m) : Nat) : Int) = k := ⟨_, rfl⟩
  have he := long_sum v m
  rw [hk, hkl, hkh] at he
  have HE := Lib.hid he
  have HK : Hid (k.val = v % lN) := Lib.hid (by rw [← hk, ofL_nat])
  have HKL : Hid (kl.val = (v % 2 ^ (8 * m)) % lN) := Lib.hid (by rw [← hkl, ofL_nat])
  have HKH : Hid (kh.val = (v / 2 ^ (8 * m)) % lN) := Lib.hid (by rw [← hkh, ofL_nat])
  obtain ⟨e, hee⟩ : ∃ e, decide (p = q) = e := ⟨_, rfl⟩
  have HPQ : Hid ((p == q) = e) := Lib.hid (by rw [← hee]; rfl)
  have HEQ : Hid (decide (ofL p = ofL q) = e) := Lib.hid (by
    rw [← hee]
    exact decide_eq_decide.2 ⟨ofL_inj hp1 hp2 hq1 hq2, fun h => by rw [h]⟩)
  have hpr := prod_small hp1 hp2 hq1 hq2
  have IP1 : Hid (-9223372036854775808 ≤ p) := Lib.hid (by omega)
  have IP2 : Hid (p ≤ 9223372036854775807) := Lib.hid (by omega)
  have IQ1 : Hid (-9223372036854775808 ≤ q) := Lib.hid (by omega)
  have IQ2 : Hid (q ≤ 9223372036854775807) := Lib.hid (by omega)
  have IS1 : Hid (-9223372036854775808 ≤ p + q) := Lib.hid (by omega)
  have IS2 : Hid (p + q ≤ 9223372036854775807) := Lib.hid (by omega)
  have IM1 : Hid (-9223372036854775808 ≤ p * q) := Lib.hid (by omega)
  have IM2 : Hid (p * q ≤ 9223372036854775807) := Lib.hid (by omega)
  have d1 : decide ((128 : Int) < (n : Int)) = false := by simp; omega
  have d2 : decide ((m : Int) < 0) = false := by simp
  have d3 : decide (n < m) = false := by simp; omega
  have d4 : decide (p < -1073741824) = false := by simp; omega
  have d5 : decide (1073741824 < p) = false := by simp; omega
  have d6 : decide (q < -1073741824) = false := by simp; omega
  have d7 : decide (1073741824 < q) = false := by simp; omega
  have hc := hs.sl.le
  have hmc : (m : Int) ≤ (c : Int) := by omega
  have m0 : (0 : Int) ≤ (m : Int) := by omega
  have HM := Lib.hid hm
  have HS := Lib.hid hs
  clear hs he hk hkl hkh hee hpr hp1 hp2 hq1 hq2 hc
  have HT := Lib.hid hT
  clear hT
  have H := Lib.hid (Ow.start w)
  go_enter Tryd.func9, Tryd.ntmps9
  go_wp2_with (first
    | ((fail_if_success have := g5); (with_reducible apply own_box H); (case hgd => exact rfl); (case ho => exact rfl); (case hx => exact rfl); intro w5 g5 H' _ _; replace H := H'; clear H'; go_simp)
    | ((with_reducible apply own_getg (j := 0) oneI6 H); (case hw => exact rfl); (case ho => exact rfl); (case hx => exact rfl); (case hi => exact at0); (case hj => omega); intro _ _; rw [two_0]; go_simp)
    | ((with_reducible apply own_getg (j := 1) oneI6 H); (case hw => exact rfl); (case ho => exact rfl); (case hx => exact rfl); (case hi => exact at0); (case hj => omega); intro _ _; rw [two_1]; go_simp)
    | ((with_reducible refine (reduce_kk a n c v _ HK.out (HT.out.below H.out.bel) (by omega) (HS.out.call H.out.bel)).mono ?_); rintro e wc ⟨rfl, hb⟩; replace H := Lib.hid (H.out.call hb); clear hb)
    | ((fail_if_success have := g7); (with_reducible apply own_alloc nilSc H); (case hgd => exact rfl); (case ho => exact rfl); intro w7 g7 H' _ _; replace H := H'; clear H'; go_simp)
    | ((with_reducible apply own_store rowSc H); (case hgd => exact rfl); (case ho => exact rfl); (case hx => exact rfl); (case hy => exact rfl); (case hi => first | exact at0 | exact at1 | exact at2 | exact at3 | exact at4 | exact at5 | exact at6 | exact at7 | exact at8 | exact at9); intro ws H' _ _; replace H := H'; clear H'; simp only [List.set_cons_zero] at H; go_simp)
    | ((with_reducible refine (reduce_kk a m c (v % 2 ^ (8 * m)) _ HKL.out (HT.out.below H.out.bel) (by omega) (sb_low (HS.out.call H.out.bel) HM.out)).mono ?_); rintro e wc ⟨rfl, hb⟩; replace H := Lib.hid (H.out.call hb); clear hb)
    | ((fail_if_success have := g9); (with_reducible apply own_alloc nilSc H); (case hgd => exact rfl); (case ho => exact rfl); intro w9 g9 H' _ _; replace H := H'; clear H'; go_simp)
    | ((with_reducible apply lay_high (m := m)); (case hgd => exact rfl); (case ho => exact rfl); (case hx => exact rfl); (case hy => exact rfl); (case hm => exact HM.out); intro ah HA _ _; go_simp)
    | ((with_reducible refine (reduce_kk ah (n - m) (c - m) (v / 2 ^ (8 * m)) _ HKH.out (HT.out.below H.out.bel) (by omega) (HA.out _ _ _ (HS.out.call H.out.bel))).mono ?_); rintro e wc ⟨rfl, hb⟩; replace H := Lib.hid (H.out.call hb); clear hb)
    | ((fail_if_success have := g11); (with_reducible apply own_alloc nilSc H); (case hgd => exact rfl); (case ho => exact rfl); intro w11 g11 H' _ _; replace H := H'; clear H'; go_simp))
  clear HA
  go_loopw [13] (fun v13 wr => ∃ i : Nat, i ≤ m ∧ v13 = .int .i64 i ∧ Ow w wr [(g11, WB 27 7 (wd (mulUp kh i).val)), (g9, WB 27 7 (wd (kl).val)), (g7, WB 27 7 (wd (k).val)), (g5, Blk 57 .i64 2 (two p q))]) (fun v13 _ => m - (intOf v13).toNat)
  case atStart => exact ⟨0, by omega, rfl, H.out⟩
  case round =>
    clear H
    obtain ⟨i, hi, rfl, HR⟩ := hrel
    have H := Lib.hid HR
    clear HR
    by_cases hlt : i < m
    · have hid : decide ((i : Int) < (m : Int)) = true := by simp; omega
      go_wp2_with fail
      refine wp_region_noPanic ?_
      refine wp_region_held_drew (S := fun W => True) (by kernel_rfl) (trivial) (fun hH => ?_)
      replace H := Lib.hid H.out.drew
      generalize World.drew _ = w8 at *
      refine wpAnyH_ready (rs := [0, 1]) (by kernel_rfl) (by simp) ?_
      refine AllReadyH.cons (o := _) rfl (fun K hK => ?_) (AllReadyH.cons (o := _) rfl (fun K hK => ?_) AllReadyH.nil)
      · skip
        refine own_wp_load 74 rfl 0 rowSc H.out rfl rfl rfl ?_
        refine hK.out _ _ hH (fun hN => ?_)
        clear hK K hH
        have hH := hN
        clear hN
        try simp only [Act.put, List.setIfInBounds_toArray, List.set_cons_zero, List.set_cons_succ]
        refine wpAnyH_ready (rs := [1]) (by kernel_rfl) (by simp) ?_
        refine AllReadyH.cons (o := _) rfl (fun K hK => ?_) AllReadyH.nil
        go_simp
        refine (int_s 256 _ (HT.out.below H.out.bel) (by omega) (by omega)).mono ?_
        rintro e wc ⟨rfl, hb⟩
        replace H := Lib.hid (H.out.call hb)
        refine hK.out _ _ (trivial) (fun hN => ?_)
        clear hK K hH hb
        have hH := hN
        clear hN
        try simp only [Act.put, List.setIfInBounds_toArray, List.set_cons_zero, List.set_cons_succ]
        refine wpAnyH_ready (rs := [2]) (by kernel_rfl) (by simp) ?_
        refine AllReadyH.cons (o := _) rfl (fun K hK => ?_) AllReadyH.nil
        go_simp
        refine (mul_s ((mulUp kh i)) ((ofL 256)) _ (HT.out.below H.out.bel)).mono ?_
        rintro e wc ⟨rfl, hb⟩
        replace H := Lib.hid (H.out.call hb)
        refine hK.out _ _ (trivial) (fun hN => ?_)
        clear hK K hH hb
        have hH := hN
        clear hN
        try simp only [Act.put, List.setIfInBounds_toArray, List.set_cons_zero, List.set_cons_succ]
        refine wpAnyH_ready (rs := [3]) (by kernel_rfl) (by simp) ?_
        refine AllReadyH.cons (o := _) rfl (fun K hK => ?_) AllReadyH.nil
        refine own_wp_store 0 rowSc H.out rfl rfl rfl rfl ?_
        intro ws HS
        simp only [List.set_cons_zero] at HS
        replace H := Lib.hid HS
        refine hK.out _ _ (trivial) (fun hN => ?_)
        clear hK K HS hH
        have hH := hN
        clear hN
        try simp only [Act.put, List.setIfInBounds_toArray]
        try simp only [Act.put]
        refine wpAnyH_done (by kernel_rfl) ?_ _
        refine NoPanic.normal ?_
        clear hH
        rw [show mulUp kh i * ofL 256 = mulUp kh (i + 1) from rfl] at H
        go_wp2_with fail
        go_roundw
        case rel => exact ⟨i + 1, by omega, by go_num, H.out⟩
        case measure => simp [intOf]; omega
      · skip
        go_simp
        refine (int_s 256 _ (HT.out.below H.out.bel) (by omega) (by omega)).mono ?_
        rintro e wc ⟨rfl, hb⟩
        replace H := Lib.hid (H.out.call hb)
        refine hK.out _ _ (trivial) (fun hN => ?_)
        clear hK K hH hb
        have hH := hN
        clear hN
        try simp only [Act.put, List.setIfInBounds_toArray, List.set_cons_zero, List.set_cons_succ]
        refine wpAnyH_ready (rs := [0]) (by kernel_rfl) (by simp) ?_
        refine AllReadyH.cons (o := _) rfl (fun K hK => ?_) AllReadyH.nil
        refine own_wp_load 74 rfl 0 rowSc H.out rfl rfl rfl ?_
        refine hK.out _ _ hH (fun hN => ?_)
        clear hK K hH
        have hH := hN
        clear hN
        try simp only [Act.put, List.setIfInBounds_toArray, List.set_cons_zero, List.set_cons_succ]
        refine wpAnyH_ready (rs := [2]) (by kernel_rfl) (by simp) ?_
        refine AllReadyH.cons (o := _) rfl (fun K hK => ?_) AllReadyH.nil
        go_simp
        refine (mul_s ((mulUp kh i)) ((ofL 256)) _ (HT.out.below H.out.bel)).mono ?_
        rintro e wc ⟨rfl, hb⟩
        replace H := Lib.hid (H.out.call hb)
        refine hK.out _ _ (trivial) (fun hN => ?_)
        clear hK K hH hb
        have hH := hN
        clear hN
        try simp only [Act.put, List.setIfInBounds_toArray, List.set_cons_zero, List.set_cons_succ]
        refine wpAnyH_ready (rs := [3]) (by kernel_rfl) (by simp) ?_
        refine AllReadyH.cons (o := _) rfl (fun K hK => ?_) AllReadyH.nil
        refine own_wp_store 0 rowSc H.out rfl rfl rfl rfl ?_
        intro ws HS
        simp only [List.set_cons_zero] at HS
        replace H := Lib.hid HS
        refine hK.out _ _ (trivial) (fun hN => ?_)
        clear hK K HS hH
        have hH := hN
        clear hN
        try simp only [Act.put, List.setIfInBounds_toArray]
        try simp only [Act.put]
        refine wpAnyH_done (by kernel_rfl) ?_ _
        refine NoPanic.normal ?_
        clear hH
        rw [show mulUp kh i * ofL 256 = mulUp kh (i + 1) from rfl] at H
        go_wp2_with fail
        go_roundw
        case rel => exact ⟨i + 1, by omega, by go_num, H.out⟩
        case measure => simp [intOf]; omega
    · obtain rfl : i = m := by omega
      have hid : decide ((i : Int) < (i : Int)) = false := by simp
      have hid' : decide (i < i) = false := by simp
      go_wp2_with (first
        | ((with_reducible apply own_get (j := 0) oneI6 H); (case hgd => exact rfl); (case ho => exact rfl); (case hx => exact rfl); (case hi => first | exact at0 | exact at1 | exact at2 | exact at3 | exact at4 | exact at5 | exact at6 | exact at7 | exact at8 | exact at9); (case hj => omega); intro _ _; rw [two_0]; go_simp)
        | ((with_reducible apply own_get (j := 1) oneI6 H); (case hgd => exact rfl); (case ho => exact rfl); (case hx => exact rfl); (case hi => first | exact at0 | exact at1 | exact at2 | exact at3 | exact at4 | exact at5 | exact at6 | exact at7 | exact at8 | exact at9); (case hj => omega); intro _ _; rw [two_1]; go_simp)
        | ((with_reducible refine (int_s p _ (HT.out.below H.out.bel) IP1.out IP2.out).mono ?_); rintro e wc ⟨rfl, hb⟩; replace H := Lib.hid (H.out.call hb); clear hb)
        | ((fail_if_success have := g14); (with_reducible apply own_alloc nilSc H); (case hgd => exact rfl); (case ho => exact rfl); intro w14 g14 H' _ _; replace H := H'; clear H'; go_simp)
        | ((with_reducible refine (int_s q _ (HT.out.below H.out.bel) IQ1.out IQ2.out).mono ?_); rintro e wc ⟨rfl, hb⟩; replace H := Lib.hid (H.out.call hb); clear hb)
        | ((fail_if_success have := g15); (with_reducible apply own_alloc nilSc H); (case hgd => exact rfl); (case ho => exact rfl); intro w15 g15 H' _ _; replace H := H'; clear H'; go_simp)
        | ((with_reducible apply own_store rowSc H); (case hgd => exact rfl); (case ho => exact rfl); (case hx => exact rfl); (case hy => exact rfl); (case hi => first | exact at0 | exact at1 | exact at2 | exact at3 | exact at4 | exact at5 | exact at6 | exact at7 | exact at8 | exact at9); intro ws H' _ _; replace H := H'; clear H'; simp only [List.set_cons_zero] at H; go_simp))
      have HC0 : Hid (World.cell? _ ⟨g5, 0, none⟩ = some (.int .i64 p)) := Lib.hid (H.out.cell 5 rfl 0 (by omega))
      have HC1 : Hid (World.cell? _ ⟨g5, 1, none⟩ = some (.int .i64 q)) := Lib.hid (H.out.cell 5 rfl 1 (by omega))
      refine wp_region_noPanic ?_
      refine wp_region_held_drew (S := fun W => W.heap[g14]? = some (WB 27 7 (wd ((ofL p)).val)) ∧ W.heap[g15]? = some (WB 27 7 (wd ((ofL q)).val)) ∧ W.cell? ⟨g5, 0, none⟩ = some (.int .i64 p) ∧ W.cell? ⟨g5, 1, none⟩ = some (.int .i64 q)) (by kernel_rfl) (⟨H.out.drew.row 1 rfl, H.out.drew.row 0 rfl, HC0.out, HC1.out⟩) (fun hH => ?_)
      replace H := Lib.hid H.out.drew
      replace HC0 := Lib.hid (show (World.drew _).cell? _ = _ from HC0.out)
      replace HC1 := Lib.hid (show (World.drew _).cell? _ = _ from HC1.out)
      generalize World.drew _ = w8 at *
      refine held_row 0 83 rowSc rfl rfl (by kernel_rfl) (by kernel_rfl) (by kernel_rfl) rfl hH rfl rfl (fun _ h => h.1) ?_
      try simp only [Act.put, List.setIfInBounds_toArray, List.set_cons_zero, List.set_cons_succ]
      refine held_row 1 84 rowSc rfl rfl (by kernel_rfl) (by kernel_rfl) (by kernel_rfl) rfl hH rfl rfl (fun _ h => h.2.1) ?_
      try simp only [Act.put, List.setIfInBounds_toArray, List.set_cons_zero, List.set_cons_succ]
      refine held_value 3 86 (.pointer (some ⟨g5, 0, none⟩)) rfl rfl (by kernel_rfl) (by kernel_rfl) (by kernel_rfl) rfl hH (fun w hw => by go_simp) ?_
      try simp only [Act.put, List.setIfInBounds_toArray, List.set_cons_zero, List.set_cons_succ]
      refine held_value 4 87 (.int .i64 p) rfl rfl (by kernel_rfl) (by kernel_rfl) (by kernel_rfl) rfl hH (fun w hw => by have hc := hw.2.2.1; go_simp) ?_
      try simp only [Act.put, List.setIfInBounds_toArray, List.set_cons_zero, List.set_cons_succ]
      refine held_value 5 88 (.pointer (some ⟨g5, 1, none⟩)) rfl rfl (by kernel_rfl) (by kernel_rfl) (by kernel_rfl) rfl hH (fun w hw => by go_simp) ?_
      try simp only [Act.put, List.setIfInBounds_toArray, List.set_cons_zero, List.set_cons_succ]
      refine held_value 6 89 (.int .i64 q) rfl rfl (by kernel_rfl) (by kernel_rfl) (by kernel_rfl) rfl hH (fun w hw => by have hc := hw.2.2.2; go_simp) ?_
      try simp only [Act.put, List.setIfInBounds_toArray, List.set_cons_zero, List.set_cons_succ]
      refine held_value 7 90 (.int .i64 (p + q)) rfl rfl (by kernel_rfl) (by kernel_rfl) (by kernel_rfl) rfl hH (fun w hw => by have h := IntWalk.i64_in _ ⟨IS1.out, IS2.out⟩; go_simp) ?_
      try simp only [Act.put, List.setIfInBounds_toArray, List.set_cons_zero, List.set_cons_succ]
      refine wpAnyH_ready (rs := [2]) (by kernel_rfl) (by simp) ?_
      refine AllReadyH.cons (o := _) rfl (fun K hK => ?_) AllReadyH.nil
      go_simp
      refine (add_s ((ofL p)) ((ofL q)) _ (HT.out.below H.out.bel)).mono ?_
      rintro e wc ⟨rfl, hb⟩
      replace HC0 := Lib.hid ((Below.cell hb (p := ⟨g5, 0, none⟩) (block_lt_of_cell HC0.out)).trans HC0.out)
      replace HC1 := Lib.hid ((Below.cell hb (p := ⟨g5, 1, none⟩) (block_lt_of_cell HC1.out)).trans HC1.out)
      replace H := Lib.hid (H.out.call hb)
      refine hK.out _ _ (⟨H.out.row 1 rfl, H.out.row 0 rfl, HC0.out, HC1.out⟩) (fun hN => ?_)
      clear hK K hH hb
      have hH := hN
      clear hN
      try simp only [Act.put, List.setIfInBounds_toArray, List.set_cons_zero, List.set_cons_succ]
      refine wpAnyH_ready (rs := [8]) (by kernel_rfl) (by simp) ?_
      refine AllReadyH.cons (o := _) rfl (fun K hK => ?_) AllReadyH.nil
      go_simp
      refine (int_s (p + q) _ (HT.out.below H.out.bel) IS1.out IS2.out).mono ?_
      rintro e wc ⟨rfl, hb⟩
      replace HC0 := Lib.hid ((Below.cell hb (p := ⟨g5, 0, none⟩) (block_lt_of_cell HC0.out)).trans HC0.out)
      replace HC1 := Lib.hid ((Below.cell hb (p := ⟨g5, 1, none⟩) (block_lt_of_cell HC1.out)).trans HC1.out)
      replace H := Lib.hid (H.out.call hb)
      refine hK.out _ _ (⟨H.out.row 1 rfl, H.out.row 0 rfl, HC0.out, HC1.out⟩) (fun hN => ?_)
      clear hK K hH hb
      have hH := hN
      clear hN
      try simp only [Act.put, List.setIfInBounds_toArray, List.set_cons_zero, List.set_cons_succ]
      refine wpAnyH_ready (rs := [9]) (by kernel_rfl) (by simp) ?_
      refine AllReadyH.cons (o := _) rfl (fun K hK => ?_) AllReadyH.nil
      go_simp
      refine (equal_st (x := ((ofL p) + (ofL q))) (y := (ofL (p + q))) _ (HT.out.below H.out.bel) (ofL_add p q).symm).mono ?_
      rintro e wc ⟨rfl, hb⟩
      replace HC0 := Lib.hid ((Below.cell hb (p := ⟨g5, 0, none⟩) (block_lt_of_cell HC0.out)).trans HC0.out)
      replace HC1 := Lib.hid ((Below.cell hb (p := ⟨g5, 1, none⟩) (block_lt_of_cell HC1.out)).trans HC1.out)
      replace H := Lib.hid (H.out.call hb)
      refine hK.out _ _ (⟨H.out.row 1 rfl, H.out.row 0 rfl, HC0.out, HC1.out⟩) (fun hN => ?_)
      clear hK K hH hb
      have hH := hN
      clear hN
      try simp only [Act.put, List.setIfInBounds_toArray, List.set_cons_zero, List.set_cons_succ]
      refine held_value 10 93 (.bool false) rfl rfl (by kernel_rfl) (by kernel_rfl) (by kernel_rfl) rfl hH (fun w hw => by go_simp) ?_
      try simp only [Act.put, List.setIfInBounds_toArray, List.set_cons_zero, List.set_cons_succ]
      refine held_value 11 94 (.bool false) rfl rfl (by kernel_rfl) (by kernel_rfl) (by kernel_rfl) rfl hH (fun w hw => by go_simp) ?_
      try simp only [Act.put, List.setIfInBounds_toArray, List.set_cons_zero, List.set_cons_succ]
      refine held_row 12 95 rowSc rfl rfl (by kernel_rfl) (by kernel_rfl) (by kernel_rfl) rfl hH rfl rfl (fun _ h => h.1) ?_
      try simp only [Act.put, List.setIfInBounds_toArray, List.set_cons_zero, List.set_cons_succ]
      refine held_row 13 96 rowSc rfl rfl (by kernel_rfl) (by kernel_rfl) (by kernel_rfl) rfl hH rfl rfl (fun _ h => h.2.1) ?_
      try simp only [Act.put, List.setIfInBounds_toArray, List.set_cons_zero, List.set_cons_succ]
      refine held_value 15 98 (.pointer (some ⟨g5, 0, none⟩)) rfl rfl (by kernel_rfl) (by kernel_rfl) (by kernel_rfl) rfl hH (fun w hw => by go_simp) ?_
      try simp only [Act.put, List.setIfInBounds_toArray, List.set_cons_zero, List.set_cons_succ]
      refine held_value 16 99 (.int .i64 p) rfl rfl (by kernel_rfl) (by kernel_rfl) (by kernel_rfl) rfl hH (fun w hw => by have hc := hw.2.2.1; go_simp) ?_
      try simp only [Act.put, List.setIfInBounds_toArray, List.set_cons_zero, List.set_cons_succ]
      refine held_value 17 100 (.pointer (some ⟨g5, 1, none⟩)) rfl rfl (by kernel_rfl) (by kernel_rfl) (by kernel_rfl) rfl hH (fun w hw => by go_simp) ?_
      try simp only [Act.put, List.setIfInBounds_toArray, List.set_cons_zero, List.set_cons_succ]
      refine held_value 18 101 (.int .i64 q) rfl rfl (by kernel_rfl) (by kernel_rfl) (by kernel_rfl) rfl hH (fun w hw => by have hc := hw.2.2.2; go_simp) ?_
      try simp only [Act.put, List.setIfInBounds_toArray, List.set_cons_zero, List.set_cons_succ]
      refine held_value 19 102 (.int .i64 (p * q)) rfl rfl (by kernel_rfl) (by kernel_rfl) (by kernel_rfl) rfl hH (fun w hw => by have h := IntWalk.i64_in _ ⟨IM1.out, IM2.out⟩; go_simp) ?_
      try simp only [Act.put, List.setIfInBounds_toArray, List.set_cons_zero, List.set_cons_succ]
      refine wpAnyH_ready (rs := [14]) (by kernel_rfl) (by simp) ?_
      refine AllReadyH.cons (o := _) rfl (fun K hK => ?_) AllReadyH.nil
      go_simp
      refine (mul_s ((ofL p)) ((ofL q)) _ (HT.out.below H.out.bel)).mono ?_
      rintro e wc ⟨rfl, hb⟩
      replace HC0 := Lib.hid ((Below.cell hb (p := ⟨g5, 0, none⟩) (block_lt_of_cell HC0.out)).trans HC0.out)
      replace HC1 := Lib.hid ((Below.cell hb (p := ⟨g5, 1, none⟩) (block_lt_of_cell HC1.out)).trans HC1.out)
      replace H := Lib.hid (H.out.call hb)
      refine hK.out _ _ (⟨H.out.row 1 rfl, H.out.row 0 rfl, HC0.out, HC1.out⟩) (fun hN => ?_)
      clear hK K hH hb
      have hH := hN
      clear hN
      try simp only [Act.put, List.setIfInBounds_toArray, List.set_cons_zero, List.set_cons_succ]
      refine wpAnyH_ready (rs := [20]) (by kernel_rfl) (by simp) ?_
      refine AllReadyH.cons (o := _) rfl (fun K hK => ?_) AllReadyH.nil
      go_simp
      refine (int_s (p * q) _ (HT.out.below H.out.bel) IM1.out IM2.out).mono ?_
      rintro e wc ⟨rfl, hb⟩
      replace HC0 := Lib.hid ((Below.cell hb (p := ⟨g5, 0, none⟩) (block_lt_of_cell HC0.out)).trans HC0.out)
      replace HC1 := Lib.hid ((Below.cell hb (p := ⟨g5, 1, none⟩) (block_lt_of_cell HC1.out)).trans HC1.out)
      replace H := Lib.hid (H.out.call hb)
      refine hK.out _ _ (⟨H.out.row 1 rfl, H.out.row 0 rfl, HC0.out, HC1.out⟩) (fun hN => ?_)
      clear hK K hH hb
      have hH := hN
      clear hN
      try simp only [Act.put, List.setIfInBounds_toArray, List.set_cons_zero, List.set_cons_succ]
      refine wpAnyH_ready (rs := [21]) (by kernel_rfl) (by simp) ?_
      refine AllReadyH.cons (o := _) rfl (fun K hK => ?_) AllReadyH.nil
      go_simp
      refine (equal_st (x := ((ofL p) * (ofL q))) (y := (ofL (p * q))) _ (HT.out.below H.out.bel) (ofL_mul p q).symm).mono ?_
      rintro e wc ⟨rfl, hb⟩
      replace HC0 := Lib.hid ((Below.cell hb (p := ⟨g5, 0, none⟩) (block_lt_of_cell HC0.out)).trans HC0.out)
      replace HC1 := Lib.hid ((Below.cell hb (p := ⟨g5, 1, none⟩) (block_lt_of_cell HC1.out)).trans HC1.out)
      replace H := Lib.hid (H.out.call hb)
      refine hK.out _ _ (⟨H.out.row 1 rfl, H.out.row 0 rfl, HC0.out, HC1.out⟩) (fun hN => ?_)
      clear hK K hH hb
      have hH := hN
      clear hN
      try simp only [Act.put, List.setIfInBounds_toArray, List.set_cons_zero, List.set_cons_succ]
      refine held_value 22 105 (.bool false) rfl rfl (by kernel_rfl) (by kernel_rfl) (by kernel_rfl) rfl hH (fun w hw => by go_simp) ?_
      try simp only [Act.put, List.setIfInBounds_toArray, List.set_cons_zero, List.set_cons_succ]
      refine held_value 23 106 (.bool false) rfl rfl (by kernel_rfl) (by kernel_rfl) (by kernel_rfl) rfl hH (fun w hw => by go_simp) ?_
      try simp only [Act.put, List.setIfInBounds_toArray, List.set_cons_zero, List.set_cons_succ]
      refine held_value 24 107 (.bool false) rfl rfl (by kernel_rfl) (by kernel_rfl) (by kernel_rfl) rfl hH (fun w hw => by go_simp) ?_
      try simp only [Act.put, List.setIfInBounds_toArray, List.set_cons_zero, List.set_cons_succ]
      refine held_row 25 108 rowSc rfl rfl (by kernel_rfl) (by kernel_rfl) (by kernel_rfl) rfl hH rfl rfl (fun _ h => h.1) ?_
      try simp only [Act.put, List.setIfInBounds_toArray, List.set_cons_zero, List.set_cons_succ]
      refine held_row 26 109 rowSc rfl rfl (by kernel_rfl) (by kernel_rfl) (by kernel_rfl) rfl hH rfl rfl (fun _ h => h.2.1) ?_
      try simp only [Act.put, List.setIfInBounds_toArray, List.set_cons_zero, List.set_cons_succ]
      refine held_value 28 111 (.pointer (some ⟨g5, 0, none⟩)) rfl rfl (by kernel_rfl) (by kernel_rfl) (by kernel_rfl) rfl hH (fun w hw => by go_simp) ?_
      try simp only [Act.put, List.setIfInBounds_toArray, List.set_cons_zero, List.set_cons_succ]
      refine held_value 29 112 (.int .i64 p) rfl rfl (by kernel_rfl) (by kernel_rfl) (by kernel_rfl) rfl hH (fun w hw => by have hc := hw.2.2.1; go_simp) ?_
      try simp only [Act.put, List.setIfInBounds_toArray, List.set_cons_zero, List.set_cons_succ]
      refine held_value 30 113 (.pointer (some ⟨g5, 1, none⟩)) rfl rfl (by kernel_rfl) (by kernel_rfl) (by kernel_rfl) rfl hH (fun w hw => by go_simp) ?_
      try simp only [Act.put, List.setIfInBounds_toArray, List.set_cons_zero, List.set_cons_succ]
      refine held_value 31 114 (.int .i64 q) rfl rfl (by kernel_rfl) (by kernel_rfl) (by kernel_rfl) rfl hH (fun w hw => by have hc := hw.2.2.2; go_simp) ?_
      try simp only [Act.put, List.setIfInBounds_toArray, List.set_cons_zero, List.set_cons_succ]
      refine held_value 32 115 (.bool e) rfl rfl (by kernel_rfl) (by kernel_rfl) (by kernel_rfl) rfl hH (fun w hw => by have h := HPQ.out; go_simp) ?_
      try simp only [Act.put, List.setIfInBounds_toArray, List.set_cons_zero, List.set_cons_succ]
      refine wpAnyH_ready (rs := [27]) (by kernel_rfl) (by simp) ?_
      refine AllReadyH.cons (o := _) rfl (fun K hK => ?_) AllReadyH.nil
      go_simp
      refine (equal_e (x := (ofL p)) (y := (ofL q)) _ (HT.out.below H.out.bel) HEQ.out).mono ?_
      rintro e wc ⟨rfl, hb⟩
      replace HC0 := Lib.hid ((Below.cell hb (p := ⟨g5, 0, none⟩) (block_lt_of_cell HC0.out)).trans HC0.out)
      replace HC1 := Lib.hid ((Below.cell hb (p := ⟨g5, 1, none⟩) (block_lt_of_cell HC1.out)).trans HC1.out)
      replace H := Lib.hid (H.out.call hb)
      refine hK.out _ _ (⟨H.out.row 1 rfl, H.out.row 0 rfl, HC0.out, HC1.out⟩) (fun hN => ?_)
      clear hK K hH hb
      have hH := hN
      clear hN
      try simp only [Act.put, List.setIfInBounds_toArray, List.set_cons_zero, List.set_cons_succ]
      refine held_value 33 116 (.bool false) rfl rfl (by kernel_rfl) (by kernel_rfl) (by kernel_rfl) rfl hH (fun w hw => by go_simp) ?_
      try simp only [Act.put, List.setIfInBounds_toArray, List.set_cons_zero, List.set_cons_succ]
      refine held_value 34 117 (.bool false) rfl rfl (by kernel_rfl) (by kernel_rfl) (by kernel_rfl) rfl hH (fun w hw => by go_simp) ?_
      try simp only [Act.put, List.setIfInBounds_toArray, List.set_cons_zero, List.set_cons_succ]
      try simp only [Act.put]
      refine wpAnyH_done (by kernel_rfl) ?_ _
      refine NoPanic.normal ?_
      clear hH
      go_wp2_with (first
        | fail)
      refine wp_region_noPanic ?_
      refine wp_region_held_drew (S := fun W => W.heap[g7]? = some (WB 27 7 (wd (k).val)) ∧ W.heap[g9]? = some (WB 27 7 (wd (kl).val)) ∧ W.heap[g11]? = some (WB 27 7 (wd ((mulUp kh i)).val))) (by kernel_rfl) (⟨H.out.drew.row 4 rfl, H.out.drew.row 3 rfl, H.out.drew.row 2 rfl⟩) (fun hH => ?_)
      replace H := Lib.hid H.out.drew
      generalize World.drew _ = w8 at *
      refine held_value 0 118 (.int .i64 0) rfl rfl (by kernel_rfl) (by kernel_rfl) (by kernel_rfl) rfl hH (fun w hw => by go_simp) ?_
      try simp only [Act.put, List.setIfInBounds_toArray, List.set_cons_zero, List.set_cons_succ]
      refine held_value 1 119 (.bool true) rfl rfl (by kernel_rfl) (by kernel_rfl) (by kernel_rfl) rfl hH (fun w hw => by go_simp) ?_
      try simp only [Act.put, List.setIfInBounds_toArray, List.set_cons_zero, List.set_cons_succ]
      refine held_value 2 120 (.bool true) rfl rfl (by kernel_rfl) (by kernel_rfl) (by kernel_rfl) rfl hH (fun w hw => by go_simp) ?_
      try simp only [Act.put, List.setIfInBounds_toArray, List.set_cons_zero, List.set_cons_succ]
      refine held_value 3 121 (.int .i64 0) rfl rfl (by kernel_rfl) (by kernel_rfl) (by kernel_rfl) rfl hH (fun w hw => by go_simp) ?_
      try simp only [Act.put, List.setIfInBounds_toArray, List.set_cons_zero, List.set_cons_succ]
      refine held_value 4 122 (.bool true) rfl rfl (by kernel_rfl) (by kernel_rfl) (by kernel_rfl) rfl hH (fun w hw => by go_simp) ?_
      try simp only [Act.put, List.setIfInBounds_toArray, List.set_cons_zero, List.set_cons_succ]
      refine held_value 5 123 (.bool true) rfl rfl (by kernel_rfl) (by kernel_rfl) (by kernel_rfl) rfl hH (fun w hw => by go_simp) ?_
      try simp only [Act.put, List.setIfInBounds_toArray, List.set_cons_zero, List.set_cons_succ]
      refine held_value 6 124 (.bool true) rfl rfl (by kernel_rfl) (by kernel_rfl) (by kernel_rfl) rfl hH (fun w hw => by go_simp) ?_
      try simp only [Act.put, List.setIfInBounds_toArray, List.set_cons_zero, List.set_cons_succ]
      refine held_value 7 125 (.int .i64 0) rfl rfl (by kernel_rfl) (by kernel_rfl) (by kernel_rfl) rfl hH (fun w hw => by go_simp) ?_
      try simp only [Act.put, List.setIfInBounds_toArray, List.set_cons_zero, List.set_cons_succ]
      refine held_value 8 126 (.bool true) rfl rfl (by kernel_rfl) (by kernel_rfl) (by kernel_rfl) rfl hH (fun w hw => by go_simp) ?_
      try simp only [Act.put, List.setIfInBounds_toArray, List.set_cons_zero, List.set_cons_succ]
      refine held_value 9 127 (.bool true) rfl rfl (by kernel_rfl) (by kernel_rfl) (by kernel_rfl) rfl hH (fun w hw => by go_simp) ?_
      try simp only [Act.put, List.setIfInBounds_toArray, List.set_cons_zero, List.set_cons_succ]
      refine held_value 10 128 (.bool true) rfl rfl (by kernel_rfl) (by kernel_rfl) (by kernel_rfl) rfl hH (fun w hw => by go_simp) ?_
      try simp only [Act.put, List.setIfInBounds_toArray, List.set_cons_zero, List.set_cons_succ]
      refine held_row 11 129 rowSc rfl rfl (by kernel_rfl) (by kernel_rfl) (by kernel_rfl) rfl hH rfl rfl (fun _ h => h.1) ?_
      try simp only [Act.put, List.setIfInBounds_toArray, List.set_cons_zero, List.set_cons_succ]
      refine held_row 12 130 rowSc rfl rfl (by kernel_rfl) (by kernel_rfl) (by kernel_rfl) rfl hH rfl rfl (fun _ h => h.2.1) ?_
      try simp only [Act.put, List.setIfInBounds_toArray, List.set_cons_zero, List.set_cons_succ]
      refine held_row 13 131 rowSc rfl rfl (by kernel_rfl) (by kernel_rfl) (by kernel_rfl) rfl hH rfl rfl (fun _ h => h.2.2) ?_
      try simp only [Act.put, List.setIfInBounds_toArray, List.set_cons_zero, List.set_cons_succ]
      refine wpAnyH_ready (rs := [14]) (by kernel_rfl) (by simp) ?_
      refine AllReadyH.cons (o := _) rfl (fun K hK => ?_) AllReadyH.nil
      go_simp
      refine (add_s (kl) ((mulUp kh i)) _ (HT.out.below H.out.bel)).mono ?_
      rintro e wc ⟨rfl, hb⟩
      replace H := Lib.hid (H.out.call hb)
      refine hK.out _ _ (⟨H.out.row 4 rfl, H.out.row 3 rfl, H.out.row 2 rfl⟩) (fun hN => ?_)
      clear hK K hH hb
      have hH := hN
      clear hN
      try simp only [Act.put, List.setIfInBounds_toArray, List.set_cons_zero, List.set_cons_succ]
      refine wpAnyH_ready (rs := [15]) (by kernel_rfl) (by simp) ?_
      refine AllReadyH.cons (o := _) rfl (fun K hK => ?_) AllReadyH.nil
      go_simp
      refine (equal_st (x := k) (y := (kl + (mulUp kh i))) _ (HT.out.below H.out.bel) HE.out).mono ?_
      rintro e wc ⟨rfl, hb⟩
      replace H := Lib.hid (H.out.call hb)
      refine hK.out _ _ (⟨H.out.row 4 rfl, H.out.row 3 rfl, H.out.row 2 rfl⟩) (fun hN => ?_)
      clear hK K hH hb
      have hH := hN
      clear hN
      try simp only [Act.put, List.setIfInBounds_toArray, List.set_cons_zero, List.set_cons_succ]
      refine held_value 16 134 (.bool true) rfl rfl (by kernel_rfl) (by kernel_rfl) (by kernel_rfl) rfl hH (fun w hw => by go_simp) ?_
      try simp only [Act.put, List.setIfInBounds_toArray, List.set_cons_zero, List.set_cons_succ]
      refine held_value 17 135 (.bool true) rfl rfl (by kernel_rfl) (by kernel_rfl) (by kernel_rfl) rfl hH (fun w hw => by go_simp) ?_
      try simp only [Act.put, List.setIfInBounds_toArray, List.set_cons_zero, List.set_cons_succ]
      refine wpAnyH_ready (rs := [18]) (by kernel_rfl) (by simp) ?_
      refine AllReadyH.cons (o := _) rfl (fun K hK => ?_) AllReadyH.nil
      go_simp
      refine (awake6 _ (HT.out.below H.out.bel)).mono ?_
      rintro e wc ⟨rfl, hb⟩
      replace H := Lib.hid (H.out.call hb)
      refine hK.out _ _ (⟨H.out.row 4 rfl, H.out.row 3 rfl, H.out.row 2 rfl⟩) (fun hN => ?_)
      clear hK K hH hb
      have hH := hN
      clear hN
      try simp only [Act.put, List.setIfInBounds_toArray, List.set_cons_zero, List.set_cons_succ]
      refine held_value 19 137 (.bool true) rfl rfl (by kernel_rfl) (by kernel_rfl) (by kernel_rfl) rfl hH (fun w hw => by go_simp) ?_
      try simp only [Act.put, List.setIfInBounds_toArray, List.set_cons_zero, List.set_cons_succ]
      refine held_value 20 6 (.bool true) rfl rfl (by kernel_rfl) (by kernel_rfl) (by kernel_rfl) rfl hH (fun w hw => by go_simp) ?_
      try simp only [Act.put, List.setIfInBounds_toArray, List.set_cons_zero, List.set_cons_succ]
      try simp only [Act.put]
      refine wpAnyH_done (by kernel_rfl) ?_ _
      refine NoPanic.normal ?_
      clear hH
      go_wp2_with fail
      go_ret
      exact ⟨rfl, H.out.bel⟩
theorem long_walk (a : Option Addr) (n c : Nat) (f : Nat → BitVec 8) (at' p q : Int) (w : World) (hT : Tl true w) (hs : Sl w w.heap.size a n c f) : Calls Tryd.prog 9 #[.slice a n c, .int .i64 at', PV p q] w fun e w' => e = .returned (.bool true) ∧ Below w.heap.size w w' := by
  by_cases h1 : 128 < n
  · exact long_far1 a n c at' p q w hT h1
  by_cases h2 : at' < 0
  · exact long_far2 a n c at' p q w hT h1 h2
  by_cases h3 : (n : Int) < at'
  · exact long_far3 a n c at' p q w hT h1 h2 h3
  by_cases h4 : p < -1073741824
  · exact long_far4 a n c at' p q w hT h1 h2 h3 h4
  by_cases h5 : 1073741824 < p
  · exact long_far5 a n c at' p q w hT h1 h2 h3 h4 h5
  by_cases h6 : q < -1073741824
  · exact long_far6 a n c at' p q w hT h1 h2 h3 h4 h5 h6
  by_cases h7 : 1073741824 < q
  · exact long_far7 a n c at' p q w hT h1 h2 h3 h4 h5 h6 h7
  obtain ⟨m, rfl⟩ := Int.eq_ofNat_of_zero_le (by omega : 0 ≤ at')
  obtain ⟨x, hx, hf⟩ := bytes_of f n
  exact long_near a n c x m p q w hT (by omega) (by omega) (by omega) (by omega) (by omega) (by omega) ⟨hs.congr fun i hi => (hf i hi).symm, hx⟩
end Go.Proofs.YtocjncflgbnglaaDoor
