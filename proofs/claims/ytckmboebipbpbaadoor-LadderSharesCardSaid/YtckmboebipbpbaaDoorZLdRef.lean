/-
  The contract of chicoryref10's Step. No statement is proved here: lemmas for the walks.
-/
import Derived.Test.YtckmboebipbpbaaDoorBuQ
import Derived.Test.YtckmboebipbpbaaDoorBuL
import Derived.Deep.CutRange
namespace Go.Proofs.YtckmboebipbpbaaDoor
open Go.RowKit

theorem c_ofZ : ofZ 39081 = cK := by decide +kernel
theorem refAdd_l (a b : K) (w : World) : Calls Tryd.prog 40 #[FV a.val, FV b.val] w fun e w' => e = .returned (FV (a + b).val) ∧ Below w.heap.size w w' := by
  rw [Fin.val_add]
  exact refAdd_any _ _ w a.isLt b.isLt
theorem refSub_l (a b : K) (w : World) : Calls Tryd.prog 41 #[FV a.val, FV b.val] w fun e w' => e = .returned (FV (a - b).val) ∧ Below w.heap.size w w' := by
  rw [Fin.sub_def]
  have := refSub_any a.val b.val w a.isLt b.isLt
  rw [Nat.add_comm] at this
  exact this
set_option maxRecDepth 8000 in
set_option maxHeartbeats 3200000 in
theorem refStep_k {u x0 z0 x1 z1 : K} (w : World) :
    Calls Tryd.prog 12 #[FV u.val, F4 (F4v x0 z0 x1 z1)] w fun e w' => e = .returned (F4 (L4v (ldA cK u ⟨x0, z0, x1, z1⟩))) ∧ Below w.heap.size w w' := by
  have H := Lib.hid (Ow.start w)
  go_enter Tryd.func12, Tryd.ntmps12
  go_upto_region 3 with (first
    | ((fail_if_success have := g2); (with_reducible apply own_box H); (case hgd => exact rfl); (case ho => exact rfl); (case hx => exact rfl); intro w2 g2 H' _ _; replace H := H'; clear H'; go_simp)
    | ((fail_if_success have := g3); (fail_if_success have := g3); (with_reducible apply own_box H); (case hgd => exact rfl); (case ho => exact rfl); (case hx => exact rfl); intro w3 g3 H' _ _; replace H := H'; clear H'; go_simp)
    | ((fail_if_success have := g4); (with_reducible apply own_alloc nilF4 H); (case hgd => exact rfl); (case ho => exact rfl); intro w4 g4 H' _ _; replace H := H'; clear H'; go_simp)
    | ((with_reducible apply own_load_p rowF H); (case hgd => exact rfl); (case ho => exact rfl); (case hx => exact rfl); (case hi => first | exact at0 | exact at1 | exact at2 | exact at3 | exact at4 | exact at5 | exact at6 | exact at7 | exact at8 | exact at9); (case hp => first | exact part4_0 | exact part4_1 | exact part4_2 | exact part4_3); intro _ _; go_simp)
    | ((fail_if_success have := F1); (with_reducible refine (refAdd_l _ _ _).mono ?_); rintro e wc ⟨rfl, hb⟩; replace H := Lib.hid (H.out.call hb); clear hb; have F1 := trivial)
    | ((fail_if_success have := g5); (fail_if_success have := g5); (with_reducible apply own_alloc intsF.zero H); (case hgd => exact rfl); (case ho => exact rfl); intro w5 g5 H' _ _; replace H := H'; clear H'; go_simp)
    | ((with_reducible apply own_store rowF H); (case hgd => exact rfl); (case ho => exact rfl); (case hx => exact rfl); (case hy => exact rfl); (case hi => first | exact at0 | exact at1 | exact at2 | exact at3 | exact at4 | exact at5 | exact at6 | exact at7 | exact at8 | exact at9); intro ws H' _ _; replace H := H'; clear H'; simp only [List.set_cons_zero] at H; go_simp)
    | ((fail_if_success have := F2); (with_reducible refine (refSub_l _ _ _).mono ?_); rintro e wc ⟨rfl, hb⟩; replace H := Lib.hid (H.out.call hb); clear hb; have F2 := trivial)
    | ((fail_if_success have := g6); (fail_if_success have := g6); (with_reducible apply own_alloc intsF.zero H); (case hgd => exact rfl); (case ho => exact rfl); intro w6 g6 H' _ _; replace H := H'; clear H'; go_simp))
  go_cut [7] from 24 to 30 (fun v7 wx => ∃ g7, v7 = .pointer (some ⟨g7, 0, none⟩) ∧ Ow w wx [(g7, Blk 36 .i64 16 (dF (((x1 - z1) * (x0 + z0))).val)), (g6, Blk 36 .i64 16 (dF ((x0 - z0)).val)), (g5, Blk 36 .i64 16 (dF ((x0 + z0)).val)), (g4, Blk 38 .i64 64 fun _ => 0), (g3, Blk 38 .i64 64 ((t4 16 (dF (x0).val) (dF (z0).val) (dF (x1).val) (dF (z1).val)))), (g2, Blk 36 .i64 16 (dF (u).val))])
  case first =>
    go_wp2_with fail
    refine wp_region_noPanic ?_
    refine wp_region_held_drew (S := fun W => W.heap[g3]? = some (Blk 38 .i64 64 ((t4 16 (dF (x0).val) (dF (z0).val) (dF (x1).val) (dF (z1).val)))) ∧ W.heap[g5]? = some (Blk 36 .i64 16 (dF ((x0 + z0)).val))) (by kernel_rfl) (⟨H.out.drew.row 3 rfl, H.out.drew.row 1 rfl⟩) (fun hH => ?_)
    replace H := Lib.hid H.out.drew
    generalize World.drew _ = w8 at *
    refine held_value 0 24 (.pointer (some ⟨g3, 32, none⟩)) rfl rfl (by kernel_rfl) (by kernel_rfl) (by kernel_rfl) rfl hH (fun w hw => by go_simp) ?_
    try simp only [Act.put, List.setIfInBounds_toArray, List.set_cons_zero, List.set_cons_succ]
    refine held_part 1 25 rowF rfl rfl (by kernel_rfl) (by kernel_rfl) (by kernel_rfl) rfl hH rfl rfl part4_2 (fun _ h => h.1) ?_
    try simp only [Act.put, List.setIfInBounds_toArray, List.set_cons_zero, List.set_cons_succ]
    refine held_value 2 26 (.pointer (some ⟨g3, 48, none⟩)) rfl rfl (by kernel_rfl) (by kernel_rfl) (by kernel_rfl) rfl hH (fun w hw => by go_simp) ?_
    try simp only [Act.put, List.setIfInBounds_toArray, List.set_cons_zero, List.set_cons_succ]
    refine held_part 3 27 rowF rfl rfl (by kernel_rfl) (by kernel_rfl) (by kernel_rfl) rfl hH rfl rfl part4_3 (fun _ h => h.1) ?_
    try simp only [Act.put, List.setIfInBounds_toArray, List.set_cons_zero, List.set_cons_succ]
    refine held_row 5 29 rowF rfl rfl (by kernel_rfl) (by kernel_rfl) (by kernel_rfl) rfl hH rfl rfl (fun _ h => h.2) ?_
    try simp only [Act.put, List.setIfInBounds_toArray, List.set_cons_zero, List.set_cons_succ]
    refine wpAnyH_ready (rs := [4, 7]) (by kernel_rfl) (by simp) ?_
    refine AllReadyH.cons (o := _) rfl (fun K hK => ?_) (AllReadyH.cons (o := _) rfl (fun K hK => ?_) AllReadyH.nil)
    · skip
      go_simp
      refine (refSub_l _ _ _).mono ?_
      rintro e wc ⟨rfl, hb⟩
      replace H := Lib.hid (H.out.call hb)
      refine hK.out _ _ (⟨H.out.row 3 rfl, H.out.row 1 rfl⟩) (fun hN => ?_)
      clear hK K hH hb
      have hH := hN
      clear hN
      try simp only [Act.put, List.setIfInBounds_toArray, List.set_cons_zero, List.set_cons_succ]
      refine wpAnyH_ready (rs := [6, 7]) (by kernel_rfl) (by simp) ?_
      refine AllReadyH.cons (o := _) rfl (fun K hK => ?_) (AllReadyH.cons (o := _) rfl (fun K hK => ?_) AllReadyH.nil)
      · skip
        go_simp
        refine (refMul_k _ _ _).mono ?_
        rintro e wc ⟨rfl, hb⟩
        replace H := Lib.hid (H.out.call hb)
        refine hK.out _ _ (⟨H.out.row 3 rfl, H.out.row 1 rfl⟩) (fun hN => ?_)
        clear hK K hH hb
        have hH := hN
        clear hN
        try simp only [Act.put, List.setIfInBounds_toArray, List.set_cons_zero, List.set_cons_succ]
        refine wpAnyH_ready (rs := [7]) (by kernel_rfl) (by simp) ?_
        refine AllReadyH.cons (o := _) rfl (fun K hK => ?_) AllReadyH.nil
        refine own_wp_allocB 7 rfl intsF.zero H.out rfl ?_
        intro w7 g7 H3 hb
        replace H := Lib.hid H3
        refine hK.out _ _ (⟨H.out.row 4 rfl, H.out.row 2 rfl⟩) (fun hN => ?_)
        clear hK K hH H3 hb
        have hH := hN
        clear hN
        try simp only [Act.put, List.setIfInBounds_toArray, List.set_cons_zero, List.set_cons_succ]
        refine wpAnyH_ready (rs := [8]) (by kernel_rfl) (by simp) ?_
        refine AllReadyH.cons (o := _) rfl (fun K hK => ?_) AllReadyH.nil
        refine own_wp_store 0 rowF H.out rfl rfl rfl rfl ?_
        intro ws HS
        simp only [List.set_cons_zero] at HS
        replace H := Lib.hid HS
        refine hK.out _ _ (⟨H.out.row 4 rfl, H.out.row 2 rfl⟩) (fun hN => ?_)
        clear hK K HS hH
        have hH := hN
        clear hN
        try simp only [Act.put, List.setIfInBounds_toArray]
        try simp only [Act.put]
        refine wpAnyH_done (by kernel_rfl) ?_ _
        refine NoPanic.normal ?_
        clear hH
        go_wp2_with fail
        go_meet
        exact ⟨g7, rfl, H.out⟩
      · skip
        refine own_wp_allocB 7 rfl intsF.zero H.out rfl ?_
        intro w7 g7 H3 hb
        replace H := Lib.hid H3
        refine hK.out _ _ (⟨H.out.row 4 rfl, H.out.row 2 rfl⟩) (fun hN => ?_)
        clear hK K hH H3 hb
        have hH := hN
        clear hN
        try simp only [Act.put, List.setIfInBounds_toArray, List.set_cons_zero, List.set_cons_succ]
        refine wpAnyH_ready (rs := [6]) (by kernel_rfl) (by simp) ?_
        refine AllReadyH.cons (o := _) rfl (fun K hK => ?_) AllReadyH.nil
        go_simp
        refine (refMul_k _ _ _).mono ?_
        rintro e wc ⟨rfl, hb⟩
        replace H := Lib.hid (H.out.call hb)
        refine hK.out _ _ (⟨H.out.row 4 rfl, H.out.row 2 rfl⟩) (fun hN => ?_)
        clear hK K hH hb
        have hH := hN
        clear hN
        try simp only [Act.put, List.setIfInBounds_toArray, List.set_cons_zero, List.set_cons_succ]
        refine wpAnyH_ready (rs := [8]) (by kernel_rfl) (by simp) ?_
        refine AllReadyH.cons (o := _) rfl (fun K hK => ?_) AllReadyH.nil
        refine own_wp_store 0 rowF H.out rfl rfl rfl rfl ?_
        intro ws HS
        simp only [List.set_cons_zero] at HS
        replace H := Lib.hid HS
        refine hK.out _ _ (⟨H.out.row 4 rfl, H.out.row 2 rfl⟩) (fun hN => ?_)
        clear hK K HS hH
        have hH := hN
        clear hN
        try simp only [Act.put, List.setIfInBounds_toArray]
        try simp only [Act.put]
        refine wpAnyH_done (by kernel_rfl) ?_ _
        refine NoPanic.normal ?_
        clear hH
        go_wp2_with fail
        go_meet
        exact ⟨g7, rfl, H.out⟩
    · skip
      refine own_wp_allocB 7 rfl intsF.zero H.out rfl ?_
      intro w7 g7 H3 hb
      replace H := Lib.hid H3
      refine hK.out _ _ (⟨H.out.row 4 rfl, H.out.row 2 rfl⟩) (fun hN => ?_)
      clear hK K hH H3 hb
      have hH := hN
      clear hN
      try simp only [Act.put, List.setIfInBounds_toArray, List.set_cons_zero, List.set_cons_succ]
      refine wpAnyH_ready (rs := [4]) (by kernel_rfl) (by simp) ?_
      refine AllReadyH.cons (o := _) rfl (fun K hK => ?_) AllReadyH.nil
      go_simp
      refine (refSub_l _ _ _).mono ?_
      rintro e wc ⟨rfl, hb⟩
      replace H := Lib.hid (H.out.call hb)
      refine hK.out _ _ (⟨H.out.row 4 rfl, H.out.row 2 rfl⟩) (fun hN => ?_)
      clear hK K hH hb
      have hH := hN
      clear hN
      try simp only [Act.put, List.setIfInBounds_toArray, List.set_cons_zero, List.set_cons_succ]
      refine wpAnyH_ready (rs := [6]) (by kernel_rfl) (by simp) ?_
      refine AllReadyH.cons (o := _) rfl (fun K hK => ?_) AllReadyH.nil
      go_simp
      refine (refMul_k _ _ _).mono ?_
      rintro e wc ⟨rfl, hb⟩
      replace H := Lib.hid (H.out.call hb)
      refine hK.out _ _ (⟨H.out.row 4 rfl, H.out.row 2 rfl⟩) (fun hN => ?_)
      clear hK K hH hb
      have hH := hN
      clear hN
      try simp only [Act.put, List.setIfInBounds_toArray, List.set_cons_zero, List.set_cons_succ]
      refine wpAnyH_ready (rs := [8]) (by kernel_rfl) (by simp) ?_
      refine AllReadyH.cons (o := _) rfl (fun K hK => ?_) AllReadyH.nil
      refine own_wp_store 0 rowF H.out rfl rfl rfl rfl ?_
      intro ws HS
      simp only [List.set_cons_zero] at HS
      replace H := Lib.hid HS
      refine hK.out _ _ (⟨H.out.row 4 rfl, H.out.row 2 rfl⟩) (fun hN => ?_)
      clear hK K HS hH
      have hH := hN
      clear hN
      try simp only [Act.put, List.setIfInBounds_toArray]
      try simp only [Act.put]
      refine wpAnyH_done (by kernel_rfl) ?_ _
      refine NoPanic.normal ?_
      clear hH
      go_wp2_with fail
      go_meet
      exact ⟨g7, rfl, H.out⟩
  clear H
  obtain ⟨g7, rfl, HRR⟩ := hcut
  have H := Lib.hid HRR
  clear HRR 
  go_upto_region 4 with fail
  go_cut [8] from 31 to 37 (fun v8 wx => ∃ g8, v8 = .pointer (some ⟨g8, 0, none⟩) ∧ Ow w wx [(g8, Blk 36 .i64 16 (dF (((x1 + z1) * (x0 - z0))).val)), (g7, Blk 36 .i64 16 (dF (((x1 - z1) * (x0 + z0))).val)), (g6, Blk 36 .i64 16 (dF ((x0 - z0)).val)), (g5, Blk 36 .i64 16 (dF ((x0 + z0)).val)), (g4, Blk 38 .i64 64 fun _ => 0), (g3, Blk 38 .i64 64 ((t4 16 (dF (x0).val) (dF (z0).val) (dF (x1).val) (dF (z1).val)))), (g2, Blk 36 .i64 16 (dF (u).val))])
  case first =>
    go_wp2_with fail
    refine wp_region_noPanic ?_
    refine wp_region_held_drew (S := fun W => W.heap[g3]? = some (Blk 38 .i64 64 ((t4 16 (dF (x0).val) (dF (z0).val) (dF (x1).val) (dF (z1).val)))) ∧ W.heap[g6]? = some (Blk 36 .i64 16 (dF ((x0 - z0)).val))) (by kernel_rfl) (⟨H.out.drew.row 4 rfl, H.out.drew.row 1 rfl⟩) (fun hH => ?_)
    replace H := Lib.hid H.out.drew
    generalize World.drew _ = w8 at *
    refine held_value 0 31 (.pointer (some ⟨g3, 32, none⟩)) rfl rfl (by kernel_rfl) (by kernel_rfl) (by kernel_rfl) rfl hH (fun w hw => by go_simp) ?_
    try simp only [Act.put, List.setIfInBounds_toArray, List.set_cons_zero, List.set_cons_succ]
    refine held_part 1 32 rowF rfl rfl (by kernel_rfl) (by kernel_rfl) (by kernel_rfl) rfl hH rfl rfl part4_2 (fun _ h => h.1) ?_
    try simp only [Act.put, List.setIfInBounds_toArray, List.set_cons_zero, List.set_cons_succ]
    refine held_value 2 33 (.pointer (some ⟨g3, 48, none⟩)) rfl rfl (by kernel_rfl) (by kernel_rfl) (by kernel_rfl) rfl hH (fun w hw => by go_simp) ?_
    try simp only [Act.put, List.setIfInBounds_toArray, List.set_cons_zero, List.set_cons_succ]
    refine held_part 3 34 rowF rfl rfl (by kernel_rfl) (by kernel_rfl) (by kernel_rfl) rfl hH rfl rfl part4_3 (fun _ h => h.1) ?_
    try simp only [Act.put, List.setIfInBounds_toArray, List.set_cons_zero, List.set_cons_succ]
    refine held_row 5 36 rowF rfl rfl (by kernel_rfl) (by kernel_rfl) (by kernel_rfl) rfl hH rfl rfl (fun _ h => h.2) ?_
    try simp only [Act.put, List.setIfInBounds_toArray, List.set_cons_zero, List.set_cons_succ]
    refine wpAnyH_ready (rs := [4, 7]) (by kernel_rfl) (by simp) ?_
    refine AllReadyH.cons (o := _) rfl (fun K hK => ?_) (AllReadyH.cons (o := _) rfl (fun K hK => ?_) AllReadyH.nil)
    · skip
      go_simp
      refine (refAdd_l _ _ _).mono ?_
      rintro e wc ⟨rfl, hb⟩
      replace H := Lib.hid (H.out.call hb)
      refine hK.out _ _ (⟨H.out.row 4 rfl, H.out.row 1 rfl⟩) (fun hN => ?_)
      clear hK K hH hb
      have hH := hN
      clear hN
      try simp only [Act.put, List.setIfInBounds_toArray, List.set_cons_zero, List.set_cons_succ]
      refine wpAnyH_ready (rs := [6, 7]) (by kernel_rfl) (by simp) ?_
      refine AllReadyH.cons (o := _) rfl (fun K hK => ?_) (AllReadyH.cons (o := _) rfl (fun K hK => ?_) AllReadyH.nil)
      · skip
        go_simp
        refine (refMul_k _ _ _).mono ?_
        rintro e wc ⟨rfl, hb⟩
        replace H := Lib.hid (H.out.call hb)
        refine hK.out _ _ (⟨H.out.row 4 rfl, H.out.row 1 rfl⟩) (fun hN => ?_)
        clear hK K hH hb
        have hH := hN
        clear hN
        try simp only [Act.put, List.setIfInBounds_toArray, List.set_cons_zero, List.set_cons_succ]
        refine wpAnyH_ready (rs := [7]) (by kernel_rfl) (by simp) ?_
        refine AllReadyH.cons (o := _) rfl (fun K hK => ?_) AllReadyH.nil
        refine own_wp_allocB 8 rfl intsF.zero H.out rfl ?_
        intro w8 g8 H3 hb
        replace H := Lib.hid H3
        refine hK.out _ _ (⟨H.out.row 5 rfl, H.out.row 2 rfl⟩) (fun hN => ?_)
        clear hK K hH H3 hb
        have hH := hN
        clear hN
        try simp only [Act.put, List.setIfInBounds_toArray, List.set_cons_zero, List.set_cons_succ]
        refine wpAnyH_ready (rs := [8]) (by kernel_rfl) (by simp) ?_
        refine AllReadyH.cons (o := _) rfl (fun K hK => ?_) AllReadyH.nil
        refine own_wp_store 0 rowF H.out rfl rfl rfl rfl ?_
        intro ws HS
        simp only [List.set_cons_zero] at HS
        replace H := Lib.hid HS
        refine hK.out _ _ (⟨H.out.row 5 rfl, H.out.row 2 rfl⟩) (fun hN => ?_)
        clear hK K HS hH
        have hH := hN
        clear hN
        try simp only [Act.put, List.setIfInBounds_toArray]
        try simp only [Act.put]
        refine wpAnyH_done (by kernel_rfl) ?_ _
        refine NoPanic.normal ?_
        clear hH
        go_wp2_with fail
        go_meet
        exact ⟨g8, rfl, H.out⟩
      · skip
        refine own_wp_allocB 8 rfl intsF.zero H.out rfl ?_
        intro w8 g8 H3 hb
        replace H := Lib.hid H3
        refine hK.out _ _ (⟨H.out.row 5 rfl, H.out.row 2 rfl⟩) (fun hN => ?_)
        clear hK K hH H3 hb
        have hH := hN
        clear hN
        try simp only [Act.put, List.setIfInBounds_toArray, List.set_cons_zero, List.set_cons_succ]
        refine wpAnyH_ready (rs := [6]) (by kernel_rfl) (by simp) ?_
        refine AllReadyH.cons (o := _) rfl (fun K hK => ?_) AllReadyH.nil
        go_simp
        refine (refMul_k _ _ _).mono ?_
        rintro e wc ⟨rfl, hb⟩
        replace H := Lib.hid (H.out.call hb)
        refine hK.out _ _ (⟨H.out.row 5 rfl, H.out.row 2 rfl⟩) (fun hN => ?_)
        clear hK K hH hb
        have hH := hN
        clear hN
        try simp only [Act.put, List.setIfInBounds_toArray, List.set_cons_zero, List.set_cons_succ]
        refine wpAnyH_ready (rs := [8]) (by kernel_rfl) (by simp) ?_
        refine AllReadyH.cons (o := _) rfl (fun K hK => ?_) AllReadyH.nil
        refine own_wp_store 0 rowF H.out rfl rfl rfl rfl ?_
        intro ws HS
        simp only [List.set_cons_zero] at HS
        replace H := Lib.hid HS
        refine hK.out _ _ (⟨H.out.row 5 rfl, H.out.row 2 rfl⟩) (fun hN => ?_)
        clear hK K HS hH
        have hH := hN
        clear hN
        try simp only [Act.put, List.setIfInBounds_toArray]
        try simp only [Act.put]
        refine wpAnyH_done (by kernel_rfl) ?_ _
        refine NoPanic.normal ?_
        clear hH
        go_wp2_with fail
        go_meet
        exact ⟨g8, rfl, H.out⟩
    · skip
      refine own_wp_allocB 8 rfl intsF.zero H.out rfl ?_
      intro w8 g8 H3 hb
      replace H := Lib.hid H3
      refine hK.out _ _ (⟨H.out.row 5 rfl, H.out.row 2 rfl⟩) (fun hN => ?_)
      clear hK K hH H3 hb
      have hH := hN
      clear hN
      try simp only [Act.put, List.setIfInBounds_toArray, List.set_cons_zero, List.set_cons_succ]
      refine wpAnyH_ready (rs := [4]) (by kernel_rfl) (by simp) ?_
      refine AllReadyH.cons (o := _) rfl (fun K hK => ?_) AllReadyH.nil
      go_simp
      refine (refAdd_l _ _ _).mono ?_
      rintro e wc ⟨rfl, hb⟩
      replace H := Lib.hid (H.out.call hb)
      refine hK.out _ _ (⟨H.out.row 5 rfl, H.out.row 2 rfl⟩) (fun hN => ?_)
      clear hK K hH hb
      have hH := hN
      clear hN
      try simp only [Act.put, List.setIfInBounds_toArray, List.set_cons_zero, List.set_cons_succ]
      refine wpAnyH_ready (rs := [6]) (by kernel_rfl) (by simp) ?_
      refine AllReadyH.cons (o := _) rfl (fun K hK => ?_) AllReadyH.nil
      go_simp
      refine (refMul_k _ _ _).mono ?_
      rintro e wc ⟨rfl, hb⟩
      replace H := Lib.hid (H.out.call hb)
      refine hK.out _ _ (⟨H.out.row 5 rfl, H.out.row 2 rfl⟩) (fun hN => ?_)
      clear hK K hH hb
      have hH := hN
      clear hN
      try simp only [Act.put, List.setIfInBounds_toArray, List.set_cons_zero, List.set_cons_succ]
      refine wpAnyH_ready (rs := [8]) (by kernel_rfl) (by simp) ?_
      refine AllReadyH.cons (o := _) rfl (fun K hK => ?_) AllReadyH.nil
      refine own_wp_store 0 rowF H.out rfl rfl rfl rfl ?_
      intro ws HS
      simp only [List.set_cons_zero] at HS
      replace H := Lib.hid HS
      refine hK.out _ _ (⟨H.out.row 5 rfl, H.out.row 2 rfl⟩) (fun hN => ?_)
      clear hK K HS hH
      have hH := hN
      clear hN
      try simp only [Act.put, List.setIfInBounds_toArray]
      try simp only [Act.put]
      refine wpAnyH_done (by kernel_rfl) ?_ _
      refine NoPanic.normal ?_
      clear hH
      go_wp2_with fail
      go_meet
      exact ⟨g8, rfl, H.out⟩
  clear H
  obtain ⟨g8, rfl, HRR⟩ := hcut
  have H := Lib.hid HRR
  clear HRR 
  go_upto_region 10 with (first
    | ((with_reducible apply own_load rowF H); (case hgd => exact rfl); (case ho => exact rfl); (case hx => exact rfl); (case hi => first | exact at0 | exact at1 | exact at2 | exact at3 | exact at4 | exact at5 | exact at6 | exact at7 | exact at8 | exact at9); intro _ _; go_simp)
    | ((fail_if_success have := F3); (with_reducible refine (refMul_k _ _ _).mono ?_); rintro e wc ⟨rfl, hb⟩; replace H := Lib.hid (H.out.call hb); clear hb; have F3 := trivial)
    | ((fail_if_success have := g9); (fail_if_success have := g9); (with_reducible apply own_alloc intsF.zero H); (case hgd => exact rfl); (case ho => exact rfl); intro w9 g9 H' _ _; replace H := H'; clear H'; go_simp)
    | ((fail_if_success have := F4'); (with_reducible refine (refMul_k _ _ _).mono ?_); rintro e wc ⟨rfl, hb⟩; replace H := Lib.hid (H.out.call hb); clear hb; have F4' := trivial)
    | ((fail_if_success have := g10); (fail_if_success have := g10); (with_reducible apply own_alloc intsF.zero H); (case hgd => exact rfl); (case ho => exact rfl); intro w10 g10 H' _ _; replace H := H'; clear H'; go_simp)
    | ((fail_if_success have := F5); (with_reducible refine (refSub_l _ _ _).mono ?_); rintro e wc ⟨rfl, hb⟩; replace H := Lib.hid (H.out.call hb); clear hb; have F5 := trivial)
    | ((fail_if_success have := g11); (fail_if_success have := g11); (with_reducible apply own_alloc intsF.zero H); (case hgd => exact rfl); (case ho => exact rfl); intro w11 g11 H' _ _; replace H := H'; clear H'; go_simp)
    | ((fail_if_success have := F6); (with_reducible refine (refAdd_l _ _ _).mono ?_); rintro e wc ⟨rfl, hb⟩; replace H := Lib.hid (H.out.call hb); clear hb; have F6 := trivial)
    | ((fail_if_success have := g12); (fail_if_success have := g12); (with_reducible apply own_alloc intsF.zero H); (case hgd => exact rfl); (case ho => exact rfl); intro w12 g12 H' _ _; replace H := H'; clear H'; go_simp)
    | ((fail_if_success have := F7); (with_reducible refine (refSub_l _ _ _).mono ?_); rintro e wc ⟨rfl, hb⟩; replace H := Lib.hid (H.out.call hb); clear hb; have F7 := trivial)
    | ((fail_if_success have := g13); (fail_if_success have := g13); (with_reducible apply own_alloc intsF.zero H); (case hgd => exact rfl); (case ho => exact rfl); intro w13 g13 H' _ _; replace H := H'; clear H'; go_simp)
    | ((with_reducible apply own_store rowF H); (case hgd => exact rfl); (case ho => exact rfl); (case hx => exact rfl); (case hy => exact rfl); (case hi => first | exact at0 | exact at1 | exact at2 | exact at3 | exact at4 | exact at5 | exact at6 | exact at7 | exact at8 | exact at9); intro ws H' _ _; replace H := H'; clear H'; simp only [List.set_cons_zero] at H; go_simp))
  clear F1 F2 F3 F4' F5 F6 F7
  refine wp_region_noPanic ?_
  refine wp_region_held_drew (S := fun W => W.heap[g9]? = some (Blk 36 .i64 16 (dF (((x0 + z0) * (x0 + z0))).val)) ∧ W.heap[g10]? = some (Blk 36 .i64 16 (dF (((x0 - z0) * (x0 - z0))).val)) ∧ W.heap[g11]? = some (Blk 36 .i64 16 (dF ((((x0 + z0) * (x0 + z0)) - ((x0 - z0) * (x0 - z0)))).val)) ∧ W.heap[g12]? = some (Blk 36 .i64 16 (dF ((((x1 - z1) * (x0 + z0)) + ((x1 + z1) * (x0 - z0)))).val)) ∧ W.heap[g2]? = some (Blk 36 .i64 16 (dF (u).val)) ∧ W.heap[g13]? = some (Blk 36 .i64 16 (dF ((((x1 - z1) * (x0 + z0)) - ((x1 + z1) * (x0 - z0)))).val))) (by kernel_rfl) (⟨H.out.drew.row 4 rfl, H.out.drew.row 3 rfl, H.out.drew.row 2 rfl, H.out.drew.row 1 rfl, H.out.drew.row 11 rfl, H.out.drew.row 0 rfl⟩) (fun hH => ?_)
  replace H := Lib.hid H.out.drew
  generalize World.drew _ = w8 at *
  refine held_row 0 53 rowF rfl rfl (by kernel_rfl) (by kernel_rfl) (by kernel_rfl) rfl hH rfl rfl (fun _ h => h.1) ?_
  try simp only [Act.put, List.setIfInBounds_toArray, List.set_cons_zero, List.set_cons_succ]
  refine held_row 1 54 rowF rfl rfl (by kernel_rfl) (by kernel_rfl) (by kernel_rfl) rfl hH rfl rfl (fun _ h => h.2.1) ?_
  try simp only [Act.put, List.setIfInBounds_toArray, List.set_cons_zero, List.set_cons_succ]
  refine held_row 3 56 rowF rfl rfl (by kernel_rfl) (by kernel_rfl) (by kernel_rfl) rfl hH rfl rfl (fun _ h => h.2.2.1) ?_
  try simp only [Act.put, List.setIfInBounds_toArray, List.set_cons_zero, List.set_cons_succ]
  refine held_row 4 57 rowF rfl rfl (by kernel_rfl) (by kernel_rfl) (by kernel_rfl) rfl hH rfl rfl (fun _ h => h.1) ?_
  try simp only [Act.put, List.setIfInBounds_toArray, List.set_cons_zero, List.set_cons_succ]
  refine held_row 6 59 rowF rfl rfl (by kernel_rfl) (by kernel_rfl) (by kernel_rfl) rfl hH rfl rfl (fun _ h => h.2.2.1) ?_
  try simp only [Act.put, List.setIfInBounds_toArray, List.set_cons_zero, List.set_cons_succ]
  refine held_row 10 63 rowF rfl rfl (by kernel_rfl) (by kernel_rfl) (by kernel_rfl) rfl hH rfl rfl (fun _ h => h.2.2.2.1) ?_
  try simp only [Act.put, List.setIfInBounds_toArray, List.set_cons_zero, List.set_cons_succ]
  refine held_row 11 64 rowF rfl rfl (by kernel_rfl) (by kernel_rfl) (by kernel_rfl) rfl hH rfl rfl (fun _ h => h.2.2.2.1) ?_
  try simp only [Act.put, List.setIfInBounds_toArray, List.set_cons_zero, List.set_cons_succ]
  refine held_row 13 66 rowF rfl rfl (by kernel_rfl) (by kernel_rfl) (by kernel_rfl) rfl hH rfl rfl (fun _ h => h.2.2.2.2.1) ?_
  try simp only [Act.put, List.setIfInBounds_toArray, List.set_cons_zero, List.set_cons_succ]
  refine held_row 14 67 rowF rfl rfl (by kernel_rfl) (by kernel_rfl) (by kernel_rfl) rfl hH rfl rfl (fun _ h => h.2.2.2.2.2) ?_
  try simp only [Act.put, List.setIfInBounds_toArray, List.set_cons_zero, List.set_cons_succ]
  refine held_row 15 68 rowF rfl rfl (by kernel_rfl) (by kernel_rfl) (by kernel_rfl) rfl hH rfl rfl (fun _ h => h.2.2.2.2.2) ?_
  try simp only [Act.put, List.setIfInBounds_toArray, List.set_cons_zero, List.set_cons_succ]
  refine wpAnyH_ready (rs := [2]) (by kernel_rfl) (by simp) ?_
  refine AllReadyH.cons (o := _) rfl (fun K hK => ?_) AllReadyH.nil
  go_simp
  refine (refMul_k _ _ _).mono ?_
  rintro e wc ⟨rfl, hb⟩
  replace H := Lib.hid (H.out.call hb)
  refine hK.out _ _ (⟨H.out.row 4 rfl, H.out.row 3 rfl, H.out.row 2 rfl, H.out.row 1 rfl, H.out.row 11 rfl, H.out.row 0 rfl⟩) (fun hN => ?_)
  clear hK K hH hb
  have hH := hN
  clear hN
  try simp only [Act.put, List.setIfInBounds_toArray, List.set_cons_zero, List.set_cons_succ]
  refine wpAnyH_ready (rs := [5]) (by kernel_rfl) (by simp) ?_
  refine AllReadyH.cons (o := _) rfl (fun K hK => ?_) AllReadyH.nil
  go_simp
  refine (refInt_k _ (39081) (by omega) (by omega)).mono ?_
  rintro e wc ⟨rfl, hb⟩
  replace H := Lib.hid (H.out.call hb)
  refine hK.out _ _ (⟨H.out.row 4 rfl, H.out.row 3 rfl, H.out.row 2 rfl, H.out.row 1 rfl, H.out.row 11 rfl, H.out.row 0 rfl⟩) (fun hN => ?_)
  clear hK K hH hb
  have hH := hN
  clear hN
  try simp only [Act.put, List.setIfInBounds_toArray, List.set_cons_zero, List.set_cons_succ]
  refine wpAnyH_ready (rs := [7]) (by kernel_rfl) (by simp) ?_
  refine AllReadyH.cons (o := _) rfl (fun K hK => ?_) AllReadyH.nil
  go_simp
  refine (refMul_k _ _ _).mono ?_
  rintro e wc ⟨rfl, hb⟩
  replace H := Lib.hid (H.out.call hb)
  refine hK.out _ _ (⟨H.out.row 4 rfl, H.out.row 3 rfl, H.out.row 2 rfl, H.out.row 1 rfl, H.out.row 11 rfl, H.out.row 0 rfl⟩) (fun hN => ?_)
  clear hK K hH hb
  have hH := hN
  clear hN
  try simp only [Act.put, List.setIfInBounds_toArray, List.set_cons_zero, List.set_cons_succ]
  refine wpAnyH_ready (rs := [8]) (by kernel_rfl) (by simp) ?_
  refine AllReadyH.cons (o := _) rfl (fun K hK => ?_) AllReadyH.nil
  go_simp
  refine (refAdd_l _ _ _).mono ?_
  rintro e wc ⟨rfl, hb⟩
  replace H := Lib.hid (H.out.call hb)
  refine hK.out _ _ (⟨H.out.row 4 rfl, H.out.row 3 rfl, H.out.row 2 rfl, H.out.row 1 rfl, H.out.row 11 rfl, H.out.row 0 rfl⟩) (fun hN => ?_)
  clear hK K hH hb
  have hH := hN
  clear hN
  try simp only [Act.put, List.setIfInBounds_toArray, List.set_cons_zero, List.set_cons_succ]
  refine wpAnyH_ready (rs := [9]) (by kernel_rfl) (by simp) ?_
  refine AllReadyH.cons (o := _) rfl (fun K hK => ?_) AllReadyH.nil
  go_simp
  refine (refMul_k _ _ _).mono ?_
  rintro e wc ⟨rfl, hb⟩
  replace H := Lib.hid (H.out.call hb)
  refine hK.out _ _ (⟨H.out.row 4 rfl, H.out.row 3 rfl, H.out.row 2 rfl, H.out.row 1 rfl, H.out.row 11 rfl, H.out.row 0 rfl⟩) (fun hN => ?_)
  clear hK K hH hb
  have hH := hN
  clear hN
  try simp only [Act.put, List.setIfInBounds_toArray, List.set_cons_zero, List.set_cons_succ]
  refine wpAnyH_ready (rs := [12]) (by kernel_rfl) (by simp) ?_
  refine AllReadyH.cons (o := _) rfl (fun K hK => ?_) AllReadyH.nil
  go_simp
  refine (refMul_k _ _ _).mono ?_
  rintro e wc ⟨rfl, hb⟩
  replace H := Lib.hid (H.out.call hb)
  refine hK.out _ _ (⟨H.out.row 4 rfl, H.out.row 3 rfl, H.out.row 2 rfl, H.out.row 1 rfl, H.out.row 11 rfl, H.out.row 0 rfl⟩) (fun hN => ?_)
  clear hK K hH hb
  have hH := hN
  clear hN
  try simp only [Act.put, List.setIfInBounds_toArray, List.set_cons_zero, List.set_cons_succ]
  refine wpAnyH_ready (rs := [16]) (by kernel_rfl) (by simp) ?_
  refine AllReadyH.cons (o := _) rfl (fun K hK => ?_) AllReadyH.nil
  go_simp
  refine (refMul_k _ _ _).mono ?_
  rintro e wc ⟨rfl, hb⟩
  replace H := Lib.hid (H.out.call hb)
  refine hK.out _ _ (⟨H.out.row 4 rfl, H.out.row 3 rfl, H.out.row 2 rfl, H.out.row 1 rfl, H.out.row 11 rfl, H.out.row 0 rfl⟩) (fun hN => ?_)
  clear hK K hH hb
  have hH := hN
  clear hN
  try simp only [Act.put, List.setIfInBounds_toArray, List.set_cons_zero, List.set_cons_succ]
  refine wpAnyH_ready (rs := [17]) (by kernel_rfl) (by simp) ?_
  refine AllReadyH.cons (o := _) rfl (fun K hK => ?_) AllReadyH.nil
  go_simp
  refine (refMul_k _ _ _).mono ?_
  rintro e wc ⟨rfl, hb⟩
  replace H := Lib.hid (H.out.call hb)
  refine hK.out _ _ (⟨H.out.row 4 rfl, H.out.row 3 rfl, H.out.row 2 rfl, H.out.row 1 rfl, H.out.row 11 rfl, H.out.row 0 rfl⟩) (fun hN => ?_)
  clear hK K hH hb
  have hH := hN
  clear hN
  try simp only [Act.put, List.setIfInBounds_toArray, List.set_cons_zero, List.set_cons_succ]
  refine held_F4 18 71 rfl rfl (by kernel_rfl) (by kernel_rfl) (by kernel_rfl) rfl hH rfl rfl rfl rfl rfl ?_
  try simp only [Act.put, List.setIfInBounds_toArray, List.set_cons_zero, List.set_cons_succ]
  refine wpAnyH_ready (rs := [19]) (by kernel_rfl) (by simp) ?_
  refine AllReadyH.cons (o := _) rfl (fun K hK => ?_) AllReadyH.nil
  refine own_wp_store 9 rowF4 H.out rfl rfl rfl rfl ?_
  intro ws HS
  simp only [List.set_cons_zero, List.set_cons_succ] at HS
  replace H := Lib.hid HS
  refine hK.out _ _ (⟨H.out.row 4 rfl, H.out.row 3 rfl, H.out.row 2 rfl, H.out.row 1 rfl, H.out.row 11 rfl, H.out.row 0 rfl⟩) (fun hN => ?_)
  clear hK K HS hH
  have hH := hN
  clear hN
  try simp only [Act.put, List.setIfInBounds_toArray]
  try simp only [Act.put]
  refine wpAnyH_done (by kernel_rfl) ?_ _
  refine NoPanic.normal ?_
  clear hH
  go_wp2_with fail
  refine bodyPost_ret (own_result 9 rowF4 rfl _ H rfl rfl) rfl ⟨?_, H.out.bel⟩
  rw [c_ofZ]
  rfl
end Go.Proofs.YtckmboebipbpbaaDoor
