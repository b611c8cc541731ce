/-
  The contract of the reference's Root. No statement is proved here: lemmas for the walks.
-/
import Derived.Test.YtanfobboeehiaaaDoorBuL
import Derived.Deep.CutRange
namespace Go.Proofs.YtanfobboeehiaaaDoor
open Go.RowKit

theorem shf_c : shf (pN + 1) (-2) = eC + 1 := by decide +kernel
set_option maxRecDepth 40000 in
set_option maxHeartbeats 3200000 in
theorem refRoot_walk {a r : K} (w : World) (hr : a ^ (eC + 1) = r) :
    Calls Tryd.prog 51 #[FV a.val] w fun e w' => ((r * r = a ∧ e = .returned (.tuple #[FV (ab r).val, .bool true])) ∨ (r * r ≠ a ∧ e = .returned (.tuple #[FV (0 : K).val, .bool false]))) ∧ Below w.heap.size w w' := by
  have HQ := Lib.hid hr
  clear hr
  have h56 := fits_56 (show pN + 1 ≤ pN + 1 by omega)
  have h57 := fits_56 (x := shf (pN + 1) (-2)) (by rw [shf_c]; decide +kernel)
  have H := Lib.hid (Ow.start w)
  go_enter Tryd.func51, Tryd.ntmps51
  go_upto_region 1 with (first
    | ((fail_if_success have := g1); (with_reducible apply own_box H); (case hgd => exact rfl); (case ho => exact rfl); (case hx => exact rfl); intro w1 g1 H' _ _; replace H := H'; clear H'; go_simp)
    | ((fail_if_success have := g2); (with_reducible apply own_alloc intsF.zero H); (case hgd => exact rfl); (case ho => exact rfl); intro w2 g2 H' _ _; replace H := H'; clear H'; go_simp))
  go_cut [4] from 5 to 10 (fun v4 wx => ∃ g4, v4 = .pointer (some ⟨g4, 0, none⟩) ∧ Ow w wx [(g4, Blk 38 .i64 16 (dF (r).val)), (g2, Blk 38 .i64 16 fun _ => 0), (g1, Blk 38 .i64 16 (dF (a).val))])
  case first =>
    go_wp2_with fail
    refine wp_region_noPanic ?_
    refine wp_region_held_drew (S := fun W => W.heap[g1]? = some (Blk 38 .i64 16 (dF (a).val))) (by kernel_rfl) (H.out.drew.row 1 rfl) (fun hH => ?_)
    replace H := Lib.hid H.out.drew
    generalize World.drew _ = w8 at *
    refine held_row 0 5 rowF rfl rfl (by kernel_rfl) (by kernel_rfl) (by kernel_rfl) rfl hH rfl rfl (fun _ h => h) ?_
    try simp only [Act.put, List.setIfInBounds_toArray, List.set_cons_zero, List.set_cons_succ]
    refine wpAnyH_ready (rs := [1, 2, 6]) (by kernel_rfl) (by simp) ?_
    refine AllReadyH.cons (o := _) rfl (fun K hK => ?_) (AllReadyH.cons (o := _) rfl (fun K hK => ?_) (AllReadyH.cons (o := _) rfl (fun K hK => ?_) AllReadyH.nil))
    · skip
      go_simp
      refine (refPrime_sb _).mono ?_
      rintro e wc ⟨a6, c6, rfl, hs, hb⟩
      replace H := Lib.hid (H.out.call hb)
      have HS6 := Lib.hid hs
      refine hK.out _ _ (H.out.row 1 rfl) (fun hN => ?_)
      clear hK K hH hb hs
      have hH := hN
      clear hN
      try simp only [Act.put, List.setIfInBounds_toArray, List.set_cons_zero, List.set_cons_succ]
      refine wpAnyH_ready (rs := [2, 6]) (by kernel_rfl) (by simp) ?_
      refine AllReadyH.cons (o := _) rfl (fun K hK => ?_) (AllReadyH.cons (o := _) rfl (fun K hK => ?_) AllReadyH.nil)
      · skip
        refine own_wp_byte 7 rfl (v := 1) (by omega) H.out rfl ?_
        intro w7 g7 H3 hs hb
        replace HS6 := Lib.hid (HS6.out.call hb)
        replace H := Lib.hid H3
        have HS7 := Lib.hid hs
        refine hK.out _ _ (H.out.row 2 rfl) (fun hN => ?_)
        clear hK K hH H3 hs hb
        have hH := hN
        clear hN
        try simp only [Act.put, List.setIfInBounds_toArray, List.set_cons_zero, List.set_cons_succ]
        refine wpAnyH_ready (rs := [3, 6]) (by kernel_rfl) (by simp) ?_
        refine AllReadyH.cons (o := _) rfl (fun K hK => ?_) (AllReadyH.cons (o := _) rfl (fun K hK => ?_) AllReadyH.nil)
        · skip
          go_simp
          refine (nrefAdd_any _ _ _ _ _ _ _ _ _ (by omega) (by omega) HS6.out HS7.out).mono ?_
          rintro e wc ⟨_, rfl, a8, c8, rfl, hs, hb⟩
          replace HS6 := Lib.hid (HS6.out.call hb)
          replace HS7 := Lib.hid (HS7.out.call hb)
          replace H := Lib.hid (H.out.call hb)
          have HS8 := Lib.hid hs
          refine hK.out _ _ (H.out.row 2 rfl) (fun hN => ?_)
          clear hK K hH hb hs
          have hH := hN
          clear hN
          try simp only [Act.put, List.setIfInBounds_toArray, List.set_cons_zero, List.set_cons_succ]
          refine wpAnyH_ready (rs := [4, 6]) (by kernel_rfl) (by simp) ?_
          refine AllReadyH.cons (o := _) rfl (fun K hK => ?_) (AllReadyH.cons (o := _) rfl (fun K hK => ?_) AllReadyH.nil)
          · skip
            go_simp
            refine (refShift_any _ _ _ _ _ _ (by omega) (by omega) (by omega) HS8.out).mono ?_
            rintro e wc ⟨_, rfl, a9, c9, rfl, hs, hb⟩
            replace HS6 := Lib.hid (HS6.out.call hb)
            replace HS7 := Lib.hid (HS7.out.call hb)
            replace HS8 := Lib.hid (HS8.out.call hb)
            replace H := Lib.hid (H.out.call hb)
            have HS9 := Lib.hid hs
            refine hK.out _ _ (H.out.row 2 rfl) (fun hN => ?_)
            clear hK K hH hb hs
            have hH := hN
            clear hN
            try simp only [Act.put, List.setIfInBounds_toArray, List.set_cons_zero, List.set_cons_succ]
            refine wpAnyH_ready (rs := [5, 6]) (by kernel_rfl) (by simp) ?_
            refine AllReadyH.cons (o := _) rfl (fun K hK => ?_) (AllReadyH.cons (o := _) rfl (fun K hK => ?_) AllReadyH.nil)
            · skip
              go_simp
              refine (refPower_k _ _ _ _ _ HS9.out (by omega)).mono ?_
              rintro e wc ⟨rfl, hb⟩
              replace HS6 := Lib.hid (HS6.out.call hb)
              replace HS7 := Lib.hid (HS7.out.call hb)
              replace HS8 := Lib.hid (HS8.out.call hb)
              replace HS9 := Lib.hid (HS9.out.call hb)
              replace H := Lib.hid (H.out.call hb)
              refine hK.out _ _ (H.out.row 2 rfl) (fun hN => ?_)
              clear hK K hH hb
              have hH := hN
              clear hN
              try simp only [Act.put, List.setIfInBounds_toArray, List.set_cons_zero, List.set_cons_succ]
              refine wpAnyH_ready (rs := [6]) (by kernel_rfl) (by simp) ?_
              refine AllReadyH.cons (o := _) rfl (fun K hK => ?_) AllReadyH.nil
              refine own_wp_allocB 4 rfl intsF.zero H.out rfl ?_
              intro w4 g4 H3 hb
              replace HS6 := Lib.hid (HS6.out.call hb)
              replace HS7 := Lib.hid (HS7.out.call hb)
              replace HS8 := Lib.hid (HS8.out.call hb)
              replace HS9 := Lib.hid (HS9.out.call hb)
              replace H := Lib.hid H3
              refine hK.out _ _ (H.out.row 3 rfl) (fun hN => ?_)
              clear hK K hH H3 hb
              have hH := hN
              clear hN
              try simp only [Act.put, List.setIfInBounds_toArray, List.set_cons_zero, List.set_cons_succ]
              refine wpAnyH_ready (rs := [7]) (by kernel_rfl) (by simp) ?_
              refine AllReadyH.cons (o := _) rfl (fun K hK => ?_) AllReadyH.nil
              refine own_wp_store 0 rowF H.out rfl rfl rfl rfl ?_
              intro ws HS
              simp only [List.set_cons_zero] at HS
              replace H := Lib.hid HS
              refine hK.out _ _ (H.out.row 3 rfl) (fun hN => ?_)
              clear hK K HS hH
              have hH := hN
              clear hN
              try simp only [Act.put, List.setIfInBounds_toArray]
              try simp only [Act.put]
              refine wpAnyH_done (by kernel_rfl) ?_ _
              refine NoPanic.normal ?_
              clear hH
              rw [shf_c, HQ.out] at H
              clear HQ
              replace H := Lib.hid ((H.out.erase 1).front (x := (g4, Blk 38 .i64 16 (dF (r).val))) 0 rfl)
              go_wp2_with fail
              go_meet
              exact ⟨g4, rfl, H.out⟩
            · skip
              refine own_wp_allocB 4 rfl intsF.zero H.out rfl ?_
              intro w4 g4 H3 hb
              replace HS6 := Lib.hid (HS6.out.call hb)
              replace HS7 := Lib.hid (HS7.out.call hb)
              replace HS8 := Lib.hid (HS8.out.call hb)
              replace HS9 := Lib.hid (HS9.out.call hb)
              replace H := Lib.hid H3
              refine hK.out _ _ (H.out.row 3 rfl) (fun hN => ?_)
              clear hK K hH H3 hb
              have hH := hN
              clear hN
              try simp only [Act.put, List.setIfInBounds_toArray, List.set_cons_zero, List.set_cons_succ]
              refine wpAnyH_ready (rs := [5]) (by kernel_rfl) (by simp) ?_
              refine AllReadyH.cons (o := _) rfl (fun K hK => ?_) AllReadyH.nil
              go_simp
              refine (refPower_k _ _ _ _ _ HS9.out (by omega)).mono ?_
              rintro e wc ⟨rfl, hb⟩
              replace HS6 := Lib.hid (HS6.out.call hb)
              replace HS7 := Lib.hid (HS7.out.call hb)
              replace HS8 := Lib.hid (HS8.out.call hb)
              replace HS9 := Lib.hid (HS9.out.call hb)
              replace H := Lib.hid (H.out.call hb)
              refine hK.out _ _ (H.out.row 3 rfl) (fun hN => ?_)
              clear hK K hH hb
              have hH := hN
              clear hN
              try simp only [Act.put, List.setIfInBounds_toArray, List.set_cons_zero, List.set_cons_succ]
              refine wpAnyH_ready (rs := [7]) (by kernel_rfl) (by simp) ?_
              refine AllReadyH.cons (o := _) rfl (fun K hK => ?_) AllReadyH.nil
              refine own_wp_store 0 rowF H.out rfl rfl rfl rfl ?_
              intro ws HS
              simp only [List.set_cons_zero] at HS
              replace H := Lib.hid HS
              refine hK.out _ _ (H.out.row 3 rfl) (fun hN => ?_)
              clear hK K HS hH
              have hH := hN
              clear hN
              try simp only [Act.put, List.setIfInBounds_toArray]
              try simp only [Act.put]
              refine wpAnyH_done (by kernel_rfl) ?_ _
              refine NoPanic.normal ?_
              clear hH
              rw [shf_c, HQ.out] at H
              clear HQ
              replace H := Lib.hid ((H.out.erase 1).front (x := (g4, Blk 38 .i64 16 (dF (r).val))) 0 rfl)
              go_wp2_with fail
              go_meet
              exact ⟨g4, rfl, H.out⟩
          · skip
            refine own_wp_allocB 4 rfl intsF.zero H.out rfl ?_
            intro w4 g4 H3 hb
            replace HS6 := Lib.hid (HS6.out.call hb)
            replace HS7 := Lib.hid (HS7.out.call hb)
            replace HS8 := Lib.hid (HS8.out.call hb)
            replace H := Lib.hid H3
            refine hK.out _ _ (H.out.row 3 rfl) (fun hN => ?_)
            clear hK K hH H3 hb
            have hH := hN
            clear hN
            try simp only [Act.put, List.setIfInBounds_toArray, List.set_cons_zero, List.set_cons_succ]
            refine wpAnyH_ready (rs := [4]) (by kernel_rfl) (by simp) ?_
            refine AllReadyH.cons (o := _) rfl (fun K hK => ?_) AllReadyH.nil
            go_simp
            refine (refShift_any _ _ _ _ _ _ (by omega) (by omega) (by omega) HS8.out).mono ?_
            rintro e wc ⟨_, rfl, a9, c9, rfl, hs, hb⟩
            replace HS6 := Lib.hid (HS6.out.call hb)
            replace HS7 := Lib.hid (HS7.out.call hb)
            replace HS8 := Lib.hid (HS8.out.call hb)
            replace H := Lib.hid (H.out.call hb)
            have HS9 := Lib.hid hs
            refine hK.out _ _ (H.out.row 3 rfl) (fun hN => ?_)
            clear hK K hH hb hs
            have hH := hN
            clear hN
            try simp only [Act.put, List.setIfInBounds_toArray, List.set_cons_zero, List.set_cons_succ]
            refine wpAnyH_ready (rs := [5]) (by kernel_rfl) (by simp) ?_
            refine AllReadyH.cons (o := _) rfl (fun K hK => ?_) AllReadyH.nil
            go_simp
            refine (refPower_k _ _ _ _ _ HS9.out (by omega)).mono ?_
            rintro e wc ⟨rfl, hb⟩
            replace HS6 := Lib.hid (HS6.out.call hb)
            replace HS7 := Lib.hid (HS7.out.call hb)
            replace HS8 := Lib.hid (HS8.out.call hb)
            replace HS9 := Lib.hid (HS9.out.call hb)
            replace H := Lib.hid (H.out.call hb)
            refine hK.out _ _ (H.out.row 3 rfl) (fun hN => ?_)
            clear hK K hH hb
            have hH := hN
            clear hN
            try simp only [Act.put, List.setIfInBounds_toArray, List.set_cons_zero, List.set_cons_succ]
            refine wpAnyH_ready (rs := [7]) (by kernel_rfl) (by simp) ?_
            refine AllReadyH.cons (o := _) rfl (fun K hK => ?_) AllReadyH.nil
            refine own_wp_store 0 rowF H.out rfl rfl rfl rfl ?_
            intro ws HS
            simp only [List.set_cons_zero] at HS
            replace H := Lib.hid HS
            refine hK.out _ _ (H.out.row 3 rfl) (fun hN => ?_)
            clear hK K HS hH
            have hH := hN
            clear hN
            try simp only [Act.put, List.setIfInBounds_toArray]
            try simp only [Act.put]
            refine wpAnyH_done (by kernel_rfl) ?_ _
            refine NoPanic.normal ?_
            clear hH
            rw [shf_c, HQ.out] at H
            clear HQ
            replace H := Lib.hid ((H.out.erase 1).front (x := (g4, Blk 38 .i64 16 (dF (r).val))) 0 rfl)
            go_wp2_with fail
            go_meet
            exact ⟨g4, rfl, H.out⟩
        · skip
          refine own_wp_allocB 4 rfl intsF.zero H.out rfl ?_
          intro w4 g4 H3 hb
          replace HS6 := Lib.hid (HS6.out.call hb)
          replace HS7 := Lib.hid (HS7.out.call hb)
          replace H := Lib.hid H3
          refine hK.out _ _ (H.out.row 3 rfl) (fun hN => ?_)
          clear hK K hH H3 hb
          have hH := hN
          clear hN
          try simp only [Act.put, List.setIfInBounds_toArray, List.set_cons_zero, List.set_cons_succ]
          refine wpAnyH_ready (rs := [3]) (by kernel_rfl) (by simp) ?_
          refine AllReadyH.cons (o := _) rfl (fun K hK => ?_) AllReadyH.nil
          go_simp
          refine (nrefAdd_any _ _ _ _ _ _ _ _ _ (by omega) (by omega) HS6.out HS7.out).mono ?_
          rintro e wc ⟨_, rfl, a8, c8, rfl, hs, hb⟩
          replace HS6 := Lib.hid (HS6.out.call hb)
          replace HS7 := Lib.hid (HS7.out.call hb)
          replace H := Lib.hid (H.out.call hb)
          have HS8 := Lib.hid hs
          refine hK.out _ _ (H.out.row 3 rfl) (fun hN => ?_)
          clear hK K hH hb hs
          have hH := hN
          clear hN
          try simp only [Act.put, List.setIfInBounds_toArray, List.set_cons_zero, List.set_cons_succ]
          refine wpAnyH_ready (rs := [4]) (by kernel_rfl) (by simp) ?_
          refine AllReadyH.cons (o := _) rfl (fun K hK => ?_) AllReadyH.nil
          go_simp
          refine (refShift_any _ _ _ _ _ _ (by omega) (by omega) (by omega) HS8.out).mono ?_
          rintro e wc ⟨_, rfl, a9, c9, rfl, hs, hb⟩
          replace HS6 := Lib.hid (HS6.out.call hb)
          replace HS7 := Lib.hid (HS7.out.call hb)
          replace HS8 := Lib.hid (HS8.out.call hb)
          replace H := Lib.hid (H.out.call hb)
          have HS9 := Lib.hid hs
          refine hK.out _ _ (H.out.row 3 rfl) (fun hN => ?_)
          clear hK K hH hb hs
          have hH := hN
          clear hN
          try simp only [Act.put, List.setIfInBounds_toArray, List.set_cons_zero, List.set_cons_succ]
          refine wpAnyH_ready (rs := [5]) (by kernel_rfl) (by simp) ?_
          refine AllReadyH.cons (o := _) rfl (fun K hK => ?_) AllReadyH.nil
          go_simp
          refine (refPower_k _ _ _ _ _ HS9.out (by omega)).mono ?_
          rintro e wc ⟨rfl, hb⟩
          replace HS6 := Lib.hid (HS6.out.call hb)
          replace HS7 := Lib.hid (HS7.out.call hb)
          replace HS8 := Lib.hid (HS8.out.call hb)
          replace HS9 := Lib.hid (HS9.out.call hb)
          replace H := Lib.hid (H.out.call hb)
          refine hK.out _ _ (H.out.row 3 rfl) (fun hN => ?_)
          clear hK K hH hb
          have hH := hN
          clear hN
          try simp only [Act.put, List.setIfInBounds_toArray, List.set_cons_zero, List.set_cons_succ]
          refine wpAnyH_ready (rs := [7]) (by kernel_rfl) (by simp) ?_
          refine AllReadyH.cons (o := _) rfl (fun K hK => ?_) AllReadyH.nil
          refine own_wp_store 0 rowF H.out rfl rfl rfl rfl ?_
          intro ws HS
          simp only [List.set_cons_zero] at HS
          replace H := Lib.hid HS
          refine hK.out _ _ (H.out.row 3 rfl) (fun hN => ?_)
          clear hK K HS hH
          have hH := hN
          clear hN
          try simp only [Act.put, List.setIfInBounds_toArray]
          try simp only [Act.put]
          refine wpAnyH_done (by kernel_rfl) ?_ _
          refine NoPanic.normal ?_
          clear hH
          rw [shf_c, HQ.out] at H
          clear HQ
          replace H := Lib.hid ((H.out.erase 1).front (x := (g4, Blk 38 .i64 16 (dF (r).val))) 0 rfl)
          go_wp2_with fail
          go_meet
          exact ⟨g4, rfl, H.out⟩
      · skip
        refine own_wp_allocB 4 rfl intsF.zero H.out rfl ?_
        intro w4 g4 H3 hb
        replace HS6 := Lib.hid (HS6.out.call hb)
        replace H := Lib.hid H3
        refine hK.out _ _ (H.out.row 2 rfl) (fun hN => ?_)
        clear hK K hH H3 hb
        have hH := hN
        clear hN
        try simp only [Act.put, List.setIfInBounds_toArray, List.set_cons_zero, List.set_cons_succ]
        refine wpAnyH_ready (rs := [2]) (by kernel_rfl) (by simp) ?_
        refine AllReadyH.cons (o := _) rfl (fun K hK => ?_) AllReadyH.nil
        refine own_wp_byte 7 rfl (v := 1) (by omega) H.out rfl ?_
        intro w7 g7 H3 hs hb
        replace HS6 := Lib.hid (HS6.out.call hb)
        replace H := Lib.hid H3
        have HS7 := Lib.hid hs
        refine hK.out _ _ (H.out.row 3 rfl) (fun hN => ?_)
        clear hK K hH H3 hs hb
        have hH := hN
        clear hN
        try simp only [Act.put, List.setIfInBounds_toArray, List.set_cons_zero, List.set_cons_succ]
        refine wpAnyH_ready (rs := [3]) (by kernel_rfl) (by simp) ?_
        refine AllReadyH.cons (o := _) rfl (fun K hK => ?_) AllReadyH.nil
        go_simp
        refine (nrefAdd_any _ _ _ _ _ _ _ _ _ (by omega) (by omega) HS6.out HS7.out).mono ?_
        rintro e wc ⟨_, rfl, a8, c8, rfl, hs, hb⟩
        replace HS6 := Lib.hid (HS6.out.call hb)
        replace HS7 := Lib.hid (HS7.out.call hb)
        replace H := Lib.hid (H.out.call hb)
        have HS8 := Lib.hid hs
        refine hK.out _ _ (H.out.row 3 rfl) (fun hN => ?_)
        clear hK K hH hb hs
        have hH := hN
        clear hN
        try simp only [Act.put, List.setIfInBounds_toArray, List.set_cons_zero, List.set_cons_succ]
        refine wpAnyH_ready (rs := [4]) (by kernel_rfl) (by simp) ?_
        refine AllReadyH.cons (o := _) rfl (fun K hK => ?_) AllReadyH.nil
        go_simp
        refine (refShift_any _ _ _ _ _ _ (by omega) (by omega) (by omega) HS8.out).mono ?_
        rintro e wc ⟨_, rfl, a9, c9, rfl, hs, hb⟩
        replace HS6 := Lib.hid (HS6.out.call hb)
        replace HS7 := Lib.hid (HS7.out.call hb)
        replace HS8 := Lib.hid (HS8.out.call hb)
        replace H := Lib.hid (H.out.call hb)
        have HS9 := Lib.hid hs
        refine hK.out _ _ (H.out.row 3 rfl) (fun hN => ?_)
        clear hK K hH hb hs
        have hH := hN
        clear hN
        try simp only [Act.put, List.setIfInBounds_toArray, List.set_cons_zero, List.set_cons_succ]
        refine wpAnyH_ready (rs := [5]) (by kernel_rfl) (by simp) ?_
        refine AllReadyH.cons (o := _) rfl (fun K hK => ?_) AllReadyH.nil
        go_simp
        refine (refPower_k _ _ _ _ _ HS9.out (by omega)).mono ?_
        rintro e wc ⟨rfl, hb⟩
        replace HS6 := Lib.hid (HS6.out.call hb)
        replace HS7 := Lib.hid (HS7.out.call hb)
        replace HS8 := Lib.hid (HS8.out.call hb)
        replace HS9 := Lib.hid (HS9.out.call hb)
        replace H := Lib.hid (H.out.call hb)
        refine hK.out _ _ (H.out.row 3 rfl) (fun hN => ?_)
        clear hK K hH hb
        have hH := hN
        clear hN
        try simp only [Act.put, List.setIfInBounds_toArray, List.set_cons_zero, List.set_cons_succ]
        refine wpAnyH_ready (rs := [7]) (by kernel_rfl) (by simp) ?_
        refine AllReadyH.cons (o := _) rfl (fun K hK => ?_) AllReadyH.nil
        refine own_wp_store 1 rowF H.out rfl rfl rfl rfl ?_
        intro ws HS
        simp only [List.set_cons_zero, List.set_cons_succ] at HS
        replace H := Lib.hid HS
        refine hK.out _ _ (H.out.row 3 rfl) (fun hN => ?_)
        clear hK K HS hH
        have hH := hN
        clear hN
        try simp only [Act.put, List.setIfInBounds_toArray]
        try simp only [Act.put]
        refine wpAnyH_done (by kernel_rfl) ?_ _
        refine NoPanic.normal ?_
        clear hH
        rw [shf_c, HQ.out] at H
        clear HQ
        replace H := Lib.hid ((H.out.erase 0).front (x := (g4, Blk 38 .i64 16 (dF (r).val))) 0 rfl)
        go_wp2_with fail
        go_meet
        exact ⟨g4, rfl, H.out⟩
    · skip
      refine own_wp_byte 7 rfl (v := 1) (by omega) H.out rfl ?_
      intro w7 g7 H3 hs hb
      replace H := Lib.hid H3
      have HS7 := Lib.hid hs
      refine hK.out _ _ (H.out.row 2 rfl) (fun hN => ?_)
      clear hK K hH H3 hs hb
      have hH := hN
      clear hN
      try simp only [Act.put, List.setIfInBounds_toArray, List.set_cons_zero, List.set_cons_succ]
      refine wpAnyH_ready (rs := [1, 6]) (by kernel_rfl) (by simp) ?_
      refine AllReadyH.cons (o := _) rfl (fun K hK => ?_) (AllReadyH.cons (o := _) rfl (fun K hK => ?_) AllReadyH.nil)
      · skip
        go_simp
        refine (refPrime_sb _).mono ?_
        rintro e wc ⟨a6, c6, rfl, hs, hb⟩
        replace HS7 := Lib.hid (HS7.out.call hb)
        replace H := Lib.hid (H.out.call hb)
        have HS6 := Lib.hid hs
        refine hK.out _ _ (H.out.row 2 rfl) (fun hN => ?_)
        clear hK K hH hb hs
        have hH := hN
        clear hN
        try simp only [Act.put, List.setIfInBounds_toArray, List.set_cons_zero, List.set_cons_succ]
        refine wpAnyH_ready (rs := [3, 6]) (by kernel_rfl) (by simp) ?_
        refine AllReadyH.cons (o := _) rfl (fun K hK => ?_) (AllReadyH.cons (o := _) rfl (fun K hK => ?_) AllReadyH.nil)
        · skip
          go_simp
          refine (nrefAdd_any _ _ _ _ _ _ _ _ _ (by omega) (by omega) HS6.out HS7.out).mono ?_
          rintro e wc ⟨_, rfl, a8, c8, rfl, hs, hb⟩
          replace HS7 := Lib.hid (HS7.out.call hb)
          replace HS6 := Lib.hid (HS6.out.call hb)
          replace H := Lib.hid (H.out.call hb)
          have HS8 := Lib.hid hs
          refine hK.out _ _ (H.out.row 2 rfl) (fun hN => ?_)
          clear hK K hH hb hs
          have hH := hN
          clear hN
          try simp only [Act.put, List.setIfInBounds_toArray, List.set_cons_zero, List.set_cons_succ]
          refine wpAnyH_ready (rs := [4, 6]) (by kernel_rfl) (by simp) ?_
          refine AllReadyH.cons (o := _) rfl (fun K hK => ?_) (AllReadyH.cons (o := _) rfl (fun K hK => ?_) AllReadyH.nil)
          · skip
            go_simp
            refine (refShift_any _ _ _ _ _ _ (by omega) (by omega) (by omega) HS8.out).mono ?_
            rintro e wc ⟨_, rfl, a9, c9, rfl, hs, hb⟩
            replace HS7 := Lib.hid (HS7.out.call hb)
            replace HS6 := Lib.hid (HS6.out.call hb)
            replace HS8 := Lib.hid (HS8.out.call hb)
            replace H := Lib.hid (H.out.call hb)
            have HS9 := Lib.hid hs
            refine hK.out _ _ (H.out.row 2 rfl) (fun hN => ?_)
            clear hK K hH hb hs
            have hH := hN
            clear hN
            try simp only [Act.put, List.setIfInBounds_toArray, List.set_cons_zero, List.set_cons_succ]
            refine wpAnyH_ready (rs := [5, 6]) (by kernel_rfl) (by simp) ?_
            refine AllReadyH.cons (o := _) rfl (fun K hK => ?_) (AllReadyH.cons (o := _) rfl (fun K hK => ?_) AllReadyH.nil)
            · skip
              go_simp
              refine (refPower_k _ _ _ _ _ HS9.out (by omega)).mono ?_
              rintro e wc ⟨rfl, hb⟩
              replace HS7 := Lib.hid (HS7.out.call hb)
              replace HS6 := Lib.hid (HS6.out.call hb)
              replace HS8 := Lib.hid (HS8.out.call hb)
              replace HS9 := Lib.hid (HS9.out.call hb)
              replace H := Lib.hid (H.out.call hb)
              refine hK.out _ _ (H.out.row 2 rfl) (fun hN => ?_)
              clear hK K hH hb
              have hH := hN
              clear hN
              try simp only [Act.put, List.setIfInBounds_toArray, List.set_cons_zero, List.set_cons_succ]
              refine wpAnyH_ready (rs := [6]) (by kernel_rfl) (by simp) ?_
              refine AllReadyH.cons (o := _) rfl (fun K hK => ?_) AllReadyH.nil
              refine own_wp_allocB 4 rfl intsF.zero H.out rfl ?_
              intro w4 g4 H3 hb
              replace HS7 := Lib.hid (HS7.out.call hb)
              replace HS6 := Lib.hid (HS6.out.call hb)
              replace HS8 := Lib.hid (HS8.out.call hb)
              replace HS9 := Lib.hid (HS9.out.call hb)
              replace H := Lib.hid H3
              refine hK.out _ _ (H.out.row 3 rfl) (fun hN => ?_)
              clear hK K hH H3 hb
              have hH := hN
              clear hN
              try simp only [Act.put, List.setIfInBounds_toArray, List.set_cons_zero, List.set_cons_succ]
              refine wpAnyH_ready (rs := [7]) (by kernel_rfl) (by simp) ?_
              refine AllReadyH.cons (o := _) rfl (fun K hK => ?_) AllReadyH.nil
              refine own_wp_store 0 rowF H.out rfl rfl rfl rfl ?_
              intro ws HS
              simp only [List.set_cons_zero] at HS
              replace H := Lib.hid HS
              refine hK.out _ _ (H.out.row 3 rfl) (fun hN => ?_)
              clear hK K HS hH
              have hH := hN
              clear hN
              try simp only [Act.put, List.setIfInBounds_toArray]
              try simp only [Act.put]
              refine wpAnyH_done (by kernel_rfl) ?_ _
              refine NoPanic.normal ?_
              clear hH
              rw [shf_c, HQ.out] at H
              clear HQ
              replace H := Lib.hid ((H.out.erase 1).front (x := (g4, Blk 38 .i64 16 (dF (r).val))) 0 rfl)
              go_wp2_with fail
              go_meet
              exact ⟨g4, rfl, H.out⟩
            · skip
              refine own_wp_allocB 4 rfl intsF.zero H.out rfl ?_
              intro w4 g4 H3 hb
              replace HS7 := Lib.hid (HS7.out.call hb)
              replace HS6 := Lib.hid (HS6.out.call hb)
              replace HS8 := Lib.hid (HS8.out.call hb)
              replace HS9 := Lib.hid (HS9.out.call hb)
              replace H := Lib.hid H3
              refine hK.out _ _ (H.out.row 3 rfl) (fun hN => ?_)
              clear hK K hH H3 hb
              have hH := hN
              clear hN
              try simp only [Act.put, List.setIfInBounds_toArray, List.set_cons_zero, List.set_cons_succ]
              refine wpAnyH_ready (rs := [5]) (by kernel_rfl) (by simp) ?_
              refine AllReadyH.cons (o := _) rfl (fun K hK => ?_) AllReadyH.nil
              go_simp
              refine (refPower_k _ _ _ _ _ HS9.out (by omega)).mono ?_
              rintro e wc ⟨rfl, hb⟩
              replace HS7 := Lib.hid (HS7.out.call hb)
              replace HS6 := Lib.hid (HS6.out.call hb)
              replace HS8 := Lib.hid (HS8.out.call hb)
              replace HS9 := Lib.hid (HS9.out.call hb)
              replace H := Lib.hid (H.out.call hb)
              refine hK.out _ _ (H.out.row 3 rfl) (fun hN => ?_)
              clear hK K hH hb
              have hH := hN
              clear hN
              try simp only [Act.put, List.setIfInBounds_toArray, List.set_cons_zero, List.set_cons_succ]
              refine wpAnyH_ready (rs := [7]) (by kernel_rfl) (by simp) ?_
              refine AllReadyH.cons (o := _) rfl (fun K hK => ?_) AllReadyH.nil
              refine own_wp_store 0 rowF H.out rfl rfl rfl rfl ?_
              intro ws HS
              simp only [List.set_cons_zero] at HS
              replace H := Lib.hid HS
              refine hK.out _ _ (H.out.row 3 rfl) (fun hN => ?_)
              clear hK K HS hH
              have hH := hN
              clear hN
              try simp only [Act.put, List.setIfInBounds_toArray]
              try simp only [Act.put]
              refine wpAnyH_done (by kernel_rfl) ?_ _
              refine NoPanic.normal ?_
              clear hH
              rw [shf_c, HQ.out] at H
              clear HQ
              replace H := Lib.hid ((H.out.erase 1).front (x := (g4, Blk 38 .i64 16 (dF (r).val))) 0 rfl)
              go_wp2_with fail
              go_meet
              exact ⟨g4, rfl, H.out⟩
          · skip
            refine own_wp_allocB 4 rfl intsF.zero H.out rfl ?_
            intro w4 g4 H3 hb
            replace HS7 := Lib.hid (HS7.out.call hb)
            replace HS6 := Lib.hid (HS6.out.call hb)
            replace HS8 := Lib.hid (HS8.out.call hb)
            replace H := Lib.hid H3
            refine hK.out _ _ (H.out.row 3 rfl) (fun hN => ?_)
            clear hK K hH H3 hb
            have hH := hN
            clear hN
            try simp only [Act.put, List.setIfInBounds_toArray, List.set_cons_zero, List.set_cons_succ]
            refine wpAnyH_ready (rs := [4]) (by kernel_rfl) (by simp) ?_
            refine AllReadyH.cons (o := _) rfl (fun K hK => ?_) AllReadyH.nil
            go_simp
            refine (refShift_any _ _ _ _ _ _ (by omega) (by omega) (by omega) HS8.out).mono ?_
            rintro e wc ⟨_, rfl, a9, c9, rfl, hs, hb⟩
            replace HS7 := Lib.hid (HS7.out.call hb)
            replace HS6 := Lib.hid (HS6.out.call hb)
            replace HS8 := Lib.hid (HS8.out.call hb)
            replace H := Lib.hid (H.out.call hb)
            have HS9 := Lib.hid hs
            refine hK.out _ _ (H.out.row 3 rfl) (fun hN => ?_)
            clear hK K hH hb hs
            have hH := hN
            clear hN
            try simp only [Act.put, List.setIfInBounds_toArray, List.set_cons_zero, List.set_cons_succ]
            refine wpAnyH_ready (rs := [5]) (by kernel_rfl) (by simp) ?_
            refine AllReadyH.cons (o := _) rfl (fun K hK => ?_) AllReadyH.nil
            go_simp
            refine (refPower_k _ _ _ _ _ HS9.out (by omega)).mono ?_
            rintro e wc ⟨rfl, hb⟩
            replace HS7 := Lib.hid (HS7.out.call hb)
            replace HS6 := Lib.hid (HS6.out.call hb)
            replace HS8 := Lib.hid (HS8.out.call hb)
            replace HS9 := Lib.hid (HS9.out.call hb)
            replace H := Lib.hid (H.out.call hb)
            refine hK.out _ _ (H.out.row 3 rfl) (fun hN => ?_)
            clear hK K hH hb
            have hH := hN
            clear hN
            try simp only [Act.put, List.setIfInBounds_toArray, List.set_cons_zero, List.set_cons_succ]
            refine wpAnyH_ready (rs := [7]) (by kernel_rfl) (by simp) ?_
            refine AllReadyH.cons (o := _) rfl (fun K hK => ?_) AllReadyH.nil
            refine own_wp_store 0 rowF H.out rfl rfl rfl rfl ?_
            intro ws HS
            simp only [List.set_cons_zero] at HS
            replace H := Lib.hid HS
            refine hK.out _ _ (H.out.row 3 rfl) (fun hN => ?_)
            clear hK K HS hH
            have hH := hN
            clear hN
            try simp only [Act.put, List.setIfInBounds_toArray]
            try simp only [Act.put]
            refine wpAnyH_done (by kernel_rfl) ?_ _
            refine NoPanic.normal ?_
            clear hH
            rw [shf_c, HQ.out] at H
            clear HQ
            replace H := Lib.hid ((H.out.erase 1).front (x := (g4, Blk 38 .i64 16 (dF (r).val))) 0 rfl)
            go_wp2_with fail
            go_meet
            exact ⟨g4, rfl, H.out⟩
        · skip
          refine own_wp_allocB 4 rfl intsF.zero H.out rfl ?_
          intro w4 g4 H3 hb
          replace HS7 := Lib.hid (HS7.out.call hb)
          replace HS6 := Lib.hid (HS6.out.call hb)
          replace H := Lib.hid H3
          refine hK.out _ _ (H.out.row 3 rfl) (fun hN => ?_)
          clear hK K hH H3 hb
          have hH := hN
          clear hN
          try simp only [Act.put, List.setIfInBounds_toArray, List.set_cons_zero, List.set_cons_succ]
          refine wpAnyH_ready (rs := [3]) (by kernel_rfl) (by simp) ?_
          refine AllReadyH.cons (o := _) rfl (fun K hK => ?_) AllReadyH.nil
          go_simp
          refine (nrefAdd_any _ _ _ _ _ _ _ _ _ (by omega) (by omega) HS6.out HS7.out).mono ?_
          rintro e wc ⟨_, rfl, a8, c8, rfl, hs, hb⟩
          replace HS7 := Lib.hid (HS7.out.call hb)
          replace HS6 := Lib.hid (HS6.out.call hb)
          replace H := Lib.hid (H.out.call hb)
          have HS8 := Lib.hid hs
          refine hK.out _ _ (H.out.row 3 rfl) (fun hN => ?_)
          clear hK K hH hb hs
          have hH := hN
          clear hN
          try simp only [Act.put, List.setIfInBounds_toArray, List.set_cons_zero, List.set_cons_succ]
          refine wpAnyH_ready (rs := [4]) (by kernel_rfl) (by simp) ?_
          refine AllReadyH.cons (o := _) rfl (fun K hK => ?_) AllReadyH.nil
          go_simp
          refine (refShift_any _ _ _ _ _ _ (by omega) (by omega) (by omega) HS8.out).mono ?_
          rintro e wc ⟨_, rfl, a9, c9, rfl, hs, hb⟩
          replace HS7 := Lib.hid (HS7.out.call hb)
          replace HS6 := Lib.hid (HS6.out.call hb)
          replace HS8 := Lib.hid (HS8.out.call hb)
          replace H := Lib.hid (H.out.call hb)
          have HS9 := Lib.hid hs
          refine hK.out _ _ (H.out.row 3 rfl) (fun hN => ?_)
          clear hK K hH hb hs
          have hH := hN
          clear hN
          try simp only [Act.put, List.setIfInBounds_toArray, List.set_cons_zero, List.set_cons_succ]
          refine wpAnyH_ready (rs := [5]) (by kernel_rfl) (by simp) ?_
          refine AllReadyH.cons (o := _) rfl (fun K hK => ?_) AllReadyH.nil
          go_simp
          refine (refPower_k _ _ _ _ _ HS9.out (by omega)).mono ?_
          rintro e wc ⟨rfl, hb⟩
          replace HS7 := Lib.hid (HS7.out.call hb)
          replace HS6 := Lib.hid (HS6.out.call hb)
          replace HS8 := Lib.hid (HS8.out.call hb)
          replace HS9 := Lib.hid (HS9.out.call hb)
          replace H := Lib.hid (H.out.call hb)
          refine hK.out _ _ (H.out.row 3 rfl) (fun hN => ?_)
          clear hK K hH hb
          have hH := hN
          clear hN
          try simp only [Act.put, List.setIfInBounds_toArray, List.set_cons_zero, List.set_cons_succ]
          refine wpAnyH_ready (rs := [7]) (by kernel_rfl) (by simp) ?_
          refine AllReadyH.cons (o := _) rfl (fun K hK => ?_) AllReadyH.nil
          refine own_wp_store 0 rowF H.out rfl rfl rfl rfl ?_
          intro ws HS
          simp only [List.set_cons_zero] at HS
          replace H := Lib.hid HS
          refine hK.out _ _ (H.out.row 3 rfl) (fun hN => ?_)
          clear hK K HS hH
          have hH := hN
          clear hN
          try simp only [Act.put, List.setIfInBounds_toArray]
          try simp only [Act.put]
          refine wpAnyH_done (by kernel_rfl) ?_ _
          refine NoPanic.normal ?_
          clear hH
          rw [shf_c, HQ.out] at H
          clear HQ
          replace H := Lib.hid ((H.out.erase 1).front (x := (g4, Blk 38 .i64 16 (dF (r).val))) 0 rfl)
          go_wp2_with fail
          go_meet
          exact ⟨g4, rfl, H.out⟩
      · skip
        refine own_wp_allocB 4 rfl intsF.zero H.out rfl ?_
        intro w4 g4 H3 hb
        replace HS7 := Lib.hid (HS7.out.call hb)
        replace H := Lib.hid H3
        refine hK.out _ _ (H.out.row 3 rfl) (fun hN => ?_)
        clear hK K hH H3 hb
        have hH := hN
        clear hN
        try simp only [Act.put, List.setIfInBounds_toArray, List.set_cons_zero, List.set_cons_succ]
        refine wpAnyH_ready (rs := [1]) (by kernel_rfl) (by simp) ?_
        refine AllReadyH.cons (o := _) rfl (fun K hK => ?_) AllReadyH.nil
        go_simp
        refine (refPrime_sb _).mono ?_
        rintro e wc ⟨a6, c6, rfl, hs, hb⟩
        replace HS7 := Lib.hid (HS7.out.call hb)
        replace H := Lib.hid (H.out.call hb)
        have HS6 := Lib.hid hs
        refine hK.out _ _ (H.out.row 3 rfl) (fun hN => ?_)
        clear hK K hH hb hs
        have hH := hN
        clear hN
        try simp only [Act.put, List.setIfInBounds_toArray, List.set_cons_zero, List.set_cons_succ]
        refine wpAnyH_ready (rs := [3]) (by kernel_rfl) (by simp) ?_
        refine AllReadyH.cons (o := _) rfl (fun K hK => ?_) AllReadyH.nil
        go_simp
        refine (nrefAdd_any _ _ _ _ _ _ _ _ _ (by omega) (by omega) HS6.out HS7.out).mono ?_
        rintro e wc ⟨_, rfl, a8, c8, rfl, hs, hb⟩
        replace HS7 := Lib.hid (HS7.out.call hb)
        replace HS6 := Lib.hid (HS6.out.call hb)
        replace H := Lib.hid (H.out.call hb)
        have HS8 := Lib.hid hs
        refine hK.out _ _ (H.out.row 3 rfl) (fun hN => ?_)
        clear hK K hH hb hs
        have hH := hN
        clear hN
        try simp only [Act.put, List.setIfInBounds_toArray, List.set_cons_zero, List.set_cons_succ]
        refine wpAnyH_ready (rs := [4]) (by kernel_rfl) (by simp) ?_
        refine AllReadyH.cons (o := _) rfl (fun K hK => ?_) AllReadyH.nil
        go_simp
        refine (refShift_any _ _ _ _ _ _ (by omega) (by omega) (by omega) HS8.out).mono ?_
        rintro e wc ⟨_, rfl, a9, c9, rfl, hs, hb⟩
        replace HS7 := Lib.hid (HS7.out.call hb)
        replace HS6 := Lib.hid (HS6.out.call hb)
        replace HS8 := Lib.hid (HS8.out.call hb)
        replace H := Lib.hid (H.out.call hb)
        have HS9 := Lib.hid hs
        refine hK.out _ _ (H.out.row 3 rfl) (fun hN => ?_)
        clear hK K hH hb hs
        have hH := hN
        clear hN
        try simp only [Act.put, List.setIfInBounds_toArray, List.set_cons_zero, List.set_cons_succ]
        refine wpAnyH_ready (rs := [5]) (by kernel_rfl) (by simp) ?_
        refine AllReadyH.cons (o := _) rfl (fun K hK => ?_) AllReadyH.nil
        go_simp
        refine (refPower_k _ _ _ _ _ HS9.out (by omega)).mono ?_
        rintro e wc ⟨rfl, hb⟩
        replace HS7 := Lib.hid (HS7.out.call hb)
        replace HS6 := Lib.hid (HS6.out.call hb)
        replace HS8 := Lib.hid (HS8.out.call hb)
        replace HS9 := Lib.hid (HS9.out.call hb)
        replace H := Lib.hid (H.out.call hb)
        refine hK.out _ _ (H.out.row 3 rfl) (fun hN => ?_)
        clear hK K hH hb
        have hH := hN
        clear hN
        try simp only [Act.put, List.setIfInBounds_toArray, List.set_cons_zero, List.set_cons_succ]
        refine wpAnyH_ready (rs := [7]) (by kernel_rfl) (by simp) ?_
        refine AllReadyH.cons (o := _) rfl (fun K hK => ?_) AllReadyH.nil
        refine own_wp_store 0 rowF H.out rfl rfl rfl rfl ?_
        intro ws HS
        simp only [List.set_cons_zero] at HS
        replace H := Lib.hid HS
        refine hK.out _ _ (H.out.row 3 rfl) (fun hN => ?_)
        clear hK K HS hH
        have hH := hN
        clear hN
        try simp only [Act.put, List.setIfInBounds_toArray]
        try simp only [Act.put]
        refine wpAnyH_done (by kernel_rfl) ?_ _
        refine NoPanic.normal ?_
        clear hH
        rw [shf_c, HQ.out] at H
        clear HQ
        replace H := Lib.hid ((H.out.erase 1).front (x := (g4, Blk 38 .i64 16 (dF (r).val))) 0 rfl)
        go_wp2_with fail
        go_meet
        exact ⟨g4, rfl, H.out⟩
    · skip
      refine own_wp_allocB 4 rfl intsF.zero H.out rfl ?_
      intro w4 g4 H3 hb
      replace H := Lib.hid H3
      refine hK.out _ _ (H.out.row 2 rfl) (fun hN => ?_)
      clear hK K hH H3 hb
      have hH := hN
      clear hN
      try simp only [Act.put, List.setIfInBounds_toArray, List.set_cons_zero, List.set_cons_succ]
      refine wpAnyH_ready (rs := [1, 2]) (by kernel_rfl) (by simp) ?_
      refine AllReadyH.cons (o := _) rfl (fun K hK => ?_) (AllReadyH.cons (o := _) rfl (fun K hK => ?_) AllReadyH.nil)
      · skip
        go_simp
        refine (refPrime_sb _).mono ?_
        rintro e wc ⟨a6, c6, rfl, hs, hb⟩
        replace H := Lib.hid (H.out.call hb)
        have HS6 := Lib.hid hs
        refine hK.out _ _ (H.out.row 2 rfl) (fun hN => ?_)
        clear hK K hH hb hs
        have hH := hN
        clear hN
        try simp only [Act.put, List.setIfInBounds_toArray, List.set_cons_zero, List.set_cons_succ]
        refine wpAnyH_ready (rs := [2]) (by kernel_rfl) (by simp) ?_
        refine AllReadyH.cons (o := _) rfl (fun K hK => ?_) AllReadyH.nil
        refine own_wp_byte 7 rfl (v := 1) (by omega) H.out rfl ?_
        intro w7 g7 H3 hs hb
        replace HS6 := Lib.hid (HS6.out.call hb)
        replace H := Lib.hid H3
        have HS7 := Lib.hid hs
        refine hK.out _ _ (H.out.row 3 rfl) (fun hN => ?_)
        clear hK K hH H3 hs hb
        have hH := hN
        clear hN
        try simp only [Act.put, List.setIfInBounds_toArray, List.set_cons_zero, List.set_cons_succ]
        refine wpAnyH_ready (rs := [3]) (by kernel_rfl) (by simp) ?_
        refine AllReadyH.cons (o := _) rfl (fun K hK => ?_) AllReadyH.nil
        go_simp
        refine (nrefAdd_any _ _ _ _ _ _ _ _ _ (by omega) (by omega) HS6.out HS7.out).mono ?_
        rintro e wc ⟨_, rfl, a8, c8, rfl, hs, hb⟩
        replace HS6 := Lib.hid (HS6.out.call hb)
        replace HS7 := Lib.hid (HS7.out.call hb)
        replace H := Lib.hid (H.out.call hb)
        have HS8 := Lib.hid hs
        refine hK.out _ _ (H.out.row 3 rfl) (fun hN => ?_)
        clear hK K hH hb hs
        have hH := hN
        clear hN
        try simp only [Act.put, List.setIfInBounds_toArray, List.set_cons_zero, List.set_cons_succ]
        refine wpAnyH_ready (rs := [4]) (by kernel_rfl) (by simp) ?_
        refine AllReadyH.cons (o := _) rfl (fun K hK => ?_) AllReadyH.nil
        go_simp
        refine (refShift_any _ _ _ _ _ _ (by omega) (by omega) (by omega) HS8.out).mono ?_
        rintro e wc ⟨_, rfl, a9, c9, rfl, hs, hb⟩
        replace HS6 := Lib.hid (HS6.out.call hb)
        replace HS7 := Lib.hid (HS7.out.call hb)
        replace HS8 := Lib.hid (HS8.out.call hb)
        replace H := Lib.hid (H.out.call hb)
        have HS9 := Lib.hid hs
        refine hK.out _ _ (H.out.row 3 rfl) (fun hN => ?_)
        clear hK K hH hb hs
        have hH := hN
        clear hN
        try simp only [Act.put, List.setIfInBounds_toArray, List.set_cons_zero, List.set_cons_succ]
        refine wpAnyH_ready (rs := [5]) (by kernel_rfl) (by simp) ?_
        refine AllReadyH.cons (o := _) rfl (fun K hK => ?_) AllReadyH.nil
        go_simp
        refine (refPower_k _ _ _ _ _ HS9.out (by omega)).mono ?_
        rintro e wc ⟨rfl, hb⟩
        replace HS6 := Lib.hid (HS6.out.call hb)
        replace HS7 := Lib.hid (HS7.out.call hb)
        replace HS8 := Lib.hid (HS8.out.call hb)
        replace HS9 := Lib.hid (HS9.out.call hb)
        replace H := Lib.hid (H.out.call hb)
        refine hK.out _ _ (H.out.row 3 rfl) (fun hN => ?_)
        clear hK K hH hb
        have hH := hN
        clear hN
        try simp only [Act.put, List.setIfInBounds_toArray, List.set_cons_zero, List.set_cons_succ]
        refine wpAnyH_ready (rs := [7]) (by kernel_rfl) (by simp) ?_
        refine AllReadyH.cons (o := _) rfl (fun K hK => ?_) AllReadyH.nil
        refine own_wp_store 1 rowF H.out rfl rfl rfl rfl ?_
        intro ws HS
        simp only [List.set_cons_zero, List.set_cons_succ] at HS
        replace H := Lib.hid HS
        refine hK.out _ _ (H.out.row 3 rfl) (fun hN => ?_)
        clear hK K HS hH
        have hH := hN
        clear hN
        try simp only [Act.put, List.setIfInBounds_toArray]
        try simp only [Act.put]
        refine wpAnyH_done (by kernel_rfl) ?_ _
        refine NoPanic.normal ?_
        clear hH
        rw [shf_c, HQ.out] at H
        clear HQ
        replace H := Lib.hid ((H.out.erase 0).front (x := (g4, Blk 38 .i64 16 (dF (r).val))) 0 rfl)
        go_wp2_with fail
        go_meet
        exact ⟨g4, rfl, H.out⟩
      · skip
        refine own_wp_byte 7 rfl (v := 1) (by omega) H.out rfl ?_
        intro w7 g7 H3 hs hb
        replace H := Lib.hid H3
        have HS7 := Lib.hid hs
        refine hK.out _ _ (H.out.row 3 rfl) (fun hN => ?_)
        clear hK K hH H3 hs hb
        have hH := hN
        clear hN
        try simp only [Act.put, List.setIfInBounds_toArray, List.set_cons_zero, List.set_cons_succ]
        refine wpAnyH_ready (rs := [1]) (by kernel_rfl) (by simp) ?_
        refine AllReadyH.cons (o := _) rfl (fun K hK => ?_) AllReadyH.nil
        go_simp
        refine (refPrime_sb _).mono ?_
        rintro e wc ⟨a6, c6, rfl, hs, hb⟩
        replace HS7 := Lib.hid (HS7.out.call hb)
        replace H := Lib.hid (H.out.call hb)
        have HS6 := Lib.hid hs
        refine hK.out _ _ (H.out.row 3 rfl) (fun hN => ?_)
        clear hK K hH hb hs
        have hH := hN
        clear hN
        try simp only [Act.put, List.setIfInBounds_toArray, List.set_cons_zero, List.set_cons_succ]
        refine wpAnyH_ready (rs := [3]) (by kernel_rfl) (by simp) ?_
        refine AllReadyH.cons (o := _) rfl (fun K hK => ?_) AllReadyH.nil
        go_simp
        refine (nrefAdd_any _ _ _ _ _ _ _ _ _ (by omega) (by omega) HS6.out HS7.out).mono ?_
        rintro e wc ⟨_, rfl, a8, c8, rfl, hs, hb⟩
        replace HS7 := Lib.hid (HS7.out.call hb)
        replace HS6 := Lib.hid (HS6.out.call hb)
        replace H := Lib.hid (H.out.call hb)
        have HS8 := Lib.hid hs
        refine hK.out _ _ (H.out.row 3 rfl) (fun hN => ?_)
        clear hK K hH hb hs
        have hH := hN
        clear hN
        try simp only [Act.put, List.setIfInBounds_toArray, List.set_cons_zero, List.set_cons_succ]
        refine wpAnyH_ready (rs := [4]) (by kernel_rfl) (by simp) ?_
        refine AllReadyH.cons (o := _) rfl (fun K hK => ?_) AllReadyH.nil
        go_simp
        refine (refShift_any _ _ _ _ _ _ (by omega) (by omega) (by omega) HS8.out).mono ?_
        rintro e wc ⟨_, rfl, a9, c9, rfl, hs, hb⟩
        replace HS7 := Lib.hid (HS7.out.call hb)
        replace HS6 := Lib.hid (HS6.out.call hb)
        replace HS8 := Lib.hid (HS8.out.call hb)
        replace H := Lib.hid (H.out.call hb)
        have HS9 := Lib.hid hs
        refine hK.out _ _ (H.out.row 3 rfl) (fun hN => ?_)
        clear hK K hH hb hs
        have hH := hN
        clear hN
        try simp only [Act.put, List.setIfInBounds_toArray, List.set_cons_zero, List.set_cons_succ]
        refine wpAnyH_ready (rs := [5]) (by kernel_rfl) (by simp) ?_
        refine AllReadyH.cons (o := _) rfl (fun K hK => ?_) AllReadyH.nil
        go_simp
        refine (refPower_k _ _ _ _ _ HS9.out (by omega)).mono ?_
        rintro e wc ⟨rfl, hb⟩
        replace HS7 := Lib.hid (HS7.out.call hb)
        replace HS6 := Lib.hid (HS6.out.call hb)
        replace HS8 := Lib.hid (HS8.out.call hb)
        replace HS9 := Lib.hid (HS9.out.call hb)
        replace H := Lib.hid (H.out.call hb)
        refine hK.out _ _ (H.out.row 3 rfl) (fun hN => ?_)
        clear hK K hH hb
        have hH := hN
        clear hN
        try simp only [Act.put, List.setIfInBounds_toArray, List.set_cons_zero, List.set_cons_succ]
        refine wpAnyH_ready (rs := [7]) (by kernel_rfl) (by simp) ?_
        refine AllReadyH.cons (o := _) rfl (fun K hK => ?_) AllReadyH.nil
        refine own_wp_store 1 rowF H.out rfl rfl rfl rfl ?_
        intro ws HS
        simp only [List.set_cons_zero, List.set_cons_succ] at HS
        replace H := Lib.hid HS
        refine hK.out _ _ (H.out.row 3 rfl) (fun hN => ?_)
        clear hK K HS hH
        have hH := hN
        clear hN
        try simp only [Act.put, List.setIfInBounds_toArray]
        try simp only [Act.put]
        refine wpAnyH_done (by kernel_rfl) ?_ _
        refine NoPanic.normal ?_
        clear hH
        rw [shf_c, HQ.out] at H
        clear HQ
        replace H := Lib.hid ((H.out.erase 0).front (x := (g4, Blk 38 .i64 16 (dF (r).val))) 0 rfl)
        go_wp2_with fail
        go_meet
        exact ⟨g4, rfl, H.out⟩
  case rest =>
    clear H
    obtain ⟨g4, rfl, HR⟩ := hcut
    have H := Lib.hid HR
    clear HR h56 h57 HQ
    go_wp2_with fail
    refine wp_region_noPanic ?_
    refine wp_region_held_drew (S := fun W => W.heap[g4]? = some (Blk 38 .i64 16 (dF (r).val)) ∧ W.heap[g1]? = some (Blk 38 .i64 16 (dF (a).val))) (by kernel_rfl) (⟨H.out.drew.row 0 rfl, H.out.drew.row 2 rfl⟩) (fun hH => ?_)
    replace H := Lib.hid H.out.drew
    generalize World.drew _ = w8 at *
    refine held_row 0 11 rowF rfl rfl (by kernel_rfl) (by kernel_rfl) (by kernel_rfl) rfl hH rfl rfl (fun _ h => h.1) ?_
    try simp only [Act.put, List.setIfInBounds_toArray, List.set_cons_zero, List.set_cons_succ]
    refine held_row 1 12 rowF rfl rfl (by kernel_rfl) (by kernel_rfl) (by kernel_rfl) rfl hH rfl rfl (fun _ h => h.1) ?_
    try simp only [Act.put, List.setIfInBounds_toArray, List.set_cons_zero, List.set_cons_succ]
    refine held_row 3 14 rowF rfl rfl (by kernel_rfl) (by kernel_rfl) (by kernel_rfl) rfl hH rfl rfl (fun _ h => h.2) ?_
    try simp only [Act.put, List.setIfInBounds_toArray, List.set_cons_zero, List.set_cons_succ]
    refine wpAnyH_ready (rs := [2]) (by kernel_rfl) (by simp) ?_
    refine AllReadyH.cons (o := _) rfl (fun K hK => ?_) AllReadyH.nil
    go_simp
    refine (refMul_k _ _ _).mono ?_
    rintro e wc ⟨rfl, hb⟩
    replace H := Lib.hid (H.out.call hb)
    refine hK.out _ _ (⟨H.out.row 0 rfl, H.out.row 2 rfl⟩) (fun hN => ?_)
    clear hK K hH hb
    have hH := hN
    clear hN
    try simp only [Act.put, List.setIfInBounds_toArray, List.set_cons_zero, List.set_cons_succ]
    refine wpAnyH_ready (rs := [4]) (by kernel_rfl) (by simp) ?_
    refine AllReadyH.cons (o := _) rfl (fun K hK => ?_) AllReadyH.nil
    go_simp
    refine (refSame_k _ _ _).mono ?_
    rintro e wc ⟨rfl, hb⟩
    replace H := Lib.hid (H.out.call hb)
    refine hK.out _ _ (⟨H.out.row 0 rfl, H.out.row 2 rfl⟩) (fun hN => ?_)
    clear hK K hH hb
    have hH := hN
    clear hN
    try simp only [Act.put, List.setIfInBounds_toArray, List.set_cons_zero, List.set_cons_succ]
    refine held_value 5 16 (.bool (!(decide ((r * r) = a)))) rfl rfl (by kernel_rfl) (by kernel_rfl) (by kernel_rfl) rfl hH (fun w hw => by go_simp) ?_
    try simp only [Act.put, List.setIfInBounds_toArray, List.set_cons_zero, List.set_cons_succ]
    try simp only [Act.put]
    refine wpAnyH_done (by kernel_rfl) ?_ _
    refine NoPanic.normal ?_
    clear hH
    by_cases hb : r * r = a
    · rw [decide_eq_true hb]
      have HB := Lib.hid hb
      clear hb
      go_wp2_with (first
        | ((with_reducible apply own_load rowF H); (case hgd => exact rfl); (case ho => exact rfl); (case hx => exact rfl); (case hi => first | exact at0 | exact at1 | exact at2 | exact at3 | exact at4 | exact at5 | exact at6 | exact at7 | exact at8 | exact at9); intro _ _; go_simp)
        | ((with_reducible refine (refAbs_k _).mono ?_); rintro e wc ⟨rfl, hb⟩; replace H := Lib.hid (H.out.call hb); clear hb)
        | ((with_reducible apply own_store rowF H); (case hgd => exact rfl); (case ho => exact rfl); (case hx => exact rfl); (case hy => exact rfl); (case hi => first | exact at0 | exact at1 | exact at2 | exact at3 | exact at4 | exact at5 | exact at6 | exact at7 | exact at8 | exact at9); intro ws H' _ _; replace H := H'; clear H'; simp only [List.set_cons_zero, List.set_cons_succ] at H; go_simp))
      exact bodyPost_ret (own_result_slot 1 rowF rfl _ H rfl rfl rfl) rfl ⟨.inl ⟨HB.out, rfl⟩, H.out.bel⟩
    · rw [decide_eq_false hb]
      have HB := Lib.hid hb
      clear hb
      go_wp2_with (first
        | ((with_reducible apply lay_build_F0); (case hgd => exact rfl); (case ho => exact rfl); intro _ _; go_simp)
        | ((with_reducible apply own_store rowF H); (case hgd => exact rfl); (case ho => exact rfl); (case hx => exact rfl); (case hy => exact rfl); (case hi => first | exact at0 | exact at1 | exact at2 | exact at3 | exact at4 | exact at5 | exact at6 | exact at7 | exact at8 | exact at9); intro ws H' _ _; replace H := H'; clear H'; simp only [List.set_cons_zero, List.set_cons_succ] at H; go_simp))
      exact bodyPost_ret (own_result_slot 1 rowF rfl _ H rfl rfl rfl) rfl ⟨.inr ⟨HB.out, rfl⟩, H.out.bel⟩
theorem refRoot_k {a : K} (w : World) :
    Calls Tryd.prog 51 #[FV a.val] w fun e w' => ((a ^ (eC + 1) * a ^ (eC + 1) = a ∧ e = .returned (.tuple #[FV (ab (a ^ (eC + 1))).val, .bool true])) ∨ (a ^ (eC + 1) * a ^ (eC + 1) ≠ a ∧ e = .returned (.tuple #[FV (0 : K).val, .bool false]))) ∧ Below w.heap.size w w' := refRoot_walk w rfl
end Go.Proofs.YtanfobboeehiaaaDoor
