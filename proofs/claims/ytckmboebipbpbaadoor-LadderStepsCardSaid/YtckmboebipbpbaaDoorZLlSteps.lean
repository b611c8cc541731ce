/-
  The walk of LadderSteps. No statement is proved here: lemmas for the walks.
-/
import Derived.Test.YtckmboebipbpbaaDoorZLdAwake
import Derived.Test.YtckmboebipbpbaaDoorZLdRef
import Derived.Test.YtckmboebipbpbaaDoorBuQ
import Derived.Deep.CutRange
namespace Go.Proofs.YtckmboebipbpbaaDoor
open Go.RowKit

set_option maxRecDepth 20000 in
set_option maxHeartbeats 12800000 in
theorem steps_walk (u : Nat → BitVec 8) (x z : Nat → BitVec 8) (w : World) (hT : Tp w) :
    Calls Tryd.prog 3 #[.agg (AZ .u8 56 (UB u)), .agg (AZ .u8 112 (UB x)), .agg (AZ .u8 112 (UB z))] w fun e w' => e = .returned (.bool true) ∧ Below w.heap.size w w' := by
  obtain ⟨f1, a1, hm1, hp1, hv1⟩ := raw_k u
  have HM1 := Lib.hid hm1
  have HP1 := Lib.hid hp1
  have HV1 := Lib.hid hv1
  clear hm1 hp1 hv1
  obtain ⟨f2, a2, hm2, hp2, hv2⟩ := raw_k x
  have HM2 := Lib.hid hm2
  have HP2 := Lib.hid hp2
  have HV2 := Lib.hid hv2
  clear hm2 hp2 hv2
  obtain ⟨f3, a3, hm3, hp3, hv3⟩ := raw_k fun i => x (56 + i)
  have HM3 := Lib.hid hm3
  have HP3 := Lib.hid hp3
  have HV3 := Lib.hid hv3
  clear hm3 hp3 hv3
  obtain ⟨f4, a4, hm4, hp4, hv4⟩ := raw_k z
  have HM4 := Lib.hid hm4
  have HP4 := Lib.hid hp4
  have HV4 := Lib.hid hv4
  clear hm4 hp4 hv4
  obtain ⟨f5, a5, hm5, hp5, hv5⟩ := raw_k fun i => z (56 + i)
  have HM5 := Lib.hid hm5
  have HP5 := Lib.hid hp5
  have HV5 := Lib.hid hv5
  clear hm5 hp5 hv5
  have HT := Lib.hid hT
  clear hT
  have H := Lib.hid (Ow.start w)
  go_enter Tryd.func3, Tryd.ntmps3
  go_upto_region 9 with (first
    | ((fail_if_success have := g3); (with_reducible apply own_box H); (case hgd => exact rfl); (case ho => exact rfl); (case hx => exact rfl); intro w3 g3 H' _ _; replace H := H'; clear H'; go_simp)
    | ((fail_if_success have := g4); (fail_if_success have := g4); (with_reducible apply own_box H); (case hgd => exact rfl); (case ho => exact rfl); (case hx => exact rfl); intro w4 g4 H' _ _; replace H := H'; clear H'; go_simp)
    | ((fail_if_success have := g5); (fail_if_success have := g5); (with_reducible apply own_box H); (case hgd => exact rfl); (case ho => exact rfl); (case hx => exact rfl); intro w5 g5 H' _ _; replace H := H'; clear H'; go_simp)
    | ((with_reducible apply own_load rowB H); (case hgd => exact rfl); (case ho => exact rfl); (case hx => exact rfl); (case hi => first | exact at0 | exact at1 | exact at2 | exact at3 | exact at4 | exact at5 | exact at6 | exact at7 | exact at8 | exact at9); intro _ _; go_simp)
    | ((with_reducible apply own_load_p rowB H); (case hgd => exact rfl); (case ho => exact rfl); (case hx => exact rfl); (case hi => first | exact at0 | exact at1 | exact at2 | exact at3 | exact at4 | exact at5 | exact at6 | exact at7 | exact at8 | exact at9); (case hp => first | exact partR_0 | exact partR_1); intro _ _; go_simp)
    | ((with_reducible refine (HM1.out _).mono ?_); rintro e wc ⟨rfl, hb⟩; replace H := Lib.hid (H.out.call hb); clear hb)
    | ((with_reducible refine (HM2.out _).mono ?_); rintro e wc ⟨rfl, hb⟩; replace H := Lib.hid (H.out.call hb); clear hb)
    | ((with_reducible refine (HM3.out _).mono ?_); rintro e wc ⟨rfl, hb⟩; replace H := Lib.hid (H.out.call hb); clear hb)
    | ((with_reducible refine (HM4.out _).mono ?_); rintro e wc ⟨rfl, hb⟩; replace H := Lib.hid (H.out.call hb); clear hb)
    | ((with_reducible refine (HM5.out _).mono ?_); rintro e wc ⟨rfl, hb⟩; replace H := Lib.hid (H.out.call hb); clear hb)
    | ((fail_if_success have := g7); (fail_if_success have := g7); (with_reducible apply own_alloc nilE H); (case hgd => exact rfl); (case ho => exact rfl); intro w7 g7 H' _ _; replace H := H'; clear H'; go_simp)
    | ((fail_if_success have := g9); (fail_if_success have := g9); (with_reducible apply own_alloc nilE H); (case hgd => exact rfl); (case ho => exact rfl); intro w9 g9 H' _ _; replace H := H'; clear H'; go_simp)
    | ((fail_if_success have := g11); (fail_if_success have := g11); (with_reducible apply own_alloc nilE H); (case hgd => exact rfl); (case ho => exact rfl); intro w11 g11 H' _ _; replace H := H'; clear H'; go_simp)
    | ((fail_if_success have := g13); (fail_if_success have := g13); (with_reducible apply own_alloc nilE H); (case hgd => exact rfl); (case ho => exact rfl); intro w13 g13 H' _ _; replace H := H'; clear H'; go_simp)
    | ((fail_if_success have := g15); (fail_if_success have := g15); (with_reducible apply own_alloc nilE H); (case hgd => exact rfl); (case ho => exact rfl); intro w15 g15 H' _ _; replace H := H'; clear H'; go_simp)
    | ((with_reducible apply own_store rowE H); (case hgd => exact rfl); (case ho => exact rfl); (case hx => exact rfl); (case hy => exact rfl); (case hi => first | exact at0 | exact at1 | exact at2 | exact at3 | exact at4 | exact at5 | exact at6 | exact at7 | exact at8 | exact at9); intro ws H' _ _; replace H := H'; clear H'; simp only [List.set_cons_zero] at H; go_simp)
    | ((with_reducible apply own_load rowE H); (case hgd => exact rfl); (case ho => exact rfl); (case hx => exact rfl); (case hi => first | exact at0 | exact at1 | exact at2 | exact at3 | exact at4 | exact at5 | exact at6 | exact at7 | exact at8 | exact at9); intro _ _; go_simp)
    | ((with_reducible apply lay_build_E2); (case hgd => exact rfl); (case ho => exact rfl); (case hx => exact rfl); (case hy => exact rfl); intro _ _; go_simp)
    | ((fail_if_success have := VA); (with_reducible refine (step_k _ (HT.out.below H.out.bel) HV1.out HV2.out HV3.out HV4.out HV5.out).mono ?_); rintro e wc ⟨b0, b1, b2, b3, rfl, h0, h1, h2, h3, hb⟩; replace H := Lib.hid (H.out.call hb); clear hb; have VA := Lib.hid h0; have VB := Lib.hid h1; have VC := Lib.hid h2; have VD := Lib.hid h3; clear h0 h1 h2 h3)
    | ((fail_if_success have := g17); (fail_if_success have := g17); (with_reducible apply own_alloc nilE2 H); (case hgd => exact rfl); (case ho => exact rfl); intro w17 g17 H' _ _; replace H := H'; clear H'; go_simp)
    | ((fail_if_success have := g18); (fail_if_success have := g18); (with_reducible apply own_alloc nilE2 H); (case hgd => exact rfl); (case ho => exact rfl); intro w18 g18 H' _ _; replace H := H'; clear H'; go_simp)
    | ((with_reducible apply own_store rowE2 H); (case hgd => exact rfl); (case ho => exact rfl); (case hx => exact rfl); (case hy => exact rfl); (case hi => first | exact at0 | exact at1 | exact at2 | exact at3 | exact at4 | exact at5 | exact at6 | exact at7 | exact at8 | exact at9); intro ws H' _ _; replace H := H'; clear H'; simp only [List.set_cons_zero, List.set_cons_succ] at H; go_simp))
  go_cut [19] from 78 to 93 (fun v19 wx => ∃ g19, v19 = .pointer (some ⟨g19, 0, none⟩) ∧ Ow w wx [(g19, Blk 38 .i64 64 ((L4v (ldA cK a1 ⟨a2, a4, a3, a5⟩)))), (g18, Blk 32 .u64 16 ((t2 8 (NZ b2) (NZ b3)))), (g17, Blk 32 .u64 16 ((t2 8 (NZ b0) (NZ b1)))), (g15, Blk 29 .u64 8 (NZ f5)), (g13, Blk 29 .u64 8 (NZ f4)), (g11, Blk 29 .u64 8 (NZ f3)), (g9, Blk 29 .u64 8 (NZ f2)), (g7, Blk 29 .u64 8 (NZ f1)), (g5, Blk 25 .u8 112 (UB z)), (g4, Blk 25 .u8 112 (UB x)), (g3, Blk 23 .u8 56 (UB u))])
  case first =>
    go_wp2_with fail
    refine wp_region_noPanic ?_
    refine wp_region_held_drew (S := fun W => W.heap[g3]? = some (Blk 23 .u8 56 (UB u)) ∧ W.heap[g4]? = some (Blk 25 .u8 112 (UB x)) ∧ W.heap[g5]? = some (Blk 25 .u8 112 (UB z))) (by kernel_rfl) (⟨H.out.drew.row 9 rfl, H.out.drew.row 8 rfl, H.out.drew.row 7 rfl⟩) (fun hH => ?_)
    replace H := Lib.hid H.out.drew
    generalize World.drew _ = w8 at *
    refine held_row 0 78 rowB rfl rfl (by kernel_rfl) (by kernel_rfl) (by kernel_rfl) rfl hH rfl rfl (fun _ h => h.1) ?_
    try simp only [Act.put, List.setIfInBounds_toArray, List.set_cons_zero, List.set_cons_succ]
    refine held_value 2 80 (.pointer (some ⟨g4, 0, none⟩)) rfl rfl (by kernel_rfl) (by kernel_rfl) (by kernel_rfl) rfl hH (fun w hw => by go_simp) ?_
    try simp only [Act.put, List.setIfInBounds_toArray, List.set_cons_zero, List.set_cons_succ]
    refine held_part 3 81 rowB rfl rfl (by kernel_rfl) (by kernel_rfl) (by kernel_rfl) rfl hH rfl rfl partR_0 (fun _ h => h.2.1) ?_
    try simp only [Act.put, List.setIfInBounds_toArray, List.set_cons_zero, List.set_cons_succ]
    refine held_value 5 83 (.pointer (some ⟨g5, 0, none⟩)) rfl rfl (by kernel_rfl) (by kernel_rfl) (by kernel_rfl) rfl hH (fun w hw => by go_simp) ?_
    try simp only [Act.put, List.setIfInBounds_toArray, List.set_cons_zero, List.set_cons_succ]
    refine held_part 6 84 rowB rfl rfl (by kernel_rfl) (by kernel_rfl) (by kernel_rfl) rfl hH rfl rfl partR_0 (fun _ h => h.2.2) ?_
    try simp only [Act.put, List.setIfInBounds_toArray, List.set_cons_zero, List.set_cons_succ]
    refine held_value 8 86 (.pointer (some ⟨g4, 56, none⟩)) rfl rfl (by kernel_rfl) (by kernel_rfl) (by kernel_rfl) rfl hH (fun w hw => by go_simp) ?_
    try simp only [Act.put, List.setIfInBounds_toArray, List.set_cons_zero, List.set_cons_succ]
    refine held_part 9 87 rowB rfl rfl (by kernel_rfl) (by kernel_rfl) (by kernel_rfl) rfl hH rfl rfl partR_1 (fun _ h => h.2.1) ?_
    try simp only [Act.put, List.setIfInBounds_toArray, List.set_cons_zero, List.set_cons_succ]
    refine held_value 11 89 (.pointer (some ⟨g5, 56, none⟩)) rfl rfl (by kernel_rfl) (by kernel_rfl) (by kernel_rfl) rfl hH (fun w hw => by go_simp) ?_
    try simp only [Act.put, List.setIfInBounds_toArray, List.set_cons_zero, List.set_cons_succ]
    refine held_part 12 90 rowB rfl rfl (by kernel_rfl) (by kernel_rfl) (by kernel_rfl) rfl hH rfl rfl partR_1 (fun _ h => h.2.2) ?_
    try simp only [Act.put, List.setIfInBounds_toArray, List.set_cons_zero, List.set_cons_succ]
    refine wpAnyH_ready (rs := [1, 16]) (by kernel_rfl) (by simp) ?_
    refine AllReadyH.cons (o := _) rfl (fun K hK => ?_) (AllReadyH.cons (o := _) rfl (fun K hK => ?_) AllReadyH.nil)
    · skip
      go_simp
      refine (HP1.out _).mono ?_
      rintro e wc ⟨rfl, hb⟩
      replace H := Lib.hid (H.out.call hb)
      refine hK.out _ _ (⟨H.out.row 9 rfl, H.out.row 8 rfl, H.out.row 7 rfl⟩) (fun hN => ?_)
      clear hK K hH hb
      have hH := hN
      clear hN
      try simp only [Act.put, List.setIfInBounds_toArray, List.set_cons_zero, List.set_cons_succ]
      refine wpAnyH_ready (rs := [4, 16]) (by kernel_rfl) (by simp) ?_
      refine AllReadyH.cons (o := _) rfl (fun K hK => ?_) (AllReadyH.cons (o := _) rfl (fun K hK => ?_) AllReadyH.nil)
      · skip
        go_simp
        refine (HP2.out _).mono ?_
        rintro e wc ⟨rfl, hb⟩
        replace H := Lib.hid (H.out.call hb)
        refine hK.out _ _ (⟨H.out.row 9 rfl, H.out.row 8 rfl, H.out.row 7 rfl⟩) (fun hN => ?_)
        clear hK K hH hb
        have hH := hN
        clear hN
        try simp only [Act.put, List.setIfInBounds_toArray, List.set_cons_zero, List.set_cons_succ]
        refine wpAnyH_ready (rs := [7, 16]) (by kernel_rfl) (by simp) ?_
        refine AllReadyH.cons (o := _) rfl (fun K hK => ?_) (AllReadyH.cons (o := _) rfl (fun K hK => ?_) AllReadyH.nil)
        · skip
          go_simp
          refine (HP4.out _).mono ?_
          rintro e wc ⟨rfl, hb⟩
          replace H := Lib.hid (H.out.call hb)
          refine hK.out _ _ (⟨H.out.row 9 rfl, H.out.row 8 rfl, H.out.row 7 rfl⟩) (fun hN => ?_)
          clear hK K hH hb
          have hH := hN
          clear hN
          try simp only [Act.put, List.setIfInBounds_toArray, List.set_cons_zero, List.set_cons_succ]
          refine wpAnyH_ready (rs := [10, 16]) (by kernel_rfl) (by simp) ?_
          refine AllReadyH.cons (o := _) rfl (fun K hK => ?_) (AllReadyH.cons (o := _) rfl (fun K hK => ?_) AllReadyH.nil)
          · skip
            go_simp
            refine (HP3.out _).mono ?_
            rintro e wc ⟨rfl, hb⟩
            replace H := Lib.hid (H.out.call hb)
            refine hK.out _ _ (⟨H.out.row 9 rfl, H.out.row 8 rfl, H.out.row 7 rfl⟩) (fun hN => ?_)
            clear hK K hH hb
            have hH := hN
            clear hN
            try simp only [Act.put, List.setIfInBounds_toArray, List.set_cons_zero, List.set_cons_succ]
            refine wpAnyH_ready (rs := [13, 16]) (by kernel_rfl) (by simp) ?_
            refine AllReadyH.cons (o := _) rfl (fun K hK => ?_) (AllReadyH.cons (o := _) rfl (fun K hK => ?_) AllReadyH.nil)
            · skip
              go_simp
              refine (HP5.out _).mono ?_
              rintro e wc ⟨rfl, hb⟩
              replace H := Lib.hid (H.out.call hb)
              refine hK.out _ _ (⟨H.out.row 9 rfl, H.out.row 8 rfl, H.out.row 7 rfl⟩) (fun hN => ?_)
              clear hK K hH hb
              have hH := hN
              clear hN
              try simp only [Act.put, List.setIfInBounds_toArray, List.set_cons_zero, List.set_cons_succ]
              refine held_F4 14 92 rfl rfl (by kernel_rfl) (by kernel_rfl) (by kernel_rfl) rfl hH rfl rfl rfl rfl rfl ?_
              try simp only [Act.put, List.setIfInBounds_toArray, List.set_cons_zero, List.set_cons_succ]
              refine wpAnyH_ready (rs := [15, 16]) (by kernel_rfl) (by simp) ?_
              refine AllReadyH.cons (o := _) rfl (fun K hK => ?_) (AllReadyH.cons (o := _) rfl (fun K hK => ?_) AllReadyH.nil)
              · skip
                go_simp
                refine (refStep_k _).mono ?_
                rintro e wc ⟨rfl, hb⟩
                replace H := Lib.hid (H.out.call hb)
                refine hK.out _ _ (⟨H.out.row 9 rfl, H.out.row 8 rfl, H.out.row 7 rfl⟩) (fun hN => ?_)
                clear hK K hH hb
                have hH := hN
                clear hN
                try simp only [Act.put, List.setIfInBounds_toArray, List.set_cons_zero, List.set_cons_succ]
                refine wpAnyH_ready (rs := [16]) (by kernel_rfl) (by simp) ?_
                refine AllReadyH.cons (o := _) rfl (fun K hK => ?_) AllReadyH.nil
                refine own_wp_allocB 19 rfl nilF4 H.out rfl ?_
                intro w19 g19 H3 hb
                replace H := Lib.hid H3
                refine hK.out _ _ (⟨H.out.row 10 rfl, H.out.row 9 rfl, H.out.row 8 rfl⟩) (fun hN => ?_)
                clear hK K hH H3 hb
                have hH := hN
                clear hN
                try simp only [Act.put, List.setIfInBounds_toArray, List.set_cons_zero, List.set_cons_succ]
                refine wpAnyH_ready (rs := [17]) (by kernel_rfl) (by simp) ?_
                refine AllReadyH.cons (o := _) rfl (fun K hK => ?_) AllReadyH.nil
                refine own_wp_store 0 rowF4 H.out rfl rfl rfl rfl ?_
                intro ws HS
                simp only [List.set_cons_zero] at HS
                replace H := Lib.hid HS
                refine hK.out _ _ (⟨H.out.row 10 rfl, H.out.row 9 rfl, H.out.row 8 rfl⟩) (fun hN => ?_)
                clear hK K HS hH
                have hH := hN
                clear hN
                try simp only [Act.put, List.setIfInBounds_toArray]
                try simp only [Act.put]
                refine wpAnyH_done (by kernel_rfl) ?_ _
                refine NoPanic.normal ?_
                clear hH
                go_wp2_with fail
                go_meet
                exact ⟨g19, rfl, H.out⟩
              · skip
                refine own_wp_allocB 19 rfl nilF4 H.out rfl ?_
                intro w19 g19 H3 hb
                replace H := Lib.hid H3
                refine hK.out _ _ (⟨H.out.row 10 rfl, H.out.row 9 rfl, H.out.row 8 rfl⟩) (fun hN => ?_)
                clear hK K hH H3 hb
                have hH := hN
                clear hN
                try simp only [Act.put, List.setIfInBounds_toArray, List.set_cons_zero, List.set_cons_succ]
                refine wpAnyH_ready (rs := [15]) (by kernel_rfl) (by simp) ?_
                refine AllReadyH.cons (o := _) rfl (fun K hK => ?_) AllReadyH.nil
                go_simp
                refine (refStep_k _).mono ?_
                rintro e wc ⟨rfl, hb⟩
                replace H := Lib.hid (H.out.call hb)
                refine hK.out _ _ (⟨H.out.row 10 rfl, H.out.row 9 rfl, H.out.row 8 rfl⟩) (fun hN => ?_)
                clear hK K hH hb
                have hH := hN
                clear hN
                try simp only [Act.put, List.setIfInBounds_toArray, List.set_cons_zero, List.set_cons_succ]
                refine wpAnyH_ready (rs := [17]) (by kernel_rfl) (by simp) ?_
                refine AllReadyH.cons (o := _) rfl (fun K hK => ?_) AllReadyH.nil
                refine own_wp_store 0 rowF4 H.out rfl rfl rfl rfl ?_
                intro ws HS
                simp only [List.set_cons_zero] at HS
                replace H := Lib.hid HS
                refine hK.out _ _ (⟨H.out.row 10 rfl, H.out.row 9 rfl, H.out.row 8 rfl⟩) (fun hN => ?_)
                clear hK K HS hH
                have hH := hN
                clear hN
                try simp only [Act.put, List.setIfInBounds_toArray]
                try simp only [Act.put]
                refine wpAnyH_done (by kernel_rfl) ?_ _
                refine NoPanic.normal ?_
                clear hH
                go_wp2_with fail
                go_meet
                exact ⟨g19, rfl, H.out⟩
            · skip
              refine own_wp_allocB 19 rfl nilF4 H.out rfl ?_
              intro w19 g19 H3 hb
              replace H := Lib.hid H3
              refine hK.out _ _ (⟨H.out.row 10 rfl, H.out.row 9 rfl, H.out.row 8 rfl⟩) (fun hN => ?_)
              clear hK K hH H3 hb
              have hH := hN
              clear hN
              try simp only [Act.put, List.setIfInBounds_toArray, List.set_cons_zero, List.set_cons_succ]
              refine wpAnyH_ready (rs := [13]) (by kernel_rfl) (by simp) ?_
              refine AllReadyH.cons (o := _) rfl (fun K hK => ?_) AllReadyH.nil
              go_simp
              refine (HP5.out _).mono ?_
              rintro e wc ⟨rfl, hb⟩
              replace H := Lib.hid (H.out.call hb)
              refine hK.out _ _ (⟨H.out.row 10 rfl, H.out.row 9 rfl, H.out.row 8 rfl⟩) (fun hN => ?_)
              clear hK K hH hb
              have hH := hN
              clear hN
              try simp only [Act.put, List.setIfInBounds_toArray, List.set_cons_zero, List.set_cons_succ]
              refine held_F4 14 92 rfl rfl (by kernel_rfl) (by kernel_rfl) (by kernel_rfl) rfl hH rfl rfl rfl rfl rfl ?_
              try simp only [Act.put, List.setIfInBounds_toArray, List.set_cons_zero, List.set_cons_succ]
              refine wpAnyH_ready (rs := [15]) (by kernel_rfl) (by simp) ?_
              refine AllReadyH.cons (o := _) rfl (fun K hK => ?_) AllReadyH.nil
              go_simp
              refine (refStep_k _).mono ?_
              rintro e wc ⟨rfl, hb⟩
              replace H := Lib.hid (H.out.call hb)
              refine hK.out _ _ (⟨H.out.row 10 rfl, H.out.row 9 rfl, H.out.row 8 rfl⟩) (fun hN => ?_)
              clear hK K hH hb
              have hH := hN
              clear hN
              try simp only [Act.put, List.setIfInBounds_toArray, List.set_cons_zero, List.set_cons_succ]
              refine wpAnyH_ready (rs := [17]) (by kernel_rfl) (by simp) ?_
              refine AllReadyH.cons (o := _) rfl (fun K hK => ?_) AllReadyH.nil
              refine own_wp_store 0 rowF4 H.out rfl rfl rfl rfl ?_
              intro ws HS
              simp only [List.set_cons_zero] at HS
              replace H := Lib.hid HS
              refine hK.out _ _ (⟨H.out.row 10 rfl, H.out.row 9 rfl, H.out.row 8 rfl⟩) (fun hN => ?_)
              clear hK K HS hH
              have hH := hN
              clear hN
              try simp only [Act.put, List.setIfInBounds_toArray]
              try simp only [Act.put]
              refine wpAnyH_done (by kernel_rfl) ?_ _
              refine NoPanic.normal ?_
              clear hH
              go_wp2_with fail
              go_meet
              exact ⟨g19, rfl, H.out⟩
          · skip
            refine own_wp_allocB 19 rfl nilF4 H.out rfl ?_
            intro w19 g19 H3 hb
            replace H := Lib.hid H3
            refine hK.out _ _ (⟨H.out.row 10 rfl, H.out.row 9 rfl, H.out.row 8 rfl⟩) (fun hN => ?_)
            clear hK K hH H3 hb
            have hH := hN
            clear hN
            try simp only [Act.put, List.setIfInBounds_toArray, List.set_cons_zero, List.set_cons_succ]
            refine wpAnyH_ready (rs := [10]) (by kernel_rfl) (by simp) ?_
            refine AllReadyH.cons (o := _) rfl (fun K hK => ?_) AllReadyH.nil
            go_simp
            refine (HP3.out _).mono ?_
            rintro e wc ⟨rfl, hb⟩
            replace H := Lib.hid (H.out.call hb)
            refine hK.out _ _ (⟨H.out.row 10 rfl, H.out.row 9 rfl, H.out.row 8 rfl⟩) (fun hN => ?_)
            clear hK K hH hb
            have hH := hN
            clear hN
            try simp only [Act.put, List.setIfInBounds_toArray, List.set_cons_zero, List.set_cons_succ]
            refine wpAnyH_ready (rs := [13]) (by kernel_rfl) (by simp) ?_
            refine AllReadyH.cons (o := _) rfl (fun K hK => ?_) AllReadyH.nil
            go_simp
            refine (HP5.out _).mono ?_
            rintro e wc ⟨rfl, hb⟩
            replace H := Lib.hid (H.out.call hb)
            refine hK.out _ _ (⟨H.out.row 10 rfl, H.out.row 9 rfl, H.out.row 8 rfl⟩) (fun hN => ?_)
            clear hK K hH hb
            have hH := hN
            clear hN
            try simp only [Act.put, List.setIfInBounds_toArray, List.set_cons_zero, List.set_cons_succ]
            refine held_F4 14 92 rfl rfl (by kernel_rfl) (by kernel_rfl) (by kernel_rfl) rfl hH rfl rfl rfl rfl rfl ?_
            try simp only [Act.put, List.setIfInBounds_toArray, List.set_cons_zero, List.set_cons_succ]
            refine wpAnyH_ready (rs := [15]) (by kernel_rfl) (by simp) ?_
            refine AllReadyH.cons (o := _) rfl (fun K hK => ?_) AllReadyH.nil
            go_simp
            refine (refStep_k _).mono ?_
            rintro e wc ⟨rfl, hb⟩
            replace H := Lib.hid (H.out.call hb)
            refine hK.out _ _ (⟨H.out.row 10 rfl, H.out.row 9 rfl, H.out.row 8 rfl⟩) (fun hN => ?_)
            clear hK K hH hb
            have hH := hN
            clear hN
            try simp only [Act.put, List.setIfInBounds_toArray, List.set_cons_zero, List.set_cons_succ]
            refine wpAnyH_ready (rs := [17]) (by kernel_rfl) (by simp) ?_
            refine AllReadyH.cons (o := _) rfl (fun K hK => ?_) AllReadyH.nil
            refine own_wp_store 0 rowF4 H.out rfl rfl rfl rfl ?_
            intro ws HS
            simp only [List.set_cons_zero] at HS
            replace H := Lib.hid HS
            refine hK.out _ _ (⟨H.out.row 10 rfl, H.out.row 9 rfl, H.out.row 8 rfl⟩) (fun hN => ?_)
            clear hK K HS hH
            have hH := hN
            clear hN
            try simp only [Act.put, List.setIfInBounds_toArray]
            try simp only [Act.put]
            refine wpAnyH_done (by kernel_rfl) ?_ _
            refine NoPanic.normal ?_
            clear hH
            go_wp2_with fail
            go_meet
            exact ⟨g19, rfl, H.out⟩
        · skip
          refine own_wp_allocB 19 rfl nilF4 H.out rfl ?_
          intro w19 g19 H3 hb
          replace H := Lib.hid H3
          refine hK.out _ _ (⟨H.out.row 10 rfl, H.out.row 9 rfl, H.out.row 8 rfl⟩) (fun hN => ?_)
          clear hK K hH H3 hb
          have hH := hN
          clear hN
          try simp only [Act.put, List.setIfInBounds_toArray, List.set_cons_zero, List.set_cons_succ]
          refine wpAnyH_ready (rs := [7]) (by kernel_rfl) (by simp) ?_
          refine AllReadyH.cons (o := _) rfl (fun K hK => ?_) AllReadyH.nil
          go_simp
          refine (HP4.out _).mono ?_
          rintro e wc ⟨rfl, hb⟩
          replace H := Lib.hid (H.out.call hb)
          refine hK.out _ _ (⟨H.out.row 10 rfl, H.out.row 9 rfl, H.out.row 8 rfl⟩) (fun hN => ?_)
          clear hK K hH hb
          have hH := hN
          clear hN
          try simp only [Act.put, List.setIfInBounds_toArray, List.set_cons_zero, List.set_cons_succ]
          refine wpAnyH_ready (rs := [10]) (by kernel_rfl) (by simp) ?_
          refine AllReadyH.cons (o := _) rfl (fun K hK => ?_) AllReadyH.nil
          go_simp
          refine (HP3.out _).mono ?_
          rintro e wc ⟨rfl, hb⟩
          replace H := Lib.hid (H.out.call hb)
          refine hK.out _ _ (⟨H.out.row 10 rfl, H.out.row 9 rfl, H.out.row 8 rfl⟩) (fun hN => ?_)
          clear hK K hH hb
          have hH := hN
          clear hN
          try simp only [Act.put, List.setIfInBounds_toArray, List.set_cons_zero, List.set_cons_succ]
          refine wpAnyH_ready (rs := [13]) (by kernel_rfl) (by simp) ?_
          refine AllReadyH.cons (o := _) rfl (fun K hK => ?_) AllReadyH.nil
          go_simp
          refine (HP5.out _).mono ?_
          rintro e wc ⟨rfl, hb⟩
          replace H := Lib.hid (H.out.call hb)
          refine hK.out _ _ (⟨H.out.row 10 rfl, H.out.row 9 rfl, H.out.row 8 rfl⟩) (fun hN => ?_)
          clear hK K hH hb
          have hH := hN
          clear hN
          try simp only [Act.put, List.setIfInBounds_toArray, List.set_cons_zero, List.set_cons_succ]
          refine held_F4 14 92 rfl rfl (by kernel_rfl) (by kernel_rfl) (by kernel_rfl) rfl hH rfl rfl rfl rfl rfl ?_
          try simp only [Act.put, List.setIfInBounds_toArray, List.set_cons_zero, List.set_cons_succ]
          refine wpAnyH_ready (rs := [15]) (by kernel_rfl) (by simp) ?_
          refine AllReadyH.cons (o := _) rfl (fun K hK => ?_) AllReadyH.nil
          go_simp
          refine (refStep_k _).mono ?_
          rintro e wc ⟨rfl, hb⟩
          replace H := Lib.hid (H.out.call hb)
          refine hK.out _ _ (⟨H.out.row 10 rfl, H.out.row 9 rfl, H.out.row 8 rfl⟩) (fun hN => ?_)
          clear hK K hH hb
          have hH := hN
          clear hN
          try simp only [Act.put, List.setIfInBounds_toArray, List.set_cons_zero, List.set_cons_succ]
          refine wpAnyH_ready (rs := [17]) (by kernel_rfl) (by simp) ?_
          refine AllReadyH.cons (o := _) rfl (fun K hK => ?_) AllReadyH.nil
          refine own_wp_store 0 rowF4 H.out rfl rfl rfl rfl ?_
          intro ws HS
          simp only [List.set_cons_zero] at HS
          replace H := Lib.hid HS
          refine hK.out _ _ (⟨H.out.row 10 rfl, H.out.row 9 rfl, H.out.row 8 rfl⟩) (fun hN => ?_)
          clear hK K HS hH
          have hH := hN
          clear hN
          try simp only [Act.put, List.setIfInBounds_toArray]
          try simp only [Act.put]
          refine wpAnyH_done (by kernel_rfl) ?_ _
          refine NoPanic.normal ?_
          clear hH
          go_wp2_with fail
          go_meet
          exact ⟨g19, rfl, H.out⟩
      · skip
        refine own_wp_allocB 19 rfl nilF4 H.out rfl ?_
        intro w19 g19 H3 hb
        replace H := Lib.hid H3
        refine hK.out _ _ (⟨H.out.row 10 rfl, H.out.row 9 rfl, H.out.row 8 rfl⟩) (fun hN => ?_)
        clear hK K hH H3 hb
        have hH := hN
        clear hN
        try simp only [Act.put, List.setIfInBounds_toArray, List.set_cons_zero, List.set_cons_succ]
        refine wpAnyH_ready (rs := [4]) (by kernel_rfl) (by simp) ?_
        refine AllReadyH.cons (o := _) rfl (fun K hK => ?_) AllReadyH.nil
        go_simp
        refine (HP2.out _).mono ?_
        rintro e wc ⟨rfl, hb⟩
        replace H := Lib.hid (H.out.call hb)
        refine hK.out _ _ (⟨H.out.row 10 rfl, H.out.row 9 rfl, H.out.row 8 rfl⟩) (fun hN => ?_)
        clear hK K hH hb
        have hH := hN
        clear hN
        try simp only [Act.put, List.setIfInBounds_toArray, List.set_cons_zero, List.set_cons_succ]
        refine wpAnyH_ready (rs := [7]) (by kernel_rfl) (by simp) ?_
        refine AllReadyH.cons (o := _) rfl (fun K hK => ?_) AllReadyH.nil
        go_simp
        refine (HP4.out _).mono ?_
        rintro e wc ⟨rfl, hb⟩
        replace H := Lib.hid (H.out.call hb)
        refine hK.out _ _ (⟨H.out.row 10 rfl, H.out.row 9 rfl, H.out.row 8 rfl⟩) (fun hN => ?_)
        clear hK K hH hb
        have hH := hN
        clear hN
        try simp only [Act.put, List.setIfInBounds_toArray, List.set_cons_zero, List.set_cons_succ]
        refine wpAnyH_ready (rs := [10]) (by kernel_rfl) (by simp) ?_
        refine AllReadyH.cons (o := _) rfl (fun K hK => ?_) AllReadyH.nil
        go_simp
        refine (HP3.out _).mono ?_
        rintro e wc ⟨rfl, hb⟩
        replace H := Lib.hid (H.out.call hb)
        refine hK.out _ _ (⟨H.out.row 10 rfl, H.out.row 9 rfl, H.out.row 8 rfl⟩) (fun hN => ?_)
        clear hK K hH hb
        have hH := hN
        clear hN
        try simp only [Act.put, List.setIfInBounds_toArray, List.set_cons_zero, List.set_cons_succ]
        refine wpAnyH_ready (rs := [13]) (by kernel_rfl) (by simp) ?_
        refine AllReadyH.cons (o := _) rfl (fun K hK => ?_) AllReadyH.nil
        go_simp
        refine (HP5.out _).mono ?_
        rintro e wc ⟨rfl, hb⟩
        replace H := Lib.hid (H.out.call hb)
        refine hK.out _ _ (⟨H.out.row 10 rfl, H.out.row 9 rfl, H.out.row 8 rfl⟩) (fun hN => ?_)
        clear hK K hH hb
        have hH := hN
        clear hN
        try simp only [Act.put, List.setIfInBounds_toArray, List.set_cons_zero, List.set_cons_succ]
        refine held_F4 14 92 rfl rfl (by kernel_rfl) (by kernel_rfl) (by kernel_rfl) rfl hH rfl rfl rfl rfl rfl ?_
        try simp only [Act.put, List.setIfInBounds_toArray, List.set_cons_zero, List.set_cons_succ]
        refine wpAnyH_ready (rs := [15]) (by kernel_rfl) (by simp) ?_
        refine AllReadyH.cons (o := _) rfl (fun K hK => ?_) AllReadyH.nil
        go_simp
        refine (refStep_k _).mono ?_
        rintro e wc ⟨rfl, hb⟩
        replace H := Lib.hid (H.out.call hb)
        refine hK.out _ _ (⟨H.out.row 10 rfl, H.out.row 9 rfl, H.out.row 8 rfl⟩) (fun hN => ?_)
        clear hK K hH hb
        have hH := hN
        clear hN
        try simp only [Act.put, List.setIfInBounds_toArray, List.set_cons_zero, List.set_cons_succ]
        refine wpAnyH_ready (rs := [17]) (by kernel_rfl) (by simp) ?_
        refine AllReadyH.cons (o := _) rfl (fun K hK => ?_) AllReadyH.nil
        refine own_wp_store 0 rowF4 H.out rfl rfl rfl rfl ?_
        intro ws HS
        simp only [List.set_cons_zero] at HS
        replace H := Lib.hid HS
        refine hK.out _ _ (⟨H.out.row 10 rfl, H.out.row 9 rfl, H.out.row 8 rfl⟩) (fun hN => ?_)
        clear hK K HS hH
        have hH := hN
        clear hN
        try simp only [Act.put, List.setIfInBounds_toArray]
        try simp only [Act.put]
        refine wpAnyH_done (by kernel_rfl) ?_ _
        refine NoPanic.normal ?_
        clear hH
        go_wp2_with fail
        go_meet
        exact ⟨g19, rfl, H.out⟩
    · skip
      refine own_wp_allocB 19 rfl nilF4 H.out rfl ?_
      intro w19 g19 H3 hb
      replace H := Lib.hid H3
      refine hK.out _ _ (⟨H.out.row 10 rfl, H.out.row 9 rfl, H.out.row 8 rfl⟩) (fun hN => ?_)
      clear hK K hH H3 hb
      have hH := hN
      clear hN
      try simp only [Act.put, List.setIfInBounds_toArray, List.set_cons_zero, List.set_cons_succ]
      refine wpAnyH_ready (rs := [1]) (by kernel_rfl) (by simp) ?_
      refine AllReadyH.cons (o := _) rfl (fun K hK => ?_) AllReadyH.nil
      go_simp
      refine (HP1.out _).mono ?_
      rintro e wc ⟨rfl, hb⟩
      replace H := Lib.hid (H.out.call hb)
      refine hK.out _ _ (⟨H.out.row 10 rfl, H.out.row 9 rfl, H.out.row 8 rfl⟩) (fun hN => ?_)
      clear hK K hH hb
      have hH := hN
      clear hN
      try simp only [Act.put, List.setIfInBounds_toArray, List.set_cons_zero, List.set_cons_succ]
      refine wpAnyH_ready (rs := [4]) (by kernel_rfl) (by simp) ?_
      refine AllReadyH.cons (o := _) rfl (fun K hK => ?_) AllReadyH.nil
      go_simp
      refine (HP2.out _).mono ?_
      rintro e wc ⟨rfl, hb⟩
      replace H := Lib.hid (H.out.call hb)
      refine hK.out _ _ (⟨H.out.row 10 rfl, H.out.row 9 rfl, H.out.row 8 rfl⟩) (fun hN => ?_)
      clear hK K hH hb
      have hH := hN
      clear hN
      try simp only [Act.put, List.setIfInBounds_toArray, List.set_cons_zero, List.set_cons_succ]
      refine wpAnyH_ready (rs := [7]) (by kernel_rfl) (by simp) ?_
      refine AllReadyH.cons (o := _) rfl (fun K hK => ?_) AllReadyH.nil
      go_simp
      refine (HP4.out _).mono ?_
      rintro e wc ⟨rfl, hb⟩
      replace H := Lib.hid (H.out.call hb)
      refine hK.out _ _ (⟨H.out.row 10 rfl, H.out.row 9 rfl, H.out.row 8 rfl⟩) (fun hN => ?_)
      clear hK K hH hb
      have hH := hN
      clear hN
      try simp only [Act.put, List.setIfInBounds_toArray, List.set_cons_zero, List.set_cons_succ]
      refine wpAnyH_ready (rs := [10]) (by kernel_rfl) (by simp) ?_
      refine AllReadyH.cons (o := _) rfl (fun K hK => ?_) AllReadyH.nil
      go_simp
      refine (HP3.out _).mono ?_
      rintro e wc ⟨rfl, hb⟩
      replace H := Lib.hid (H.out.call hb)
      refine hK.out _ _ (⟨H.out.row 10 rfl, H.out.row 9 rfl, H.out.row 8 rfl⟩) (fun hN => ?_)
      clear hK K hH hb
      have hH := hN
      clear hN
      try simp only [Act.put, List.setIfInBounds_toArray, List.set_cons_zero, List.set_cons_succ]
      refine wpAnyH_ready (rs := [13]) (by kernel_rfl) (by simp) ?_
      refine AllReadyH.cons (o := _) rfl (fun K hK => ?_) AllReadyH.nil
      go_simp
      refine (HP5.out _).mono ?_
      rintro e wc ⟨rfl, hb⟩
      replace H := Lib.hid (H.out.call hb)
      refine hK.out _ _ (⟨H.out.row 10 rfl, H.out.row 9 rfl, H.out.row 8 rfl⟩) (fun hN => ?_)
      clear hK K hH hb
      have hH := hN
      clear hN
      try simp only [Act.put, List.setIfInBounds_toArray, List.set_cons_zero, List.set_cons_succ]
      refine held_F4 14 92 rfl rfl (by kernel_rfl) (by kernel_rfl) (by kernel_rfl) rfl hH rfl rfl rfl rfl rfl ?_
      try simp only [Act.put, List.setIfInBounds_toArray, List.set_cons_zero, List.set_cons_succ]
      refine wpAnyH_ready (rs := [15]) (by kernel_rfl) (by simp) ?_
      refine AllReadyH.cons (o := _) rfl (fun K hK => ?_) AllReadyH.nil
      go_simp
      refine (refStep_k _).mono ?_
      rintro e wc ⟨rfl, hb⟩
      replace H := Lib.hid (H.out.call hb)
      refine hK.out _ _ (⟨H.out.row 10 rfl, H.out.row 9 rfl, H.out.row 8 rfl⟩) (fun hN => ?_)
      clear hK K hH hb
      have hH := hN
      clear hN
      try simp only [Act.put, List.setIfInBounds_toArray, List.set_cons_zero, List.set_cons_succ]
      refine wpAnyH_ready (rs := [17]) (by kernel_rfl) (by simp) ?_
      refine AllReadyH.cons (o := _) rfl (fun K hK => ?_) AllReadyH.nil
      refine own_wp_store 0 rowF4 H.out rfl rfl rfl rfl ?_
      intro ws HS
      simp only [List.set_cons_zero] at HS
      replace H := Lib.hid HS
      refine hK.out _ _ (⟨H.out.row 10 rfl, H.out.row 9 rfl, H.out.row 8 rfl⟩) (fun hN => ?_)
      clear hK K HS hH
      have hH := hN
      clear hN
      try simp only [Act.put, List.setIfInBounds_toArray]
      try simp only [Act.put]
      refine wpAnyH_done (by kernel_rfl) ?_ _
      refine NoPanic.normal ?_
      clear hH
      go_wp2_with fail
      go_meet
      exact ⟨g19, rfl, H.out⟩
  clear H
  obtain ⟨g19, rfl, HRR⟩ := hcut
  have H := Lib.hid HRR
  clear HRR 
  go_wp2_with (first
    | ((with_reducible apply own_load_p rowE H); (case hgd => exact rfl); (case ho => exact rfl); (case hx => exact rfl); (case hi => first | exact at0 | exact at1 | exact at2 | exact at3 | exact at4 | exact at5 | exact at6 | exact at7 | exact at8 | exact at9); (case hp => first | exact part2_0 | exact part2_1); intro _ _; go_simp)
    | ((with_reducible apply own_load_pg rowE H); (case hw => exact rfl); (case ho => exact rfl); (case hx => exact rfl); (case hi => first | exact at0 | exact at1 | exact at2 | exact at3 | exact at4 | exact at5 | exact at6 | exact at7 | exact at8 | exact at9); (case hp => first | exact part2_0 | exact part2_1); intro _ _; go_simp)
    | ((with_reducible apply own_load_p rowF H); (case hgd => exact rfl); (case ho => exact rfl); (case hx => exact rfl); (case hi => first | exact at0 | exact at1 | exact at2 | exact at3 | exact at4 | exact at5 | exact at6 | exact at7 | exact at8 | exact at9); (case hp => first | exact part4_0 | exact part4_1 | exact part4_2 | exact part4_3); intro _ _; go_simp)
    | ((with_reducible apply own_load_pg rowF H); (case hw => exact rfl); (case ho => exact rfl); (case hx => exact rfl); (case hi => first | exact at0 | exact at1 | exact at2 | exact at3 | exact at4 | exact at5 | exact at6 | exact at7 | exact at8 | exact at9); (case hp => first | exact part4_0 | exact part4_1 | exact part4_2 | exact part4_3); intro _ _; go_simp)
    | ((with_reducible refine (is_kt _ VA.out rfl).mono ?_); rintro e wc ⟨rfl, hb⟩; replace H := Lib.hid (H.out.call hb); clear hb)
    | ((with_reducible refine (is_kt _ VB.out rfl).mono ?_); rintro e wc ⟨rfl, hb⟩; replace H := Lib.hid (H.out.call hb); clear hb)
    | ((with_reducible refine (is_kt _ VC.out rfl).mono ?_); rintro e wc ⟨rfl, hb⟩; replace H := Lib.hid (H.out.call hb); clear hb)
    | ((with_reducible refine (is_kt _ VD.out rfl).mono ?_); rintro e wc ⟨rfl, hb⟩; replace H := Lib.hid (H.out.call hb); clear hb)
    | ((with_reducible refine (awake10_k _ (HT.out.below H.out.bel)).mono ?_); rintro e wc ⟨rfl, hb⟩; replace H := Lib.hid (H.out.call hb); clear hb))
  go_ret
  exact ⟨rfl, H.out.bel⟩
end Go.Proofs.YtckmboebipbpbaaDoor
