/-
  The contract of ladder.Ladder. No statement is proved here: lemmas for the walks.
-/
import Derived.Test.YtckmboebipbpbaaDoorZLdRung
import Derived.Test.YtckmboebipbpbaaDoorBuK
import Derived.Test.YtckmboebipbpbaaDoorBuR
import Derived.Deep.CutRange
import Derived.Deep.LoopGhost
import Derived.WalkMore
import Derived.ScopeJumps
namespace Go.Proofs.YtckmboebipbpbaaDoor
open Go.RowKit

set_option maxRecDepth 8000 in
set_option maxHeartbeats 3200000 in
theorem ladder_bad {f : Nat → Nat} {u : K} {a : Option Addr} {n c : Nat} (w : World) (hn : 64 < n) (_ : EK f u) :
    Calls Tryd.prog 16 #[.slice a n c, EV f] w fun e w' => ∃ h, e = .returned (.tuple #[EV h, .int .i64 11]) ∧ EK h 0 ∧ Below w.heap.size w w' := by
  have hd : decide ((64 : Int) < (n : Int)) = true := by simp; omega
  clear hn
  have H := Lib.hid (Ow.start w)
  go_enter Tryd.func16, Tryd.ntmps16
  go_wp2_with (first
    | ((fail_if_success have := g3); (with_reducible apply own_box H); (case hgd => exact rfl); (case ho => exact rfl); (case hx => exact rfl); intro w3 g3 H' _ _; replace H := H'; clear H'; go_simp)
    | ((fail_if_success have := g4); (with_reducible apply own_alloc nilE H); (case hgd => exact rfl); (case ho => exact rfl); intro w4 g4 H' _ _; replace H := H'; clear H'; go_simp)
    | ((with_reducible apply lay_build_E0); (case hgd => exact rfl); (case ho => exact rfl); intro _ _; go_simp)
    | ((with_reducible apply own_store rowE H); (case hgd => exact rfl); (case ho => exact rfl); (case hx => exact rfl); (case hy => exact rfl); (case hi => first | exact at0 | exact at1 | exact at2 | exact at3 | exact at4 | exact at5 | exact at6 | exact at7 | exact at8 | exact at9); intro ws H' _ _; replace H := H'; clear H'; simp only [List.set_cons_zero, List.set_cons_succ] at H; go_simp))
  go_step3
  go_wp2_with (first
    | ((fail_if_success have := g3); (with_reducible apply own_box H); (case hgd => exact rfl); (case ho => exact rfl); (case hx => exact rfl); intro w3 g3 H' _ _; replace H := H'; clear H'; go_simp)
    | ((fail_if_success have := g4); (with_reducible apply own_alloc nilE H); (case hgd => exact rfl); (case ho => exact rfl); intro w4 g4 H' _ _; replace H := H'; clear H'; go_simp)
    | ((with_reducible apply lay_build_E0); (case hgd => exact rfl); (case ho => exact rfl); intro _ _; go_simp)
    | ((with_reducible apply own_store rowE H); (case hgd => exact rfl); (case ho => exact rfl); (case hx => exact rfl); (case hy => exact rfl); (case hi => first | exact at0 | exact at1 | exact at2 | exact at3 | exact at4 | exact at5 | exact at6 | exact at7 | exact at8 | exact at9); intro ws H' _ _; replace H := H'; clear H'; simp only [List.set_cons_zero] at H; go_simp))
  try rw [Exit.noGoto_ret]
  exact bodyPost_ret (own_result_slot 0 rowE rfl _ H rfl rfl rfl) rfl ⟨_, rfl, zero_ek, H.out.bel⟩
set_option maxRecDepth 8000 in
set_option maxHeartbeats 3200000 in
theorem ladder_k {f : Nat → Nat} {u : K} {a : Option Addr} {n c x : Nat} (w : World) (hT : Tp w) (hn : n ≤ 64) (hs : Sb w w.heap.size a n c x) (hu : EK f u) :
    Calls Tryd.prog 16 #[.slice a n c, EV f] w fun e w' => ∃ h, e = .returned (.tuple #[EV h, .int .i64 0]) ∧ EK h (ldV u x) ∧ Below w.heap.size w w' := by
  have hd : decide ((64 : Int) < (n : Int)) = false := by simp; omega
  have HS := Lib.hid hs
  have HN := Lib.hid hn
  have fn1 : IntKind.i64.wrap ((n : Int) - 1) = (n : Int) - 1 := IntWalk.i64_in _ (by omega)
  clear hn hs
  have HT := Lib.hid hT
  clear hT
  have EU := Lib.hid hu
  clear hu
  have H := Lib.hid (Ow.start w)
  go_enter Tryd.func16, Tryd.ntmps16
  go_wp2_with (first
    | ((fail_if_success have := g3); (with_reducible apply own_box H); (case hgd => exact rfl); (case ho => exact rfl); (case hx => exact rfl); intro w3 g3 H' _ _; replace H := H'; clear H'; go_simp)
    | ((fail_if_success have := g4); (with_reducible apply own_alloc nilE H); (case hgd => exact rfl); (case ho => exact rfl); intro w4 g4 H' _ _; replace H := H'; clear H'; go_simp))
  go_step3
  go_upto_region 4 with (first
    | ((fail_if_success have := g3); (with_reducible apply own_box H); (case hgd => exact rfl); (case ho => exact rfl); (case hx => exact rfl); intro w3 g3 H' _ _; replace H := H'; clear H'; go_simp)
    | ((fail_if_success have := g4); (with_reducible apply own_alloc nilE H); (case hgd => exact rfl); (case ho => exact rfl); intro w4 g4 H' _ _; replace H := H'; clear H'; go_simp)
    | ((fail_if_success have := HV15); (with_reducible refine (int_k 1 _ (HT.out.below H.out.bel) (by omega) (by omega)).mono ?_); rintro e wc ⟨h15, rfl, hv, hb⟩; replace H := Lib.hid (H.out.call hb); clear hb; have HV15 := Lib.hid hv; clear hv)
    | ((fail_if_success have := g6); (with_reducible apply own_alloc nilE H); (case hgd => exact rfl); (case ho => exact rfl); intro w6 g6 H' _ _; replace H := H'; clear H'; go_simp)
    | ((with_reducible apply own_store rowE H); (case hgd => exact rfl); (case ho => exact rfl); (case hx => exact rfl); (case hy => exact rfl); (case hi => first | exact at0 | exact at1 | exact at2 | exact at3 | exact at4 | exact at5 | exact at6 | exact at7 | exact at8 | exact at9); intro ws H' _ _; replace H := H'; clear H'; simp only [List.set_cons_zero] at H; go_simp))
  go_cut [7, 8] from 16 to 21 (fun v7 v8 wx => ∃ g7 g8 h19, v7 = .pointer (some ⟨g7, 0, none⟩) ∧ v8 = .pointer (some ⟨g8, 0, none⟩) ∧ EK h19 (ofZ 0) ∧ Ow w wx [(g7, Blk 32 .u64 16 ((t2 8 (NZ h15) (NZ f)))), (g8, Blk 32 .u64 16 ((t2 8 (NZ h19) (NZ h15)))), (g6, Blk 29 .u64 8 (NZ h15)), (g4, Blk 29 .u64 8 fun _ => 0), (g3, Blk 29 .u64 8 (NZ f))])
  case first =>
    go_wp2_with fail
    refine wp_region_noPanic ?_
    refine wp_region_held_drew (S := fun W => W.heap[g6]? = some (Blk 29 .u64 8 (NZ h15)) ∧ W.heap[g3]? = some (Blk 29 .u64 8 (NZ f))) (by kernel_rfl) (⟨H.out.drew.row 0 rfl, H.out.drew.row 2 rfl⟩) (fun hH => ?_)
    replace H := Lib.hid H.out.drew
    generalize World.drew _ = w8 at *
    refine held_row 0 16 rowE rfl rfl (by kernel_rfl) (by kernel_rfl) (by kernel_rfl) rfl hH rfl rfl (fun _ h => h.1) ?_
    try simp only [Act.put, List.setIfInBounds_toArray, List.set_cons_zero, List.set_cons_succ]
    refine held_row 1 17 rowE rfl rfl (by kernel_rfl) (by kernel_rfl) (by kernel_rfl) rfl hH rfl rfl (fun _ h => h.2) ?_
    try simp only [Act.put, List.setIfInBounds_toArray, List.set_cons_zero, List.set_cons_succ]
    refine held_E2 2 18 rfl rfl (by kernel_rfl) (by kernel_rfl) (by kernel_rfl) rfl hH rfl rfl rfl ?_
    try simp only [Act.put, List.setIfInBounds_toArray, List.set_cons_zero, List.set_cons_succ]
    refine held_row 4 20 rowE rfl rfl (by kernel_rfl) (by kernel_rfl) (by kernel_rfl) rfl hH rfl rfl (fun _ h => h.1) ?_
    try simp only [Act.put, List.setIfInBounds_toArray, List.set_cons_zero, List.set_cons_succ]
    refine wpAnyH_ready (rs := [3, 6, 7]) (by kernel_rfl) (by simp) ?_
    refine AllReadyH.cons (o := _) rfl (fun K hK => ?_) (AllReadyH.cons (o := _) rfl (fun K hK => ?_) (AllReadyH.cons (o := _) rfl (fun K hK => ?_) AllReadyH.nil))
    · skip
      go_simp
      refine (int_k (0) _ (HT.out.below H.out.bel) (by omega) (by omega)).mono ?_
      rintro e wc ⟨h19, rfl, hv, hb⟩
      replace H := Lib.hid (H.out.call hb)
      have HV19 := Lib.hid hv
      refine hK.out _ _ (⟨H.out.row 0 rfl, H.out.row 2 rfl⟩) (fun hN => ?_)
      clear hK K hH hb hv
      have hH := hN
      clear hN
      try simp only [Act.put, List.setIfInBounds_toArray, List.set_cons_zero, List.set_cons_succ]
      refine held_E2 5 21 rfl rfl (by kernel_rfl) (by kernel_rfl) (by kernel_rfl) rfl hH rfl rfl rfl ?_
      try simp only [Act.put, List.setIfInBounds_toArray, List.set_cons_zero, List.set_cons_succ]
      refine wpAnyH_ready (rs := [6, 7]) (by kernel_rfl) (by simp) ?_
      refine AllReadyH.cons (o := _) rfl (fun K hK => ?_) (AllReadyH.cons (o := _) rfl (fun K hK => ?_) AllReadyH.nil)
      · skip
        refine own_wp_allocB 7 rfl nilE2 H.out rfl ?_
        intro w7 g7 H3 hb
        replace H := Lib.hid H3
        refine hK.out _ _ (⟨H.out.row 1 rfl, H.out.row 3 rfl⟩) (fun hN => ?_)
        clear hK K hH H3 hb
        have hH := hN
        clear hN
        try simp only [Act.put, List.setIfInBounds_toArray, List.set_cons_zero, List.set_cons_succ]
        refine wpAnyH_ready (rs := [7]) (by kernel_rfl) (by simp) ?_
        refine AllReadyH.cons (o := _) rfl (fun K hK => ?_) AllReadyH.nil
        refine own_wp_allocB 8 rfl nilE2 H.out rfl ?_
        intro w8 g8 H3 hb
        replace H := Lib.hid H3
        refine hK.out _ _ (⟨H.out.row 2 rfl, H.out.row 4 rfl⟩) (fun hN => ?_)
        clear hK K hH H3 hb
        have hH := hN
        clear hN
        try simp only [Act.put, List.setIfInBounds_toArray, List.set_cons_zero, List.set_cons_succ]
        refine wpAnyH_ready (rs := [8]) (by kernel_rfl) (by simp) ?_
        refine AllReadyH.cons (o := _) rfl (fun K hK => ?_) AllReadyH.nil
        refine own_st 1 rfl rowE2 H.out rfl rfl rfl rfl ?_
        intro ws HS
        simp only [List.set_cons_zero, List.set_cons_succ] at HS
        replace H := Lib.hid HS
        refine hK.out _ _ (⟨H.out.row 2 rfl, H.out.row 4 rfl⟩) (fun hN => ?_)
        clear hK K HS hH
        have hH := hN
        clear hN
        try simp only [List.setIfInBounds_toArray]
        refine wpAnyH_ready (rs := [9]) (by kernel_rfl) (by simp) ?_
        refine AllReadyH.cons (o := _) rfl (fun K hK => ?_) AllReadyH.nil
        refine own_st 0 rfl rowE2 H.out rfl rfl rfl rfl ?_
        intro ws HS
        simp only [List.set_cons_zero] at HS
        replace H := Lib.hid HS
        refine hK.out _ _ (⟨H.out.row 2 rfl, H.out.row 4 rfl⟩) (fun hN => ?_)
        clear hK K HS hH
        have hH := hN
        clear hN
        try simp only [List.setIfInBounds_toArray]
        try simp only [Act.put]
        refine wpAnyH_done (by kernel_rfl) ?_ _
        refine NoPanic.normal ?_
        clear hH
        clear HS HN fn1
        replace H := Lib.hid (H.out.front (x := (g7, Blk 32 .u64 16 ((t2 8 (NZ h15) (NZ f))))) 1 rfl)
        go_wp2_with fail
        go_meet
        exact ⟨g7, g8, h19, rfl, rfl, HV19.out, H.out⟩
      · skip
        refine own_wp_allocB 8 rfl nilE2 H.out rfl ?_
        intro w8 g8 H3 hb
        replace H := Lib.hid H3
        refine hK.out _ _ (⟨H.out.row 1 rfl, H.out.row 3 rfl⟩) (fun hN => ?_)
        clear hK K hH H3 hb
        have hH := hN
        clear hN
        try simp only [Act.put, List.setIfInBounds_toArray, List.set_cons_zero, List.set_cons_succ]
        refine wpAnyH_ready (rs := [6]) (by kernel_rfl) (by simp) ?_
        refine AllReadyH.cons (o := _) rfl (fun K hK => ?_) AllReadyH.nil
        refine own_wp_allocB 7 rfl nilE2 H.out rfl ?_
        intro w7 g7 H3 hb
        replace H := Lib.hid H3
        refine hK.out _ _ (⟨H.out.row 2 rfl, H.out.row 4 rfl⟩) (fun hN => ?_)
        clear hK K hH H3 hb
        have hH := hN
        clear hN
        try simp only [Act.put, List.setIfInBounds_toArray, List.set_cons_zero, List.set_cons_succ]
        refine wpAnyH_ready (rs := [8]) (by kernel_rfl) (by simp) ?_
        refine AllReadyH.cons (o := _) rfl (fun K hK => ?_) AllReadyH.nil
        refine own_st 0 rfl rowE2 H.out rfl rfl rfl rfl ?_
        intro ws HS
        simp only [List.set_cons_zero] at HS
        replace H := Lib.hid HS
        refine hK.out _ _ (⟨H.out.row 2 rfl, H.out.row 4 rfl⟩) (fun hN => ?_)
        clear hK K HS hH
        have hH := hN
        clear hN
        try simp only [List.setIfInBounds_toArray]
        refine wpAnyH_ready (rs := [9]) (by kernel_rfl) (by simp) ?_
        refine AllReadyH.cons (o := _) rfl (fun K hK => ?_) AllReadyH.nil
        refine own_st 1 rfl rowE2 H.out rfl rfl rfl rfl ?_
        intro ws HS
        simp only [List.set_cons_zero, List.set_cons_succ] at HS
        replace H := Lib.hid HS
        refine hK.out _ _ (⟨H.out.row 2 rfl, H.out.row 4 rfl⟩) (fun hN => ?_)
        clear hK K HS hH
        have hH := hN
        clear hN
        try simp only [List.setIfInBounds_toArray]
        try simp only [Act.put]
        refine wpAnyH_done (by kernel_rfl) ?_ _
        refine NoPanic.normal ?_
        clear hH
        clear HS HN fn1
        replace H := Lib.hid (H.out.front (x := (g8, Blk 32 .u64 16 ((t2 8 (NZ h19) (NZ h15))))) 1 rfl)
        replace H := Lib.hid (H.out.front (x := (g7, Blk 32 .u64 16 ((t2 8 (NZ h15) (NZ f))))) 1 rfl)
        go_wp2_with fail
        go_meet
        exact ⟨g7, g8, h19, rfl, rfl, HV19.out, H.out⟩
    · skip
      refine own_wp_allocB 7 rfl nilE2 H.out rfl ?_
      intro w7 g7 H3 hb
      replace H := Lib.hid H3
      refine hK.out _ _ (⟨H.out.row 1 rfl, H.out.row 3 rfl⟩) (fun hN => ?_)
      clear hK K hH H3 hb
      have hH := hN
      clear hN
      try simp only [Act.put, List.setIfInBounds_toArray, List.set_cons_zero, List.set_cons_succ]
      refine wpAnyH_ready (rs := [3, 7]) (by kernel_rfl) (by simp) ?_
      refine AllReadyH.cons (o := _) rfl (fun K hK => ?_) (AllReadyH.cons (o := _) rfl (fun K hK => ?_) AllReadyH.nil)
      · skip
        go_simp
        refine (int_k (0) _ (HT.out.below H.out.bel) (by omega) (by omega)).mono ?_
        rintro e wc ⟨h19, rfl, hv, hb⟩
        replace H := Lib.hid (H.out.call hb)
        have HV19 := Lib.hid hv
        refine hK.out _ _ (⟨H.out.row 1 rfl, H.out.row 3 rfl⟩) (fun hN => ?_)
        clear hK K hH hb hv
        have hH := hN
        clear hN
        try simp only [Act.put, List.setIfInBounds_toArray, List.set_cons_zero, List.set_cons_succ]
        refine held_E2 5 21 rfl rfl (by kernel_rfl) (by kernel_rfl) (by kernel_rfl) rfl hH rfl rfl rfl ?_
        try simp only [Act.put, List.setIfInBounds_toArray, List.set_cons_zero, List.set_cons_succ]
        refine wpAnyH_ready (rs := [7]) (by kernel_rfl) (by simp) ?_
        refine AllReadyH.cons (o := _) rfl (fun K hK => ?_) AllReadyH.nil
        refine own_wp_allocB 8 rfl nilE2 H.out rfl ?_
        intro w8 g8 H3 hb
        replace H := Lib.hid H3
        refine hK.out _ _ (⟨H.out.row 2 rfl, H.out.row 4 rfl⟩) (fun hN => ?_)
        clear hK K hH H3 hb
        have hH := hN
        clear hN
        try simp only [Act.put, List.setIfInBounds_toArray, List.set_cons_zero, List.set_cons_succ]
        refine wpAnyH_ready (rs := [8]) (by kernel_rfl) (by simp) ?_
        refine AllReadyH.cons (o := _) rfl (fun K hK => ?_) AllReadyH.nil
        refine own_st 1 rfl rowE2 H.out rfl rfl rfl rfl ?_
        intro ws HS
        simp only [List.set_cons_zero, List.set_cons_succ] at HS
        replace H := Lib.hid HS
        refine hK.out _ _ (⟨H.out.row 2 rfl, H.out.row 4 rfl⟩) (fun hN => ?_)
        clear hK K HS hH
        have hH := hN
        clear hN
        try simp only [List.setIfInBounds_toArray]
        refine wpAnyH_ready (rs := [9]) (by kernel_rfl) (by simp) ?_
        refine AllReadyH.cons (o := _) rfl (fun K hK => ?_) AllReadyH.nil
        refine own_st 0 rfl rowE2 H.out rfl rfl rfl rfl ?_
        intro ws HS
        simp only [List.set_cons_zero] at HS
        replace H := Lib.hid HS
        refine hK.out _ _ (⟨H.out.row 2 rfl, H.out.row 4 rfl⟩) (fun hN => ?_)
        clear hK K HS hH
        have hH := hN
        clear hN
        try simp only [List.setIfInBounds_toArray]
        try simp only [Act.put]
        refine wpAnyH_done (by kernel_rfl) ?_ _
        refine NoPanic.normal ?_
        clear hH
        clear HS HN fn1
        replace H := Lib.hid (H.out.front (x := (g7, Blk 32 .u64 16 ((t2 8 (NZ h15) (NZ f))))) 1 rfl)
        go_wp2_with fail
        go_meet
        exact ⟨g7, g8, h19, rfl, rfl, HV19.out, H.out⟩
      · skip
        refine own_wp_allocB 8 rfl nilE2 H.out rfl ?_
        intro w8 g8 H3 hb
        replace H := Lib.hid H3
        refine hK.out _ _ (⟨H.out.row 2 rfl, H.out.row 4 rfl⟩) (fun hN => ?_)
        clear hK K hH H3 hb
        have hH := hN
        clear hN
        try simp only [Act.put, List.setIfInBounds_toArray, List.set_cons_zero, List.set_cons_succ]
        refine wpAnyH_ready (rs := [3]) (by kernel_rfl) (by simp) ?_
        refine AllReadyH.cons (o := _) rfl (fun K hK => ?_) AllReadyH.nil
        go_simp
        refine (int_k (0) _ (HT.out.below H.out.bel) (by omega) (by omega)).mono ?_
        rintro e wc ⟨h19, rfl, hv, hb⟩
        replace H := Lib.hid (H.out.call hb)
        have HV19 := Lib.hid hv
        refine hK.out _ _ (⟨H.out.row 2 rfl, H.out.row 4 rfl⟩) (fun hN => ?_)
        clear hK K hH hb hv
        have hH := hN
        clear hN
        try simp only [Act.put, List.setIfInBounds_toArray, List.set_cons_zero, List.set_cons_succ]
        refine held_E2 5 21 rfl rfl (by kernel_rfl) (by kernel_rfl) (by kernel_rfl) rfl hH rfl rfl rfl ?_
        try simp only [Act.put, List.setIfInBounds_toArray, List.set_cons_zero, List.set_cons_succ]
        refine wpAnyH_ready (rs := [8]) (by kernel_rfl) (by simp) ?_
        refine AllReadyH.cons (o := _) rfl (fun K hK => ?_) AllReadyH.nil
        refine own_st 1 rfl rowE2 H.out rfl rfl rfl rfl ?_
        intro ws HS
        simp only [List.set_cons_zero, List.set_cons_succ] at HS
        replace H := Lib.hid HS
        refine hK.out _ _ (⟨H.out.row 2 rfl, H.out.row 4 rfl⟩) (fun hN => ?_)
        clear hK K HS hH
        have hH := hN
        clear hN
        try simp only [List.setIfInBounds_toArray]
        refine wpAnyH_ready (rs := [9]) (by kernel_rfl) (by simp) ?_
        refine AllReadyH.cons (o := _) rfl (fun K hK => ?_) AllReadyH.nil
        refine own_st 0 rfl rowE2 H.out rfl rfl rfl rfl ?_
        intro ws HS
        simp only [List.set_cons_zero] at HS
        replace H := Lib.hid HS
        refine hK.out _ _ (⟨H.out.row 2 rfl, H.out.row 4 rfl⟩) (fun hN => ?_)
        clear hK K HS hH
        have hH := hN
        clear hN
        try simp only [List.setIfInBounds_toArray]
        try simp only [Act.put]
        refine wpAnyH_done (by kernel_rfl) ?_ _
        refine NoPanic.normal ?_
        clear hH
        clear HS HN fn1
        replace H := Lib.hid (H.out.front (x := (g7, Blk 32 .u64 16 ((t2 8 (NZ h15) (NZ f))))) 1 rfl)
        go_wp2_with fail
        go_meet
        exact ⟨g7, g8, h19, rfl, rfl, HV19.out, H.out⟩
    · skip
      refine own_wp_allocB 8 rfl nilE2 H.out rfl ?_
      intro w8 g8 H3 hb
      replace H := Lib.hid H3
      refine hK.out _ _ (⟨H.out.row 1 rfl, H.out.row 3 rfl⟩) (fun hN => ?_)
      clear hK K hH H3 hb
      have hH := hN
      clear hN
      try simp only [Act.put, List.setIfInBounds_toArray, List.set_cons_zero, List.set_cons_succ]
      refine wpAnyH_ready (rs := [3, 6]) (by kernel_rfl) (by simp) ?_
      refine AllReadyH.cons (o := _) rfl (fun K hK => ?_) (AllReadyH.cons (o := _) rfl (fun K hK => ?_) AllReadyH.nil)
      · skip
        go_simp
        refine (int_k (0) _ (HT.out.below H.out.bel) (by omega) (by omega)).mono ?_
        rintro e wc ⟨h19, rfl, hv, hb⟩
        replace H := Lib.hid (H.out.call hb)
        have HV19 := Lib.hid hv
        refine hK.out _ _ (⟨H.out.row 1 rfl, H.out.row 3 rfl⟩) (fun hN => ?_)
        clear hK K hH hb hv
        have hH := hN
        clear hN
        try simp only [Act.put, List.setIfInBounds_toArray, List.set_cons_zero, List.set_cons_succ]
        refine held_E2 5 21 rfl rfl (by kernel_rfl) (by kernel_rfl) (by kernel_rfl) rfl hH rfl rfl rfl ?_
        try simp only [Act.put, List.setIfInBounds_toArray, List.set_cons_zero, List.set_cons_succ]
        refine wpAnyH_ready (rs := [6]) (by kernel_rfl) (by simp) ?_
        refine AllReadyH.cons (o := _) rfl (fun K hK => ?_) AllReadyH.nil
        refine own_wp_allocB 7 rfl nilE2 H.out rfl ?_
        intro w7 g7 H3 hb
        replace H := Lib.hid H3
        refine hK.out _ _ (⟨H.out.row 2 rfl, H.out.row 4 rfl⟩) (fun hN => ?_)
        clear hK K hH H3 hb
        have hH := hN
        clear hN
        try simp only [Act.put, List.setIfInBounds_toArray, List.set_cons_zero, List.set_cons_succ]
        refine wpAnyH_ready (rs := [8]) (by kernel_rfl) (by simp) ?_
        refine AllReadyH.cons (o := _) rfl (fun K hK => ?_) AllReadyH.nil
        refine own_st 0 rfl rowE2 H.out rfl rfl rfl rfl ?_
        intro ws HS
        simp only [List.set_cons_zero] at HS
        replace H := Lib.hid HS
        refine hK.out _ _ (⟨H.out.row 2 rfl, H.out.row 4 rfl⟩) (fun hN => ?_)
        clear hK K HS hH
        have hH := hN
        clear hN
        try simp only [List.setIfInBounds_toArray]
        refine wpAnyH_ready (rs := [9]) (by kernel_rfl) (by simp) ?_
        refine AllReadyH.cons (o := _) rfl (fun K hK => ?_) AllReadyH.nil
        refine own_st 1 rfl rowE2 H.out rfl rfl rfl rfl ?_
        intro ws HS
        simp only [List.set_cons_zero, List.set_cons_succ] at HS
        replace H := Lib.hid HS
        refine hK.out _ _ (⟨H.out.row 2 rfl, H.out.row 4 rfl⟩) (fun hN => ?_)
        clear hK K HS hH
        have hH := hN
        clear hN
        try simp only [List.setIfInBounds_toArray]
        try simp only [Act.put]
        refine wpAnyH_done (by kernel_rfl) ?_ _
        refine NoPanic.normal ?_
        clear hH
        clear HS HN fn1
        replace H := Lib.hid (H.out.front (x := (g8, Blk 32 .u64 16 ((t2 8 (NZ h19) (NZ h15))))) 1 rfl)
        replace H := Lib.hid (H.out.front (x := (g7, Blk 32 .u64 16 ((t2 8 (NZ h15) (NZ f))))) 1 rfl)
        go_wp2_with fail
        go_meet
        exact ⟨g7, g8, h19, rfl, rfl, HV19.out, H.out⟩
      · skip
        refine own_wp_allocB 7 rfl nilE2 H.out rfl ?_
        intro w7 g7 H3 hb
        replace H := Lib.hid H3
        refine hK.out _ _ (⟨H.out.row 2 rfl, H.out.row 4 rfl⟩) (fun hN => ?_)
        clear hK K hH H3 hb
        have hH := hN
        clear hN
        try simp only [Act.put, List.setIfInBounds_toArray, List.set_cons_zero, List.set_cons_succ]
        refine wpAnyH_ready (rs := [3]) (by kernel_rfl) (by simp) ?_
        refine AllReadyH.cons (o := _) rfl (fun K hK => ?_) AllReadyH.nil
        go_simp
        refine (int_k (0) _ (HT.out.below H.out.bel) (by omega) (by omega)).mono ?_
        rintro e wc ⟨h19, rfl, hv, hb⟩
        replace H := Lib.hid (H.out.call hb)
        have HV19 := Lib.hid hv
        refine hK.out _ _ (⟨H.out.row 2 rfl, H.out.row 4 rfl⟩) (fun hN => ?_)
        clear hK K hH hb hv
        have hH := hN
        clear hN
        try simp only [Act.put, List.setIfInBounds_toArray, List.set_cons_zero, List.set_cons_succ]
        refine held_E2 5 21 rfl rfl (by kernel_rfl) (by kernel_rfl) (by kernel_rfl) rfl hH rfl rfl rfl ?_
        try simp only [Act.put, List.setIfInBounds_toArray, List.set_cons_zero, List.set_cons_succ]
        refine wpAnyH_ready (rs := [8]) (by kernel_rfl) (by simp) ?_
        refine AllReadyH.cons (o := _) rfl (fun K hK => ?_) AllReadyH.nil
        refine own_st 0 rfl rowE2 H.out rfl rfl rfl rfl ?_
        intro ws HS
        simp only [List.set_cons_zero] at HS
        replace H := Lib.hid HS
        refine hK.out _ _ (⟨H.out.row 2 rfl, H.out.row 4 rfl⟩) (fun hN => ?_)
        clear hK K HS hH
        have hH := hN
        clear hN
        try simp only [List.setIfInBounds_toArray]
        refine wpAnyH_ready (rs := [9]) (by kernel_rfl) (by simp) ?_
        refine AllReadyH.cons (o := _) rfl (fun K hK => ?_) AllReadyH.nil
        refine own_st 1 rfl rowE2 H.out rfl rfl rfl rfl ?_
        intro ws HS
        simp only [List.set_cons_zero, List.set_cons_succ] at HS
        replace H := Lib.hid HS
        refine hK.out _ _ (⟨H.out.row 2 rfl, H.out.row 4 rfl⟩) (fun hN => ?_)
        clear hK K HS hH
        have hH := hN
        clear hN
        try simp only [List.setIfInBounds_toArray]
        try simp only [Act.put]
        refine wpAnyH_done (by kernel_rfl) ?_ _
        refine NoPanic.normal ?_
        clear hH
        clear HS HN fn1
        replace H := Lib.hid (H.out.front (x := (g8, Blk 32 .u64 16 ((t2 8 (NZ h19) (NZ h15))))) 1 rfl)
        replace H := Lib.hid (H.out.front (x := (g7, Blk 32 .u64 16 ((t2 8 (NZ h15) (NZ f))))) 1 rfl)
        go_wp2_with fail
        go_meet
        exact ⟨g7, g8, h19, rfl, rfl, HV19.out, H.out⟩
  clear H
  obtain ⟨g7, g8, h19, rfl, rfl, hv19, HRR⟩ := hcut
  have HV19 := Lib.hid hv19
  have H := Lib.hid HRR
  clear HRR hv19
  go_wp2_with fail
  have HI : Hid (StK h15 f h19 h15 (lad cK u (8 * n - (8 * n)) (x / 2 ^ (8 * n)))) := Lib.hid (by
    rw [Nat.sub_self]
    exact ⟨HV15.out.eq ofZ_one, EU.out, HV19.out.eq ofZ_zero, HV15.out.eq ofZ_one⟩)
  go_step3
  go_wp2_with fail
  clear fn1
  go_loopg [9] n (fun gk v wr => ∃ a b c d, gk ≤ n ∧ v = .int .i64 ((gk : Int) - 1) ∧ StK a b c d (lad cK u (8 * n - (8 * gk)) (x / 2 ^ (8 * gk))) ∧ Ow w wr [(g7, Blk 32 .u64 16 (E2v a b)), (g8, Blk 32 .u64 16 (E2v c d)), (g6, Blk 29 .u64 8 (NZ h15)), (g4, Blk 29 .u64 8 fun _ => 0), (g3, Blk 29 .u64 8 (NZ f))])
  case atStart => exact ⟨h15, f, h19, h15, Nat.le_refl _, rfl, HI.out, H.out⟩
  case round =>
    clear H HI
    obtain ⟨a0, b0, c0, d0, hk, rfl, hS, HR⟩ := hrel
    have H := Lib.hid HR
    have HK := Lib.hid hk
    obtain ⟨sa, sb, sc, sd⟩ := hS
    have SA := Lib.hid sa
    have SB := Lib.hid sb
    have SC := Lib.hid sc
    have SD := Lib.hid sd
    clear HR hk sa sb sc sd
    cases gk with
    | zero =>
      rw [show ((0 : Nat) : Int) - 1 = -1 from rfl]
      go_upto_region 12 with fail
      clear HK HN
      refine wp_region_noPanic ?_
      refine wp_region_held_drew (S := fun W => W.heap[g7]? = some (Blk 32 .u64 16 ((t2 8 (NZ a0) (NZ b0)))) ∧ W.heap[g8]? = some (Blk 32 .u64 16 ((t2 8 (NZ c0) (NZ d0))))) (by kernel_rfl) (⟨H.out.drew.row 0 rfl, H.out.drew.row 1 rfl⟩) (fun hH => ?_)
      replace H := Lib.hid H.out.drew
      generalize World.drew _ = w8 at *
      refine held_value 0 47 (.pointer (some ⟨g7, 0, none⟩)) rfl rfl (by kernel_rfl) (by kernel_rfl) (by kernel_rfl) rfl hH (fun w hw => by go_simp) ?_
      try simp only [Act.put, List.setIfInBounds_toArray, List.set_cons_zero, List.set_cons_succ]
      refine held_part 1 48 rowE rfl rfl (by kernel_rfl) (by kernel_rfl) (by kernel_rfl) rfl hH rfl rfl part2_0 (fun _ h => h.1) ?_
      try simp only [Act.put, List.setIfInBounds_toArray, List.set_cons_zero, List.set_cons_succ]
      refine held_value 2 49 (.pointer (some ⟨g8, 0, none⟩)) rfl rfl (by kernel_rfl) (by kernel_rfl) (by kernel_rfl) rfl hH (fun w hw => by go_simp) ?_
      try simp only [Act.put, List.setIfInBounds_toArray, List.set_cons_zero, List.set_cons_succ]
      refine held_part 3 50 rowE rfl rfl (by kernel_rfl) (by kernel_rfl) (by kernel_rfl) rfl hH rfl rfl part2_0 (fun _ h => h.2) ?_
      try simp only [Act.put, List.setIfInBounds_toArray, List.set_cons_zero, List.set_cons_succ]
      refine wpAnyH_ready (rs := [4]) (by kernel_rfl) (by simp) ?_
      refine AllReadyH.cons (o := _) rfl (fun K hK => ?_) AllReadyH.nil
      go_simp
      refine (inverse_k _ SC.out).mono ?_
      rintro e wc ⟨h51, rfl, hv, hb⟩
      replace H := Lib.hid (H.out.call hb)
      have HV51 := Lib.hid hv
      refine hK.out _ _ (⟨H.out.row 0 rfl, H.out.row 1 rfl⟩) (fun hN => ?_)
      clear hK K hH hb hv
      have hH := hN
      clear hN
      try simp only [Act.put, List.setIfInBounds_toArray, List.set_cons_zero, List.set_cons_succ]
      refine wpAnyH_ready (rs := [5]) (by kernel_rfl) (by simp) ?_
      refine AllReadyH.cons (o := _) rfl (fun K hK => ?_) AllReadyH.nil
      go_simp
      refine (mul_k _ SA.out HV51.out).mono ?_
      rintro e wc ⟨h52, rfl, hv, hb⟩
      replace H := Lib.hid (H.out.call hb)
      have HV52 := Lib.hid hv
      refine hK.out _ _ (⟨H.out.row 0 rfl, H.out.row 1 rfl⟩) (fun hN => ?_)
      clear hK K hH hb hv
      have hH := hN
      clear hN
      try simp only [Act.put, List.setIfInBounds_toArray, List.set_cons_zero, List.set_cons_succ]
      refine wpAnyH_ready (rs := [6]) (by kernel_rfl) (by simp) ?_
      refine AllReadyH.cons (o := _) rfl (fun K hK => ?_) AllReadyH.nil
      refine own_st 3 rfl rowE H.out rfl rfl rfl rfl ?_
      intro ws HS
      simp only [List.set_cons_zero, List.set_cons_succ] at HS
      replace H := Lib.hid HS
      refine hK.out _ _ (⟨H.out.row 0 rfl, H.out.row 1 rfl⟩) (fun hN => ?_)
      clear hK K HS hH
      have hH := hN
      clear hN
      try simp only [List.setIfInBounds_toArray]
      refine held_value 7 5 (.int .i64 0) rfl rfl (by kernel_rfl) (by kernel_rfl) (by kernel_rfl) rfl hH (fun w hw => by go_simp) ?_
      try simp only [Act.put, List.setIfInBounds_toArray, List.set_cons_zero, List.set_cons_succ]
      try simp only [Act.put]
      refine wpAnyH_done (by kernel_rfl) ?_ _
      refine NoPanic.normal ?_
      clear hH
      go_wp2_with fail
      try rw [Exit.noGoto_ret]
      refine bodyPost_ret (own_result_slot 3 rowE rfl _ H rfl rfl rfl) rfl ⟨h52, rfl, HV52.out.eq ?_, H.out.bel⟩
      have hl := ldV_lad u HS.out.fits
      rw [Nat.mul_zero, Nat.sub_zero, Nat.pow_zero, Nat.div_one]
      exact hl
    | succ k =>
      have hid : decide ((0 : Int) ≤ (k : Int)) = true := by simp
      rw [show ((k + 1 : Nat) : Int) - 1 = (k : Int) by omega]
      have kn : (k : Int) < (n : Int) := by have := HK.out; omega
      have hk2 := HK.out
      obtain ⟨b, o, rfl, hb, hcc⟩ := HS.out.sl.get k (by omega)
      obtain ⟨y, hy⟩ : ∃ y, (bt x k).toNat = y := ⟨_, rfl⟩
      have HC : Hid (w.cell? ⟨b, o + k, none⟩ = some (.int .u8 (y : Int))) := Lib.hid (by
        rw [hcc]
        exact congrArg (fun v => some (Value.int .u8 v)) (by rw [← hy]; rfl))
      have Hb := Lib.hid hb
      have y256 : y < 256 := by rw [← hy]; exact (bt x k).isLt
      have HY := Lib.hid hy
      have HM : Hid (8 * (k + 1) = 8 * k + 8) := Lib.hid (by omega)
      rw [HM.out] at SA SB SC SD
      clear hcc hb hy hk2 HM
      have HI : Hid (∃ a b c d, StK a b c d (lad cK u (8 * n - (8 * k + 8)) (x / 2 ^ (8 * k + 8))) ∧ Ow w wr [(g7, Blk 32 .u64 16 (E2v a b)), (g8, Blk 32 .u64 16 (E2v c d)), (g6, Blk 29 .u64 8 (NZ h15)), (g4, Blk 29 .u64 8 fun _ => 0), (g3, Blk 29 .u64 8 (NZ f))]) := Lib.hid ⟨a0, b0, c0, d0, ⟨SA.out, SB.out, SC.out, SD.out⟩, H.out⟩
      clear SA SB SC SD H
      go_wp2_with fail
      go_loopg [10] 8 (fun gk v wr => ∃ a b c d, gk ≤ 8 ∧ 0 < gk ∧ v = .int .i64 ((gk : Int) - 1) ∧ StK a b c d (lad cK u (8 * n - (8 * k + gk)) (x / 2 ^ (8 * k + gk))) ∧ Ow w wr [(g7, Blk 32 .u64 16 (E2v a b)), (g8, Blk 32 .u64 16 (E2v c d)), (g6, Blk 29 .u64 8 (NZ h15)), (g4, Blk 29 .u64 8 fun _ => 0), (g3, Blk 29 .u64 8 (NZ f))])
      case atStart =>
        obtain ⟨a, b, c, d, h1, h2⟩ := HI.out
        exact ⟨a, b, c, d, Nat.le_refl _, by omega, rfl, h1, h2⟩
      case round =>
        clear HI
        obtain ⟨a1, b1, c1, d1, hk, hk0, rfl, hS, HR⟩ := hrel
        obtain ⟨j, rfl⟩ : ∃ j, gk = j + 1 := ⟨gk - 1, by omega⟩
        rw [show ((j + 1 : Nat) : Int) - 1 = (j : Int) by omega]
        have H := Lib.hid HR
        have HJ := Lib.hid hk
        have SS := Lib.hid hS
        obtain ⟨z, hz⟩ : ∃ z, y / 2 ^ j = z := ⟨_, rfl⟩
        have e3 : (y : Int) / 2 ^ j = (z : Int) := by rw [← hz, Int.natCast_ediv, Int.natCast_pow]; rfl
        have hz2 : z ≤ y := by rw [← hz]; exact Nat.div_le_self _ _
        have e4 : IntKind.u8.wrap (z : Int) = (z : Int) := by rw [IntKind.wrap_u8]; omega
        obtain ⟨v, hv⟩ : ∃ v, z % 2 = v := ⟨_, rfl⟩
        have e5 := u8_and1 z
        rw [hv] at e5
        have sm : min j 64 = j := by omega
        have j8 : (j : Int) < 8 := by omega
        have fj : IntKind.i64.wrap ((j : Int) - 1) = (j : Int) - 1 := IntWalk.i64_in _ (by omega)
        have HV : Hid ((v : Int) = if decide (x / 2 ^ (8 * k + j) % 2 = 1) = true then 1 else 0) := Lib.hid (by
          have e6 : x / 2 ^ (8 * k + j) % 2 = v := by
            have h1 := dg_bit x (8 * k + j)
            rw [show (8 * k + j) / 8 = k by omega, show (8 * k + j) % 8 = j by omega] at h1
            rw [← hv, ← hz, ← HY.out, bt_nat, ← h1]
            rfl
          rw [e6]
          rcases (by omega : v = 0 ∨ v = 1) with rfl | rfl <;> rfl)
        have HL : Hid (ldB cK u (decide (x / 2 ^ (8 * k + j) % 2 = 1)) (lad cK u (8 * n - (8 * k + (j + 1))) (x / 2 ^ (8 * k + (j + 1)))) = (lad cK u (8 * n - (8 * k + j)) (x / 2 ^ (8 * k + j)))) := Lib.hid (by
          have hkn := HK.out
          rw [show 8 * n - (8 * k + j) = 8 * n - (8 * k + (j + 1)) + 1 by omega, lad_succ, Nat.div_div_eq_div_mul, ← Nat.pow_succ, Nat.succ_eq_add_one, Nat.add_assoc (8 * k) j 1])
        obtain ⟨β, hβ⟩ : ∃ β, decide (x / 2 ^ (8 * k + j) % 2 = 1) = β := ⟨_, rfl⟩
        rw [hβ] at HV HL
        clear hk hk0 HR hS hz hv hβ hz2 y256
        go_wp2_with fail
        have kn' : (k : Int) < 9223372036854775807 := by have := HN.out; omega
        have fk : IntKind.i64.wrap ((k : Int) - 1) = (k : Int) - 1 := IntWalk.i64_in _ (by omega)
        clear kn'
        refine wp_region_noPanic ?_
        refine wp_region_held_drew (S := fun W => W.heap[g3]? = some (Blk 29 .u64 8 (NZ f)) ∧ W.cell? ⟨b, o + k, none⟩ = some (.int .u8 (y : Int))) (by kernel_rfl) (⟨H.out.drew.row 4 rfl, (H.out.drew.bel.cell (p := ⟨b, o + k, none⟩) Hb.out).trans HC.out⟩) (fun hH => ?_)
        replace H := Lib.hid H.out.drew
        generalize World.drew _ = w8 at *
        refine held_value 0 32 (.slice (some ⟨b, o, none⟩) n c) rfl rfl (by kernel_rfl) (by kernel_rfl) (by kernel_rfl) rfl hH (fun w hw => by go_simp) ?_
        try simp only [Act.put, List.setIfInBounds_toArray, List.set_cons_zero, List.set_cons_succ]
        refine held_value 1 33 (.int .i64 (k : Int)) rfl rfl (by kernel_rfl) (by kernel_rfl) (by kernel_rfl) rfl hH (fun w hw => by go_simp) ?_
        try simp only [Act.put, List.setIfInBounds_toArray, List.set_cons_zero, List.set_cons_succ]
        refine held_value 2 34 (.pointer (some ⟨b, o + k, none⟩)) rfl rfl (by kernel_rfl) (by kernel_rfl) (by kernel_rfl) rfl hH (fun w hw => by go_simp) ?_
        try simp only [Act.put, List.setIfInBounds_toArray, List.set_cons_zero, List.set_cons_succ]
        refine held_value 3 35 (.int .u8 (y : Int)) rfl rfl (by kernel_rfl) (by kernel_rfl) (by kernel_rfl) rfl hH (fun w hw => by have hc := hw.2; go_simp) ?_
        try simp only [Act.put, List.setIfInBounds_toArray, List.set_cons_zero, List.set_cons_succ]
        refine held_value 4 36 (.int .i64 (j : Int)) rfl rfl (by kernel_rfl) (by kernel_rfl) (by kernel_rfl) rfl hH (fun w hw => by go_simp) ?_
        try simp only [Act.put, List.setIfInBounds_toArray, List.set_cons_zero, List.set_cons_succ]
        refine held_value 5 37 (.int .u8 (z : Int)) rfl rfl (by kernel_rfl) (by kernel_rfl) (by kernel_rfl) rfl hH (fun w hw => by go_simp) ?_
        try simp only [Act.put, List.setIfInBounds_toArray, List.set_cons_zero, List.set_cons_succ]
        refine held_value 6 38 (.int .u8 (v : Int)) rfl rfl (by kernel_rfl) (by kernel_rfl) (by kernel_rfl) rfl hH (fun w hw => by go_simp) ?_
        try simp only [Act.put, List.setIfInBounds_toArray, List.set_cons_zero, List.set_cons_succ]
        refine held_row 7 39 rowE rfl rfl (by kernel_rfl) (by kernel_rfl) (by kernel_rfl) rfl hH rfl rfl (fun _ h => h.1) ?_
        try simp only [Act.put, List.setIfInBounds_toArray, List.set_cons_zero, List.set_cons_succ]
        refine wpAnyH_ready (rs := [8, 9]) (by kernel_rfl) (by simp) ?_
        refine AllReadyH.cons (o := _) rfl (fun K hK => ?_) (AllReadyH.cons (o := _) rfl (fun K hK => ?_) AllReadyH.nil)
        · skip
          refine own_wp_load 40 rfl 0 rowE2 H.out rfl rfl rfl ?_
          refine hK.out _ _ hH (fun hN => ?_)
          clear hK K hH
          have hH := hN
          clear hN
          try simp only [Act.put, List.setIfInBounds_toArray, List.set_cons_zero, List.set_cons_succ]
          refine wpAnyH_ready (rs := [9]) (by kernel_rfl) (by simp) ?_
          refine AllReadyH.cons (o := _) rfl (fun K hK => ?_) AllReadyH.nil
          refine own_wp_load 41 rfl 1 rowE2 H.out rfl rfl rfl ?_
          refine hK.out _ _ hH (fun hN => ?_)
          clear hK K hH
          have hH := hN
          clear hN
          try simp only [Act.put, List.setIfInBounds_toArray, List.set_cons_zero, List.set_cons_succ]
          refine wpAnyH_ready (rs := [10]) (by kernel_rfl) (by simp) ?_
          refine AllReadyH.cons (o := _) rfl (fun K hK => ?_) AllReadyH.nil
          go_simp
          refine (rung_k β (v : Int) HV.out _ (HT.out.below H.out.bel) EU.out SS.out).mono ?_
          rintro e wc ⟨a42, b42, c42, d42, rfl, hs, hb⟩
          replace H := Lib.hid (H.out.call hb)
          have HS42 := Lib.hid hs
          refine hK.out _ _ (⟨H.out.row 4 rfl, (H.out.bel.cell (p := ⟨b, o + k, none⟩) Hb.out).trans HC.out⟩) (fun hN => ?_)
          clear hK K hH hb hs
          have hH := hN
          clear hN
          try simp only [Act.put, List.setIfInBounds_toArray, List.set_cons_zero, List.set_cons_succ]
          refine held_value 11 31 (.tuple #[E2 (t2 8 (NZ a42) (NZ b42)), E2 (t2 8 (NZ c42) (NZ d42))]) rfl rfl (by kernel_rfl) (by kernel_rfl) (by kernel_rfl) rfl hH (fun w hw => by go_simp) ?_
          try simp only [Act.put, List.setIfInBounds_toArray, List.set_cons_zero, List.set_cons_succ]
          refine held_value 12 43 (E2 (t2 8 (NZ a42) (NZ b42))) rfl rfl (by kernel_rfl) (by kernel_rfl) (by kernel_rfl) rfl hH (fun w hw => by go_simp) ?_
          try simp only [Act.put, List.setIfInBounds_toArray, List.set_cons_zero, List.set_cons_succ]
          refine held_value 13 44 (E2 (t2 8 (NZ c42) (NZ d42))) rfl rfl (by kernel_rfl) (by kernel_rfl) (by kernel_rfl) rfl hH (fun w hw => by go_simp) ?_
          try simp only [Act.put, List.setIfInBounds_toArray, List.set_cons_zero, List.set_cons_succ]
          refine wpAnyH_ready (rs := [14]) (by kernel_rfl) (by simp) ?_
          refine AllReadyH.cons (o := _) rfl (fun K hK => ?_) AllReadyH.nil
          refine own_st 0 rfl rowE2 H.out rfl rfl rfl rfl ?_
          intro ws HS
          simp only [List.set_cons_zero] at HS
          replace H := Lib.hid HS
          refine hK.out _ _ (⟨H.out.row 4 rfl, (H.out.bel.cell (p := ⟨b, o + k, none⟩) Hb.out).trans HC.out⟩) (fun hN => ?_)
          clear hK K HS hH
          have hH := hN
          clear hN
          try simp only [List.setIfInBounds_toArray]
          refine wpAnyH_ready (rs := [15]) (by kernel_rfl) (by simp) ?_
          refine AllReadyH.cons (o := _) rfl (fun K hK => ?_) AllReadyH.nil
          refine own_st 1 rfl rowE2 H.out rfl rfl rfl rfl ?_
          intro ws HS
          simp only [List.set_cons_zero, List.set_cons_succ] at HS
          replace H := Lib.hid HS
          refine hK.out _ _ (⟨H.out.row 4 rfl, (H.out.bel.cell (p := ⟨b, o + k, none⟩) Hb.out).trans HC.out⟩) (fun hN => ?_)
          clear hK K HS hH
          have hH := hN
          clear hN
          try simp only [List.setIfInBounds_toArray]
          try simp only [Act.put]
          refine wpAnyH_done (by kernel_rfl) ?_ _
          refine NoPanic.normal ?_
          clear hH
          rw [HL.out] at HS42
          by_cases hj0 : j = 0
          · subst hj0
            have d0 : (((0 : Nat) : Int) == 0) = true := rfl
            have d1 : decide (((0 : Nat) : Int) = 0) = true := rfl
            go_wp2_with fail
            go_roundg k
            case rel => exact ⟨a42, b42, c42, d42, by have := HK.out; omega, by go_num, HS42.out, H.out⟩
            case measure => omega
          · have d0 : ((j : Int) == 0) = false := by rw [beq_eq_false_iff_ne]; omega
            have d1 : decide ((j : Int) = 0) = false := by simp; omega
            go_wp2_with fail
            go_roundg j
            case rel => exact ⟨a42, b42, c42, d42, by have := HJ.out; omega, by omega, by go_num, HS42.out, H.out⟩
            case measure => omega
        · skip
          refine own_wp_load 41 rfl 1 rowE2 H.out rfl rfl rfl ?_
          refine hK.out _ _ hH (fun hN => ?_)
          clear hK K hH
          have hH := hN
          clear hN
          try simp only [Act.put, List.setIfInBounds_toArray, List.set_cons_zero, List.set_cons_succ]
          refine wpAnyH_ready (rs := [8]) (by kernel_rfl) (by simp) ?_
          refine AllReadyH.cons (o := _) rfl (fun K hK => ?_) AllReadyH.nil
          refine own_wp_load 40 rfl 0 rowE2 H.out rfl rfl rfl ?_
          refine hK.out _ _ hH (fun hN => ?_)
          clear hK K hH
          have hH := hN
          clear hN
          try simp only [Act.put, List.setIfInBounds_toArray, List.set_cons_zero, List.set_cons_succ]
          refine wpAnyH_ready (rs := [10]) (by kernel_rfl) (by simp) ?_
          refine AllReadyH.cons (o := _) rfl (fun K hK => ?_) AllReadyH.nil
          go_simp
          refine (rung_k β (v : Int) HV.out _ (HT.out.below H.out.bel) EU.out SS.out).mono ?_
          rintro e wc ⟨a42, b42, c42, d42, rfl, hs, hb⟩
          replace H := Lib.hid (H.out.call hb)
          have HS42 := Lib.hid hs
          refine hK.out _ _ (⟨H.out.row 4 rfl, (H.out.bel.cell (p := ⟨b, o + k, none⟩) Hb.out).trans HC.out⟩) (fun hN => ?_)
          clear hK K hH hb hs
          have hH := hN
          clear hN
          try simp only [Act.put, List.setIfInBounds_toArray, List.set_cons_zero, List.set_cons_succ]
          refine held_value 11 31 (.tuple #[E2 (t2 8 (NZ a42) (NZ b42)), E2 (t2 8 (NZ c42) (NZ d42))]) rfl rfl (by kernel_rfl) (by kernel_rfl) (by kernel_rfl) rfl hH (fun w hw => by go_simp) ?_
          try simp only [Act.put, List.setIfInBounds_toArray, List.set_cons_zero, List.set_cons_succ]
          refine held_value 12 43 (E2 (t2 8 (NZ a42) (NZ b42))) rfl rfl (by kernel_rfl) (by kernel_rfl) (by kernel_rfl) rfl hH (fun w hw => by go_simp) ?_
          try simp only [Act.put, List.setIfInBounds_toArray, List.set_cons_zero, List.set_cons_succ]
          refine held_value 13 44 (E2 (t2 8 (NZ c42) (NZ d42))) rfl rfl (by kernel_rfl) (by kernel_rfl) (by kernel_rfl) rfl hH (fun w hw => by go_simp) ?_
          try simp only [Act.put, List.setIfInBounds_toArray, List.set_cons_zero, List.set_cons_succ]
          refine wpAnyH_ready (rs := [14]) (by kernel_rfl) (by simp) ?_
          refine AllReadyH.cons (o := _) rfl (fun K hK => ?_) AllReadyH.nil
          refine own_st 0 rfl rowE2 H.out rfl rfl rfl rfl ?_
          intro ws HS
          simp only [List.set_cons_zero] at HS
          replace H := Lib.hid HS
          refine hK.out _ _ (⟨H.out.row 4 rfl, (H.out.bel.cell (p := ⟨b, o + k, none⟩) Hb.out).trans HC.out⟩) (fun hN => ?_)
          clear hK K HS hH
          have hH := hN
          clear hN
          try simp only [List.setIfInBounds_toArray]
          refine wpAnyH_ready (rs := [15]) (by kernel_rfl) (by simp) ?_
          refine AllReadyH.cons (o := _) rfl (fun K hK => ?_) AllReadyH.nil
          refine own_st 1 rfl rowE2 H.out rfl rfl rfl rfl ?_
          intro ws HS
          simp only [List.set_cons_zero, List.set_cons_succ] at HS
          replace H := Lib.hid HS
          refine hK.out _ _ (⟨H.out.row 4 rfl, (H.out.bel.cell (p := ⟨b, o + k, none⟩) Hb.out).trans HC.out⟩) (fun hN => ?_)
          clear hK K HS hH
          have hH := hN
          clear hN
          try simp only [List.setIfInBounds_toArray]
          try simp only [Act.put]
          refine wpAnyH_done (by kernel_rfl) ?_ _
          refine NoPanic.normal ?_
          clear hH
          rw [HL.out] at HS42
          by_cases hj0 : j = 0
          · subst hj0
            have d0 : (((0 : Nat) : Int) == 0) = true := rfl
            have d1 : decide (((0 : Nat) : Int) = 0) = true := rfl
            go_wp2_with fail
            go_roundg k
            case rel => exact ⟨a42, b42, c42, d42, by have := HK.out; omega, by go_num, HS42.out, H.out⟩
            case measure => omega
          · have d0 : ((j : Int) == 0) = false := by rw [beq_eq_false_iff_ne]; omega
            have d1 : decide ((j : Int) = 0) = false := by simp; omega
            go_wp2_with fail
            go_roundg j
            case rel => exact ⟨a42, b42, c42, d42, by have := HJ.out; omega, by omega, by go_num, HS42.out, H.out⟩
            case measure => omega
end Go.Proofs.YtckmboebipbpbaaDoor
