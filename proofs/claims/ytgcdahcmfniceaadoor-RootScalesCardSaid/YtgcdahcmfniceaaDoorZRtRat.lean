/-
  The contracts of package root's Ratio and Root. No statement is proved here: lemmas for the walks.
-/
import Derived.Test.YtgcdahcmfniceaaDoorZRtInv
import Derived.Test.YtgcdahcmfniceaaDoorZRtAbs
namespace Go.Proofs.YtgcdahcmfniceaaDoor
open Go.RowKit

set_option maxRecDepth 8000 in
set_option maxHeartbeats 3200000 in
theorem ratio_k {f g : Nat → Nat} {u v : K} (w : World) (hT : Tp w) (hf : EK f u) (hg : EK g v) :
    Calls Tryd.prog 5 #[EV f, EV g] w fun e w' => ∃ h, e = .returned (.tuple #[EV h, .bool (decide (v * (rat eC u v * rat eC u v) = u))]) ∧ EK h (ab (rat eC u v)) ∧ Below w.heap.size w w' := by
  have HF := Lib.hid hf
  have HG := Lib.hid hg
  have HT := Lib.hid hT
  clear hf hg hT
  have H := Lib.hid (Ow.start w)
  go_enter Tryd.func5, Tryd.ntmps5
  go_wp2_with (first
    | ((fail_if_success have := g2); (with_reducible apply own_box H); (case hgd => exact rfl); (case ho => exact rfl); (case hx => exact rfl); intro w2 g2 H' _ _; replace H := H'; clear H'; go_simp)
    | ((fail_if_success have := g3); (with_reducible apply own_box H); (case hgd => exact rfl); (case ho => exact rfl); (case hx => exact rfl); intro w3 g3 H' _ _; replace H := H'; clear H'; go_simp)
    | ((fail_if_success have := g4); (with_reducible apply own_alloc nilE H); (case hgd => exact rfl); (case ho => exact rfl); intro w4 g4 H' _ _; replace H := H'; clear H'; go_simp))
  refine wp_region_noPanic ?_
  refine wp_region_held_drew (S := fun W => W.heap[g2]? = some (Blk 27 .u64 8 (NZ f)) ∧ W.heap[g3]? = some (Blk 27 .u64 8 (NZ g))) (by kernel_rfl) (⟨H.out.drew.row 2 rfl, H.out.drew.row 1 rfl⟩) (fun hH => ?_)
  replace H := Lib.hid H.out.drew
  generalize World.drew _ = w8 at *
  refine held_row 0 7 rowE rfl rfl (by kernel_rfl) (by kernel_rfl) (by kernel_rfl) rfl hH rfl rfl (fun _ h => h.1) ?_
  try simp only [Act.put, List.setIfInBounds_toArray, List.set_cons_zero, List.set_cons_succ]
  refine held_row 1 8 rowE rfl rfl (by kernel_rfl) (by kernel_rfl) (by kernel_rfl) rfl hH rfl rfl (fun _ h => h.1) ?_
  try simp only [Act.put, List.setIfInBounds_toArray, List.set_cons_zero, List.set_cons_succ]
  refine held_row 2 9 rowE rfl rfl (by kernel_rfl) (by kernel_rfl) (by kernel_rfl) rfl hH rfl rfl (fun _ h => h.2) ?_
  try simp only [Act.put, List.setIfInBounds_toArray, List.set_cons_zero, List.set_cons_succ]
  refine wpAnyH_ready (rs := [3, 6]) (by kernel_rfl) (by simp) ?_
  refine AllReadyH.cons (o := _) rfl (fun K hK => ?_) (AllReadyH.cons (o := _) rfl (fun K hK => ?_) AllReadyH.nil)
  · skip
    go_simp
    refine (mul_k _ HF.out HG.out).mono ?_
    rintro e wc ⟨h10, rfl, hv, hb⟩
    replace H := Lib.hid (H.out.call hb)
    have HV10 := Lib.hid hv
    refine hK.out _ _ (⟨H.out.row 2 rfl, H.out.row 1 rfl⟩) (fun hN => ?_)
    clear hK K hH hb hv
    have hH := hN
    clear hN
    try simp only [Act.put, List.setIfInBounds_toArray, List.set_cons_zero, List.set_cons_succ]
    refine wpAnyH_ready (rs := [4, 6]) (by kernel_rfl) (by simp) ?_
    refine AllReadyH.cons (o := _) rfl (fun K hK => ?_) (AllReadyH.cons (o := _) rfl (fun K hK => ?_) AllReadyH.nil)
    · skip
      go_simp
      refine (chain_k _ HV10.out).mono ?_
      rintro e wc ⟨h11, rfl, hv, hb⟩
      replace H := Lib.hid (H.out.call hb)
      have HV11 := Lib.hid hv
      refine hK.out _ _ (⟨H.out.row 2 rfl, H.out.row 1 rfl⟩) (fun hN => ?_)
      clear hK K hH hb hv
      have hH := hN
      clear hN
      try simp only [Act.put, List.setIfInBounds_toArray, List.set_cons_zero, List.set_cons_succ]
      refine wpAnyH_ready (rs := [5, 6]) (by kernel_rfl) (by simp) ?_
      refine AllReadyH.cons (o := _) rfl (fun K hK => ?_) (AllReadyH.cons (o := _) rfl (fun K hK => ?_) AllReadyH.nil)
      · skip
        go_simp
        refine (mul_k _ HF.out HV11.out).mono ?_
        rintro e wc ⟨h12, rfl, hv, hb⟩
        replace H := Lib.hid (H.out.call hb)
        have HV12 := Lib.hid hv
        refine hK.out _ _ (⟨H.out.row 2 rfl, H.out.row 1 rfl⟩) (fun hN => ?_)
        clear hK K hH hb hv
        have hH := hN
        clear hN
        try simp only [Act.put, List.setIfInBounds_toArray, List.set_cons_zero, List.set_cons_succ]
        refine wpAnyH_ready (rs := [6]) (by kernel_rfl) (by simp) ?_
        refine AllReadyH.cons (o := _) rfl (fun K hK => ?_) AllReadyH.nil
        refine own_wp_alloc 6 rfl nilE H.out rfl ?_
        intro w6 g6 H3
        replace H := Lib.hid H3
        refine hK.out _ _ (⟨H.out.row 3 rfl, H.out.row 2 rfl⟩) (fun hN => ?_)
        clear hK K hH H3
        have hH := hN
        clear hN
        try simp only [Act.put, List.setIfInBounds_toArray, List.set_cons_zero, List.set_cons_succ]
        refine wpAnyH_ready (rs := [7]) (by kernel_rfl) (by simp) ?_
        refine AllReadyH.cons (o := _) rfl (fun K hK => ?_) AllReadyH.nil
        refine own_wp_store 0 rowE H.out rfl rfl rfl rfl ?_
        intro ws HS
        simp only [List.set_cons_zero] at HS
        replace H := Lib.hid HS
        refine hK.out _ _ (⟨H.out.row 3 rfl, H.out.row 2 rfl⟩) (fun hN => ?_)
        clear hK K HS hH
        have hH := hN
        clear hN
        try simp only [Act.put, List.setIfInBounds_toArray]
        try simp only [Act.put]
        refine wpAnyH_done (by kernel_rfl) ?_ _
        refine NoPanic.normal ?_
        clear hH
        have HR : Hid (EK h12 (rat eC u v)) := Lib.hid HV12.out
        clear HV10 HV11 HV12
        go_wp2_with fail
        refine wp_region_noPanic ?_
        refine wp_region_held_drew (S := fun W => W.heap[g6]? = some (Blk 27 .u64 8 (NZ h12)) ∧ W.heap[g3]? = some (Blk 27 .u64 8 (NZ g)) ∧ W.heap[g2]? = some (Blk 27 .u64 8 (NZ f))) (by kernel_rfl) (⟨H.out.drew.row 0 rfl, H.out.drew.row 2 rfl, H.out.drew.row 3 rfl⟩) (fun hH => ?_)
        replace H := Lib.hid H.out.drew
        generalize World.drew _ = w8 at *
        refine held_row 0 13 rowE rfl rfl (by kernel_rfl) (by kernel_rfl) (by kernel_rfl) rfl hH rfl rfl (fun _ h => h.1) ?_
        try simp only [Act.put, List.setIfInBounds_toArray, List.set_cons_zero, List.set_cons_succ]
        refine held_row 2 15 rowE rfl rfl (by kernel_rfl) (by kernel_rfl) (by kernel_rfl) rfl hH rfl rfl (fun _ h => h.2.1) ?_
        try simp only [Act.put, List.setIfInBounds_toArray, List.set_cons_zero, List.set_cons_succ]
        refine held_row 3 16 rowE rfl rfl (by kernel_rfl) (by kernel_rfl) (by kernel_rfl) rfl hH rfl rfl (fun _ h => h.1) ?_
        try simp only [Act.put, List.setIfInBounds_toArray, List.set_cons_zero, List.set_cons_succ]
        refine held_row 6 19 rowE rfl rfl (by kernel_rfl) (by kernel_rfl) (by kernel_rfl) rfl hH rfl rfl (fun _ h => h.2.2) ?_
        try simp only [Act.put, List.setIfInBounds_toArray, List.set_cons_zero, List.set_cons_succ]
        refine wpAnyH_ready (rs := [1]) (by kernel_rfl) (by simp) ?_
        refine AllReadyH.cons (o := _) rfl (fun K hK => ?_) AllReadyH.nil
        go_simp
        refine (abs_k _ (HT.out.below H.out.bel) HR.out).mono ?_
        rintro e wc ⟨h14, rfl, hv, hb⟩
        replace H := Lib.hid (H.out.call hb)
        have HV14 := Lib.hid hv
        refine hK.out _ _ (⟨H.out.row 0 rfl, H.out.row 2 rfl, H.out.row 3 rfl⟩) (fun hN => ?_)
        clear hK K hH hb hv
        have hH := hN
        clear hN
        try simp only [Act.put, List.setIfInBounds_toArray, List.set_cons_zero, List.set_cons_succ]
        refine wpAnyH_ready (rs := [4]) (by kernel_rfl) (by simp) ?_
        refine AllReadyH.cons (o := _) rfl (fun K hK => ?_) AllReadyH.nil
        go_simp
        refine (square_k _ HR.out).mono ?_
        rintro e wc ⟨h17, rfl, hv, hb⟩
        replace H := Lib.hid (H.out.call hb)
        have HV17 := Lib.hid hv
        refine hK.out _ _ (⟨H.out.row 0 rfl, H.out.row 2 rfl, H.out.row 3 rfl⟩) (fun hN => ?_)
        clear hK K hH hb hv
        have hH := hN
        clear hN
        try simp only [Act.put, List.setIfInBounds_toArray, List.set_cons_zero, List.set_cons_succ]
        refine wpAnyH_ready (rs := [5]) (by kernel_rfl) (by simp) ?_
        refine AllReadyH.cons (o := _) rfl (fun K hK => ?_) AllReadyH.nil
        go_simp
        refine (mul_k _ HG.out HV17.out).mono ?_
        rintro e wc ⟨h18, rfl, hv, hb⟩
        replace H := Lib.hid (H.out.call hb)
        have HV18 := Lib.hid hv
        refine hK.out _ _ (⟨H.out.row 0 rfl, H.out.row 2 rfl, H.out.row 3 rfl⟩) (fun hN => ?_)
        clear hK K hH hb hv
        have hH := hN
        clear hN
        try simp only [Act.put, List.setIfInBounds_toArray, List.set_cons_zero, List.set_cons_succ]
        refine wpAnyH_ready (rs := [7]) (by kernel_rfl) (by simp) ?_
        refine AllReadyH.cons (o := _) rfl (fun K hK => ?_) AllReadyH.nil
        go_simp
        refine (equal_k _ (HT.out.below H.out.bel) HV18.out HF.out).mono ?_
        rintro e wc ⟨rfl, hb⟩
        replace H := Lib.hid (H.out.call hb)
        refine hK.out _ _ (⟨H.out.row 0 rfl, H.out.row 2 rfl, H.out.row 3 rfl⟩) (fun hN => ?_)
        clear hK K hH hb
        have hH := hN
        clear hN
        try simp only [Act.put, List.setIfInBounds_toArray, List.set_cons_zero, List.set_cons_succ]
        refine wpAnyH_ready (rs := [8]) (by kernel_rfl) (by simp) ?_
        refine AllReadyH.cons (o := _) rfl (fun K hK => ?_) AllReadyH.nil
        refine own_wp_store 1 rowE H.out rfl rfl rfl rfl ?_
        intro ws HS
        simp only [List.set_cons_zero, List.set_cons_succ] at HS
        replace H := Lib.hid HS
        refine hK.out _ _ (⟨H.out.row 0 rfl, H.out.row 2 rfl, H.out.row 3 rfl⟩) (fun hN => ?_)
        clear hK K HS hH
        have hH := hN
        clear hN
        try simp only [Act.put, List.setIfInBounds_toArray]
        refine held_value 9 5 (.bool (decide ((v * ((rat eC u v) * (rat eC u v))) = u))) rfl rfl (by kernel_rfl) (by kernel_rfl) (by kernel_rfl) rfl hH (fun w hw => by go_simp) ?_
        try simp only [Act.put]
        try simp only [Act.put]
        refine wpAnyH_done (by kernel_rfl) ?_ _
        refine NoPanic.normal ?_
        clear hH
        go_wp2_with fail
        exact bodyPost_ret (own_result_slot 1 rowE rfl _ H rfl rfl rfl) rfl ⟨_, rfl, HV14.out, H.out.bel⟩
      · skip
        refine own_wp_alloc 6 rfl nilE H.out rfl ?_
        intro w6 g6 H3
        replace H := Lib.hid H3
        refine hK.out _ _ (⟨H.out.row 3 rfl, H.out.row 2 rfl⟩) (fun hN => ?_)
        clear hK K hH H3
        have hH := hN
        clear hN
        try simp only [Act.put, List.setIfInBounds_toArray, List.set_cons_zero, List.set_cons_succ]
        refine wpAnyH_ready (rs := [5]) (by kernel_rfl) (by simp) ?_
        refine AllReadyH.cons (o := _) rfl (fun K hK => ?_) AllReadyH.nil
        go_simp
        refine (mul_k _ HF.out HV11.out).mono ?_
        rintro e wc ⟨h12, rfl, hv, hb⟩
        replace H := Lib.hid (H.out.call hb)
        have HV12 := Lib.hid hv
        refine hK.out _ _ (⟨H.out.row 3 rfl, H.out.row 2 rfl⟩) (fun hN => ?_)
        clear hK K hH hb hv
        have hH := hN
        clear hN
        try simp only [Act.put, List.setIfInBounds_toArray, List.set_cons_zero, List.set_cons_succ]
        refine wpAnyH_ready (rs := [7]) (by kernel_rfl) (by simp) ?_
        refine AllReadyH.cons (o := _) rfl (fun K hK => ?_) AllReadyH.nil
        refine own_wp_store 0 rowE H.out rfl rfl rfl rfl ?_
        intro ws HS
        simp only [List.set_cons_zero] at HS
        replace H := Lib.hid HS
        refine hK.out _ _ (⟨H.out.row 3 rfl, H.out.row 2 rfl⟩) (fun hN => ?_)
        clear hK K HS hH
        have hH := hN
        clear hN
        try simp only [Act.put, List.setIfInBounds_toArray]
        try simp only [Act.put]
        refine wpAnyH_done (by kernel_rfl) ?_ _
        refine NoPanic.normal ?_
        clear hH
        have HR : Hid (EK h12 (rat eC u v)) := Lib.hid HV12.out
        clear HV10 HV11 HV12
        go_wp2_with fail
        refine wp_region_noPanic ?_
        refine wp_region_held_drew (S := fun W => W.heap[g6]? = some (Blk 27 .u64 8 (NZ h12)) ∧ W.heap[g3]? = some (Blk 27 .u64 8 (NZ g)) ∧ W.heap[g2]? = some (Blk 27 .u64 8 (NZ f))) (by kernel_rfl) (⟨H.out.drew.row 0 rfl, H.out.drew.row 2 rfl, H.out.drew.row 3 rfl⟩) (fun hH => ?_)
        replace H := Lib.hid H.out.drew
        generalize World.drew _ = w8 at *
        refine held_row 0 13 rowE rfl rfl (by kernel_rfl) (by kernel_rfl) (by kernel_rfl) rfl hH rfl rfl (fun _ h => h.1) ?_
        try simp only [Act.put, List.setIfInBounds_toArray, List.set_cons_zero, List.set_cons_succ]
        refine held_row 2 15 rowE rfl rfl (by kernel_rfl) (by kernel_rfl) (by kernel_rfl) rfl hH rfl rfl (fun _ h => h.2.1) ?_
        try simp only [Act.put, List.setIfInBounds_toArray, List.set_cons_zero, List.set_cons_succ]
        refine held_row 3 16 rowE rfl rfl (by kernel_rfl) (by kernel_rfl) (by kernel_rfl) rfl hH rfl rfl (fun _ h => h.1) ?_
        try simp only [Act.put, List.setIfInBounds_toArray, List.set_cons_zero, List.set_cons_succ]
        refine held_row 6 19 rowE rfl rfl (by kernel_rfl) (by kernel_rfl) (by kernel_rfl) rfl hH rfl rfl (fun _ h => h.2.2) ?_
        try simp only [Act.put, List.setIfInBounds_toArray, List.set_cons_zero, List.set_cons_succ]
        refine wpAnyH_ready (rs := [1]) (by kernel_rfl) (by simp) ?_
        refine AllReadyH.cons (o := _) rfl (fun K hK => ?_) AllReadyH.nil
        go_simp
        refine (abs_k _ (HT.out.below H.out.bel) HR.out).mono ?_
        rintro e wc ⟨h14, rfl, hv, hb⟩
        replace H := Lib.hid (H.out.call hb)
        have HV14 := Lib.hid hv
        refine hK.out _ _ (⟨H.out.row 0 rfl, H.out.row 2 rfl, H.out.row 3 rfl⟩) (fun hN => ?_)
        clear hK K hH hb hv
        have hH := hN
        clear hN
        try simp only [Act.put, List.setIfInBounds_toArray, List.set_cons_zero, List.set_cons_succ]
        refine wpAnyH_ready (rs := [4]) (by kernel_rfl) (by simp) ?_
        refine AllReadyH.cons (o := _) rfl (fun K hK => ?_) AllReadyH.nil
        go_simp
        refine (square_k _ HR.out).mono ?_
        rintro e wc ⟨h17, rfl, hv, hb⟩
        replace H := Lib.hid (H.out.call hb)
        have HV17 := Lib.hid hv
        refine hK.out _ _ (⟨H.out.row 0 rfl, H.out.row 2 rfl, H.out.row 3 rfl⟩) (fun hN => ?_)
        clear hK K hH hb hv
        have hH := hN
        clear hN
        try simp only [Act.put, List.setIfInBounds_toArray, List.set_cons_zero, List.set_cons_succ]
        refine wpAnyH_ready (rs := [5]) (by kernel_rfl) (by simp) ?_
        refine AllReadyH.cons (o := _) rfl (fun K hK => ?_) AllReadyH.nil
        go_simp
        refine (mul_k _ HG.out HV17.out).mono ?_
        rintro e wc ⟨h18, rfl, hv, hb⟩
        replace H := Lib.hid (H.out.call hb)
        have HV18 := Lib.hid hv
        refine hK.out _ _ (⟨H.out.row 0 rfl, H.out.row 2 rfl, H.out.row 3 rfl⟩) (fun hN => ?_)
        clear hK K hH hb hv
        have hH := hN
        clear hN
        try simp only [Act.put, List.setIfInBounds_toArray, List.set_cons_zero, List.set_cons_succ]
        refine wpAnyH_ready (rs := [7]) (by kernel_rfl) (by simp) ?_
        refine AllReadyH.cons (o := _) rfl (fun K hK => ?_) AllReadyH.nil
        go_simp
        refine (equal_k _ (HT.out.below H.out.bel) HV18.out HF.out).mono ?_
        rintro e wc ⟨rfl, hb⟩
        replace H := Lib.hid (H.out.call hb)
        refine hK.out _ _ (⟨H.out.row 0 rfl, H.out.row 2 rfl, H.out.row 3 rfl⟩) (fun hN => ?_)
        clear hK K hH hb
        have hH := hN
        clear hN
        try simp only [Act.put, List.setIfInBounds_toArray, List.set_cons_zero, List.set_cons_succ]
        refine wpAnyH_ready (rs := [8]) (by kernel_rfl) (by simp) ?_
        refine AllReadyH.cons (o := _) rfl (fun K hK => ?_) AllReadyH.nil
        refine own_wp_store 1 rowE H.out rfl rfl rfl rfl ?_
        intro ws HS
        simp only [List.set_cons_zero, List.set_cons_succ] at HS
        replace H := Lib.hid HS
        refine hK.out _ _ (⟨H.out.row 0 rfl, H.out.row 2 rfl, H.out.row 3 rfl⟩) (fun hN => ?_)
        clear hK K HS hH
        have hH := hN
        clear hN
        try simp only [Act.put, List.setIfInBounds_toArray]
        refine held_value 9 5 (.bool (decide ((v * ((rat eC u v) * (rat eC u v))) = u))) rfl rfl (by kernel_rfl) (by kernel_rfl) (by kernel_rfl) rfl hH (fun w hw => by go_simp) ?_
        try simp only [Act.put]
        try simp only [Act.put]
        refine wpAnyH_done (by kernel_rfl) ?_ _
        refine NoPanic.normal ?_
        clear hH
        go_wp2_with fail
        exact bodyPost_ret (own_result_slot 1 rowE rfl _ H rfl rfl rfl) rfl ⟨_, rfl, HV14.out, H.out.bel⟩
    · skip
      refine own_wp_alloc 6 rfl nilE H.out rfl ?_
      intro w6 g6 H3
      replace H := Lib.hid H3
      refine hK.out _ _ (⟨H.out.row 3 rfl, H.out.row 2 rfl⟩) (fun hN => ?_)
      clear hK K hH H3
      have hH := hN
      clear hN
      try simp only [Act.put, List.setIfInBounds_toArray, List.set_cons_zero, List.set_cons_succ]
      refine wpAnyH_ready (rs := [4]) (by kernel_rfl) (by simp) ?_
      refine AllReadyH.cons (o := _) rfl (fun K hK => ?_) AllReadyH.nil
      go_simp
      refine (chain_k _ HV10.out).mono ?_
      rintro e wc ⟨h11, rfl, hv, hb⟩
      replace H := Lib.hid (H.out.call hb)
      have HV11 := Lib.hid hv
      refine hK.out _ _ (⟨H.out.row 3 rfl, H.out.row 2 rfl⟩) (fun hN => ?_)
      clear hK K hH hb hv
      have hH := hN
      clear hN
      try simp only [Act.put, List.setIfInBounds_toArray, List.set_cons_zero, List.set_cons_succ]
      refine wpAnyH_ready (rs := [5]) (by kernel_rfl) (by simp) ?_
      refine AllReadyH.cons (o := _) rfl (fun K hK => ?_) AllReadyH.nil
      go_simp
      refine (mul_k _ HF.out HV11.out).mono ?_
      rintro e wc ⟨h12, rfl, hv, hb⟩
      replace H := Lib.hid (H.out.call hb)
      have HV12 := Lib.hid hv
      refine hK.out _ _ (⟨H.out.row 3 rfl, H.out.row 2 rfl⟩) (fun hN => ?_)
      clear hK K hH hb hv
      have hH := hN
      clear hN
      try simp only [Act.put, List.setIfInBounds_toArray, List.set_cons_zero, List.set_cons_succ]
      refine wpAnyH_ready (rs := [7]) (by kernel_rfl) (by simp) ?_
      refine AllReadyH.cons (o := _) rfl (fun K hK => ?_) AllReadyH.nil
      refine own_wp_store 0 rowE H.out rfl rfl rfl rfl ?_
      intro ws HS
      simp only [List.set_cons_zero] at HS
      replace H := Lib.hid HS
      refine hK.out _ _ (⟨H.out.row 3 rfl, H.out.row 2 rfl⟩) (fun hN => ?_)
      clear hK K HS hH
      have hH := hN
      clear hN
      try simp only [Act.put, List.setIfInBounds_toArray]
      try simp only [Act.put]
      refine wpAnyH_done (by kernel_rfl) ?_ _
      refine NoPanic.normal ?_
      clear hH
      have HR : Hid (EK h12 (rat eC u v)) := Lib.hid HV12.out
      clear HV10 HV11 HV12
      go_wp2_with fail
      refine wp_region_noPanic ?_
      refine wp_region_held_drew (S := fun W => W.heap[g6]? = some (Blk 27 .u64 8 (NZ h12)) ∧ W.heap[g3]? = some (Blk 27 .u64 8 (NZ g)) ∧ W.heap[g2]? = some (Blk 27 .u64 8 (NZ f))) (by kernel_rfl) (⟨H.out.drew.row 0 rfl, H.out.drew.row 2 rfl, H.out.drew.row 3 rfl⟩) (fun hH => ?_)
      replace H := Lib.hid H.out.drew
      generalize World.drew _ = w8 at *
      refine held_row 0 13 rowE rfl rfl (by kernel_rfl) (by kernel_rfl) (by kernel_rfl) rfl hH rfl rfl (fun _ h => h.1) ?_
      try simp only [Act.put, List.setIfInBounds_toArray, List.set_cons_zero, List.set_cons_succ]
      refine held_row 2 15 rowE rfl rfl (by kernel_rfl) (by kernel_rfl) (by kernel_rfl) rfl hH rfl rfl (fun _ h => h.2.1) ?_
      try simp only [Act.put, List.setIfInBounds_toArray, List.set_cons_zero, List.set_cons_succ]
      refine held_row 3 16 rowE rfl rfl (by kernel_rfl) (by kernel_rfl) (by kernel_rfl) rfl hH rfl rfl (fun _ h => h.1) ?_
      try simp only [Act.put, List.setIfInBounds_toArray, List.set_cons_zero, List.set_cons_succ]
      refine held_row 6 19 rowE rfl rfl (by kernel_rfl) (by kernel_rfl) (by kernel_rfl) rfl hH rfl rfl (fun _ h => h.2.2) ?_
      try simp only [Act.put, List.setIfInBounds_toArray, List.set_cons_zero, List.set_cons_succ]
      refine wpAnyH_ready (rs := [1]) (by kernel_rfl) (by simp) ?_
      refine AllReadyH.cons (o := _) rfl (fun K hK => ?_) AllReadyH.nil
      go_simp
      refine (abs_k _ (HT.out.below H.out.bel) HR.out).mono ?_
      rintro e wc ⟨h14, rfl, hv, hb⟩
      replace H := Lib.hid (H.out.call hb)
      have HV14 := Lib.hid hv
      refine hK.out _ _ (⟨H.out.row 0 rfl, H.out.row 2 rfl, H.out.row 3 rfl⟩) (fun hN => ?_)
      clear hK K hH hb hv
      have hH := hN
      clear hN
      try simp only [Act.put, List.setIfInBounds_toArray, List.set_cons_zero, List.set_cons_succ]
      refine wpAnyH_ready (rs := [4]) (by kernel_rfl) (by simp) ?_
      refine AllReadyH.cons (o := _) rfl (fun K hK => ?_) AllReadyH.nil
      go_simp
      refine (square_k _ HR.out).mono ?_
      rintro e wc ⟨h17, rfl, hv, hb⟩
      replace H := Lib.hid (H.out.call hb)
      have HV17 := Lib.hid hv
      refine hK.out _ _ (⟨H.out.row 0 rfl, H.out.row 2 rfl, H.out.row 3 rfl⟩) (fun hN => ?_)
      clear hK K hH hb hv
      have hH := hN
      clear hN
      try simp only [Act.put, List.setIfInBounds_toArray, List.set_cons_zero, List.set_cons_succ]
      refine wpAnyH_ready (rs := [5]) (by kernel_rfl) (by simp) ?_
      refine AllReadyH.cons (o := _) rfl (fun K hK => ?_) AllReadyH.nil
      go_simp
      refine (mul_k _ HG.out HV17.out).mono ?_
      rintro e wc ⟨h18, rfl, hv, hb⟩
      replace H := Lib.hid (H.out.call hb)
      have HV18 := Lib.hid hv
      refine hK.out _ _ (⟨H.out.row 0 rfl, H.out.row 2 rfl, H.out.row 3 rfl⟩) (fun hN => ?_)
      clear hK K hH hb hv
      have hH := hN
      clear hN
      try simp only [Act.put, List.setIfInBounds_toArray, List.set_cons_zero, List.set_cons_succ]
      refine wpAnyH_ready (rs := [7]) (by kernel_rfl) (by simp) ?_
      refine AllReadyH.cons (o := _) rfl (fun K hK => ?_) AllReadyH.nil
      go_simp
      refine (equal_k _ (HT.out.below H.out.bel) HV18.out HF.out).mono ?_
      rintro e wc ⟨rfl, hb⟩
      replace H := Lib.hid (H.out.call hb)
      refine hK.out _ _ (⟨H.out.row 0 rfl, H.out.row 2 rfl, H.out.row 3 rfl⟩) (fun hN => ?_)
      clear hK K hH hb
      have hH := hN
      clear hN
      try simp only [Act.put, List.setIfInBounds_toArray, List.set_cons_zero, List.set_cons_succ]
      refine wpAnyH_ready (rs := [8]) (by kernel_rfl) (by simp) ?_
      refine AllReadyH.cons (o := _) rfl (fun K hK => ?_) AllReadyH.nil
      refine own_wp_store 1 rowE H.out rfl rfl rfl rfl ?_
      intro ws HS
      simp only [List.set_cons_zero, List.set_cons_succ] at HS
      replace H := Lib.hid HS
      refine hK.out _ _ (⟨H.out.row 0 rfl, H.out.row 2 rfl, H.out.row 3 rfl⟩) (fun hN => ?_)
      clear hK K HS hH
      have hH := hN
      clear hN
      try simp only [Act.put, List.setIfInBounds_toArray]
      refine held_value 9 5 (.bool (decide ((v * ((rat eC u v) * (rat eC u v))) = u))) rfl rfl (by kernel_rfl) (by kernel_rfl) (by kernel_rfl) rfl hH (fun w hw => by go_simp) ?_
      try simp only [Act.put]
      try simp only [Act.put]
      refine wpAnyH_done (by kernel_rfl) ?_ _
      refine NoPanic.normal ?_
      clear hH
      go_wp2_with fail
      exact bodyPost_ret (own_result_slot 1 rowE rfl _ H rfl rfl rfl) rfl ⟨_, rfl, HV14.out, H.out.bel⟩
  · skip
    refine own_wp_alloc 6 rfl nilE H.out rfl ?_
    intro w6 g6 H3
    replace H := Lib.hid H3
    refine hK.out _ _ (⟨H.out.row 3 rfl, H.out.row 2 rfl⟩) (fun hN => ?_)
    clear hK K hH H3
    have hH := hN
    clear hN
    try simp only [Act.put, List.setIfInBounds_toArray, List.set_cons_zero, List.set_cons_succ]
    refine wpAnyH_ready (rs := [3]) (by kernel_rfl) (by simp) ?_
    refine AllReadyH.cons (o := _) rfl (fun K hK => ?_) AllReadyH.nil
    go_simp
    refine (mul_k _ HF.out HG.out).mono ?_
    rintro e wc ⟨h10, rfl, hv, hb⟩
    replace H := Lib.hid (H.out.call hb)
    have HV10 := Lib.hid hv
    refine hK.out _ _ (⟨H.out.row 3 rfl, H.out.row 2 rfl⟩) (fun hN => ?_)
    clear hK K hH hb hv
    have hH := hN
    clear hN
    try simp only [Act.put, List.setIfInBounds_toArray, List.set_cons_zero, List.set_cons_succ]
    refine wpAnyH_ready (rs := [4]) (by kernel_rfl) (by simp) ?_
    refine AllReadyH.cons (o := _) rfl (fun K hK => ?_) AllReadyH.nil
    go_simp
    refine (chain_k _ HV10.out).mono ?_
    rintro e wc ⟨h11, rfl, hv, hb⟩
    replace H := Lib.hid (H.out.call hb)
    have HV11 := Lib.hid hv
    refine hK.out _ _ (⟨H.out.row 3 rfl, H.out.row 2 rfl⟩) (fun hN => ?_)
    clear hK K hH hb hv
    have hH := hN
    clear hN
    try simp only [Act.put, List.setIfInBounds_toArray, List.set_cons_zero, List.set_cons_succ]
    refine wpAnyH_ready (rs := [5]) (by kernel_rfl) (by simp) ?_
    refine AllReadyH.cons (o := _) rfl (fun K hK => ?_) AllReadyH.nil
    go_simp
    refine (mul_k _ HF.out HV11.out).mono ?_
    rintro e wc ⟨h12, rfl, hv, hb⟩
    replace H := Lib.hid (H.out.call hb)
    have HV12 := Lib.hid hv
    refine hK.out _ _ (⟨H.out.row 3 rfl, H.out.row 2 rfl⟩) (fun hN => ?_)
    clear hK K hH hb hv
    have hH := hN
    clear hN
    try simp only [Act.put, List.setIfInBounds_toArray, List.set_cons_zero, List.set_cons_succ]
    refine wpAnyH_ready (rs := [7]) (by kernel_rfl) (by simp) ?_
    refine AllReadyH.cons (o := _) rfl (fun K hK => ?_) AllReadyH.nil
    refine own_wp_store 0 rowE H.out rfl rfl rfl rfl ?_
    intro ws HS
    simp only [List.set_cons_zero] at HS
    replace H := Lib.hid HS
    refine hK.out _ _ (⟨H.out.row 3 rfl, H.out.row 2 rfl⟩) (fun hN => ?_)
    clear hK K HS hH
    have hH := hN
    clear hN
    try simp only [Act.put, List.setIfInBounds_toArray]
    try simp only [Act.put]
    refine wpAnyH_done (by kernel_rfl) ?_ _
    refine NoPanic.normal ?_
    clear hH
    have HR : Hid (EK h12 (rat eC u v)) := Lib.hid HV12.out
    clear HV10 HV11 HV12
    go_wp2_with fail
    refine wp_region_noPanic ?_
    refine wp_region_held_drew (S := fun W => W.heap[g6]? = some (Blk 27 .u64 8 (NZ h12)) ∧ W.heap[g3]? = some (Blk 27 .u64 8 (NZ g)) ∧ W.heap[g2]? = some (Blk 27 .u64 8 (NZ f))) (by kernel_rfl) (⟨H.out.drew.row 0 rfl, H.out.drew.row 2 rfl, H.out.drew.row 3 rfl⟩) (fun hH => ?_)
    replace H := Lib.hid H.out.drew
    generalize World.drew _ = w8 at *
    refine held_row 0 13 rowE rfl rfl (by kernel_rfl) (by kernel_rfl) (by kernel_rfl) rfl hH rfl rfl (fun _ h => h.1) ?_
    try simp only [Act.put, List.setIfInBounds_toArray, List.set_cons_zero, List.set_cons_succ]
    refine held_row 2 15 rowE rfl rfl (by kernel_rfl) (by kernel_rfl) (by kernel_rfl) rfl hH rfl rfl (fun _ h => h.2.1) ?_
    try simp only [Act.put, List.setIfInBounds_toArray, List.set_cons_zero, List.set_cons_succ]
    refine held_row 3 16 rowE rfl rfl (by kernel_rfl) (by kernel_rfl) (by kernel_rfl) rfl hH rfl rfl (fun _ h => h.1) ?_
    try simp only [Act.put, List.setIfInBounds_toArray, List.set_cons_zero, List.set_cons_succ]
    refine held_row 6 19 rowE rfl rfl (by kernel_rfl) (by kernel_rfl) (by kernel_rfl) rfl hH rfl rfl (fun _ h => h.2.2) ?_
    try simp only [Act.put, List.setIfInBounds_toArray, List.set_cons_zero, List.set_cons_succ]
    refine wpAnyH_ready (rs := [1]) (by kernel_rfl) (by simp) ?_
    refine AllReadyH.cons (o := _) rfl (fun K hK => ?_) AllReadyH.nil
    go_simp
    refine (abs_k _ (HT.out.below H.out.bel) HR.out).mono ?_
    rintro e wc ⟨h14, rfl, hv, hb⟩
    replace H := Lib.hid (H.out.call hb)
    have HV14 := Lib.hid hv
    refine hK.out _ _ (⟨H.out.row 0 rfl, H.out.row 2 rfl, H.out.row 3 rfl⟩) (fun hN => ?_)
    clear hK K hH hb hv
    have hH := hN
    clear hN
    try simp only [Act.put, List.setIfInBounds_toArray, List.set_cons_zero, List.set_cons_succ]
    refine wpAnyH_ready (rs := [4]) (by kernel_rfl) (by simp) ?_
    refine AllReadyH.cons (o := _) rfl (fun K hK => ?_) AllReadyH.nil
    go_simp
    refine (square_k _ HR.out).mono ?_
    rintro e wc ⟨h17, rfl, hv, hb⟩
    replace H := Lib.hid (H.out.call hb)
    have HV17 := Lib.hid hv
    refine hK.out _ _ (⟨H.out.row 0 rfl, H.out.row 2 rfl, H.out.row 3 rfl⟩) (fun hN => ?_)
    clear hK K hH hb hv
    have hH := hN
    clear hN
    try simp only [Act.put, List.setIfInBounds_toArray, List.set_cons_zero, List.set_cons_succ]
    refine wpAnyH_ready (rs := [5]) (by kernel_rfl) (by simp) ?_
    refine AllReadyH.cons (o := _) rfl (fun K hK => ?_) AllReadyH.nil
    go_simp
    refine (mul_k _ HG.out HV17.out).mono ?_
    rintro e wc ⟨h18, rfl, hv, hb⟩
    replace H := Lib.hid (H.out.call hb)
    have HV18 := Lib.hid hv
    refine hK.out _ _ (⟨H.out.row 0 rfl, H.out.row 2 rfl, H.out.row 3 rfl⟩) (fun hN => ?_)
    clear hK K hH hb hv
    have hH := hN
    clear hN
    try simp only [Act.put, List.setIfInBounds_toArray, List.set_cons_zero, List.set_cons_succ]
    refine wpAnyH_ready (rs := [7]) (by kernel_rfl) (by simp) ?_
    refine AllReadyH.cons (o := _) rfl (fun K hK => ?_) AllReadyH.nil
    go_simp
    refine (equal_k _ (HT.out.below H.out.bel) HV18.out HF.out).mono ?_
    rintro e wc ⟨rfl, hb⟩
    replace H := Lib.hid (H.out.call hb)
    refine hK.out _ _ (⟨H.out.row 0 rfl, H.out.row 2 rfl, H.out.row 3 rfl⟩) (fun hN => ?_)
    clear hK K hH hb
    have hH := hN
    clear hN
    try simp only [Act.put, List.setIfInBounds_toArray, List.set_cons_zero, List.set_cons_succ]
    refine wpAnyH_ready (rs := [8]) (by kernel_rfl) (by simp) ?_
    refine AllReadyH.cons (o := _) rfl (fun K hK => ?_) AllReadyH.nil
    refine own_wp_store 1 rowE H.out rfl rfl rfl rfl ?_
    intro ws HS
    simp only [List.set_cons_zero, List.set_cons_succ] at HS
    replace H := Lib.hid HS
    refine hK.out _ _ (⟨H.out.row 0 rfl, H.out.row 2 rfl, H.out.row 3 rfl⟩) (fun hN => ?_)
    clear hK K HS hH
    have hH := hN
    clear hN
    try simp only [Act.put, List.setIfInBounds_toArray]
    refine held_value 9 5 (.bool (decide ((v * ((rat eC u v) * (rat eC u v))) = u))) rfl rfl (by kernel_rfl) (by kernel_rfl) (by kernel_rfl) rfl hH (fun w hw => by go_simp) ?_
    try simp only [Act.put]
    try simp only [Act.put]
    refine wpAnyH_done (by kernel_rfl) ?_ _
    refine NoPanic.normal ?_
    clear hH
    go_wp2_with fail
    exact bodyPost_ret (own_result_slot 1 rowE rfl _ H rfl rfl rfl) rfl ⟨_, rfl, HV14.out, H.out.bel⟩
set_option maxRecDepth 8000 in
set_option maxHeartbeats 3200000 in
theorem root_k {f : Nat → Nat} {a : K} (w : World) (hT : Tp w) (hf : EK f a) :
    Calls Tryd.prog 9 #[EV f] w fun e w' => ((a ^ (eC + 1) * a ^ (eC + 1) = a ∧ ∃ h, e = .returned (.tuple #[EV h, .int .i64 0]) ∧ EK h (ab (a ^ (eC + 1)))) ∨ (a ^ (eC + 1) * a ^ (eC + 1) ≠ a ∧ e = .returned (.tuple #[EV (fun _ => 0), .int .i64 17]))) ∧ Below w.heap.size w w' := by
  have HF := Lib.hid hf
  have HT := Lib.hid hT
  have HQ : Hid (rat eC a (ofZ 1) = a ^ (eC + 1)) := Lib.hid (by
    unfold rat
    rw [ofZ_one, show a * 1 = a by grind, fp_pow_succ]
    grind)
  clear hf hT
  have HD : Hid (decide (ofZ 1 * (rat eC a (ofZ 1) * rat eC a (ofZ 1)) = a) = decide (a ^ (eC + 1) * a ^ (eC + 1) = a)) := Lib.hid (by
    rw [HQ.out, ofZ_one, show ∀ x : K, 1 * x = x from fun x => by grind])
  have H := Lib.hid (Ow.start w)
  go_enter Tryd.func9, Tryd.ntmps9
  go_wp2_with (first
    | ((fail_if_success have := g1); (with_reducible apply own_box H); (case hgd => exact rfl); (case ho => exact rfl); (case hx => exact rfl); intro w1 g1 H' _ _; replace H := H'; clear H'; go_simp)
    | ((fail_if_success have := g2); (with_reducible apply own_alloc nilE H); (case hgd => exact rfl); (case ho => exact rfl); intro w2 g2 H' _ _; replace H := H'; clear H'; go_simp))
  refine wp_region_noPanic ?_
  refine wp_region_held_drew (S := fun W => W.heap[g1]? = some (Blk 27 .u64 8 (NZ f))) (by kernel_rfl) (H.out.drew.row 1 rfl) (fun hH => ?_)
  replace H := Lib.hid H.out.drew
  generalize World.drew _ = w8 at *
  refine held_row 0 7 rowE rfl rfl (by kernel_rfl) (by kernel_rfl) (by kernel_rfl) rfl hH rfl rfl (fun _ h => h) ?_
  try simp only [Act.put, List.setIfInBounds_toArray, List.set_cons_zero, List.set_cons_succ]
  refine wpAnyH_ready (rs := [1, 6]) (by kernel_rfl) (by simp) ?_
  refine AllReadyH.cons (o := _) rfl (fun K hK => ?_) (AllReadyH.cons (o := _) rfl (fun K hK => ?_) AllReadyH.nil)
  · skip
    go_simp
    refine (int_k (1) _ (HT.out.below H.out.bel) (by omega) (by omega)).mono ?_
    rintro e wc ⟨h8, rfl, hv, hb⟩
    replace H := Lib.hid (H.out.call hb)
    have HV8 := Lib.hid hv
    refine hK.out _ _ (H.out.row 1 rfl) (fun hN => ?_)
    clear hK K hH hb hv
    have hH := hN
    clear hN
    try simp only [Act.put, List.setIfInBounds_toArray, List.set_cons_zero, List.set_cons_succ]
    refine wpAnyH_ready (rs := [2, 6]) (by kernel_rfl) (by simp) ?_
    refine AllReadyH.cons (o := _) rfl (fun K hK => ?_) (AllReadyH.cons (o := _) rfl (fun K hK => ?_) AllReadyH.nil)
    · skip
      go_simp
      refine (ratio_k _ (HT.out.below H.out.bel) HF.out HV8.out).mono ?_
      rintro e wc ⟨h9, rfl, hv, hb⟩
      replace H := Lib.hid (H.out.call hb)
      have HV9 := Lib.hid (show EK h9 (ab (a ^ (eC + 1))) by rw [← HQ.out]; exact hv)
      refine hK.out _ _ (H.out.row 1 rfl) (fun hN => ?_)
      clear hK K hH hb
      have hH := hN
      clear hN
      try simp only [Act.put, List.setIfInBounds_toArray, List.set_cons_zero, List.set_cons_succ]
      refine held_value 3 6 (.tuple #[EV h9, .bool (decide (ofZ 1 * (rat eC a (ofZ 1) * rat eC a (ofZ 1)) = a))]) rfl rfl (by kernel_rfl) (by kernel_rfl) (by kernel_rfl) rfl hH (fun w hw => by go_simp) ?_
      try simp only [Act.put, List.setIfInBounds_toArray, List.set_cons_zero, List.set_cons_succ]
      refine held_value 4 10 (EV h9) rfl rfl (by kernel_rfl) (by kernel_rfl) (by kernel_rfl) rfl hH (fun w hw => by go_simp) ?_
      try simp only [Act.put, List.setIfInBounds_toArray, List.set_cons_zero, List.set_cons_succ]
      refine held_value 5 11 (.bool (decide (ofZ 1 * (rat eC a (ofZ 1) * rat eC a (ofZ 1)) = a))) rfl rfl (by kernel_rfl) (by kernel_rfl) (by kernel_rfl) rfl hH (fun w hw => by go_simp) ?_
      try simp only [Act.put, List.setIfInBounds_toArray, List.set_cons_zero, List.set_cons_succ]
      refine wpAnyH_ready (rs := [6]) (by kernel_rfl) (by simp) ?_
      refine AllReadyH.cons (o := _) rfl (fun K hK => ?_) AllReadyH.nil
      refine own_wp_alloc 4 rfl nilE H.out rfl ?_
      intro w4 g4 H3
      replace H := Lib.hid H3
      refine hK.out _ _ (H.out.row 2 rfl) (fun hN => ?_)
      clear hK K hH H3
      have hH := hN
      clear hN
      try simp only [Act.put, List.setIfInBounds_toArray, List.set_cons_zero, List.set_cons_succ]
      refine wpAnyH_ready (rs := [7]) (by kernel_rfl) (by simp) ?_
      refine AllReadyH.cons (o := _) rfl (fun K hK => ?_) AllReadyH.nil
      refine own_wp_store 0 rowE H.out rfl rfl rfl rfl ?_
      intro ws HS
      simp only [List.set_cons_zero] at HS
      replace H := Lib.hid HS
      refine hK.out _ _ (H.out.row 2 rfl) (fun hN => ?_)
      clear hK K HS hH
      have hH := hN
      clear hN
      try simp only [Act.put, List.setIfInBounds_toArray]
      refine held_value 8 5 (.bool (decide (ofZ 1 * (rat eC a (ofZ 1) * rat eC a (ofZ 1)) = a))) rfl rfl (by kernel_rfl) (by kernel_rfl) (by kernel_rfl) rfl hH (fun w hw => by go_simp) ?_
      try simp only [Act.put]
      try simp only [Act.put]
      refine wpAnyH_done (by kernel_rfl) ?_ _
      refine NoPanic.normal ?_
      clear hH
      rw [HD.out]
      by_cases hb : a ^ (eC + 1) * a ^ (eC + 1) = a
      · rw [decide_eq_true hb]
        have HB := Lib.hid hb
        clear hb HD
        go_wp2_with (first
          | ((with_reducible apply own_load rowE H); (case hgd => exact rfl); (case ho => exact rfl); (case hx => exact rfl); (case hi => first | exact at0 | exact at1 | exact at2 | exact at3 | exact at4 | exact at5 | exact at6 | exact at7 | exact at8 | exact at9); intro _ _; go_simp)
          | ((with_reducible apply own_store rowE H); (case hgd => exact rfl); (case ho => exact rfl); (case hx => exact rfl); (case hy => exact rfl); (case hi => first | exact at0 | exact at1 | exact at2 | exact at3 | exact at4 | exact at5 | exact at6 | exact at7 | exact at8 | exact at9); intro ws H' _ _; replace H := H'; clear H'; simp only [List.set_cons_zero, List.set_cons_succ] at H; go_simp))
        exact bodyPost_ret (own_result_slot 1 rowE rfl _ H rfl rfl rfl) rfl ⟨.inl ⟨HB.out, _, rfl, HV9.out⟩, H.out.bel⟩
      · rw [decide_eq_false hb]
        have HB := Lib.hid hb
        clear hb HD
        go_wp2_with (first
          | ((with_reducible apply lay_build_E0); (case hgd => exact rfl); (case ho => exact rfl); intro _ _; go_simp)
          | ((with_reducible apply own_store rowE H); (case hgd => exact rfl); (case ho => exact rfl); (case hx => exact rfl); (case hy => exact rfl); (case hi => first | exact at0 | exact at1 | exact at2 | exact at3 | exact at4 | exact at5 | exact at6 | exact at7 | exact at8 | exact at9); intro ws H' _ _; replace H := H'; clear H'; simp only [List.set_cons_zero, List.set_cons_succ] at H; go_simp))
        exact bodyPost_ret (own_result_slot 1 rowE rfl _ H rfl rfl rfl) rfl ⟨.inr ⟨HB.out, rfl⟩, H.out.bel⟩
    · skip
      refine own_wp_alloc 4 rfl nilE H.out rfl ?_
      intro w4 g4 H3
      replace H := Lib.hid H3
      refine hK.out _ _ (H.out.row 2 rfl) (fun hN => ?_)
      clear hK K hH H3
      have hH := hN
      clear hN
      try simp only [Act.put, List.setIfInBounds_toArray, List.set_cons_zero, List.set_cons_succ]
      refine wpAnyH_ready (rs := [2]) (by kernel_rfl) (by simp) ?_
      refine AllReadyH.cons (o := _) rfl (fun K hK => ?_) AllReadyH.nil
      go_simp
      refine (ratio_k _ (HT.out.below H.out.bel) HF.out HV8.out).mono ?_
      rintro e wc ⟨h9, rfl, hv, hb⟩
      replace H := Lib.hid (H.out.call hb)
      have HV9 := Lib.hid (show EK h9 (ab (a ^ (eC + 1))) by rw [← HQ.out]; exact hv)
      refine hK.out _ _ (H.out.row 2 rfl) (fun hN => ?_)
      clear hK K hH hb
      have hH := hN
      clear hN
      try simp only [Act.put, List.setIfInBounds_toArray, List.set_cons_zero, List.set_cons_succ]
      refine held_value 3 6 (.tuple #[EV h9, .bool (decide (ofZ 1 * (rat eC a (ofZ 1) * rat eC a (ofZ 1)) = a))]) rfl rfl (by kernel_rfl) (by kernel_rfl) (by kernel_rfl) rfl hH (fun w hw => by go_simp) ?_
      try simp only [Act.put, List.setIfInBounds_toArray, List.set_cons_zero, List.set_cons_succ]
      refine held_value 4 10 (EV h9) rfl rfl (by kernel_rfl) (by kernel_rfl) (by kernel_rfl) rfl hH (fun w hw => by go_simp) ?_
      try simp only [Act.put, List.setIfInBounds_toArray, List.set_cons_zero, List.set_cons_succ]
      refine held_value 5 11 (.bool (decide (ofZ 1 * (rat eC a (ofZ 1) * rat eC a (ofZ 1)) = a))) rfl rfl (by kernel_rfl) (by kernel_rfl) (by kernel_rfl) rfl hH (fun w hw => by go_simp) ?_
      try simp only [Act.put, List.setIfInBounds_toArray, List.set_cons_zero, List.set_cons_succ]
      refine wpAnyH_ready (rs := [7]) (by kernel_rfl) (by simp) ?_
      refine AllReadyH.cons (o := _) rfl (fun K hK => ?_) AllReadyH.nil
      refine own_wp_store 0 rowE H.out rfl rfl rfl rfl ?_
      intro ws HS
      simp only [List.set_cons_zero] at HS
      replace H := Lib.hid HS
      refine hK.out _ _ (H.out.row 2 rfl) (fun hN => ?_)
      clear hK K HS hH
      have hH := hN
      clear hN
      try simp only [Act.put, List.setIfInBounds_toArray]
      refine held_value 8 5 (.bool (decide (ofZ 1 * (rat eC a (ofZ 1) * rat eC a (ofZ 1)) = a))) rfl rfl (by kernel_rfl) (by kernel_rfl) (by kernel_rfl) rfl hH (fun w hw => by go_simp) ?_
      try simp only [Act.put]
      try simp only [Act.put]
      refine wpAnyH_done (by kernel_rfl) ?_ _
      refine NoPanic.normal ?_
      clear hH
      rw [HD.out]
      by_cases hb : a ^ (eC + 1) * a ^ (eC + 1) = a
      · rw [decide_eq_true hb]
        have HB := Lib.hid hb
        clear hb HD
        go_wp2_with (first
          | ((with_reducible apply own_load rowE H); (case hgd => exact rfl); (case ho => exact rfl); (case hx => exact rfl); (case hi => first | exact at0 | exact at1 | exact at2 | exact at3 | exact at4 | exact at5 | exact at6 | exact at7 | exact at8 | exact at9); intro _ _; go_simp)
          | ((with_reducible apply own_store rowE H); (case hgd => exact rfl); (case ho => exact rfl); (case hx => exact rfl); (case hy => exact rfl); (case hi => first | exact at0 | exact at1 | exact at2 | exact at3 | exact at4 | exact at5 | exact at6 | exact at7 | exact at8 | exact at9); intro ws H' _ _; replace H := H'; clear H'; simp only [List.set_cons_zero, List.set_cons_succ] at H; go_simp))
        exact bodyPost_ret (own_result_slot 1 rowE rfl _ H rfl rfl rfl) rfl ⟨.inl ⟨HB.out, _, rfl, HV9.out⟩, H.out.bel⟩
      · rw [decide_eq_false hb]
        have HB := Lib.hid hb
        clear hb HD
        go_wp2_with (first
          | ((with_reducible apply lay_build_E0); (case hgd => exact rfl); (case ho => exact rfl); intro _ _; go_simp)
          | ((with_reducible apply own_store rowE H); (case hgd => exact rfl); (case ho => exact rfl); (case hx => exact rfl); (case hy => exact rfl); (case hi => first | exact at0 | exact at1 | exact at2 | exact at3 | exact at4 | exact at5 | exact at6 | exact at7 | exact at8 | exact at9); intro ws H' _ _; replace H := H'; clear H'; simp only [List.set_cons_zero, List.set_cons_succ] at H; go_simp))
        exact bodyPost_ret (own_result_slot 1 rowE rfl _ H rfl rfl rfl) rfl ⟨.inr ⟨HB.out, rfl⟩, H.out.bel⟩
  · skip
    refine own_wp_alloc 4 rfl nilE H.out rfl ?_
    intro w4 g4 H3
    replace H := Lib.hid H3
    refine hK.out _ _ (H.out.row 2 rfl) (fun hN => ?_)
    clear hK K hH H3
    have hH := hN
    clear hN
    try simp only [Act.put, List.setIfInBounds_toArray, List.set_cons_zero, List.set_cons_succ]
    refine wpAnyH_ready (rs := [1]) (by kernel_rfl) (by simp) ?_
    refine AllReadyH.cons (o := _) rfl (fun K hK => ?_) AllReadyH.nil
    go_simp
    refine (int_k (1) _ (HT.out.below H.out.bel) (by omega) (by omega)).mono ?_
    rintro e wc ⟨h8, rfl, hv, hb⟩
    replace H := Lib.hid (H.out.call hb)
    have HV8 := Lib.hid hv
    refine hK.out _ _ (H.out.row 2 rfl) (fun hN => ?_)
    clear hK K hH hb hv
    have hH := hN
    clear hN
    try simp only [Act.put, List.setIfInBounds_toArray, List.set_cons_zero, List.set_cons_succ]
    refine wpAnyH_ready (rs := [2]) (by kernel_rfl) (by simp) ?_
    refine AllReadyH.cons (o := _) rfl (fun K hK => ?_) AllReadyH.nil
    go_simp
    refine (ratio_k _ (HT.out.below H.out.bel) HF.out HV8.out).mono ?_
    rintro e wc ⟨h9, rfl, hv, hb⟩
    replace H := Lib.hid (H.out.call hb)
    have HV9 := Lib.hid (show EK h9 (ab (a ^ (eC + 1))) by rw [← HQ.out]; exact hv)
    refine hK.out _ _ (H.out.row 2 rfl) (fun hN => ?_)
    clear hK K hH hb
    have hH := hN
    clear hN
    try simp only [Act.put, List.setIfInBounds_toArray, List.set_cons_zero, List.set_cons_succ]
    refine held_value 3 6 (.tuple #[EV h9, .bool (decide (ofZ 1 * (rat eC a (ofZ 1) * rat eC a (ofZ 1)) = a))]) rfl rfl (by kernel_rfl) (by kernel_rfl) (by kernel_rfl) rfl hH (fun w hw => by go_simp) ?_
    try simp only [Act.put, List.setIfInBounds_toArray, List.set_cons_zero, List.set_cons_succ]
    refine held_value 4 10 (EV h9) rfl rfl (by kernel_rfl) (by kernel_rfl) (by kernel_rfl) rfl hH (fun w hw => by go_simp) ?_
    try simp only [Act.put, List.setIfInBounds_toArray, List.set_cons_zero, List.set_cons_succ]
    refine held_value 5 11 (.bool (decide (ofZ 1 * (rat eC a (ofZ 1) * rat eC a (ofZ 1)) = a))) rfl rfl (by kernel_rfl) (by kernel_rfl) (by kernel_rfl) rfl hH (fun w hw => by go_simp) ?_
    try simp only [Act.put, List.setIfInBounds_toArray, List.set_cons_zero, List.set_cons_succ]
    refine wpAnyH_ready (rs := [7]) (by kernel_rfl) (by simp) ?_
    refine AllReadyH.cons (o := _) rfl (fun K hK => ?_) AllReadyH.nil
    refine own_wp_store 0 rowE H.out rfl rfl rfl rfl ?_
    intro ws HS
    simp only [List.set_cons_zero] at HS
    replace H := Lib.hid HS
    refine hK.out _ _ (H.out.row 2 rfl) (fun hN => ?_)
    clear hK K HS hH
    have hH := hN
    clear hN
    try simp only [Act.put, List.setIfInBounds_toArray]
    refine held_value 8 5 (.bool (decide (ofZ 1 * (rat eC a (ofZ 1) * rat eC a (ofZ 1)) = a))) rfl rfl (by kernel_rfl) (by kernel_rfl) (by kernel_rfl) rfl hH (fun w hw => by go_simp) ?_
    try simp only [Act.put]
    try simp only [Act.put]
    refine wpAnyH_done (by kernel_rfl) ?_ _
    refine NoPanic.normal ?_
    clear hH
    rw [HD.out]
    by_cases hb : a ^ (eC + 1) * a ^ (eC + 1) = a
    · rw [decide_eq_true hb]
      have HB := Lib.hid hb
      clear hb HD
      go_wp2_with (first
        | ((with_reducible apply own_load rowE H); (case hgd => exact rfl); (case ho => exact rfl); (case hx => exact rfl); (case hi => first | exact at0 | exact at1 | exact at2 | exact at3 | exact at4 | exact at5 | exact at6 | exact at7 | exact at8 | exact at9); intro _ _; go_simp)
        | ((with_reducible apply own_store rowE H); (case hgd => exact rfl); (case ho => exact rfl); (case hx => exact rfl); (case hy => exact rfl); (case hi => first | exact at0 | exact at1 | exact at2 | exact at3 | exact at4 | exact at5 | exact at6 | exact at7 | exact at8 | exact at9); intro ws H' _ _; replace H := H'; clear H'; simp only [List.set_cons_zero, List.set_cons_succ] at H; go_simp))
      exact bodyPost_ret (own_result_slot 1 rowE rfl _ H rfl rfl rfl) rfl ⟨.inl ⟨HB.out, _, rfl, HV9.out⟩, H.out.bel⟩
    · rw [decide_eq_false hb]
      have HB := Lib.hid hb
      clear hb HD
      go_wp2_with (first
        | ((with_reducible apply lay_build_E0); (case hgd => exact rfl); (case ho => exact rfl); intro _ _; go_simp)
        | ((with_reducible apply own_store rowE H); (case hgd => exact rfl); (case ho => exact rfl); (case hx => exact rfl); (case hy => exact rfl); (case hi => first | exact at0 | exact at1 | exact at2 | exact at3 | exact at4 | exact at5 | exact at6 | exact at7 | exact at8 | exact at9); intro ws H' _ _; replace H := H'; clear H'; simp only [List.set_cons_zero, List.set_cons_succ] at H; go_simp))
      exact bodyPost_ret (own_result_slot 1 rowE rfl _ H rfl rfl rfl) rfl ⟨.inr ⟨HB.out, rfl⟩, H.out.bel⟩
end Go.Proofs.YtgcdahcmfniceaaDoor
