/-
  The contracts of ladder's change and rung. No statement is proved here: lemmas for the walks.
-/
import Derived.Test.YtckmboebipbpbaaDoorZLdStep
import Derived.Deep.CutRange
namespace Go.Proofs.YtckmboebipbpbaaDoor
open Go.RowKit

set_option maxRecDepth 8000 in
set_option maxHeartbeats 3200000 in
theorem change0_k {f g : Nat → Nat} {a b : K} (w : World) (hf : EK f a) (hg : EK g b) :
    Calls Tryd.prog 78 #[.int .u8 0, E2 (E2v f g)] w fun e w' => ∃ h k, e = .returned (E2 (E2v h k)) ∧ EK h a ∧ EK k b ∧ Below w.heap.size w w' := by
  have EF := Lib.hid hf
  have EG := Lib.hid hg
  clear hf hg
  have H := Lib.hid (Ow.start w)
  go_enter Tryd.func78, Tryd.ntmps78
  go_wp2_with (first
    | ((fail_if_success have := g3); (with_reducible apply own_box H); (case hgd => exact rfl); (case ho => exact rfl); (case hx => exact rfl); intro w3 g3 H' _ _; replace H := H'; clear H'; go_simp)
    | ((fail_if_success have := g4); (with_reducible apply own_alloc nilE2 H); (case hgd => exact rfl); (case ho => exact rfl); intro w4 g4 H' _ _; replace H := H'; clear H'; go_simp)
    | ((with_reducible apply own_load_p rowE H); (case hgd => exact rfl); (case ho => exact rfl); (case hx => exact rfl); (case hi => first | exact at0 | exact at1 | exact at2 | exact at3 | exact at4 | exact at5 | exact at6 | exact at7 | exact at8 | exact at9); (case hp => first | exact part2_0 | exact part2_1); intro _ _; go_simp)
    | ((with_reducible refine (swap_any 0 f g _ EF.out.lim EG.out.lim).mono ?_); rintro e wc ⟨rfl, hb⟩; replace H := Lib.hid (H.out.call hb); clear hb)
    | ((fail_if_success have := g5); (with_reducible apply own_alloc nilE H); (case hgd => exact rfl); (case ho => exact rfl); intro w5 g5 H' _ _; replace H := H'; clear H'; go_simp)
    | ((fail_if_success have := g6); (with_reducible apply own_alloc nilE H); (case hgd => exact rfl); (case ho => exact rfl); intro w6 g6 H' _ _; replace H := H'; clear H'; go_simp)
    | ((with_reducible apply own_store rowE H); (case hgd => exact rfl); (case ho => exact rfl); (case hx => exact rfl); (case hy => exact rfl); (case hi => first | exact at0 | exact at1 | exact at2 | exact at3 | exact at4 | exact at5 | exact at6 | exact at7 | exact at8 | exact at9); intro ws H' _ _; replace H := H'; clear H'; simp only [List.set_cons_zero, List.set_cons_succ] at H; go_simp)
    | ((with_reducible apply own_load rowE H); (case hgd => exact rfl); (case ho => exact rfl); (case hx => exact rfl); (case hi => first | exact at0 | exact at1 | exact at2 | exact at3 | exact at4 | exact at5 | exact at6 | exact at7 | exact at8 | exact at9); intro _ _; go_simp)
    | ((with_reducible apply lay_build_E2); (case hgd => exact rfl); (case ho => exact rfl); (case hx => exact rfl); (case hy => exact rfl); intro _ _; go_simp)
    | ((with_reducible apply own_store rowE2 H); (case hgd => exact rfl); (case ho => exact rfl); (case hx => exact rfl); (case hy => exact rfl); (case hi => first | exact at0 | exact at1 | exact at2 | exact at3 | exact at4 | exact at5 | exact at6 | exact at7 | exact at8 | exact at9); intro ws H' _ _; replace H := H'; clear H'; simp only [List.set_cons_zero, List.set_cons_succ] at H; go_simp))
  have h1 : EK (pickF 0 f g) a := by
    have h := pick_k (n := 0) EF.out EG.out
    rwa [if_pos (by decide)] at h
  have h2 : EK (pickF 0 g f) b := by
    have h := pick_k (n := 0) EG.out EF.out
    rwa [if_pos (by decide)] at h
  exact bodyPost_ret (own_result 2 rowE2 rfl _ H rfl rfl) rfl ⟨_, _, rfl, h1, h2, H.out.bel⟩
set_option maxRecDepth 8000 in
set_option maxHeartbeats 3200000 in
theorem change1_k {f g : Nat → Nat} {a b : K} (w : World) (hf : EK f a) (hg : EK g b) :
    Calls Tryd.prog 78 #[.int .u8 1, E2 (E2v f g)] w fun e w' => ∃ h k, e = .returned (E2 (E2v h k)) ∧ EK h b ∧ EK k a ∧ Below w.heap.size w w' := by
  have EF := Lib.hid hf
  have EG := Lib.hid hg
  clear hf hg
  have H := Lib.hid (Ow.start w)
  go_enter Tryd.func78, Tryd.ntmps78
  go_wp2_with (first
    | ((fail_if_success have := g3); (with_reducible apply own_box H); (case hgd => exact rfl); (case ho => exact rfl); (case hx => exact rfl); intro w3 g3 H' _ _; replace H := H'; clear H'; go_simp)
    | ((fail_if_success have := g4); (with_reducible apply own_alloc nilE2 H); (case hgd => exact rfl); (case ho => exact rfl); intro w4 g4 H' _ _; replace H := H'; clear H'; go_simp)
    | ((with_reducible apply own_load_p rowE H); (case hgd => exact rfl); (case ho => exact rfl); (case hx => exact rfl); (case hi => first | exact at0 | exact at1 | exact at2 | exact at3 | exact at4 | exact at5 | exact at6 | exact at7 | exact at8 | exact at9); (case hp => first | exact part2_0 | exact part2_1); intro _ _; go_simp)
    | ((with_reducible refine (swap_any 1 f g _ EF.out.lim EG.out.lim).mono ?_); rintro e wc ⟨rfl, hb⟩; replace H := Lib.hid (H.out.call hb); clear hb)
    | ((fail_if_success have := g5); (with_reducible apply own_alloc nilE H); (case hgd => exact rfl); (case ho => exact rfl); intro w5 g5 H' _ _; replace H := H'; clear H'; go_simp)
    | ((fail_if_success have := g6); (with_reducible apply own_alloc nilE H); (case hgd => exact rfl); (case ho => exact rfl); intro w6 g6 H' _ _; replace H := H'; clear H'; go_simp)
    | ((with_reducible apply own_store rowE H); (case hgd => exact rfl); (case ho => exact rfl); (case hx => exact rfl); (case hy => exact rfl); (case hi => first | exact at0 | exact at1 | exact at2 | exact at3 | exact at4 | exact at5 | exact at6 | exact at7 | exact at8 | exact at9); intro ws H' _ _; replace H := H'; clear H'; simp only [List.set_cons_zero, List.set_cons_succ] at H; go_simp)
    | ((with_reducible apply own_load rowE H); (case hgd => exact rfl); (case ho => exact rfl); (case hx => exact rfl); (case hi => first | exact at0 | exact at1 | exact at2 | exact at3 | exact at4 | exact at5 | exact at6 | exact at7 | exact at8 | exact at9); intro _ _; go_simp)
    | ((with_reducible apply lay_build_E2); (case hgd => exact rfl); (case ho => exact rfl); (case hx => exact rfl); (case hy => exact rfl); intro _ _; go_simp)
    | ((with_reducible apply own_store rowE2 H); (case hgd => exact rfl); (case ho => exact rfl); (case hx => exact rfl); (case hy => exact rfl); (case hi => first | exact at0 | exact at1 | exact at2 | exact at3 | exact at4 | exact at5 | exact at6 | exact at7 | exact at8 | exact at9); intro ws H' _ _; replace H := H'; clear H'; simp only [List.set_cons_zero, List.set_cons_succ] at H; go_simp))
  have h1 : EK (pickF 1 f g) b := by
    have h := pick_k (n := 1) EF.out EG.out
    rwa [if_neg (by decide)] at h
  have h2 : EK (pickF 1 g f) a := by
    have h := pick_k (n := 1) EG.out EF.out
    rwa [if_neg (by decide)] at h
  exact bodyPost_ret (own_result 2 rowE2 rfl _ H rfl rfl) rfl ⟨_, _, rfl, h1, h2, H.out.bel⟩
theorem ldB_one (u : K) (s : L4 pN) : ldB cK u true s = (ldA cK u s.turn).turn := by
  unfold ldB
  rw [if_pos rfl]
theorem ldB_nil (u : K) (s : L4 pN) : ldB cK u false s = ldA cK u s := by
  unfold ldB
  rw [if_neg (by decide)]
/-- Four elements that are a state. -/
def StK (a b c d : Nat → Nat) (s : L4 pN) : Prop := EK a s.x0 ∧ EK b s.x1 ∧ EK c s.z0 ∧ EK d s.z1
set_option maxRecDepth 8000 in
set_option maxHeartbeats 3200000 in
theorem rung0_k {f g h i j : Nat → Nat} {u x0 z0 x1 z1 : K} (w : World) (hT : Tp w) (hu : EK f u) (h0 : EK g x0) (h1 : EK h x1) (h2 : EK i z0) (h3 : EK j z1) :
    Calls Tryd.prog 44 #[.int .u8 0, EV f, E2 (E2v g h), E2 (E2v i j)] w fun e w' => ∃ a b c d, e = .returned (.tuple #[E2 (E2v a b), E2 (E2v c d)]) ∧ StK a b c d (ldB cK u false ⟨x0, z0, x1, z1⟩) ∧ Below w.heap.size w w' := by
  rw [ldB_nil]
  have HT := Lib.hid hT
  clear hT
  have EU := Lib.hid hu
  have EA := Lib.hid h0
  have EB := Lib.hid h1
  have EC := Lib.hid h2
  have ED := Lib.hid h3
  clear hu h0 h1 h2 h3
  have H := Lib.hid (Ow.start w)
  go_enter Tryd.func44, Tryd.ntmps44
  go_wp2_with (first
    | ((fail_if_success have := g5); (with_reducible apply own_box H); (case hgd => exact rfl); (case ho => exact rfl); (case hx => exact rfl); intro w5 g5 H' _ _; replace H := H'; clear H'; go_simp)
    | ((fail_if_success have := g6); (with_reducible apply own_box H); (case hgd => exact rfl); (case ho => exact rfl); (case hx => exact rfl); intro w6 g6 H' _ _; replace H := H'; clear H'; go_simp)
    | ((fail_if_success have := g7); (with_reducible apply own_box H); (case hgd => exact rfl); (case ho => exact rfl); (case hx => exact rfl); intro w7 g7 H' _ _; replace H := H'; clear H'; go_simp)
    | ((fail_if_success have := g8); (with_reducible apply own_alloc nilE2 H); (case hgd => exact rfl); (case ho => exact rfl); intro w8 g8 H' _ _; replace H := H'; clear H'; go_simp)
    | ((fail_if_success have := g9); (with_reducible apply own_alloc nilE2 H); (case hgd => exact rfl); (case ho => exact rfl); intro w9 g9 H' _ _; replace H := H'; clear H'; go_simp))
  refine wp_region_noPanic ?_
  refine wp_region_held_drew (S := fun W => W.heap[g5]? = some (Blk 29 .u64 8 (NZ f))) (by kernel_rfl) (H.out.drew.row 4 rfl) (fun hH => ?_)
  replace H := Lib.hid H.out.drew
  generalize World.drew _ = w8 at *
  refine held_row 0 14 rowE rfl rfl (by kernel_rfl) (by kernel_rfl) (by kernel_rfl) rfl hH rfl rfl (fun _ h => h) ?_
  try simp only [Act.put, List.setIfInBounds_toArray, List.set_cons_zero, List.set_cons_succ]
  refine held_value 1 15 (.func (.func 78) #[.int .u8 0] #[]) rfl rfl (by kernel_rfl) (by kernel_rfl) (by kernel_rfl) rfl hH (fun w hw => by go_simp) ?_
  try simp only [Act.put, List.setIfInBounds_toArray, List.set_cons_zero, List.set_cons_succ]
  refine held_value 4 18 (.func (.func 78) #[.int .u8 0] #[]) rfl rfl (by kernel_rfl) (by kernel_rfl) (by kernel_rfl) rfl hH (fun w hw => by go_simp) ?_
  try simp only [Act.put, List.setIfInBounds_toArray, List.set_cons_zero, List.set_cons_succ]
  refine wpAnyH_ready (rs := [2, 5]) (by kernel_rfl) (by simp) ?_
  refine AllReadyH.cons (o := _) rfl (fun K hK => ?_) (AllReadyH.cons (o := _) rfl (fun K hK => ?_) AllReadyH.nil)
  · skip
    refine own_wp_load 16 rfl 3 rowE2 H.out rfl rfl rfl ?_
    refine hK.out _ _ hH (fun hN => ?_)
    clear hK K hH
    have hH := hN
    clear hN
    try simp only [Act.put, List.setIfInBounds_toArray, List.set_cons_zero, List.set_cons_succ]
    refine wpAnyH_ready (rs := [3, 5]) (by kernel_rfl) (by simp) ?_
    refine AllReadyH.cons (o := _) rfl (fun K hK => ?_) (AllReadyH.cons (o := _) rfl (fun K hK => ?_) AllReadyH.nil)
    · skip
      go_simp
      refine (change0_k _ EA.out EB.out).mono ?_
      rintro e wc ⟨h17, k17, rfl, hv, hq, hb⟩
      replace H := Lib.hid (H.out.call hb)
      have HV17 := Lib.hid hv
      have HW17 := Lib.hid hq
      refine hK.out _ _ (H.out.row 4 rfl) (fun hN => ?_)
      clear hK K hH hb hv hq
      have hH := hN
      clear hN
      try simp only [Act.put, List.setIfInBounds_toArray, List.set_cons_zero, List.set_cons_succ]
      refine wpAnyH_ready (rs := [5]) (by kernel_rfl) (by simp) ?_
      refine AllReadyH.cons (o := _) rfl (fun K hK => ?_) AllReadyH.nil
      refine own_wp_load 19 rfl 2 rowE2 H.out rfl rfl rfl ?_
      refine hK.out _ _ hH (fun hN => ?_)
      clear hK K hH
      have hH := hN
      clear hN
      try simp only [Act.put, List.setIfInBounds_toArray, List.set_cons_zero, List.set_cons_succ]
      refine wpAnyH_ready (rs := [6]) (by kernel_rfl) (by simp) ?_
      refine AllReadyH.cons (o := _) rfl (fun K hK => ?_) AllReadyH.nil
      go_simp
      refine (change0_k _ EC.out ED.out).mono ?_
      rintro e wc ⟨h20, k20, rfl, hv, hq, hb⟩
      replace H := Lib.hid (H.out.call hb)
      have HV20 := Lib.hid hv
      have HW20 := Lib.hid hq
      refine hK.out _ _ (H.out.row 4 rfl) (fun hN => ?_)
      clear hK K hH hb hv hq
      have hH := hN
      clear hN
      try simp only [Act.put, List.setIfInBounds_toArray, List.set_cons_zero, List.set_cons_succ]
      refine wpAnyH_ready (rs := [7]) (by kernel_rfl) (by simp) ?_
      refine AllReadyH.cons (o := _) rfl (fun K hK => ?_) AllReadyH.nil
      go_simp
      refine (step_k _ (HT.out.below H.out.bel) EU.out HV17.out HW17.out HV20.out HW20.out).mono ?_
      rintro e wc ⟨a21, b21, c21, d21, rfl, pa, pb, pc, pd, hb⟩
      replace H := Lib.hid (H.out.call hb)
      have HA21 := Lib.hid pa
      have HB21 := Lib.hid pb
      have HC21 := Lib.hid pc
      have HD21 := Lib.hid pd
      refine hK.out _ _ (H.out.row 4 rfl) (fun hN => ?_)
      clear hK K hH hb pa pb pc pd
      have hH := hN
      clear hN
      try simp only [Act.put, List.setIfInBounds_toArray, List.set_cons_zero, List.set_cons_succ]
      refine held_value 8 13 (.tuple #[E2 (t2 8 (NZ a21) (NZ b21)), E2 (t2 8 (NZ c21) (NZ d21))]) rfl rfl (by kernel_rfl) (by kernel_rfl) (by kernel_rfl) rfl hH (fun w hw => by go_simp) ?_
      try simp only [Act.put, List.setIfInBounds_toArray, List.set_cons_zero, List.set_cons_succ]
      refine held_value 9 22 (E2 (t2 8 (NZ a21) (NZ b21))) rfl rfl (by kernel_rfl) (by kernel_rfl) (by kernel_rfl) rfl hH (fun w hw => by go_simp) ?_
      try simp only [Act.put, List.setIfInBounds_toArray, List.set_cons_zero, List.set_cons_succ]
      refine held_value 10 23 (E2 (t2 8 (NZ c21) (NZ d21))) rfl rfl (by kernel_rfl) (by kernel_rfl) (by kernel_rfl) rfl hH (fun w hw => by go_simp) ?_
      try simp only [Act.put, List.setIfInBounds_toArray, List.set_cons_zero, List.set_cons_succ]
      refine wpAnyH_ready (rs := [11]) (by kernel_rfl) (by simp) ?_
      refine AllReadyH.cons (o := _) rfl (fun K hK => ?_) AllReadyH.nil
      refine own_st 3 rfl rowE2 H.out rfl rfl rfl rfl ?_
      intro ws HS
      simp only [List.set_cons_zero, List.set_cons_succ] at HS
      replace H := Lib.hid HS
      refine hK.out _ _ (H.out.row 4 rfl) (fun hN => ?_)
      clear hK K HS hH
      have hH := hN
      clear hN
      try simp only [List.setIfInBounds_toArray]
      refine wpAnyH_ready (rs := [12]) (by kernel_rfl) (by simp) ?_
      refine AllReadyH.cons (o := _) rfl (fun K hK => ?_) AllReadyH.nil
      refine own_st 2 rfl rowE2 H.out rfl rfl rfl rfl ?_
      intro ws HS
      simp only [List.set_cons_zero, List.set_cons_succ] at HS
      replace H := Lib.hid HS
      refine hK.out _ _ (H.out.row 4 rfl) (fun hN => ?_)
      clear hK K HS hH
      have hH := hN
      clear hN
      try simp only [List.setIfInBounds_toArray]
      try simp only [Act.put]
      refine wpAnyH_done (by kernel_rfl) ?_ _
      refine NoPanic.normal ?_
      clear hH
      go_simp
      go_upto_region 3 with fail
      refine wp_region_noPanic ?_
      refine wp_region_held_drew (S := fun W => W.heap[g6]? = some (Blk 32 .u64 16 ((t2 8 (NZ a21) (NZ b21)))) ∧ W.heap[g7]? = some (Blk 32 .u64 16 ((t2 8 (NZ c21) (NZ d21))))) (by kernel_rfl) (⟨H.out.drew.row 3 rfl, H.out.drew.row 2 rfl⟩) (fun hH => ?_)
      replace H := Lib.hid H.out.drew
      generalize World.drew _ = w8 at *
      refine held_value 0 24 (.func (.func 78) #[.int .u8 0] #[]) rfl rfl (by kernel_rfl) (by kernel_rfl) (by kernel_rfl) rfl hH (fun w hw => by go_simp) ?_
      try simp only [Act.put, List.setIfInBounds_toArray, List.set_cons_zero, List.set_cons_succ]
      refine held_row 1 25 rowE2 rfl rfl (by kernel_rfl) (by kernel_rfl) (by kernel_rfl) rfl hH rfl rfl (fun _ h => h.1) ?_
      try simp only [Act.put, List.setIfInBounds_toArray, List.set_cons_zero, List.set_cons_succ]
      refine held_value 3 27 (.func (.func 78) #[.int .u8 0] #[]) rfl rfl (by kernel_rfl) (by kernel_rfl) (by kernel_rfl) rfl hH (fun w hw => by go_simp) ?_
      try simp only [Act.put, List.setIfInBounds_toArray, List.set_cons_zero, List.set_cons_succ]
      refine held_row 4 28 rowE2 rfl rfl (by kernel_rfl) (by kernel_rfl) (by kernel_rfl) rfl hH rfl rfl (fun _ h => h.2) ?_
      try simp only [Act.put, List.setIfInBounds_toArray, List.set_cons_zero, List.set_cons_succ]
      refine wpAnyH_ready (rs := [2]) (by kernel_rfl) (by simp) ?_
      refine AllReadyH.cons (o := _) rfl (fun K hK => ?_) AllReadyH.nil
      go_simp
      refine (change0_k _ HA21.out HB21.out).mono ?_
      rintro e wc ⟨h26, k26, rfl, hv, hq, hb⟩
      replace H := Lib.hid (H.out.call hb)
      have HV26 := Lib.hid hv
      have HW26 := Lib.hid hq
      refine hK.out _ _ (⟨H.out.row 3 rfl, H.out.row 2 rfl⟩) (fun hN => ?_)
      clear hK K hH hb hv hq
      have hH := hN
      clear hN
      try simp only [Act.put, List.setIfInBounds_toArray, List.set_cons_zero, List.set_cons_succ]
      refine wpAnyH_ready (rs := [5]) (by kernel_rfl) (by simp) ?_
      refine AllReadyH.cons (o := _) rfl (fun K hK => ?_) AllReadyH.nil
      go_simp
      refine (change0_k _ HC21.out HD21.out).mono ?_
      rintro e wc ⟨h29, k29, rfl, hv, hq, hb⟩
      replace H := Lib.hid (H.out.call hb)
      have HV29 := Lib.hid hv
      have HW29 := Lib.hid hq
      refine hK.out _ _ (⟨H.out.row 3 rfl, H.out.row 2 rfl⟩) (fun hN => ?_)
      clear hK K hH hb hv hq
      have hH := hN
      clear hN
      try simp only [Act.put, List.setIfInBounds_toArray, List.set_cons_zero, List.set_cons_succ]
      refine wpAnyH_ready (rs := [6]) (by kernel_rfl) (by simp) ?_
      refine AllReadyH.cons (o := _) rfl (fun K hK => ?_) AllReadyH.nil
      refine own_st 1 rfl rowE2 H.out rfl rfl rfl rfl ?_
      intro ws HS
      simp only [List.set_cons_zero, List.set_cons_succ] at HS
      replace H := Lib.hid HS
      refine hK.out _ _ (⟨H.out.row 3 rfl, H.out.row 2 rfl⟩) (fun hN => ?_)
      clear hK K HS hH
      have hH := hN
      clear hN
      try simp only [List.setIfInBounds_toArray]
      refine wpAnyH_ready (rs := [7]) (by kernel_rfl) (by simp) ?_
      refine AllReadyH.cons (o := _) rfl (fun K hK => ?_) AllReadyH.nil
      refine own_st 0 rfl rowE2 H.out rfl rfl rfl rfl ?_
      intro ws HS
      simp only [List.set_cons_zero] at HS
      replace H := Lib.hid HS
      refine hK.out _ _ (⟨H.out.row 3 rfl, H.out.row 2 rfl⟩) (fun hN => ?_)
      clear hK K HS hH
      have hH := hN
      clear hN
      try simp only [List.setIfInBounds_toArray]
      try simp only [Act.put]
      refine wpAnyH_done (by kernel_rfl) ?_ _
      refine NoPanic.normal ?_
      clear hH
      go_wp2_with fail
      refine bodyPost_ret (own_result_two 1 0 rowE2 rowE2 rfl _ H rfl rfl rfl rfl) rfl ⟨h26, k26, h29, k29, rfl, ⟨HV26.out, HW26.out, HV29.out, HW29.out⟩, H.out.bel⟩
    · skip
      refine own_wp_load 19 rfl 2 rowE2 H.out rfl rfl rfl ?_
      refine hK.out _ _ hH (fun hN => ?_)
      clear hK K hH
      have hH := hN
      clear hN
      try simp only [Act.put, List.setIfInBounds_toArray, List.set_cons_zero, List.set_cons_succ]
      refine wpAnyH_ready (rs := [3]) (by kernel_rfl) (by simp) ?_
      refine AllReadyH.cons (o := _) rfl (fun K hK => ?_) AllReadyH.nil
      go_simp
      refine (change0_k _ EA.out EB.out).mono ?_
      rintro e wc ⟨h17, k17, rfl, hv, hq, hb⟩
      replace H := Lib.hid (H.out.call hb)
      have HV17 := Lib.hid hv
      have HW17 := Lib.hid hq
      refine hK.out _ _ (H.out.row 4 rfl) (fun hN => ?_)
      clear hK K hH hb hv hq
      have hH := hN
      clear hN
      try simp only [Act.put, List.setIfInBounds_toArray, List.set_cons_zero, List.set_cons_succ]
      refine wpAnyH_ready (rs := [6]) (by kernel_rfl) (by simp) ?_
      refine AllReadyH.cons (o := _) rfl (fun K hK => ?_) AllReadyH.nil
      go_simp
      refine (change0_k _ EC.out ED.out).mono ?_
      rintro e wc ⟨h20, k20, rfl, hv, hq, hb⟩
      replace H := Lib.hid (H.out.call hb)
      have HV20 := Lib.hid hv
      have HW20 := Lib.hid hq
      refine hK.out _ _ (H.out.row 4 rfl) (fun hN => ?_)
      clear hK K hH hb hv hq
      have hH := hN
      clear hN
      try simp only [Act.put, List.setIfInBounds_toArray, List.set_cons_zero, List.set_cons_succ]
      refine wpAnyH_ready (rs := [7]) (by kernel_rfl) (by simp) ?_
      refine AllReadyH.cons (o := _) rfl (fun K hK => ?_) AllReadyH.nil
      go_simp
      refine (step_k _ (HT.out.below H.out.bel) EU.out HV17.out HW17.out HV20.out HW20.out).mono ?_
      rintro e wc ⟨a21, b21, c21, d21, rfl, pa, pb, pc, pd, hb⟩
      replace H := Lib.hid (H.out.call hb)
      have HA21 := Lib.hid pa
      have HB21 := Lib.hid pb
      have HC21 := Lib.hid pc
      have HD21 := Lib.hid pd
      refine hK.out _ _ (H.out.row 4 rfl) (fun hN => ?_)
      clear hK K hH hb pa pb pc pd
      have hH := hN
      clear hN
      try simp only [Act.put, List.setIfInBounds_toArray, List.set_cons_zero, List.set_cons_succ]
      refine held_value 8 13 (.tuple #[E2 (t2 8 (NZ a21) (NZ b21)), E2 (t2 8 (NZ c21) (NZ d21))]) rfl rfl (by kernel_rfl) (by kernel_rfl) (by kernel_rfl) rfl hH (fun w hw => by go_simp) ?_
      try simp only [Act.put, List.setIfInBounds_toArray, List.set_cons_zero, List.set_cons_succ]
      refine held_value 9 22 (E2 (t2 8 (NZ a21) (NZ b21))) rfl rfl (by kernel_rfl) (by kernel_rfl) (by kernel_rfl) rfl hH (fun w hw => by go_simp) ?_
      try simp only [Act.put, List.setIfInBounds_toArray, List.set_cons_zero, List.set_cons_succ]
      refine held_value 10 23 (E2 (t2 8 (NZ c21) (NZ d21))) rfl rfl (by kernel_rfl) (by kernel_rfl) (by kernel_rfl) rfl hH (fun w hw => by go_simp) ?_
      try simp only [Act.put, List.setIfInBounds_toArray, List.set_cons_zero, List.set_cons_succ]
      refine wpAnyH_ready (rs := [11]) (by kernel_rfl) (by simp) ?_
      refine AllReadyH.cons (o := _) rfl (fun K hK => ?_) AllReadyH.nil
      refine own_st 3 rfl rowE2 H.out rfl rfl rfl rfl ?_
      intro ws HS
      simp only [List.set_cons_zero, List.set_cons_succ] at HS
      replace H := Lib.hid HS
      refine hK.out _ _ (H.out.row 4 rfl) (fun hN => ?_)
      clear hK K HS hH
      have hH := hN
      clear hN
      try simp only [List.setIfInBounds_toArray]
      refine wpAnyH_ready (rs := [12]) (by kernel_rfl) (by simp) ?_
      refine AllReadyH.cons (o := _) rfl (fun K hK => ?_) AllReadyH.nil
      refine own_st 2 rfl rowE2 H.out rfl rfl rfl rfl ?_
      intro ws HS
      simp only [List.set_cons_zero, List.set_cons_succ] at HS
      replace H := Lib.hid HS
      refine hK.out _ _ (H.out.row 4 rfl) (fun hN => ?_)
      clear hK K HS hH
      have hH := hN
      clear hN
      try simp only [List.setIfInBounds_toArray]
      try simp only [Act.put]
      refine wpAnyH_done (by kernel_rfl) ?_ _
      refine NoPanic.normal ?_
      clear hH
      go_simp
      go_upto_region 3 with fail
      refine wp_region_noPanic ?_
      refine wp_region_held_drew (S := fun W => W.heap[g6]? = some (Blk 32 .u64 16 ((t2 8 (NZ a21) (NZ b21)))) ∧ W.heap[g7]? = some (Blk 32 .u64 16 ((t2 8 (NZ c21) (NZ d21))))) (by kernel_rfl) (⟨H.out.drew.row 3 rfl, H.out.drew.row 2 rfl⟩) (fun hH => ?_)
      replace H := Lib.hid H.out.drew
      generalize World.drew _ = w8 at *
      refine held_value 0 24 (.func (.func 78) #[.int .u8 0] #[]) rfl rfl (by kernel_rfl) (by kernel_rfl) (by kernel_rfl) rfl hH (fun w hw => by go_simp) ?_
      try simp only [Act.put, List.setIfInBounds_toArray, List.set_cons_zero, List.set_cons_succ]
      refine held_row 1 25 rowE2 rfl rfl (by kernel_rfl) (by kernel_rfl) (by kernel_rfl) rfl hH rfl rfl (fun _ h => h.1) ?_
      try simp only [Act.put, List.setIfInBounds_toArray, List.set_cons_zero, List.set_cons_succ]
      refine held_value 3 27 (.func (.func 78) #[.int .u8 0] #[]) rfl rfl (by kernel_rfl) (by kernel_rfl) (by kernel_rfl) rfl hH (fun w hw => by go_simp) ?_
      try simp only [Act.put, List.setIfInBounds_toArray, List.set_cons_zero, List.set_cons_succ]
      refine held_row 4 28 rowE2 rfl rfl (by kernel_rfl) (by kernel_rfl) (by kernel_rfl) rfl hH rfl rfl (fun _ h => h.2) ?_
      try simp only [Act.put, List.setIfInBounds_toArray, List.set_cons_zero, List.set_cons_succ]
      refine wpAnyH_ready (rs := [2]) (by kernel_rfl) (by simp) ?_
      refine AllReadyH.cons (o := _) rfl (fun K hK => ?_) AllReadyH.nil
      go_simp
      refine (change0_k _ HA21.out HB21.out).mono ?_
      rintro e wc ⟨h26, k26, rfl, hv, hq, hb⟩
      replace H := Lib.hid (H.out.call hb)
      have HV26 := Lib.hid hv
      have HW26 := Lib.hid hq
      refine hK.out _ _ (⟨H.out.row 3 rfl, H.out.row 2 rfl⟩) (fun hN => ?_)
      clear hK K hH hb hv hq
      have hH := hN
      clear hN
      try simp only [Act.put, List.setIfInBounds_toArray, List.set_cons_zero, List.set_cons_succ]
      refine wpAnyH_ready (rs := [5]) (by kernel_rfl) (by simp) ?_
      refine AllReadyH.cons (o := _) rfl (fun K hK => ?_) AllReadyH.nil
      go_simp
      refine (change0_k _ HC21.out HD21.out).mono ?_
      rintro e wc ⟨h29, k29, rfl, hv, hq, hb⟩
      replace H := Lib.hid (H.out.call hb)
      have HV29 := Lib.hid hv
      have HW29 := Lib.hid hq
      refine hK.out _ _ (⟨H.out.row 3 rfl, H.out.row 2 rfl⟩) (fun hN => ?_)
      clear hK K hH hb hv hq
      have hH := hN
      clear hN
      try simp only [Act.put, List.setIfInBounds_toArray, List.set_cons_zero, List.set_cons_succ]
      refine wpAnyH_ready (rs := [6]) (by kernel_rfl) (by simp) ?_
      refine AllReadyH.cons (o := _) rfl (fun K hK => ?_) AllReadyH.nil
      refine own_st 1 rfl rowE2 H.out rfl rfl rfl rfl ?_
      intro ws HS
      simp only [List.set_cons_zero, List.set_cons_succ] at HS
      replace H := Lib.hid HS
      refine hK.out _ _ (⟨H.out.row 3 rfl, H.out.row 2 rfl⟩) (fun hN => ?_)
      clear hK K HS hH
      have hH := hN
      clear hN
      try simp only [List.setIfInBounds_toArray]
      refine wpAnyH_ready (rs := [7]) (by kernel_rfl) (by simp) ?_
      refine AllReadyH.cons (o := _) rfl (fun K hK => ?_) AllReadyH.nil
      refine own_st 0 rfl rowE2 H.out rfl rfl rfl rfl ?_
      intro ws HS
      simp only [List.set_cons_zero] at HS
      replace H := Lib.hid HS
      refine hK.out _ _ (⟨H.out.row 3 rfl, H.out.row 2 rfl⟩) (fun hN => ?_)
      clear hK K HS hH
      have hH := hN
      clear hN
      try simp only [List.setIfInBounds_toArray]
      try simp only [Act.put]
      refine wpAnyH_done (by kernel_rfl) ?_ _
      refine NoPanic.normal ?_
      clear hH
      go_wp2_with fail
      refine bodyPost_ret (own_result_two 1 0 rowE2 rowE2 rfl _ H rfl rfl rfl rfl) rfl ⟨h26, k26, h29, k29, rfl, ⟨HV26.out, HW26.out, HV29.out, HW29.out⟩, H.out.bel⟩
  · skip
    refine own_wp_load 19 rfl 2 rowE2 H.out rfl rfl rfl ?_
    refine hK.out _ _ hH (fun hN => ?_)
    clear hK K hH
    have hH := hN
    clear hN
    try simp only [Act.put, List.setIfInBounds_toArray, List.set_cons_zero, List.set_cons_succ]
    refine wpAnyH_ready (rs := [2]) (by kernel_rfl) (by simp) ?_
    refine AllReadyH.cons (o := _) rfl (fun K hK => ?_) AllReadyH.nil
    refine own_wp_load 16 rfl 3 rowE2 H.out rfl rfl rfl ?_
    refine hK.out _ _ hH (fun hN => ?_)
    clear hK K hH
    have hH := hN
    clear hN
    try simp only [Act.put, List.setIfInBounds_toArray, List.set_cons_zero, List.set_cons_succ]
    refine wpAnyH_ready (rs := [3]) (by kernel_rfl) (by simp) ?_
    refine AllReadyH.cons (o := _) rfl (fun K hK => ?_) AllReadyH.nil
    go_simp
    refine (change0_k _ EA.out EB.out).mono ?_
    rintro e wc ⟨h17, k17, rfl, hv, hq, hb⟩
    replace H := Lib.hid (H.out.call hb)
    have HV17 := Lib.hid hv
    have HW17 := Lib.hid hq
    refine hK.out _ _ (H.out.row 4 rfl) (fun hN => ?_)
    clear hK K hH hb hv hq
    have hH := hN
    clear hN
    try simp only [Act.put, List.setIfInBounds_toArray, List.set_cons_zero, List.set_cons_succ]
    refine wpAnyH_ready (rs := [6]) (by kernel_rfl) (by simp) ?_
    refine AllReadyH.cons (o := _) rfl (fun K hK => ?_) AllReadyH.nil
    go_simp
    refine (change0_k _ EC.out ED.out).mono ?_
    rintro e wc ⟨h20, k20, rfl, hv, hq, hb⟩
    replace H := Lib.hid (H.out.call hb)
    have HV20 := Lib.hid hv
    have HW20 := Lib.hid hq
    refine hK.out _ _ (H.out.row 4 rfl) (fun hN => ?_)
    clear hK K hH hb hv hq
    have hH := hN
    clear hN
    try simp only [Act.put, List.setIfInBounds_toArray, List.set_cons_zero, List.set_cons_succ]
    refine wpAnyH_ready (rs := [7]) (by kernel_rfl) (by simp) ?_
    refine AllReadyH.cons (o := _) rfl (fun K hK => ?_) AllReadyH.nil
    go_simp
    refine (step_k _ (HT.out.below H.out.bel) EU.out HV17.out HW17.out HV20.out HW20.out).mono ?_
    rintro e wc ⟨a21, b21, c21, d21, rfl, pa, pb, pc, pd, hb⟩
    replace H := Lib.hid (H.out.call hb)
    have HA21 := Lib.hid pa
    have HB21 := Lib.hid pb
    have HC21 := Lib.hid pc
    have HD21 := Lib.hid pd
    refine hK.out _ _ (H.out.row 4 rfl) (fun hN => ?_)
    clear hK K hH hb pa pb pc pd
    have hH := hN
    clear hN
    try simp only [Act.put, List.setIfInBounds_toArray, List.set_cons_zero, List.set_cons_succ]
    refine held_value 8 13 (.tuple #[E2 (t2 8 (NZ a21) (NZ b21)), E2 (t2 8 (NZ c21) (NZ d21))]) rfl rfl (by kernel_rfl) (by kernel_rfl) (by kernel_rfl) rfl hH (fun w hw => by go_simp) ?_
    try simp only [Act.put, List.setIfInBounds_toArray, List.set_cons_zero, List.set_cons_succ]
    refine held_value 9 22 (E2 (t2 8 (NZ a21) (NZ b21))) rfl rfl (by kernel_rfl) (by kernel_rfl) (by kernel_rfl) rfl hH (fun w hw => by go_simp) ?_
    try simp only [Act.put, List.setIfInBounds_toArray, List.set_cons_zero, List.set_cons_succ]
    refine held_value 10 23 (E2 (t2 8 (NZ c21) (NZ d21))) rfl rfl (by kernel_rfl) (by kernel_rfl) (by kernel_rfl) rfl hH (fun w hw => by go_simp) ?_
    try simp only [Act.put, List.setIfInBounds_toArray, List.set_cons_zero, List.set_cons_succ]
    refine wpAnyH_ready (rs := [11]) (by kernel_rfl) (by simp) ?_
    refine AllReadyH.cons (o := _) rfl (fun K hK => ?_) AllReadyH.nil
    refine own_st 3 rfl rowE2 H.out rfl rfl rfl rfl ?_
    intro ws HS
    simp only [List.set_cons_zero, List.set_cons_succ] at HS
    replace H := Lib.hid HS
    refine hK.out _ _ (H.out.row 4 rfl) (fun hN => ?_)
    clear hK K HS hH
    have hH := hN
    clear hN
    try simp only [List.setIfInBounds_toArray]
    refine wpAnyH_ready (rs := [12]) (by kernel_rfl) (by simp) ?_
    refine AllReadyH.cons (o := _) rfl (fun K hK => ?_) AllReadyH.nil
    refine own_st 2 rfl rowE2 H.out rfl rfl rfl rfl ?_
    intro ws HS
    simp only [List.set_cons_zero, List.set_cons_succ] at HS
    replace H := Lib.hid HS
    refine hK.out _ _ (H.out.row 4 rfl) (fun hN => ?_)
    clear hK K HS hH
    have hH := hN
    clear hN
    try simp only [List.setIfInBounds_toArray]
    try simp only [Act.put]
    refine wpAnyH_done (by kernel_rfl) ?_ _
    refine NoPanic.normal ?_
    clear hH
    go_simp
    go_upto_region 3 with fail
    refine wp_region_noPanic ?_
    refine wp_region_held_drew (S := fun W => W.heap[g6]? = some (Blk 32 .u64 16 ((t2 8 (NZ a21) (NZ b21)))) ∧ W.heap[g7]? = some (Blk 32 .u64 16 ((t2 8 (NZ c21) (NZ d21))))) (by kernel_rfl) (⟨H.out.drew.row 3 rfl, H.out.drew.row 2 rfl⟩) (fun hH => ?_)
    replace H := Lib.hid H.out.drew
    generalize World.drew _ = w8 at *
    refine held_value 0 24 (.func (.func 78) #[.int .u8 0] #[]) rfl rfl (by kernel_rfl) (by kernel_rfl) (by kernel_rfl) rfl hH (fun w hw => by go_simp) ?_
    try simp only [Act.put, List.setIfInBounds_toArray, List.set_cons_zero, List.set_cons_succ]
    refine held_row 1 25 rowE2 rfl rfl (by kernel_rfl) (by kernel_rfl) (by kernel_rfl) rfl hH rfl rfl (fun _ h => h.1) ?_
    try simp only [Act.put, List.setIfInBounds_toArray, List.set_cons_zero, List.set_cons_succ]
    refine held_value 3 27 (.func (.func 78) #[.int .u8 0] #[]) rfl rfl (by kernel_rfl) (by kernel_rfl) (by kernel_rfl) rfl hH (fun w hw => by go_simp) ?_
    try simp only [Act.put, List.setIfInBounds_toArray, List.set_cons_zero, List.set_cons_succ]
    refine held_row 4 28 rowE2 rfl rfl (by kernel_rfl) (by kernel_rfl) (by kernel_rfl) rfl hH rfl rfl (fun _ h => h.2) ?_
    try simp only [Act.put, List.setIfInBounds_toArray, List.set_cons_zero, List.set_cons_succ]
    refine wpAnyH_ready (rs := [2]) (by kernel_rfl) (by simp) ?_
    refine AllReadyH.cons (o := _) rfl (fun K hK => ?_) AllReadyH.nil
    go_simp
    refine (change0_k _ HA21.out HB21.out).mono ?_
    rintro e wc ⟨h26, k26, rfl, hv, hq, hb⟩
    replace H := Lib.hid (H.out.call hb)
    have HV26 := Lib.hid hv
    have HW26 := Lib.hid hq
    refine hK.out _ _ (⟨H.out.row 3 rfl, H.out.row 2 rfl⟩) (fun hN => ?_)
    clear hK K hH hb hv hq
    have hH := hN
    clear hN
    try simp only [Act.put, List.setIfInBounds_toArray, List.set_cons_zero, List.set_cons_succ]
    refine wpAnyH_ready (rs := [5]) (by kernel_rfl) (by simp) ?_
    refine AllReadyH.cons (o := _) rfl (fun K hK => ?_) AllReadyH.nil
    go_simp
    refine (change0_k _ HC21.out HD21.out).mono ?_
    rintro e wc ⟨h29, k29, rfl, hv, hq, hb⟩
    replace H := Lib.hid (H.out.call hb)
    have HV29 := Lib.hid hv
    have HW29 := Lib.hid hq
    refine hK.out _ _ (⟨H.out.row 3 rfl, H.out.row 2 rfl⟩) (fun hN => ?_)
    clear hK K hH hb hv hq
    have hH := hN
    clear hN
    try simp only [Act.put, List.setIfInBounds_toArray, List.set_cons_zero, List.set_cons_succ]
    refine wpAnyH_ready (rs := [6]) (by kernel_rfl) (by simp) ?_
    refine AllReadyH.cons (o := _) rfl (fun K hK => ?_) AllReadyH.nil
    refine own_st 1 rfl rowE2 H.out rfl rfl rfl rfl ?_
    intro ws HS
    simp only [List.set_cons_zero, List.set_cons_succ] at HS
    replace H := Lib.hid HS
    refine hK.out _ _ (⟨H.out.row 3 rfl, H.out.row 2 rfl⟩) (fun hN => ?_)
    clear hK K HS hH
    have hH := hN
    clear hN
    try simp only [List.setIfInBounds_toArray]
    refine wpAnyH_ready (rs := [7]) (by kernel_rfl) (by simp) ?_
    refine AllReadyH.cons (o := _) rfl (fun K hK => ?_) AllReadyH.nil
    refine own_st 0 rfl rowE2 H.out rfl rfl rfl rfl ?_
    intro ws HS
    simp only [List.set_cons_zero] at HS
    replace H := Lib.hid HS
    refine hK.out _ _ (⟨H.out.row 3 rfl, H.out.row 2 rfl⟩) (fun hN => ?_)
    clear hK K HS hH
    have hH := hN
    clear hN
    try simp only [List.setIfInBounds_toArray]
    try simp only [Act.put]
    refine wpAnyH_done (by kernel_rfl) ?_ _
    refine NoPanic.normal ?_
    clear hH
    go_wp2_with fail
    refine bodyPost_ret (own_result_two 1 0 rowE2 rowE2 rfl _ H rfl rfl rfl rfl) rfl ⟨h26, k26, h29, k29, rfl, ⟨HV26.out, HW26.out, HV29.out, HW29.out⟩, H.out.bel⟩
set_option maxRecDepth 8000 in
set_option maxHeartbeats 3200000 in
theorem rung1_k {f g h i j : Nat → Nat} {u x0 z0 x1 z1 : K} (w : World) (hT : Tp w) (hu : EK f u) (h0 : EK g x0) (h1 : EK h x1) (h2 : EK i z0) (h3 : EK j z1) :
    Calls Tryd.prog 44 #[.int .u8 1, EV f, E2 (E2v g h), E2 (E2v i j)] w fun e w' => ∃ a b c d, e = .returned (.tuple #[E2 (E2v a b), E2 (E2v c d)]) ∧ StK a b c d (ldB cK u true ⟨x0, z0, x1, z1⟩) ∧ Below w.heap.size w w' := by
  rw [ldB_one]
  have HT := Lib.hid hT
  clear hT
  have EU := Lib.hid hu
  have EA := Lib.hid h0
  have EB := Lib.hid h1
  have EC := Lib.hid h2
  have ED := Lib.hid h3
  clear hu h0 h1 h2 h3
  have H := Lib.hid (Ow.start w)
  go_enter Tryd.func44, Tryd.ntmps44
  go_wp2_with (first
    | ((fail_if_success have := g5); (with_reducible apply own_box H); (case hgd => exact rfl); (case ho => exact rfl); (case hx => exact rfl); intro w5 g5 H' _ _; replace H := H'; clear H'; go_simp)
    | ((fail_if_success have := g6); (with_reducible apply own_box H); (case hgd => exact rfl); (case ho => exact rfl); (case hx => exact rfl); intro w6 g6 H' _ _; replace H := H'; clear H'; go_simp)
    | ((fail_if_success have := g7); (with_reducible apply own_box H); (case hgd => exact rfl); (case ho => exact rfl); (case hx => exact rfl); intro w7 g7 H' _ _; replace H := H'; clear H'; go_simp)
    | ((fail_if_success have := g8); (with_reducible apply own_alloc nilE2 H); (case hgd => exact rfl); (case ho => exact rfl); intro w8 g8 H' _ _; replace H := H'; clear H'; go_simp)
    | ((fail_if_success have := g9); (with_reducible apply own_alloc nilE2 H); (case hgd => exact rfl); (case ho => exact rfl); intro w9 g9 H' _ _; replace H := H'; clear H'; go_simp))
  refine wp_region_noPanic ?_
  refine wp_region_held_drew (S := fun W => W.heap[g5]? = some (Blk 29 .u64 8 (NZ f))) (by kernel_rfl) (H.out.drew.row 4 rfl) (fun hH => ?_)
  replace H := Lib.hid H.out.drew
  generalize World.drew _ = w8 at *
  refine held_row 0 14 rowE rfl rfl (by kernel_rfl) (by kernel_rfl) (by kernel_rfl) rfl hH rfl rfl (fun _ h => h) ?_
  try simp only [Act.put, List.setIfInBounds_toArray, List.set_cons_zero, List.set_cons_succ]
  refine held_value 1 15 (.func (.func 78) #[.int .u8 1] #[]) rfl rfl (by kernel_rfl) (by kernel_rfl) (by kernel_rfl) rfl hH (fun w hw => by go_simp) ?_
  try simp only [Act.put, List.setIfInBounds_toArray, List.set_cons_zero, List.set_cons_succ]
  refine held_value 4 18 (.func (.func 78) #[.int .u8 1] #[]) rfl rfl (by kernel_rfl) (by kernel_rfl) (by kernel_rfl) rfl hH (fun w hw => by go_simp) ?_
  try simp only [Act.put, List.setIfInBounds_toArray, List.set_cons_zero, List.set_cons_succ]
  refine wpAnyH_ready (rs := [2, 5]) (by kernel_rfl) (by simp) ?_
  refine AllReadyH.cons (o := _) rfl (fun K hK => ?_) (AllReadyH.cons (o := _) rfl (fun K hK => ?_) AllReadyH.nil)
  · skip
    refine own_wp_load 16 rfl 3 rowE2 H.out rfl rfl rfl ?_
    refine hK.out _ _ hH (fun hN => ?_)
    clear hK K hH
    have hH := hN
    clear hN
    try simp only [Act.put, List.setIfInBounds_toArray, List.set_cons_zero, List.set_cons_succ]
    refine wpAnyH_ready (rs := [3, 5]) (by kernel_rfl) (by simp) ?_
    refine AllReadyH.cons (o := _) rfl (fun K hK => ?_) (AllReadyH.cons (o := _) rfl (fun K hK => ?_) AllReadyH.nil)
    · skip
      go_simp
      refine (change1_k _ EA.out EB.out).mono ?_
      rintro e wc ⟨h17, k17, rfl, hv, hq, hb⟩
      replace H := Lib.hid (H.out.call hb)
      have HV17 := Lib.hid hv
      have HW17 := Lib.hid hq
      refine hK.out _ _ (H.out.row 4 rfl) (fun hN => ?_)
      clear hK K hH hb hv hq
      have hH := hN
      clear hN
      try simp only [Act.put, List.setIfInBounds_toArray, List.set_cons_zero, List.set_cons_succ]
      refine wpAnyH_ready (rs := [5]) (by kernel_rfl) (by simp) ?_
      refine AllReadyH.cons (o := _) rfl (fun K hK => ?_) AllReadyH.nil
      refine own_wp_load 19 rfl 2 rowE2 H.out rfl rfl rfl ?_
      refine hK.out _ _ hH (fun hN => ?_)
      clear hK K hH
      have hH := hN
      clear hN
      try simp only [Act.put, List.setIfInBounds_toArray, List.set_cons_zero, List.set_cons_succ]
      refine wpAnyH_ready (rs := [6]) (by kernel_rfl) (by simp) ?_
      refine AllReadyH.cons (o := _) rfl (fun K hK => ?_) AllReadyH.nil
      go_simp
      refine (change1_k _ EC.out ED.out).mono ?_
      rintro e wc ⟨h20, k20, rfl, hv, hq, hb⟩
      replace H := Lib.hid (H.out.call hb)
      have HV20 := Lib.hid hv
      have HW20 := Lib.hid hq
      refine hK.out _ _ (H.out.row 4 rfl) (fun hN => ?_)
      clear hK K hH hb hv hq
      have hH := hN
      clear hN
      try simp only [Act.put, List.setIfInBounds_toArray, List.set_cons_zero, List.set_cons_succ]
      refine wpAnyH_ready (rs := [7]) (by kernel_rfl) (by simp) ?_
      refine AllReadyH.cons (o := _) rfl (fun K hK => ?_) AllReadyH.nil
      go_simp
      refine (step_k _ (HT.out.below H.out.bel) EU.out HV17.out HW17.out HV20.out HW20.out).mono ?_
      rintro e wc ⟨a21, b21, c21, d21, rfl, pa, pb, pc, pd, hb⟩
      replace H := Lib.hid (H.out.call hb)
      have HA21 := Lib.hid pa
      have HB21 := Lib.hid pb
      have HC21 := Lib.hid pc
      have HD21 := Lib.hid pd
      refine hK.out _ _ (H.out.row 4 rfl) (fun hN => ?_)
      clear hK K hH hb pa pb pc pd
      have hH := hN
      clear hN
      try simp only [Act.put, List.setIfInBounds_toArray, List.set_cons_zero, List.set_cons_succ]
      refine held_value 8 13 (.tuple #[E2 (t2 8 (NZ a21) (NZ b21)), E2 (t2 8 (NZ c21) (NZ d21))]) rfl rfl (by kernel_rfl) (by kernel_rfl) (by kernel_rfl) rfl hH (fun w hw => by go_simp) ?_
      try simp only [Act.put, List.setIfInBounds_toArray, List.set_cons_zero, List.set_cons_succ]
      refine held_value 9 22 (E2 (t2 8 (NZ a21) (NZ b21))) rfl rfl (by kernel_rfl) (by kernel_rfl) (by kernel_rfl) rfl hH (fun w hw => by go_simp) ?_
      try simp only [Act.put, List.setIfInBounds_toArray, List.set_cons_zero, List.set_cons_succ]
      refine held_value 10 23 (E2 (t2 8 (NZ c21) (NZ d21))) rfl rfl (by kernel_rfl) (by kernel_rfl) (by kernel_rfl) rfl hH (fun w hw => by go_simp) ?_
      try simp only [Act.put, List.setIfInBounds_toArray, List.set_cons_zero, List.set_cons_succ]
      refine wpAnyH_ready (rs := [11]) (by kernel_rfl) (by simp) ?_
      refine AllReadyH.cons (o := _) rfl (fun K hK => ?_) AllReadyH.nil
      refine own_st 3 rfl rowE2 H.out rfl rfl rfl rfl ?_
      intro ws HS
      simp only [List.set_cons_zero, List.set_cons_succ] at HS
      replace H := Lib.hid HS
      refine hK.out _ _ (H.out.row 4 rfl) (fun hN => ?_)
      clear hK K HS hH
      have hH := hN
      clear hN
      try simp only [List.setIfInBounds_toArray]
      refine wpAnyH_ready (rs := [12]) (by kernel_rfl) (by simp) ?_
      refine AllReadyH.cons (o := _) rfl (fun K hK => ?_) AllReadyH.nil
      refine own_st 2 rfl rowE2 H.out rfl rfl rfl rfl ?_
      intro ws HS
      simp only [List.set_cons_zero, List.set_cons_succ] at HS
      replace H := Lib.hid HS
      refine hK.out _ _ (H.out.row 4 rfl) (fun hN => ?_)
      clear hK K HS hH
      have hH := hN
      clear hN
      try simp only [List.setIfInBounds_toArray]
      try simp only [Act.put]
      refine wpAnyH_done (by kernel_rfl) ?_ _
      refine NoPanic.normal ?_
      clear hH
      go_simp
      go_upto_region 3 with fail
      refine wp_region_noPanic ?_
      refine wp_region_held_drew (S := fun W => W.heap[g6]? = some (Blk 32 .u64 16 ((t2 8 (NZ a21) (NZ b21)))) ∧ W.heap[g7]? = some (Blk 32 .u64 16 ((t2 8 (NZ c21) (NZ d21))))) (by kernel_rfl) (⟨H.out.drew.row 3 rfl, H.out.drew.row 2 rfl⟩) (fun hH => ?_)
      replace H := Lib.hid H.out.drew
      generalize World.drew _ = w8 at *
      refine held_value 0 24 (.func (.func 78) #[.int .u8 1] #[]) rfl rfl (by kernel_rfl) (by kernel_rfl) (by kernel_rfl) rfl hH (fun w hw => by go_simp) ?_
      try simp only [Act.put, List.setIfInBounds_toArray, List.set_cons_zero, List.set_cons_succ]
      refine held_row 1 25 rowE2 rfl rfl (by kernel_rfl) (by kernel_rfl) (by kernel_rfl) rfl hH rfl rfl (fun _ h => h.1) ?_
      try simp only [Act.put, List.setIfInBounds_toArray, List.set_cons_zero, List.set_cons_succ]
      refine held_value 3 27 (.func (.func 78) #[.int .u8 1] #[]) rfl rfl (by kernel_rfl) (by kernel_rfl) (by kernel_rfl) rfl hH (fun w hw => by go_simp) ?_
      try simp only [Act.put, List.setIfInBounds_toArray, List.set_cons_zero, List.set_cons_succ]
      refine held_row 4 28 rowE2 rfl rfl (by kernel_rfl) (by kernel_rfl) (by kernel_rfl) rfl hH rfl rfl (fun _ h => h.2) ?_
      try simp only [Act.put, List.setIfInBounds_toArray, List.set_cons_zero, List.set_cons_succ]
      refine wpAnyH_ready (rs := [2]) (by kernel_rfl) (by simp) ?_
      refine AllReadyH.cons (o := _) rfl (fun K hK => ?_) AllReadyH.nil
      go_simp
      refine (change1_k _ HA21.out HB21.out).mono ?_
      rintro e wc ⟨h26, k26, rfl, hv, hq, hb⟩
      replace H := Lib.hid (H.out.call hb)
      have HV26 := Lib.hid hv
      have HW26 := Lib.hid hq
      refine hK.out _ _ (⟨H.out.row 3 rfl, H.out.row 2 rfl⟩) (fun hN => ?_)
      clear hK K hH hb hv hq
      have hH := hN
      clear hN
      try simp only [Act.put, List.setIfInBounds_toArray, List.set_cons_zero, List.set_cons_succ]
      refine wpAnyH_ready (rs := [5]) (by kernel_rfl) (by simp) ?_
      refine AllReadyH.cons (o := _) rfl (fun K hK => ?_) AllReadyH.nil
      go_simp
      refine (change1_k _ HC21.out HD21.out).mono ?_
      rintro e wc ⟨h29, k29, rfl, hv, hq, hb⟩
      replace H := Lib.hid (H.out.call hb)
      have HV29 := Lib.hid hv
      have HW29 := Lib.hid hq
      refine hK.out _ _ (⟨H.out.row 3 rfl, H.out.row 2 rfl⟩) (fun hN => ?_)
      clear hK K hH hb hv hq
      have hH := hN
      clear hN
      try simp only [Act.put, List.setIfInBounds_toArray, List.set_cons_zero, List.set_cons_succ]
      refine wpAnyH_ready (rs := [6]) (by kernel_rfl) (by simp) ?_
      refine AllReadyH.cons (o := _) rfl (fun K hK => ?_) AllReadyH.nil
      refine own_st 1 rfl rowE2 H.out rfl rfl rfl rfl ?_
      intro ws HS
      simp only [List.set_cons_zero, List.set_cons_succ] at HS
      replace H := Lib.hid HS
      refine hK.out _ _ (⟨H.out.row 3 rfl, H.out.row 2 rfl⟩) (fun hN => ?_)
      clear hK K HS hH
      have hH := hN
      clear hN
      try simp only [List.setIfInBounds_toArray]
      refine wpAnyH_ready (rs := [7]) (by kernel_rfl) (by simp) ?_
      refine AllReadyH.cons (o := _) rfl (fun K hK => ?_) AllReadyH.nil
      refine own_st 0 rfl rowE2 H.out rfl rfl rfl rfl ?_
      intro ws HS
      simp only [List.set_cons_zero] at HS
      replace H := Lib.hid HS
      refine hK.out _ _ (⟨H.out.row 3 rfl, H.out.row 2 rfl⟩) (fun hN => ?_)
      clear hK K HS hH
      have hH := hN
      clear hN
      try simp only [List.setIfInBounds_toArray]
      try simp only [Act.put]
      refine wpAnyH_done (by kernel_rfl) ?_ _
      refine NoPanic.normal ?_
      clear hH
      go_wp2_with fail
      refine bodyPost_ret (own_result_two 1 0 rowE2 rowE2 rfl _ H rfl rfl rfl rfl) rfl ⟨h26, k26, h29, k29, rfl, ⟨HV26.out, HW26.out, HV29.out, HW29.out⟩, H.out.bel⟩
    · skip
      refine own_wp_load 19 rfl 2 rowE2 H.out rfl rfl rfl ?_
      refine hK.out _ _ hH (fun hN => ?_)
      clear hK K hH
      have hH := hN
      clear hN
      try simp only [Act.put, List.setIfInBounds_toArray, List.set_cons_zero, List.set_cons_succ]
      refine wpAnyH_ready (rs := [3]) (by kernel_rfl) (by simp) ?_
      refine AllReadyH.cons (o := _) rfl (fun K hK => ?_) AllReadyH.nil
      go_simp
      refine (change1_k _ EA.out EB.out).mono ?_
      rintro e wc ⟨h17, k17, rfl, hv, hq, hb⟩
      replace H := Lib.hid (H.out.call hb)
      have HV17 := Lib.hid hv
      have HW17 := Lib.hid hq
      refine hK.out _ _ (H.out.row 4 rfl) (fun hN => ?_)
      clear hK K hH hb hv hq
      have hH := hN
      clear hN
      try simp only [Act.put, List.setIfInBounds_toArray, List.set_cons_zero, List.set_cons_succ]
      refine wpAnyH_ready (rs := [6]) (by kernel_rfl) (by simp) ?_
      refine AllReadyH.cons (o := _) rfl (fun K hK => ?_) AllReadyH.nil
      go_simp
      refine (change1_k _ EC.out ED.out).mono ?_
      rintro e wc ⟨h20, k20, rfl, hv, hq, hb⟩
      replace H := Lib.hid (H.out.call hb)
      have HV20 := Lib.hid hv
      have HW20 := Lib.hid hq
      refine hK.out _ _ (H.out.row 4 rfl) (fun hN => ?_)
      clear hK K hH hb hv hq
      have hH := hN
      clear hN
      try simp only [Act.put, List.setIfInBounds_toArray, List.set_cons_zero, List.set_cons_succ]
      refine wpAnyH_ready (rs := [7]) (by kernel_rfl) (by simp) ?_
      refine AllReadyH.cons (o := _) rfl (fun K hK => ?_) AllReadyH.nil
      go_simp
      refine (step_k _ (HT.out.below H.out.bel) EU.out HV17.out HW17.out HV20.out HW20.out).mono ?_
      rintro e wc ⟨a21, b21, c21, d21, rfl, pa, pb, pc, pd, hb⟩
      replace H := Lib.hid (H.out.call hb)
      have HA21 := Lib.hid pa
      have HB21 := Lib.hid pb
      have HC21 := Lib.hid pc
      have HD21 := Lib.hid pd
      refine hK.out _ _ (H.out.row 4 rfl) (fun hN => ?_)
      clear hK K hH hb pa pb pc pd
      have hH := hN
      clear hN
      try simp only [Act.put, List.setIfInBounds_toArray, List.set_cons_zero, List.set_cons_succ]
      refine held_value 8 13 (.tuple #[E2 (t2 8 (NZ a21) (NZ b21)), E2 (t2 8 (NZ c21) (NZ d21))]) rfl rfl (by kernel_rfl) (by kernel_rfl) (by kernel_rfl) rfl hH (fun w hw => by go_simp) ?_
      try simp only [Act.put, List.setIfInBounds_toArray, List.set_cons_zero, List.set_cons_succ]
      refine held_value 9 22 (E2 (t2 8 (NZ a21) (NZ b21))) rfl rfl (by kernel_rfl) (by kernel_rfl) (by kernel_rfl) rfl hH (fun w hw => by go_simp) ?_
      try simp only [Act.put, List.setIfInBounds_toArray, List.set_cons_zero, List.set_cons_succ]
      refine held_value 10 23 (E2 (t2 8 (NZ c21) (NZ d21))) rfl rfl (by kernel_rfl) (by kernel_rfl) (by kernel_rfl) rfl hH (fun w hw => by go_simp) ?_
      try simp only [Act.put, List.setIfInBounds_toArray, List.set_cons_zero, List.set_cons_succ]
      refine wpAnyH_ready (rs := [11]) (by kernel_rfl) (by simp) ?_
      refine AllReadyH.cons (o := _) rfl (fun K hK => ?_) AllReadyH.nil
      refine own_st 3 rfl rowE2 H.out rfl rfl rfl rfl ?_
      intro ws HS
      simp only [List.set_cons_zero, List.set_cons_succ] at HS
      replace H := Lib.hid HS
      refine hK.out _ _ (H.out.row 4 rfl) (fun hN => ?_)
      clear hK K HS hH
      have hH := hN
      clear hN
      try simp only [List.setIfInBounds_toArray]
      refine wpAnyH_ready (rs := [12]) (by kernel_rfl) (by simp) ?_
      refine AllReadyH.cons (o := _) rfl (fun K hK => ?_) AllReadyH.nil
      refine own_st 2 rfl rowE2 H.out rfl rfl rfl rfl ?_
      intro ws HS
      simp only [List.set_cons_zero, List.set_cons_succ] at HS
      replace H := Lib.hid HS
      refine hK.out _ _ (H.out.row 4 rfl) (fun hN => ?_)
      clear hK K HS hH
      have hH := hN
      clear hN
      try simp only [List.setIfInBounds_toArray]
      try simp only [Act.put]
      refine wpAnyH_done (by kernel_rfl) ?_ _
      refine NoPanic.normal ?_
      clear hH
      go_simp
      go_upto_region 3 with fail
      refine wp_region_noPanic ?_
      refine wp_region_held_drew (S := fun W => W.heap[g6]? = some (Blk 32 .u64 16 ((t2 8 (NZ a21) (NZ b21)))) ∧ W.heap[g7]? = some (Blk 32 .u64 16 ((t2 8 (NZ c21) (NZ d21))))) (by kernel_rfl) (⟨H.out.drew.row 3 rfl, H.out.drew.row 2 rfl⟩) (fun hH => ?_)
      replace H := Lib.hid H.out.drew
      generalize World.drew _ = w8 at *
      refine held_value 0 24 (.func (.func 78) #[.int .u8 1] #[]) rfl rfl (by kernel_rfl) (by kernel_rfl) (by kernel_rfl) rfl hH (fun w hw => by go_simp) ?_
      try simp only [Act.put, List.setIfInBounds_toArray, List.set_cons_zero, List.set_cons_succ]
      refine held_row 1 25 rowE2 rfl rfl (by kernel_rfl) (by kernel_rfl) (by kernel_rfl) rfl hH rfl rfl (fun _ h => h.1) ?_
      try simp only [Act.put, List.setIfInBounds_toArray, List.set_cons_zero, List.set_cons_succ]
      refine held_value 3 27 (.func (.func 78) #[.int .u8 1] #[]) rfl rfl (by kernel_rfl) (by kernel_rfl) (by kernel_rfl) rfl hH (fun w hw => by go_simp) ?_
      try simp only [Act.put, List.setIfInBounds_toArray, List.set_cons_zero, List.set_cons_succ]
      refine held_row 4 28 rowE2 rfl rfl (by kernel_rfl) (by kernel_rfl) (by kernel_rfl) rfl hH rfl rfl (fun _ h => h.2) ?_
      try simp only [Act.put, List.setIfInBounds_toArray, List.set_cons_zero, List.set_cons_succ]
      refine wpAnyH_ready (rs := [2]) (by kernel_rfl) (by simp) ?_
      refine AllReadyH.cons (o := _) rfl (fun K hK => ?_) AllReadyH.nil
      go_simp
      refine (change1_k _ HA21.out HB21.out).mono ?_
      rintro e wc ⟨h26, k26, rfl, hv, hq, hb⟩
      replace H := Lib.hid (H.out.call hb)
      have HV26 := Lib.hid hv
      have HW26 := Lib.hid hq
      refine hK.out _ _ (⟨H.out.row 3 rfl, H.out.row 2 rfl⟩) (fun hN => ?_)
      clear hK K hH hb hv hq
      have hH := hN
      clear hN
      try simp only [Act.put, List.setIfInBounds_toArray, List.set_cons_zero, List.set_cons_succ]
      refine wpAnyH_ready (rs := [5]) (by kernel_rfl) (by simp) ?_
      refine AllReadyH.cons (o := _) rfl (fun K hK => ?_) AllReadyH.nil
      go_simp
      refine (change1_k _ HC21.out HD21.out).mono ?_
      rintro e wc ⟨h29, k29, rfl, hv, hq, hb⟩
      replace H := Lib.hid (H.out.call hb)
      have HV29 := Lib.hid hv
      have HW29 := Lib.hid hq
      refine hK.out _ _ (⟨H.out.row 3 rfl, H.out.row 2 rfl⟩) (fun hN => ?_)
      clear hK K hH hb hv hq
      have hH := hN
      clear hN
      try simp only [Act.put, List.setIfInBounds_toArray, List.set_cons_zero, List.set_cons_succ]
      refine wpAnyH_ready (rs := [6]) (by kernel_rfl) (by simp) ?_
      refine AllReadyH.cons (o := _) rfl (fun K hK => ?_) AllReadyH.nil
      refine own_st 1 rfl rowE2 H.out rfl rfl rfl rfl ?_
      intro ws HS
      simp only [List.set_cons_zero, List.set_cons_succ] at HS
      replace H := Lib.hid HS
      refine hK.out _ _ (⟨H.out.row 3 rfl, H.out.row 2 rfl⟩) (fun hN => ?_)
      clear hK K HS hH
      have hH := hN
      clear hN
      try simp only [List.setIfInBounds_toArray]
      refine wpAnyH_ready (rs := [7]) (by kernel_rfl) (by simp) ?_
      refine AllReadyH.cons (o := _) rfl (fun K hK => ?_) AllReadyH.nil
      refine own_st 0 rfl rowE2 H.out rfl rfl rfl rfl ?_
      intro ws HS
      simp only [List.set_cons_zero] at HS
      replace H := Lib.hid HS
      refine hK.out _ _ (⟨H.out.row 3 rfl, H.out.row 2 rfl⟩) (fun hN => ?_)
      clear hK K HS hH
      have hH := hN
      clear hN
      try simp only [List.setIfInBounds_toArray]
      try simp only [Act.put]
      refine wpAnyH_done (by kernel_rfl) ?_ _
      refine NoPanic.normal ?_
      clear hH
      go_wp2_with fail
      refine bodyPost_ret (own_result_two 1 0 rowE2 rowE2 rfl _ H rfl rfl rfl rfl) rfl ⟨h26, k26, h29, k29, rfl, ⟨HV26.out, HW26.out, HV29.out, HW29.out⟩, H.out.bel⟩
  · skip
    refine own_wp_load 19 rfl 2 rowE2 H.out rfl rfl rfl ?_
    refine hK.out _ _ hH (fun hN => ?_)
    clear hK K hH
    have hH := hN
    clear hN
    try simp only [Act.put, List.setIfInBounds_toArray, List.set_cons_zero, List.set_cons_succ]
    refine wpAnyH_ready (rs := [2]) (by kernel_rfl) (by simp) ?_
    refine AllReadyH.cons (o := _) rfl (fun K hK => ?_) AllReadyH.nil
    refine own_wp_load 16 rfl 3 rowE2 H.out rfl rfl rfl ?_
    refine hK.out _ _ hH (fun hN => ?_)
    clear hK K hH
    have hH := hN
    clear hN
    try simp only [Act.put, List.setIfInBounds_toArray, List.set_cons_zero, List.set_cons_succ]
    refine wpAnyH_ready (rs := [3]) (by kernel_rfl) (by simp) ?_
    refine AllReadyH.cons (o := _) rfl (fun K hK => ?_) AllReadyH.nil
    go_simp
    refine (change1_k _ EA.out EB.out).mono ?_
    rintro e wc ⟨h17, k17, rfl, hv, hq, hb⟩
    replace H := Lib.hid (H.out.call hb)
    have HV17 := Lib.hid hv
    have HW17 := Lib.hid hq
    refine hK.out _ _ (H.out.row 4 rfl) (fun hN => ?_)
    clear hK K hH hb hv hq
    have hH := hN
    clear hN
    try simp only [Act.put, List.setIfInBounds_toArray, List.set_cons_zero, List.set_cons_succ]
    refine wpAnyH_ready (rs := [6]) (by kernel_rfl) (by simp) ?_
    refine AllReadyH.cons (o := _) rfl (fun K hK => ?_) AllReadyH.nil
    go_simp
    refine (change1_k _ EC.out ED.out).mono ?_
    rintro e wc ⟨h20, k20, rfl, hv, hq, hb⟩
    replace H := Lib.hid (H.out.call hb)
    have HV20 := Lib.hid hv
    have HW20 := Lib.hid hq
    refine hK.out _ _ (H.out.row 4 rfl) (fun hN => ?_)
    clear hK K hH hb hv hq
    have hH := hN
    clear hN
    try simp only [Act.put, List.setIfInBounds_toArray, List.set_cons_zero, List.set_cons_succ]
    refine wpAnyH_ready (rs := [7]) (by kernel_rfl) (by simp) ?_
    refine AllReadyH.cons (o := _) rfl (fun K hK => ?_) AllReadyH.nil
    go_simp
    refine (step_k _ (HT.out.below H.out.bel) EU.out HV17.out HW17.out HV20.out HW20.out).mono ?_
    rintro e wc ⟨a21, b21, c21, d21, rfl, pa, pb, pc, pd, hb⟩
    replace H := Lib.hid (H.out.call hb)
    have HA21 := Lib.hid pa
    have HB21 := Lib.hid pb
    have HC21 := Lib.hid pc
    have HD21 := Lib.hid pd
    refine hK.out _ _ (H.out.row 4 rfl) (fun hN => ?_)
    clear hK K hH hb pa pb pc pd
    have hH := hN
    clear hN
    try simp only [Act.put, List.setIfInBounds_toArray, List.set_cons_zero, List.set_cons_succ]
    refine held_value 8 13 (.tuple #[E2 (t2 8 (NZ a21) (NZ b21)), E2 (t2 8 (NZ c21) (NZ d21))]) rfl rfl (by kernel_rfl) (by kernel_rfl) (by kernel_rfl) rfl hH (fun w hw => by go_simp) ?_
    try simp only [Act.put, List.setIfInBounds_toArray, List.set_cons_zero, List.set_cons_succ]
    refine held_value 9 22 (E2 (t2 8 (NZ a21) (NZ b21))) rfl rfl (by kernel_rfl) (by kernel_rfl) (by kernel_rfl) rfl hH (fun w hw => by go_simp) ?_
    try simp only [Act.put, List.setIfInBounds_toArray, List.set_cons_zero, List.set_cons_succ]
    refine held_value 10 23 (E2 (t2 8 (NZ c21) (NZ d21))) rfl rfl (by kernel_rfl) (by kernel_rfl) (by kernel_rfl) rfl hH (fun w hw => by go_simp) ?_
    try simp only [Act.put, List.setIfInBounds_toArray, List.set_cons_zero, List.set_cons_succ]
    refine wpAnyH_ready (rs := [11]) (by kernel_rfl) (by simp) ?_
    refine AllReadyH.cons (o := _) rfl (fun K hK => ?_) AllReadyH.nil
    refine own_st 3 rfl rowE2 H.out rfl rfl rfl rfl ?_
    intro ws HS
    simp only [List.set_cons_zero, List.set_cons_succ] at HS
    replace H := Lib.hid HS
    refine hK.out _ _ (H.out.row 4 rfl) (fun hN => ?_)
    clear hK K HS hH
    have hH := hN
    clear hN
    try simp only [List.setIfInBounds_toArray]
    refine wpAnyH_ready (rs := [12]) (by kernel_rfl) (by simp) ?_
    refine AllReadyH.cons (o := _) rfl (fun K hK => ?_) AllReadyH.nil
    refine own_st 2 rfl rowE2 H.out rfl rfl rfl rfl ?_
    intro ws HS
    simp only [List.set_cons_zero, List.set_cons_succ] at HS
    replace H := Lib.hid HS
    refine hK.out _ _ (H.out.row 4 rfl) (fun hN => ?_)
    clear hK K HS hH
    have hH := hN
    clear hN
    try simp only [List.setIfInBounds_toArray]
    try simp only [Act.put]
    refine wpAnyH_done (by kernel_rfl) ?_ _
    refine NoPanic.normal ?_
    clear hH
    go_simp
    go_upto_region 3 with fail
    refine wp_region_noPanic ?_
    refine wp_region_held_drew (S := fun W => W.heap[g6]? = some (Blk 32 .u64 16 ((t2 8 (NZ a21) (NZ b21)))) ∧ W.heap[g7]? = some (Blk 32 .u64 16 ((t2 8 (NZ c21) (NZ d21))))) (by kernel_rfl) (⟨H.out.drew.row 3 rfl, H.out.drew.row 2 rfl⟩) (fun hH => ?_)
    replace H := Lib.hid H.out.drew
    generalize World.drew _ = w8 at *
    refine held_value 0 24 (.func (.func 78) #[.int .u8 1] #[]) rfl rfl (by kernel_rfl) (by kernel_rfl) (by kernel_rfl) rfl hH (fun w hw => by go_simp) ?_
    try simp only [Act.put, List.setIfInBounds_toArray, List.set_cons_zero, List.set_cons_succ]
    refine held_row 1 25 rowE2 rfl rfl (by kernel_rfl) (by kernel_rfl) (by kernel_rfl) rfl hH rfl rfl (fun _ h => h.1) ?_
    try simp only [Act.put, List.setIfInBounds_toArray, List.set_cons_zero, List.set_cons_succ]
    refine held_value 3 27 (.func (.func 78) #[.int .u8 1] #[]) rfl rfl (by kernel_rfl) (by kernel_rfl) (by kernel_rfl) rfl hH (fun w hw => by go_simp) ?_
    try simp only [Act.put, List.setIfInBounds_toArray, List.set_cons_zero, List.set_cons_succ]
    refine held_row 4 28 rowE2 rfl rfl (by kernel_rfl) (by kernel_rfl) (by kernel_rfl) rfl hH rfl rfl (fun _ h => h.2) ?_
    try simp only [Act.put, List.setIfInBounds_toArray, List.set_cons_zero, List.set_cons_succ]
    refine wpAnyH_ready (rs := [2]) (by kernel_rfl) (by simp) ?_
    refine AllReadyH.cons (o := _) rfl (fun K hK => ?_) AllReadyH.nil
    go_simp
    refine (change1_k _ HA21.out HB21.out).mono ?_
    rintro e wc ⟨h26, k26, rfl, hv, hq, hb⟩
    replace H := Lib.hid (H.out.call hb)
    have HV26 := Lib.hid hv
    have HW26 := Lib.hid hq
    refine hK.out _ _ (⟨H.out.row 3 rfl, H.out.row 2 rfl⟩) (fun hN => ?_)
    clear hK K hH hb hv hq
    have hH := hN
    clear hN
    try simp only [Act.put, List.setIfInBounds_toArray, List.set_cons_zero, List.set_cons_succ]
    refine wpAnyH_ready (rs := [5]) (by kernel_rfl) (by simp) ?_
    refine AllReadyH.cons (o := _) rfl (fun K hK => ?_) AllReadyH.nil
    go_simp
    refine (change1_k _ HC21.out HD21.out).mono ?_
    rintro e wc ⟨h29, k29, rfl, hv, hq, hb⟩
    replace H := Lib.hid (H.out.call hb)
    have HV29 := Lib.hid hv
    have HW29 := Lib.hid hq
    refine hK.out _ _ (⟨H.out.row 3 rfl, H.out.row 2 rfl⟩) (fun hN => ?_)
    clear hK K hH hb hv hq
    have hH := hN
    clear hN
    try simp only [Act.put, List.setIfInBounds_toArray, List.set_cons_zero, List.set_cons_succ]
    refine wpAnyH_ready (rs := [6]) (by kernel_rfl) (by simp) ?_
    refine AllReadyH.cons (o := _) rfl (fun K hK => ?_) AllReadyH.nil
    refine own_st 1 rfl rowE2 H.out rfl rfl rfl rfl ?_
    intro ws HS
    simp only [List.set_cons_zero, List.set_cons_succ] at HS
    replace H := Lib.hid HS
    refine hK.out _ _ (⟨H.out.row 3 rfl, H.out.row 2 rfl⟩) (fun hN => ?_)
    clear hK K HS hH
    have hH := hN
    clear hN
    try simp only [List.setIfInBounds_toArray]
    refine wpAnyH_ready (rs := [7]) (by kernel_rfl) (by simp) ?_
    refine AllReadyH.cons (o := _) rfl (fun K hK => ?_) AllReadyH.nil
    refine own_st 0 rfl rowE2 H.out rfl rfl rfl rfl ?_
    intro ws HS
    simp only [List.set_cons_zero] at HS
    replace H := Lib.hid HS
    refine hK.out _ _ (⟨H.out.row 3 rfl, H.out.row 2 rfl⟩) (fun hN => ?_)
    clear hK K HS hH
    have hH := hN
    clear hN
    try simp only [List.setIfInBounds_toArray]
    try simp only [Act.put]
    refine wpAnyH_done (by kernel_rfl) ?_ _
    refine NoPanic.normal ?_
    clear hH
    go_wp2_with fail
    refine bodyPost_ret (own_result_two 1 0 rowE2 rowE2 rfl _ H rfl rfl rfl rfl) rfl ⟨h26, k26, h29, k29, rfl, ⟨HV26.out, HW26.out, HV29.out, HW29.out⟩, H.out.bel⟩
theorem rung_k {f g h i j : Nat → Nat} {u : K} {s : L4 pN} (β : Bool) (z : Int) (hz : z = if β = true then 1 else 0) (w : World) (hT : Tp w) (hu : EK f u) (hs : StK g h i j s) :
    Calls Tryd.prog 44 #[.int .u8 z, EV f, E2 (E2v g h), E2 (E2v i j)] w fun e w' => ∃ a b c d, e = .returned (.tuple #[E2 (E2v a b), E2 (E2v c d)]) ∧ StK a b c d (ldB cK u β s) ∧ Below w.heap.size w w' := by
  obtain ⟨h0, h1, h2, h3⟩ := hs
  subst hz
  cases β
  · exact rung0_k w hT hu h0 h1 h2 h3
  · exact rung1_k w hT hu h0 h1 h2 h3
end Go.Proofs.YtckmboebipbpbaaDoor
