/-
  The contract of ladder.Step. No statement is proved here: lemmas for the walks.
-/
import Derived.Test.YtckmboebipbpbaaDoorBuQ
import Derived.Deep.CutRange
import Derived.Handy
namespace Go.Proofs.YtckmboebipbpbaaDoor
open Go.RowKit

set_option maxRecDepth 8000 in
set_option maxHeartbeats 12800000 in
theorem step_k {f g h i j : Nat → Nat} {u x0 z0 x1 z1 : K} (w : World) (hT : Tp w) (hu : EK f u) (h0 : EK g x0) (h1 : EK h x1) (h2 : EK i z0) (h3 : EK j z1) :
    Calls Tryd.prog 11 #[EV f, E2 (E2v g h), E2 (E2v i j)] w fun e w' => ∃ a b c d, e = .returned (.tuple #[E2 (E2v a b), E2 (E2v c d)]) ∧ EK a (ldA cK u ⟨x0, z0, x1, z1⟩).x0 ∧ EK b (ldA cK u ⟨x0, z0, x1, z1⟩).x1 ∧ EK c (ldA cK u ⟨x0, z0, x1, z1⟩).z0 ∧ EK d (ldA cK u ⟨x0, z0, x1, z1⟩).z1 ∧ Below w.heap.size w w' := by
  have HT := Lib.hid hT
  clear hT
  have EU := Lib.hid hu
  have EA := Lib.hid h0
  have EB := Lib.hid h1
  have EC := Lib.hid h2
  have ED := Lib.hid h3
  clear hu h0 h1 h2 h3
  have H := Lib.hid (Ow.start w)
  go_enter Tryd.func11, Tryd.ntmps11
  go_wp2_with (first
    | ((fail_if_success have := g3); (with_reducible apply own_box H); (case hgd => exact rfl); (case ho => exact rfl); (case hx => exact rfl); intro w3 g3 H' _ _; replace H := H'; clear H'; go_simp)
    | ((fail_if_success have := g4); (with_reducible apply own_box H); (case hgd => exact rfl); (case ho => exact rfl); (case hx => exact rfl); intro w4 g4 H' _ _; replace H := H'; clear H'; go_simp)
    | ((fail_if_success have := g5); (with_reducible apply own_box H); (case hgd => exact rfl); (case ho => exact rfl); (case hx => exact rfl); intro w5 g5 H' _ _; replace H := H'; clear H'; go_simp)
    | ((fail_if_success have := g6); (with_reducible apply own_alloc nilE2 H); (case hgd => exact rfl); (case ho => exact rfl); intro w6 g6 H' _ _; replace H := H'; clear H'; go_simp)
    | ((fail_if_success have := g7); (with_reducible apply own_alloc nilE2 H); (case hgd => exact rfl); (case ho => exact rfl); intro w7 g7 H' _ _; replace H := H'; clear H'; go_simp)
    | ((fail_if_success have := g8); (with_reducible apply own_alloc nilE2 H); (case hgd => exact rfl); (case ho => exact rfl); intro w8 g8 H' _ _; replace H := H'; clear H'; go_simp)
    | ((fail_if_success have := g9); (with_reducible apply own_alloc nilE2 H); (case hgd => exact rfl); (case ho => exact rfl); intro w9 g9 H' _ _; replace H := H'; clear H'; go_simp)
    | ((fail_if_success have := g10); (with_reducible apply own_alloc nilE2 H); (case hgd => exact rfl); (case ho => exact rfl); intro w10 g10 H' _ _; replace H := H'; clear H'; go_simp))
  rw [blk_nil2] at H
  refine wp_loop_rounds 3 ?_
  rw [rounds_succ]
  go_wp2_with fail
  refine wp_region_noPanic ?_
  refine wp_region_held_drew (S := fun W => W.heap[g4]? = some (Blk 32 .u64 16 ((t2 8 (NZ g) (NZ h)))) ∧ W.heap[g5]? = some (Blk 32 .u64 16 ((t2 8 (NZ i) (NZ j))))) (by kernel_rfl) (⟨H.out.drew.row 6 rfl, H.out.drew.row 5 rfl⟩) (fun hH => ?_)
  replace H := Lib.hid H.out.drew
  generalize World.drew _ = w8 at *
  refine held_value 0 19 (.int .i64 0) rfl rfl (by kernel_rfl) (by kernel_rfl) (by kernel_rfl) rfl hH (fun w hw => by go_simp) ?_
  try simp only [Act.put, List.setIfInBounds_toArray, List.set_cons_zero, List.set_cons_succ]
  refine held_value 1 20 (.int .i64 0) rfl rfl (by kernel_rfl) (by kernel_rfl) (by kernel_rfl) rfl hH (fun w hw => by go_simp) ?_
  try simp only [Act.put, List.setIfInBounds_toArray, List.set_cons_zero, List.set_cons_succ]
  refine held_value 2 21 (.int .i64 0) rfl rfl (by kernel_rfl) (by kernel_rfl) (by kernel_rfl) rfl hH (fun w hw => by go_simp) ?_
  try simp only [Act.put, List.setIfInBounds_toArray, List.set_cons_zero, List.set_cons_succ]
  refine held_value 3 22 (.pointer (some ⟨g4, 0, none⟩)) rfl rfl (by kernel_rfl) (by kernel_rfl) (by kernel_rfl) rfl hH (fun w hw => by go_simp) ?_
  try simp only [Act.put, List.setIfInBounds_toArray, List.set_cons_zero, List.set_cons_succ]
  refine held_part 4 23 rowE rfl rfl (by kernel_rfl) (by kernel_rfl) (by kernel_rfl) rfl hH rfl rfl part2_0 (fun _ h => h.1) ?_
  try simp only [Act.put, List.setIfInBounds_toArray, List.set_cons_zero, List.set_cons_succ]
  refine held_value 5 24 (.int .i64 0) rfl rfl (by kernel_rfl) (by kernel_rfl) (by kernel_rfl) rfl hH (fun w hw => by go_simp) ?_
  try simp only [Act.put, List.setIfInBounds_toArray, List.set_cons_zero, List.set_cons_succ]
  refine held_value 6 25 (.pointer (some ⟨g5, 0, none⟩)) rfl rfl (by kernel_rfl) (by kernel_rfl) (by kernel_rfl) rfl hH (fun w hw => by go_simp) ?_
  try simp only [Act.put, List.setIfInBounds_toArray, List.set_cons_zero, List.set_cons_succ]
  refine held_part 7 26 rowE rfl rfl (by kernel_rfl) (by kernel_rfl) (by kernel_rfl) rfl hH rfl rfl part2_0 (fun _ h => h.2) ?_
  try simp only [Act.put, List.setIfInBounds_toArray, List.set_cons_zero, List.set_cons_succ]
  refine held_value 9 28 (.int .i64 0) rfl rfl (by kernel_rfl) (by kernel_rfl) (by kernel_rfl) rfl hH (fun w hw => by go_simp) ?_
  try simp only [Act.put, List.setIfInBounds_toArray, List.set_cons_zero, List.set_cons_succ]
  refine held_value 10 29 (.pointer (some ⟨g4, 0, none⟩)) rfl rfl (by kernel_rfl) (by kernel_rfl) (by kernel_rfl) rfl hH (fun w hw => by go_simp) ?_
  try simp only [Act.put, List.setIfInBounds_toArray, List.set_cons_zero, List.set_cons_succ]
  refine held_part 11 30 rowE rfl rfl (by kernel_rfl) (by kernel_rfl) (by kernel_rfl) rfl hH rfl rfl part2_0 (fun _ h => h.1) ?_
  try simp only [Act.put, List.setIfInBounds_toArray, List.set_cons_zero, List.set_cons_succ]
  refine held_value 12 31 (.int .i64 0) rfl rfl (by kernel_rfl) (by kernel_rfl) (by kernel_rfl) rfl hH (fun w hw => by go_simp) ?_
  try simp only [Act.put, List.setIfInBounds_toArray, List.set_cons_zero, List.set_cons_succ]
  refine held_value 13 32 (.pointer (some ⟨g5, 0, none⟩)) rfl rfl (by kernel_rfl) (by kernel_rfl) (by kernel_rfl) rfl hH (fun w hw => by go_simp) ?_
  try simp only [Act.put, List.setIfInBounds_toArray, List.set_cons_zero, List.set_cons_succ]
  refine held_part 14 33 rowE rfl rfl (by kernel_rfl) (by kernel_rfl) (by kernel_rfl) rfl hH rfl rfl part2_0 (fun _ h => h.2) ?_
  try simp only [Act.put, List.setIfInBounds_toArray, List.set_cons_zero, List.set_cons_succ]
  refine wpAnyH_ready (rs := [8]) (by kernel_rfl) (by simp) ?_
  refine AllReadyH.cons (o := _) rfl (fun K hK => ?_) AllReadyH.nil
  go_simp
  refine (add_k _ EA.out EC.out).mono ?_
  rintro e wc ⟨h27_0, rfl, hv, hb⟩
  replace H := Lib.hid (H.out.call hb)
  have HV27_0 := Lib.hid hv
  refine hK.out _ _ (⟨H.out.row 6 rfl, H.out.row 5 rfl⟩) (fun hN => ?_)
  clear hK K hH hb hv
  have hH := hN
  clear hN
  try simp only [Act.put, List.setIfInBounds_toArray, List.set_cons_zero, List.set_cons_succ]
  refine held_value 16 35 (.pointer (some ⟨g8, 0, none⟩)) rfl rfl (by kernel_rfl) (by kernel_rfl) (by kernel_rfl) rfl hH (fun w hw => by go_simp) ?_
  try simp only [Act.put, List.setIfInBounds_toArray, List.set_cons_zero, List.set_cons_succ]
  refine wpAnyH_ready (rs := [15]) (by kernel_rfl) (by simp) ?_
  refine AllReadyH.cons (o := _) rfl (fun K hK => ?_) AllReadyH.nil
  go_simp
  refine (sub_k _ (HT.out.below H.out.bel) EA.out EC.out).mono ?_
  rintro e wc ⟨h34_0, rfl, hv, hb⟩
  replace H := Lib.hid (H.out.call hb)
  have HV34_0 := Lib.hid hv
  refine hK.out _ _ (⟨H.out.row 6 rfl, H.out.row 5 rfl⟩) (fun hN => ?_)
  clear hK K hH hb hv
  have hH := hN
  clear hN
  try simp only [Act.put, List.setIfInBounds_toArray, List.set_cons_zero, List.set_cons_succ]
  refine wpAnyH_ready (rs := [17]) (by kernel_rfl) (by simp) ?_
  refine AllReadyH.cons (o := _) rfl (fun K hK => ?_) AllReadyH.nil
  refine own_st_p 2 rfl rowE H.out rfl rfl rfl rfl (by omega) st2_0 ?_
  intro ws HS
  simp only [List.set_cons_zero, List.set_cons_succ] at HS
  replace H := Lib.hid HS
  refine hK.out _ _ (⟨H.out.row 6 rfl, H.out.row 5 rfl⟩) (fun hN => ?_)
  clear hK K HS hH
  have hH := hN
  clear hN
  try simp only [List.setIfInBounds_toArray]
  refine held_value 18 36 (.pointer (some ⟨g9, 0, none⟩)) rfl rfl (by kernel_rfl) (by kernel_rfl) (by kernel_rfl) rfl hH (fun w hw => by go_simp) ?_
  try simp only [Act.put, List.setIfInBounds_toArray, List.set_cons_zero, List.set_cons_succ]
  refine wpAnyH_ready (rs := [19]) (by kernel_rfl) (by simp) ?_
  refine AllReadyH.cons (o := _) rfl (fun K hK => ?_) AllReadyH.nil
  refine own_st_p 1 rfl rowE H.out rfl rfl rfl rfl (by omega) st2_0 ?_
  intro ws HS
  simp only [List.set_cons_zero, List.set_cons_succ] at HS
  replace H := Lib.hid HS
  refine hK.out _ _ (⟨H.out.row 6 rfl, H.out.row 5 rfl⟩) (fun hN => ?_)
  clear hK K HS hH
  have hH := hN
  clear hN
  try simp only [List.setIfInBounds_toArray]
  try simp only [Act.put]
  refine wpAnyH_done (by kernel_rfl) ?_ _
  refine NoPanic.normal ?_
  clear hH
  go_wp2_with fail
  rw [rounds_succ]
  go_wp2_with fail
  refine wp_region_noPanic ?_
  refine wp_region_held_drew (S := fun W => W.heap[g4]? = some (Blk 32 .u64 16 ((t2 8 (NZ g) (NZ h)))) ∧ W.heap[g5]? = some (Blk 32 .u64 16 ((t2 8 (NZ i) (NZ j))))) (by kernel_rfl) (⟨H.out.drew.row 6 rfl, H.out.drew.row 5 rfl⟩) (fun hH => ?_)
  replace H := Lib.hid H.out.drew
  generalize World.drew _ = w8 at *
  refine held_value 0 19 (.int .i64 1) rfl rfl (by kernel_rfl) (by kernel_rfl) (by kernel_rfl) rfl hH (fun w hw => by go_simp) ?_
  try simp only [Act.put, List.setIfInBounds_toArray, List.set_cons_zero, List.set_cons_succ]
  refine held_value 1 20 (.int .i64 1) rfl rfl (by kernel_rfl) (by kernel_rfl) (by kernel_rfl) rfl hH (fun w hw => by go_simp) ?_
  try simp only [Act.put, List.setIfInBounds_toArray, List.set_cons_zero, List.set_cons_succ]
  refine held_value 2 21 (.int .i64 1) rfl rfl (by kernel_rfl) (by kernel_rfl) (by kernel_rfl) rfl hH (fun w hw => by go_simp) ?_
  try simp only [Act.put, List.setIfInBounds_toArray, List.set_cons_zero, List.set_cons_succ]
  refine held_value 3 22 (.pointer (some ⟨g4, 8, none⟩)) rfl rfl (by kernel_rfl) (by kernel_rfl) (by kernel_rfl) rfl hH (fun w hw => by go_simp) ?_
  try simp only [Act.put, List.setIfInBounds_toArray, List.set_cons_zero, List.set_cons_succ]
  refine held_part 4 23 rowE rfl rfl (by kernel_rfl) (by kernel_rfl) (by kernel_rfl) rfl hH rfl rfl part2_1 (fun _ h => h.1) ?_
  try simp only [Act.put, List.setIfInBounds_toArray, List.set_cons_zero, List.set_cons_succ]
  refine held_value 5 24 (.int .i64 1) rfl rfl (by kernel_rfl) (by kernel_rfl) (by kernel_rfl) rfl hH (fun w hw => by go_simp) ?_
  try simp only [Act.put, List.setIfInBounds_toArray, List.set_cons_zero, List.set_cons_succ]
  refine held_value 6 25 (.pointer (some ⟨g5, 8, none⟩)) rfl rfl (by kernel_rfl) (by kernel_rfl) (by kernel_rfl) rfl hH (fun w hw => by go_simp) ?_
  try simp only [Act.put, List.setIfInBounds_toArray, List.set_cons_zero, List.set_cons_succ]
  refine held_part 7 26 rowE rfl rfl (by kernel_rfl) (by kernel_rfl) (by kernel_rfl) rfl hH rfl rfl part2_1 (fun _ h => h.2) ?_
  try simp only [Act.put, List.setIfInBounds_toArray, List.set_cons_zero, List.set_cons_succ]
  refine held_value 9 28 (.int .i64 1) rfl rfl (by kernel_rfl) (by kernel_rfl) (by kernel_rfl) rfl hH (fun w hw => by go_simp) ?_
  try simp only [Act.put, List.setIfInBounds_toArray, List.set_cons_zero, List.set_cons_succ]
  refine held_value 10 29 (.pointer (some ⟨g4, 8, none⟩)) rfl rfl (by kernel_rfl) (by kernel_rfl) (by kernel_rfl) rfl hH (fun w hw => by go_simp) ?_
  try simp only [Act.put, List.setIfInBounds_toArray, List.set_cons_zero, List.set_cons_succ]
  refine held_part 11 30 rowE rfl rfl (by kernel_rfl) (by kernel_rfl) (by kernel_rfl) rfl hH rfl rfl part2_1 (fun _ h => h.1) ?_
  try simp only [Act.put, List.setIfInBounds_toArray, List.set_cons_zero, List.set_cons_succ]
  refine held_value 12 31 (.int .i64 1) rfl rfl (by kernel_rfl) (by kernel_rfl) (by kernel_rfl) rfl hH (fun w hw => by go_simp) ?_
  try simp only [Act.put, List.setIfInBounds_toArray, List.set_cons_zero, List.set_cons_succ]
  refine held_value 13 32 (.pointer (some ⟨g5, 8, none⟩)) rfl rfl (by kernel_rfl) (by kernel_rfl) (by kernel_rfl) rfl hH (fun w hw => by go_simp) ?_
  try simp only [Act.put, List.setIfInBounds_toArray, List.set_cons_zero, List.set_cons_succ]
  refine held_part 14 33 rowE rfl rfl (by kernel_rfl) (by kernel_rfl) (by kernel_rfl) rfl hH rfl rfl part2_1 (fun _ h => h.2) ?_
  try simp only [Act.put, List.setIfInBounds_toArray, List.set_cons_zero, List.set_cons_succ]
  refine wpAnyH_ready (rs := [8]) (by kernel_rfl) (by simp) ?_
  refine AllReadyH.cons (o := _) rfl (fun K hK => ?_) AllReadyH.nil
  go_simp
  refine (add_k _ EB.out ED.out).mono ?_
  rintro e wc ⟨h27_1, rfl, hv, hb⟩
  replace H := Lib.hid (H.out.call hb)
  have HV27_1 := Lib.hid hv
  refine hK.out _ _ (⟨H.out.row 6 rfl, H.out.row 5 rfl⟩) (fun hN => ?_)
  clear hK K hH hb hv
  have hH := hN
  clear hN
  try simp only [Act.put, List.setIfInBounds_toArray, List.set_cons_zero, List.set_cons_succ]
  refine held_value 16 35 (.pointer (some ⟨g8, 8, none⟩)) rfl rfl (by kernel_rfl) (by kernel_rfl) (by kernel_rfl) rfl hH (fun w hw => by go_simp) ?_
  try simp only [Act.put, List.setIfInBounds_toArray, List.set_cons_zero, List.set_cons_succ]
  refine wpAnyH_ready (rs := [15]) (by kernel_rfl) (by simp) ?_
  refine AllReadyH.cons (o := _) rfl (fun K hK => ?_) AllReadyH.nil
  go_simp
  refine (sub_k _ (HT.out.below H.out.bel) EB.out ED.out).mono ?_
  rintro e wc ⟨h34_1, rfl, hv, hb⟩
  replace H := Lib.hid (H.out.call hb)
  have HV34_1 := Lib.hid hv
  refine hK.out _ _ (⟨H.out.row 6 rfl, H.out.row 5 rfl⟩) (fun hN => ?_)
  clear hK K hH hb hv
  have hH := hN
  clear hN
  try simp only [Act.put, List.setIfInBounds_toArray, List.set_cons_zero, List.set_cons_succ]
  refine wpAnyH_ready (rs := [17]) (by kernel_rfl) (by simp) ?_
  refine AllReadyH.cons (o := _) rfl (fun K hK => ?_) AllReadyH.nil
  refine own_st_p 2 rfl rowE H.out rfl rfl rfl rfl (by omega) st2_1 ?_
  intro ws HS
  simp only [List.set_cons_zero, List.set_cons_succ] at HS
  replace H := Lib.hid HS
  refine hK.out _ _ (⟨H.out.row 6 rfl, H.out.row 5 rfl⟩) (fun hN => ?_)
  clear hK K HS hH
  have hH := hN
  clear hN
  try simp only [List.setIfInBounds_toArray]
  refine held_value 18 36 (.pointer (some ⟨g9, 8, none⟩)) rfl rfl (by kernel_rfl) (by kernel_rfl) (by kernel_rfl) rfl hH (fun w hw => by go_simp) ?_
  try simp only [Act.put, List.setIfInBounds_toArray, List.set_cons_zero, List.set_cons_succ]
  refine wpAnyH_ready (rs := [19]) (by kernel_rfl) (by simp) ?_
  refine AllReadyH.cons (o := _) rfl (fun K hK => ?_) AllReadyH.nil
  refine own_st_p 1 rfl rowE H.out rfl rfl rfl rfl (by omega) st2_1 ?_
  intro ws HS
  simp only [List.set_cons_zero, List.set_cons_succ] at HS
  replace H := Lib.hid HS
  refine hK.out _ _ (⟨H.out.row 6 rfl, H.out.row 5 rfl⟩) (fun hN => ?_)
  clear hK K HS hH
  have hH := hN
  clear hN
  try simp only [List.setIfInBounds_toArray]
  try simp only [Act.put]
  refine wpAnyH_done (by kernel_rfl) ?_ _
  refine NoPanic.normal ?_
  clear hH
  go_wp2_with fail
  rw [rounds_succ]
  go_wp2_with fail
  refine wp_loop_rounds 3 ?_
  rw [rounds_succ]
  go_wp2_with fail
  refine wp_region_noPanic ?_
  refine wp_region_held_drew (S := fun W => W.heap[g8]? = some (Blk 32 .u64 16 ((t2 8 (NZ h27_0) (NZ h27_1)))) ∧ W.heap[g9]? = some (Blk 32 .u64 16 ((t2 8 (NZ h34_0) (NZ h34_1))))) (by kernel_rfl) (⟨H.out.drew.row 2 rfl, H.out.drew.row 1 rfl⟩) (fun hH => ?_)
  replace H := Lib.hid H.out.drew
  generalize World.drew _ = w8 at *
  refine held_value 0 41 (.int .i64 0) rfl rfl (by kernel_rfl) (by kernel_rfl) (by kernel_rfl) rfl hH (fun w hw => by go_simp) ?_
  try simp only [Act.put, List.setIfInBounds_toArray, List.set_cons_zero, List.set_cons_succ]
  refine held_value 1 42 (.int .i64 0) rfl rfl (by kernel_rfl) (by kernel_rfl) (by kernel_rfl) rfl hH (fun w hw => by go_simp) ?_
  try simp only [Act.put, List.setIfInBounds_toArray, List.set_cons_zero, List.set_cons_succ]
  refine held_value 2 43 (.pointer (some ⟨g8, 0, none⟩)) rfl rfl (by kernel_rfl) (by kernel_rfl) (by kernel_rfl) rfl hH (fun w hw => by go_simp) ?_
  try simp only [Act.put, List.setIfInBounds_toArray, List.set_cons_zero, List.set_cons_succ]
  refine held_part 3 44 rowE rfl rfl (by kernel_rfl) (by kernel_rfl) (by kernel_rfl) rfl hH rfl rfl part2_0 (fun _ h => h.1) ?_
  try simp only [Act.put, List.setIfInBounds_toArray, List.set_cons_zero, List.set_cons_succ]
  refine held_value 4 45 (.int .i64 0) rfl rfl (by kernel_rfl) (by kernel_rfl) (by kernel_rfl) rfl hH (fun w hw => by go_simp) ?_
  try simp only [Act.put, List.setIfInBounds_toArray, List.set_cons_zero, List.set_cons_succ]
  refine held_value 5 46 (.int .i64 1) rfl rfl (by kernel_rfl) (by kernel_rfl) (by kernel_rfl) rfl hH (fun w hw => by (go_simp; exact IntWalk.i64_in _ (by omega))) ?_
  try simp only [Act.put, List.setIfInBounds_toArray, List.set_cons_zero, List.set_cons_succ]
  refine held_value 6 47 (.pointer (some ⟨g9, 8, none⟩)) rfl rfl (by kernel_rfl) (by kernel_rfl) (by kernel_rfl) rfl hH (fun w hw => by go_simp) ?_
  try simp only [Act.put, List.setIfInBounds_toArray, List.set_cons_zero, List.set_cons_succ]
  refine held_part 7 48 rowE rfl rfl (by kernel_rfl) (by kernel_rfl) (by kernel_rfl) rfl hH rfl rfl part2_1 (fun _ h => h.2) ?_
  try simp only [Act.put, List.setIfInBounds_toArray, List.set_cons_zero, List.set_cons_succ]
  refine wpAnyH_ready (rs := [8]) (by kernel_rfl) (by simp) ?_
  refine AllReadyH.cons (o := _) rfl (fun K hK => ?_) AllReadyH.nil
  go_simp
  refine (mul_k _ HV27_0.out HV34_1.out).mono ?_
  rintro e wc ⟨h49_0, rfl, hv, hb⟩
  replace H := Lib.hid (H.out.call hb)
  have HV49_0 := Lib.hid hv
  refine hK.out _ _ (⟨H.out.row 2 rfl, H.out.row 1 rfl⟩) (fun hN => ?_)
  clear hK K hH hb hv
  have hH := hN
  clear hN
  try simp only [Act.put, List.setIfInBounds_toArray, List.set_cons_zero, List.set_cons_succ]
  refine held_value 9 50 (.pointer (some ⟨g10, 0, none⟩)) rfl rfl (by kernel_rfl) (by kernel_rfl) (by kernel_rfl) rfl hH (fun w hw => by go_simp) ?_
  try simp only [Act.put, List.setIfInBounds_toArray, List.set_cons_zero, List.set_cons_succ]
  refine wpAnyH_ready (rs := [10]) (by kernel_rfl) (by simp) ?_
  refine AllReadyH.cons (o := _) rfl (fun K hK => ?_) AllReadyH.nil
  refine own_st_p 0 rfl rowE H.out rfl rfl rfl rfl (by omega) st2_0 ?_
  intro ws HS
  simp only [List.set_cons_zero] at HS
  replace H := Lib.hid HS
  refine hK.out _ _ (⟨H.out.row 2 rfl, H.out.row 1 rfl⟩) (fun hN => ?_)
  clear hK K HS hH
  have hH := hN
  clear hN
  try simp only [List.setIfInBounds_toArray]
  try simp only [Act.put]
  refine wpAnyH_done (by kernel_rfl) ?_ _
  refine NoPanic.normal ?_
  clear hH
  go_wp2_with fail
  rw [rounds_succ]
  go_wp2_with fail
  refine wp_region_noPanic ?_
  refine wp_region_held_drew (S := fun W => W.heap[g8]? = some (Blk 32 .u64 16 ((t2 8 (NZ h27_0) (NZ h27_1)))) ∧ W.heap[g9]? = some (Blk 32 .u64 16 ((t2 8 (NZ h34_0) (NZ h34_1))))) (by kernel_rfl) (⟨H.out.drew.row 2 rfl, H.out.drew.row 1 rfl⟩) (fun hH => ?_)
  replace H := Lib.hid H.out.drew
  generalize World.drew _ = w8 at *
  refine held_value 0 41 (.int .i64 1) rfl rfl (by kernel_rfl) (by kernel_rfl) (by kernel_rfl) rfl hH (fun w hw => by go_simp) ?_
  try simp only [Act.put, List.setIfInBounds_toArray, List.set_cons_zero, List.set_cons_succ]
  refine held_value 1 42 (.int .i64 1) rfl rfl (by kernel_rfl) (by kernel_rfl) (by kernel_rfl) rfl hH (fun w hw => by go_simp) ?_
  try simp only [Act.put, List.setIfInBounds_toArray, List.set_cons_zero, List.set_cons_succ]
  refine held_value 2 43 (.pointer (some ⟨g8, 8, none⟩)) rfl rfl (by kernel_rfl) (by kernel_rfl) (by kernel_rfl) rfl hH (fun w hw => by go_simp) ?_
  try simp only [Act.put, List.setIfInBounds_toArray, List.set_cons_zero, List.set_cons_succ]
  refine held_part 3 44 rowE rfl rfl (by kernel_rfl) (by kernel_rfl) (by kernel_rfl) rfl hH rfl rfl part2_1 (fun _ h => h.1) ?_
  try simp only [Act.put, List.setIfInBounds_toArray, List.set_cons_zero, List.set_cons_succ]
  refine held_value 4 45 (.int .i64 1) rfl rfl (by kernel_rfl) (by kernel_rfl) (by kernel_rfl) rfl hH (fun w hw => by go_simp) ?_
  try simp only [Act.put, List.setIfInBounds_toArray, List.set_cons_zero, List.set_cons_succ]
  refine held_value 5 46 (.int .i64 0) rfl rfl (by kernel_rfl) (by kernel_rfl) (by kernel_rfl) rfl hH (fun w hw => by (go_simp; exact IntWalk.i64_in _ (by omega))) ?_
  try simp only [Act.put, List.setIfInBounds_toArray, List.set_cons_zero, List.set_cons_succ]
  refine held_value 6 47 (.pointer (some ⟨g9, 0, none⟩)) rfl rfl (by kernel_rfl) (by kernel_rfl) (by kernel_rfl) rfl hH (fun w hw => by go_simp) ?_
  try simp only [Act.put, List.setIfInBounds_toArray, List.set_cons_zero, List.set_cons_succ]
  refine held_part 7 48 rowE rfl rfl (by kernel_rfl) (by kernel_rfl) (by kernel_rfl) rfl hH rfl rfl part2_0 (fun _ h => h.2) ?_
  try simp only [Act.put, List.setIfInBounds_toArray, List.set_cons_zero, List.set_cons_succ]
  refine wpAnyH_ready (rs := [8]) (by kernel_rfl) (by simp) ?_
  refine AllReadyH.cons (o := _) rfl (fun K hK => ?_) AllReadyH.nil
  go_simp
  refine (mul_k _ HV27_1.out HV34_0.out).mono ?_
  rintro e wc ⟨h49_1, rfl, hv, hb⟩
  replace H := Lib.hid (H.out.call hb)
  have HV49_1 := Lib.hid hv
  refine hK.out _ _ (⟨H.out.row 2 rfl, H.out.row 1 rfl⟩) (fun hN => ?_)
  clear hK K hH hb hv
  have hH := hN
  clear hN
  try simp only [Act.put, List.setIfInBounds_toArray, List.set_cons_zero, List.set_cons_succ]
  refine held_value 9 50 (.pointer (some ⟨g10, 8, none⟩)) rfl rfl (by kernel_rfl) (by kernel_rfl) (by kernel_rfl) rfl hH (fun w hw => by go_simp) ?_
  try simp only [Act.put, List.setIfInBounds_toArray, List.set_cons_zero, List.set_cons_succ]
  refine wpAnyH_ready (rs := [10]) (by kernel_rfl) (by simp) ?_
  refine AllReadyH.cons (o := _) rfl (fun K hK => ?_) AllReadyH.nil
  refine own_st_p 0 rfl rowE H.out rfl rfl rfl rfl (by omega) st2_1 ?_
  intro ws HS
  simp only [List.set_cons_zero] at HS
  replace H := Lib.hid HS
  refine hK.out _ _ (⟨H.out.row 2 rfl, H.out.row 1 rfl⟩) (fun hN => ?_)
  clear hK K HS hH
  have hH := hN
  clear hN
  try simp only [List.setIfInBounds_toArray]
  try simp only [Act.put]
  refine wpAnyH_done (by kernel_rfl) ?_ _
  refine NoPanic.normal ?_
  clear hH
  go_wp2_with fail
  rw [rounds_succ]
  go_upto_region 12 with fail
  go_cut [13, 14] from 52 to 57 (fun v13 v14 wx => ∃ g13 g14 h54 h57, v13 = .pointer (some ⟨g13, 0, none⟩) ∧ v14 = .pointer (some ⟨g14, 0, none⟩) ∧ EK h54 ((x0 + z0) * (x0 + z0)) ∧ EK h57 ((x0 - z0) * (x0 - z0)) ∧ Ow w wx [(g13, Blk 29 .u64 8 (NZ h54)), (g14, Blk 29 .u64 8 (NZ h57)), (g10, Blk 32 .u64 16 ((t2 8 (NZ h49_0) (NZ h49_1)))), (g9, Blk 32 .u64 16 ((t2 8 (NZ h34_0) (NZ h34_1)))), (g8, Blk 32 .u64 16 ((t2 8 (NZ h27_0) (NZ h27_1)))), (g7, Blk 32 .u64 16 ((t2 8 (NZ noF) (NZ noF)))), (g6, Blk 32 .u64 16 ((t2 8 (NZ noF) (NZ noF)))), (g5, Blk 32 .u64 16 ((t2 8 (NZ i) (NZ j)))), (g4, Blk 32 .u64 16 ((t2 8 (NZ g) (NZ h)))), (g3, Blk 29 .u64 8 (NZ f))])
  case first =>
    go_wp2_with fail
    refine wp_region_noPanic ?_
    refine wp_region_held_drew (S := fun W => W.heap[g8]? = some (Blk 32 .u64 16 ((t2 8 (NZ h27_0) (NZ h27_1)))) ∧ W.heap[g9]? = some (Blk 32 .u64 16 ((t2 8 (NZ h34_0) (NZ h34_1))))) (by kernel_rfl) (⟨H.out.drew.row 2 rfl, H.out.drew.row 1 rfl⟩) (fun hH => ?_)
    replace H := Lib.hid H.out.drew
    generalize World.drew _ = w8 at *
    refine held_value 0 52 (.pointer (some ⟨g8, 0, none⟩)) rfl rfl (by kernel_rfl) (by kernel_rfl) (by kernel_rfl) rfl hH (fun w hw => by go_simp) ?_
    try simp only [Act.put, List.setIfInBounds_toArray, List.set_cons_zero, List.set_cons_succ]
    refine held_part 1 53 rowE rfl rfl (by kernel_rfl) (by kernel_rfl) (by kernel_rfl) rfl hH rfl rfl part2_0 (fun _ h => h.1) ?_
    try simp only [Act.put, List.setIfInBounds_toArray, List.set_cons_zero, List.set_cons_succ]
    refine held_value 3 55 (.pointer (some ⟨g9, 0, none⟩)) rfl rfl (by kernel_rfl) (by kernel_rfl) (by kernel_rfl) rfl hH (fun w hw => by go_simp) ?_
    try simp only [Act.put, List.setIfInBounds_toArray, List.set_cons_zero, List.set_cons_succ]
    refine held_part 4 56 rowE rfl rfl (by kernel_rfl) (by kernel_rfl) (by kernel_rfl) rfl hH rfl rfl part2_0 (fun _ h => h.2) ?_
    try simp only [Act.put, List.setIfInBounds_toArray, List.set_cons_zero, List.set_cons_succ]
    refine wpAnyH_ready (rs := [2, 6, 7]) (by kernel_rfl) (by simp) ?_
    refine AllReadyH.cons (o := _) rfl (fun K hK => ?_) (AllReadyH.cons (o := _) rfl (fun K hK => ?_) (AllReadyH.cons (o := _) rfl (fun K hK => ?_) AllReadyH.nil))
    · skip
      go_simp
      refine (square_k _ HV27_0.out).mono ?_
      rintro e wc ⟨h54, rfl, hv, hb⟩
      replace H := Lib.hid (H.out.call hb)
      have HV54 := Lib.hid hv
      refine hK.out _ _ (⟨H.out.row 2 rfl, H.out.row 1 rfl⟩) (fun hN => ?_)
      clear hK K hH hb hv
      have hH := hN
      clear hN
      try simp only [Act.put, List.setIfInBounds_toArray, List.set_cons_zero, List.set_cons_succ]
      refine wpAnyH_ready (rs := [5, 6, 7]) (by kernel_rfl) (by simp) ?_
      refine AllReadyH.cons (o := _) rfl (fun K hK => ?_) (AllReadyH.cons (o := _) rfl (fun K hK => ?_) (AllReadyH.cons (o := _) rfl (fun K hK => ?_) AllReadyH.nil))
      · skip
        go_simp
        refine (square_k _ HV34_0.out).mono ?_
        rintro e wc ⟨h57, rfl, hv, hb⟩
        replace H := Lib.hid (H.out.call hb)
        have HV57 := Lib.hid hv
        refine hK.out _ _ (⟨H.out.row 2 rfl, H.out.row 1 rfl⟩) (fun hN => ?_)
        clear hK K hH hb hv
        have hH := hN
        clear hN
        try simp only [Act.put, List.setIfInBounds_toArray, List.set_cons_zero, List.set_cons_succ]
        refine wpAnyH_ready (rs := [6, 7]) (by kernel_rfl) (by simp) ?_
        refine AllReadyH.cons (o := _) rfl (fun K hK => ?_) (AllReadyH.cons (o := _) rfl (fun K hK => ?_) AllReadyH.nil)
        · skip
          refine own_wp_allocB 13 rfl nilE H.out rfl ?_
          intro w13 g13 H3 hb
          replace H := Lib.hid H3
          refine hK.out _ _ (⟨H.out.row 3 rfl, H.out.row 2 rfl⟩) (fun hN => ?_)
          clear hK K hH H3 hb
          have hH := hN
          clear hN
          try simp only [Act.put, List.setIfInBounds_toArray, List.set_cons_zero, List.set_cons_succ]
          refine wpAnyH_ready (rs := [7]) (by kernel_rfl) (by simp) ?_
          refine AllReadyH.cons (o := _) rfl (fun K hK => ?_) AllReadyH.nil
          refine own_wp_allocB 14 rfl nilE H.out rfl ?_
          intro w14 g14 H3 hb
          replace H := Lib.hid H3
          refine hK.out _ _ (⟨H.out.row 4 rfl, H.out.row 3 rfl⟩) (fun hN => ?_)
          clear hK K hH H3 hb
          have hH := hN
          clear hN
          try simp only [Act.put, List.setIfInBounds_toArray, List.set_cons_zero, List.set_cons_succ]
          refine wpAnyH_ready (rs := [8]) (by kernel_rfl) (by simp) ?_
          refine AllReadyH.cons (o := _) rfl (fun K hK => ?_) AllReadyH.nil
          refine own_st 1 rfl rowE H.out rfl rfl rfl rfl ?_
          intro ws HS
          simp only [List.set_cons_zero, List.set_cons_succ] at HS
          replace H := Lib.hid HS
          refine hK.out _ _ (⟨H.out.row 4 rfl, H.out.row 3 rfl⟩) (fun hN => ?_)
          clear hK K HS hH
          have hH := hN
          clear hN
          try simp only [List.setIfInBounds_toArray]
          refine wpAnyH_ready (rs := [9]) (by kernel_rfl) (by simp) ?_
          refine AllReadyH.cons (o := _) rfl (fun K hK => ?_) AllReadyH.nil
          refine own_st 0 rfl rowE H.out rfl rfl rfl rfl ?_
          intro ws HS
          simp only [List.set_cons_zero] at HS
          replace H := Lib.hid HS
          refine hK.out _ _ (⟨H.out.row 4 rfl, H.out.row 3 rfl⟩) (fun hN => ?_)
          clear hK K HS hH
          have hH := hN
          clear hN
          try simp only [List.setIfInBounds_toArray]
          try simp only [Act.put]
          refine wpAnyH_done (by kernel_rfl) ?_ _
          refine NoPanic.normal ?_
          clear hH
          replace H := Lib.hid (H.out.front (x := (g13, Blk 29 .u64 8 (NZ h54))) 1 rfl)
          go_wp2_with fail
          go_meet
          exact ⟨g13, g14, h54, h57, rfl, rfl, HV54.out, HV57.out, H.out⟩
        · skip
          refine own_wp_allocB 14 rfl nilE H.out rfl ?_
          intro w14 g14 H3 hb
          replace H := Lib.hid H3
          refine hK.out _ _ (⟨H.out.row 3 rfl, H.out.row 2 rfl⟩) (fun hN => ?_)
          clear hK K hH H3 hb
          have hH := hN
          clear hN
          try simp only [Act.put, List.setIfInBounds_toArray, List.set_cons_zero, List.set_cons_succ]
          refine wpAnyH_ready (rs := [6]) (by kernel_rfl) (by simp) ?_
          refine AllReadyH.cons (o := _) rfl (fun K hK => ?_) AllReadyH.nil
          refine own_wp_allocB 13 rfl nilE H.out rfl ?_
          intro w13 g13 H3 hb
          replace H := Lib.hid H3
          refine hK.out _ _ (⟨H.out.row 4 rfl, H.out.row 3 rfl⟩) (fun hN => ?_)
          clear hK K hH H3 hb
          have hH := hN
          clear hN
          try simp only [Act.put, List.setIfInBounds_toArray, List.set_cons_zero, List.set_cons_succ]
          refine wpAnyH_ready (rs := [8]) (by kernel_rfl) (by simp) ?_
          refine AllReadyH.cons (o := _) rfl (fun K hK => ?_) AllReadyH.nil
          refine own_st 0 rfl rowE H.out rfl rfl rfl rfl ?_
          intro ws HS
          simp only [List.set_cons_zero] at HS
          replace H := Lib.hid HS
          refine hK.out _ _ (⟨H.out.row 4 rfl, H.out.row 3 rfl⟩) (fun hN => ?_)
          clear hK K HS hH
          have hH := hN
          clear hN
          try simp only [List.setIfInBounds_toArray]
          refine wpAnyH_ready (rs := [9]) (by kernel_rfl) (by simp) ?_
          refine AllReadyH.cons (o := _) rfl (fun K hK => ?_) AllReadyH.nil
          refine own_st 1 rfl rowE H.out rfl rfl rfl rfl ?_
          intro ws HS
          simp only [List.set_cons_zero, List.set_cons_succ] at HS
          replace H := Lib.hid HS
          refine hK.out _ _ (⟨H.out.row 4 rfl, H.out.row 3 rfl⟩) (fun hN => ?_)
          clear hK K HS hH
          have hH := hN
          clear hN
          try simp only [List.setIfInBounds_toArray]
          try simp only [Act.put]
          refine wpAnyH_done (by kernel_rfl) ?_ _
          refine NoPanic.normal ?_
          clear hH
          replace H := Lib.hid (H.out.front (x := (g14, Blk 29 .u64 8 (NZ h57))) 1 rfl)
          replace H := Lib.hid (H.out.front (x := (g13, Blk 29 .u64 8 (NZ h54))) 1 rfl)
          go_wp2_with fail
          go_meet
          exact ⟨g13, g14, h54, h57, rfl, rfl, HV54.out, HV57.out, H.out⟩
      · skip
        refine own_wp_allocB 13 rfl nilE H.out rfl ?_
        intro w13 g13 H3 hb
        replace H := Lib.hid H3
        refine hK.out _ _ (⟨H.out.row 3 rfl, H.out.row 2 rfl⟩) (fun hN => ?_)
        clear hK K hH H3 hb
        have hH := hN
        clear hN
        try simp only [Act.put, List.setIfInBounds_toArray, List.set_cons_zero, List.set_cons_succ]
        refine wpAnyH_ready (rs := [5, 7]) (by kernel_rfl) (by simp) ?_
        refine AllReadyH.cons (o := _) rfl (fun K hK => ?_) (AllReadyH.cons (o := _) rfl (fun K hK => ?_) AllReadyH.nil)
        · skip
          go_simp
          refine (square_k _ HV34_0.out).mono ?_
          rintro e wc ⟨h57, rfl, hv, hb⟩
          replace H := Lib.hid (H.out.call hb)
          have HV57 := Lib.hid hv
          refine hK.out _ _ (⟨H.out.row 3 rfl, H.out.row 2 rfl⟩) (fun hN => ?_)
          clear hK K hH hb hv
          have hH := hN
          clear hN
          try simp only [Act.put, List.setIfInBounds_toArray, List.set_cons_zero, List.set_cons_succ]
          refine wpAnyH_ready (rs := [7]) (by kernel_rfl) (by simp) ?_
          refine AllReadyH.cons (o := _) rfl (fun K hK => ?_) AllReadyH.nil
          refine own_wp_allocB 14 rfl nilE H.out rfl ?_
          intro w14 g14 H3 hb
          replace H := Lib.hid H3
          refine hK.out _ _ (⟨H.out.row 4 rfl, H.out.row 3 rfl⟩) (fun hN => ?_)
          clear hK K hH H3 hb
          have hH := hN
          clear hN
          try simp only [Act.put, List.setIfInBounds_toArray, List.set_cons_zero, List.set_cons_succ]
          refine wpAnyH_ready (rs := [8]) (by kernel_rfl) (by simp) ?_
          refine AllReadyH.cons (o := _) rfl (fun K hK => ?_) AllReadyH.nil
          refine own_st 1 rfl rowE H.out rfl rfl rfl rfl ?_
          intro ws HS
          simp only [List.set_cons_zero, List.set_cons_succ] at HS
          replace H := Lib.hid HS
          refine hK.out _ _ (⟨H.out.row 4 rfl, H.out.row 3 rfl⟩) (fun hN => ?_)
          clear hK K HS hH
          have hH := hN
          clear hN
          try simp only [List.setIfInBounds_toArray]
          refine wpAnyH_ready (rs := [9]) (by kernel_rfl) (by simp) ?_
          refine AllReadyH.cons (o := _) rfl (fun K hK => ?_) AllReadyH.nil
          refine own_st 0 rfl rowE H.out rfl rfl rfl rfl ?_
          intro ws HS
          simp only [List.set_cons_zero] at HS
          replace H := Lib.hid HS
          refine hK.out _ _ (⟨H.out.row 4 rfl, H.out.row 3 rfl⟩) (fun hN => ?_)
          clear hK K HS hH
          have hH := hN
          clear hN
          try simp only [List.setIfInBounds_toArray]
          try simp only [Act.put]
          refine wpAnyH_done (by kernel_rfl) ?_ _
          refine NoPanic.normal ?_
          clear hH
          replace H := Lib.hid (H.out.front (x := (g13, Blk 29 .u64 8 (NZ h54))) 1 rfl)
          go_wp2_with fail
          go_meet
          exact ⟨g13, g14, h54, h57, rfl, rfl, HV54.out, HV57.out, H.out⟩
        · skip
          refine own_wp_allocB 14 rfl nilE H.out rfl ?_
          intro w14 g14 H3 hb
          replace H := Lib.hid H3
          refine hK.out _ _ (⟨H.out.row 4 rfl, H.out.row 3 rfl⟩) (fun hN => ?_)
          clear hK K hH H3 hb
          have hH := hN
          clear hN
          try simp only [Act.put, List.setIfInBounds_toArray, List.set_cons_zero, List.set_cons_succ]
          refine wpAnyH_ready (rs := [5]) (by kernel_rfl) (by simp) ?_
          refine AllReadyH.cons (o := _) rfl (fun K hK => ?_) AllReadyH.nil
          go_simp
          refine (square_k _ HV34_0.out).mono ?_
          rintro e wc ⟨h57, rfl, hv, hb⟩
          replace H := Lib.hid (H.out.call hb)
          have HV57 := Lib.hid hv
          refine hK.out _ _ (⟨H.out.row 4 rfl, H.out.row 3 rfl⟩) (fun hN => ?_)
          clear hK K hH hb hv
          have hH := hN
          clear hN
          try simp only [Act.put, List.setIfInBounds_toArray, List.set_cons_zero, List.set_cons_succ]
          refine wpAnyH_ready (rs := [8]) (by kernel_rfl) (by simp) ?_
          refine AllReadyH.cons (o := _) rfl (fun K hK => ?_) AllReadyH.nil
          refine own_st 1 rfl rowE H.out rfl rfl rfl rfl ?_
          intro ws HS
          simp only [List.set_cons_zero, List.set_cons_succ] at HS
          replace H := Lib.hid HS
          refine hK.out _ _ (⟨H.out.row 4 rfl, H.out.row 3 rfl⟩) (fun hN => ?_)
          clear hK K HS hH
          have hH := hN
          clear hN
          try simp only [List.setIfInBounds_toArray]
          refine wpAnyH_ready (rs := [9]) (by kernel_rfl) (by simp) ?_
          refine AllReadyH.cons (o := _) rfl (fun K hK => ?_) AllReadyH.nil
          refine own_st 0 rfl rowE H.out rfl rfl rfl rfl ?_
          intro ws HS
          simp only [List.set_cons_zero] at HS
          replace H := Lib.hid HS
          refine hK.out _ _ (⟨H.out.row 4 rfl, H.out.row 3 rfl⟩) (fun hN => ?_)
          clear hK K HS hH
          have hH := hN
          clear hN
          try simp only [List.setIfInBounds_toArray]
          try simp only [Act.put]
          refine wpAnyH_done (by kernel_rfl) ?_ _
          refine NoPanic.normal ?_
          clear hH
          replace H := Lib.hid (H.out.front (x := (g13, Blk 29 .u64 8 (NZ h54))) 1 rfl)
          go_wp2_with fail
          go_meet
          exact ⟨g13, g14, h54, h57, rfl, rfl, HV54.out, HV57.out, H.out⟩
      · skip
        refine own_wp_allocB 14 rfl nilE H.out rfl ?_
        intro w14 g14 H3 hb
        replace H := Lib.hid H3
        refine hK.out _ _ (⟨H.out.row 3 rfl, H.out.row 2 rfl⟩) (fun hN => ?_)
        clear hK K hH H3 hb
        have hH := hN
        clear hN
        try simp only [Act.put, List.setIfInBounds_toArray, List.set_cons_zero, List.set_cons_succ]
        refine wpAnyH_ready (rs := [5, 6]) (by kernel_rfl) (by simp) ?_
        refine AllReadyH.cons (o := _) rfl (fun K hK => ?_) (AllReadyH.cons (o := _) rfl (fun K hK => ?_) AllReadyH.nil)
        · skip
          go_simp
          refine (square_k _ HV34_0.out).mono ?_
          rintro e wc ⟨h57, rfl, hv, hb⟩
          replace H := Lib.hid (H.out.call hb)
          have HV57 := Lib.hid hv
          refine hK.out _ _ (⟨H.out.row 3 rfl, H.out.row 2 rfl⟩) (fun hN => ?_)
          clear hK K hH hb hv
          have hH := hN
          clear hN
          try simp only [Act.put, List.setIfInBounds_toArray, List.set_cons_zero, List.set_cons_succ]
          refine wpAnyH_ready (rs := [6]) (by kernel_rfl) (by simp) ?_
          refine AllReadyH.cons (o := _) rfl (fun K hK => ?_) AllReadyH.nil
          refine own_wp_allocB 13 rfl nilE H.out rfl ?_
          intro w13 g13 H3 hb
          replace H := Lib.hid H3
          refine hK.out _ _ (⟨H.out.row 4 rfl, H.out.row 3 rfl⟩) (fun hN => ?_)
          clear hK K hH H3 hb
          have hH := hN
          clear hN
          try simp only [Act.put, List.setIfInBounds_toArray, List.set_cons_zero, List.set_cons_succ]
          refine wpAnyH_ready (rs := [8]) (by kernel_rfl) (by simp) ?_
          refine AllReadyH.cons (o := _) rfl (fun K hK => ?_) AllReadyH.nil
          refine own_st 0 rfl rowE H.out rfl rfl rfl rfl ?_
          intro ws HS
          simp only [List.set_cons_zero] at HS
          replace H := Lib.hid HS
          refine hK.out _ _ (⟨H.out.row 4 rfl, H.out.row 3 rfl⟩) (fun hN => ?_)
          clear hK K HS hH
          have hH := hN
          clear hN
          try simp only [List.setIfInBounds_toArray]
          refine wpAnyH_ready (rs := [9]) (by kernel_rfl) (by simp) ?_
          refine AllReadyH.cons (o := _) rfl (fun K hK => ?_) AllReadyH.nil
          refine own_st 1 rfl rowE H.out rfl rfl rfl rfl ?_
          intro ws HS
          simp only [List.set_cons_zero, List.set_cons_succ] at HS
          replace H := Lib.hid HS
          refine hK.out _ _ (⟨H.out.row 4 rfl, H.out.row 3 rfl⟩) (fun hN => ?_)
          clear hK K HS hH
          have hH := hN
          clear hN
          try simp only [List.setIfInBounds_toArray]
          try simp only [Act.put]
          refine wpAnyH_done (by kernel_rfl) ?_ _
          refine NoPanic.normal ?_
          clear hH
          replace H := Lib.hid (H.out.front (x := (g14, Blk 29 .u64 8 (NZ h57))) 1 rfl)
          replace H := Lib.hid (H.out.front (x := (g13, Blk 29 .u64 8 (NZ h54))) 1 rfl)
          go_wp2_with fail
          go_meet
          exact ⟨g13, g14, h54, h57, rfl, rfl, HV54.out, HV57.out, H.out⟩
        · skip
          refine own_wp_allocB 13 rfl nilE H.out rfl ?_
          intro w13 g13 H3 hb
          replace H := Lib.hid H3
          refine hK.out _ _ (⟨H.out.row 4 rfl, H.out.row 3 rfl⟩) (fun hN => ?_)
          clear hK K hH H3 hb
          have hH := hN
          clear hN
          try simp only [Act.put, List.setIfInBounds_toArray, List.set_cons_zero, List.set_cons_succ]
          refine wpAnyH_ready (rs := [5]) (by kernel_rfl) (by simp) ?_
          refine AllReadyH.cons (o := _) rfl (fun K hK => ?_) AllReadyH.nil
          go_simp
          refine (square_k _ HV34_0.out).mono ?_
          rintro e wc ⟨h57, rfl, hv, hb⟩
          replace H := Lib.hid (H.out.call hb)
          have HV57 := Lib.hid hv
          refine hK.out _ _ (⟨H.out.row 4 rfl, H.out.row 3 rfl⟩) (fun hN => ?_)
          clear hK K hH hb hv
          have hH := hN
          clear hN
          try simp only [Act.put, List.setIfInBounds_toArray, List.set_cons_zero, List.set_cons_succ]
          refine wpAnyH_ready (rs := [8]) (by kernel_rfl) (by simp) ?_
          refine AllReadyH.cons (o := _) rfl (fun K hK => ?_) AllReadyH.nil
          refine own_st 0 rfl rowE H.out rfl rfl rfl rfl ?_
          intro ws HS
          simp only [List.set_cons_zero] at HS
          replace H := Lib.hid HS
          refine hK.out _ _ (⟨H.out.row 4 rfl, H.out.row 3 rfl⟩) (fun hN => ?_)
          clear hK K HS hH
          have hH := hN
          clear hN
          try simp only [List.setIfInBounds_toArray]
          refine wpAnyH_ready (rs := [9]) (by kernel_rfl) (by simp) ?_
          refine AllReadyH.cons (o := _) rfl (fun K hK => ?_) AllReadyH.nil
          refine own_st 1 rfl rowE H.out rfl rfl rfl rfl ?_
          intro ws HS
          simp only [List.set_cons_zero, List.set_cons_succ] at HS
          replace H := Lib.hid HS
          refine hK.out _ _ (⟨H.out.row 4 rfl, H.out.row 3 rfl⟩) (fun hN => ?_)
          clear hK K HS hH
          have hH := hN
          clear hN
          try simp only [List.setIfInBounds_toArray]
          try simp only [Act.put]
          refine wpAnyH_done (by kernel_rfl) ?_ _
          refine NoPanic.normal ?_
          clear hH
          replace H := Lib.hid (H.out.front (x := (g14, Blk 29 .u64 8 (NZ h57))) 1 rfl)
          replace H := Lib.hid (H.out.front (x := (g13, Blk 29 .u64 8 (NZ h54))) 1 rfl)
          go_wp2_with fail
          go_meet
          exact ⟨g13, g14, h54, h57, rfl, rfl, HV54.out, HV57.out, H.out⟩
    · skip
      refine own_wp_allocB 13 rfl nilE H.out rfl ?_
      intro w13 g13 H3 hb
      replace H := Lib.hid H3
      refine hK.out _ _ (⟨H.out.row 3 rfl, H.out.row 2 rfl⟩) (fun hN => ?_)
      clear hK K hH H3 hb
      have hH := hN
      clear hN
      try simp only [Act.put, List.setIfInBounds_toArray, List.set_cons_zero, List.set_cons_succ]
      refine wpAnyH_ready (rs := [2, 7]) (by kernel_rfl) (by simp) ?_
      refine AllReadyH.cons (o := _) rfl (fun K hK => ?_) (AllReadyH.cons (o := _) rfl (fun K hK => ?_) AllReadyH.nil)
      · skip
        go_simp
        refine (square_k _ HV27_0.out).mono ?_
        rintro e wc ⟨h54, rfl, hv, hb⟩
        replace H := Lib.hid (H.out.call hb)
        have HV54 := Lib.hid hv
        refine hK.out _ _ (⟨H.out.row 3 rfl, H.out.row 2 rfl⟩) (fun hN => ?_)
        clear hK K hH hb hv
        have hH := hN
        clear hN
        try simp only [Act.put, List.setIfInBounds_toArray, List.set_cons_zero, List.set_cons_succ]
        refine wpAnyH_ready (rs := [5, 7]) (by kernel_rfl) (by simp) ?_
        refine AllReadyH.cons (o := _) rfl (fun K hK => ?_) (AllReadyH.cons (o := _) rfl (fun K hK => ?_) AllReadyH.nil)
        · skip
          go_simp
          refine (square_k _ HV34_0.out).mono ?_
          rintro e wc ⟨h57, rfl, hv, hb⟩
          replace H := Lib.hid (H.out.call hb)
          have HV57 := Lib.hid hv
          refine hK.out _ _ (⟨H.out.row 3 rfl, H.out.row 2 rfl⟩) (fun hN => ?_)
          clear hK K hH hb hv
          have hH := hN
          clear hN
          try simp only [Act.put, List.setIfInBounds_toArray, List.set_cons_zero, List.set_cons_succ]
          refine wpAnyH_ready (rs := [7]) (by kernel_rfl) (by simp) ?_
          refine AllReadyH.cons (o := _) rfl (fun K hK => ?_) AllReadyH.nil
          refine own_wp_allocB 14 rfl nilE H.out rfl ?_
          intro w14 g14 H3 hb
          replace H := Lib.hid H3
          refine hK.out _ _ (⟨H.out.row 4 rfl, H.out.row 3 rfl⟩) (fun hN => ?_)
          clear hK K hH H3 hb
          have hH := hN
          clear hN
          try simp only [Act.put, List.setIfInBounds_toArray, List.set_cons_zero, List.set_cons_succ]
          refine wpAnyH_ready (rs := [8]) (by kernel_rfl) (by simp) ?_
          refine AllReadyH.cons (o := _) rfl (fun K hK => ?_) AllReadyH.nil
          refine own_st 1 rfl rowE H.out rfl rfl rfl rfl ?_
          intro ws HS
          simp only [List.set_cons_zero, List.set_cons_succ] at HS
          replace H := Lib.hid HS
          refine hK.out _ _ (⟨H.out.row 4 rfl, H.out.row 3 rfl⟩) (fun hN => ?_)
          clear hK K HS hH
          have hH := hN
          clear hN
          try simp only [List.setIfInBounds_toArray]
          refine wpAnyH_ready (rs := [9]) (by kernel_rfl) (by simp) ?_
          refine AllReadyH.cons (o := _) rfl (fun K hK => ?_) AllReadyH.nil
          refine own_st 0 rfl rowE H.out rfl rfl rfl rfl ?_
          intro ws HS
          simp only [List.set_cons_zero] at HS
          replace H := Lib.hid HS
          refine hK.out _ _ (⟨H.out.row 4 rfl, H.out.row 3 rfl⟩) (fun hN => ?_)
          clear hK K HS hH
          have hH := hN
          clear hN
          try simp only [List.setIfInBounds_toArray]
          try simp only [Act.put]
          refine wpAnyH_done (by kernel_rfl) ?_ _
          refine NoPanic.normal ?_
          clear hH
          replace H := Lib.hid (H.out.front (x := (g13, Blk 29 .u64 8 (NZ h54))) 1 rfl)
          go_wp2_with fail
          go_meet
          exact ⟨g13, g14, h54, h57, rfl, rfl, HV54.out, HV57.out, H.out⟩
        · skip
          refine own_wp_allocB 14 rfl nilE H.out rfl ?_
          intro w14 g14 H3 hb
          replace H := Lib.hid H3
          refine hK.out _ _ (⟨H.out.row 4 rfl, H.out.row 3 rfl⟩) (fun hN => ?_)
          clear hK K hH H3 hb
          have hH := hN
          clear hN
          try simp only [Act.put, List.setIfInBounds_toArray, List.set_cons_zero, List.set_cons_succ]
          refine wpAnyH_ready (rs := [5]) (by kernel_rfl) (by simp) ?_
          refine AllReadyH.cons (o := _) rfl (fun K hK => ?_) AllReadyH.nil
          go_simp
          refine (square_k _ HV34_0.out).mono ?_
          rintro e wc ⟨h57, rfl, hv, hb⟩
          replace H := Lib.hid (H.out.call hb)
          have HV57 := Lib.hid hv
          refine hK.out _ _ (⟨H.out.row 4 rfl, H.out.row 3 rfl⟩) (fun hN => ?_)
          clear hK K hH hb hv
          have hH := hN
          clear hN
          try simp only [Act.put, List.setIfInBounds_toArray, List.set_cons_zero, List.set_cons_succ]
          refine wpAnyH_ready (rs := [8]) (by kernel_rfl) (by simp) ?_
          refine AllReadyH.cons (o := _) rfl (fun K hK => ?_) AllReadyH.nil
          refine own_st 1 rfl rowE H.out rfl rfl rfl rfl ?_
          intro ws HS
          simp only [List.set_cons_zero, List.set_cons_succ] at HS
          replace H := Lib.hid HS
          refine hK.out _ _ (⟨H.out.row 4 rfl, H.out.row 3 rfl⟩) (fun hN => ?_)
          clear hK K HS hH
          have hH := hN
          clear hN
          try simp only [List.setIfInBounds_toArray]
          refine wpAnyH_ready (rs := [9]) (by kernel_rfl) (by simp) ?_
          refine AllReadyH.cons (o := _) rfl (fun K hK => ?_) AllReadyH.nil
          refine own_st 0 rfl rowE H.out rfl rfl rfl rfl ?_
          intro ws HS
          simp only [List.set_cons_zero] at HS
          replace H := Lib.hid HS
          refine hK.out _ _ (⟨H.out.row 4 rfl, H.out.row 3 rfl⟩) (fun hN => ?_)
          clear hK K HS hH
          have hH := hN
          clear hN
          try simp only [List.setIfInBounds_toArray]
          try simp only [Act.put]
          refine wpAnyH_done (by kernel_rfl) ?_ _
          refine NoPanic.normal ?_
          clear hH
          replace H := Lib.hid (H.out.front (x := (g13, Blk 29 .u64 8 (NZ h54))) 1 rfl)
          go_wp2_with fail
          go_meet
          exact ⟨g13, g14, h54, h57, rfl, rfl, HV54.out, HV57.out, H.out⟩
      · skip
        refine own_wp_allocB 14 rfl nilE H.out rfl ?_
        intro w14 g14 H3 hb
        replace H := Lib.hid H3
        refine hK.out _ _ (⟨H.out.row 4 rfl, H.out.row 3 rfl⟩) (fun hN => ?_)
        clear hK K hH H3 hb
        have hH := hN
        clear hN
        try simp only [Act.put, List.setIfInBounds_toArray, List.set_cons_zero, List.set_cons_succ]
        refine wpAnyH_ready (rs := [2]) (by kernel_rfl) (by simp) ?_
        refine AllReadyH.cons (o := _) rfl (fun K hK => ?_) AllReadyH.nil
        go_simp
        refine (square_k _ HV27_0.out).mono ?_
        rintro e wc ⟨h54, rfl, hv, hb⟩
        replace H := Lib.hid (H.out.call hb)
        have HV54 := Lib.hid hv
        refine hK.out _ _ (⟨H.out.row 4 rfl, H.out.row 3 rfl⟩) (fun hN => ?_)
        clear hK K hH hb hv
        have hH := hN
        clear hN
        try simp only [Act.put, List.setIfInBounds_toArray, List.set_cons_zero, List.set_cons_succ]
        refine wpAnyH_ready (rs := [5]) (by kernel_rfl) (by simp) ?_
        refine AllReadyH.cons (o := _) rfl (fun K hK => ?_) AllReadyH.nil
        go_simp
        refine (square_k _ HV34_0.out).mono ?_
        rintro e wc ⟨h57, rfl, hv, hb⟩
        replace H := Lib.hid (H.out.call hb)
        have HV57 := Lib.hid hv
        refine hK.out _ _ (⟨H.out.row 4 rfl, H.out.row 3 rfl⟩) (fun hN => ?_)
        clear hK K hH hb hv
        have hH := hN
        clear hN
        try simp only [Act.put, List.setIfInBounds_toArray, List.set_cons_zero, List.set_cons_succ]
        refine wpAnyH_ready (rs := [8]) (by kernel_rfl) (by simp) ?_
        refine AllReadyH.cons (o := _) rfl (fun K hK => ?_) AllReadyH.nil
        refine own_st 1 rfl rowE H.out rfl rfl rfl rfl ?_
        intro ws HS
        simp only [List.set_cons_zero, List.set_cons_succ] at HS
        replace H := Lib.hid HS
        refine hK.out _ _ (⟨H.out.row 4 rfl, H.out.row 3 rfl⟩) (fun hN => ?_)
        clear hK K HS hH
        have hH := hN
        clear hN
        try simp only [List.setIfInBounds_toArray]
        refine wpAnyH_ready (rs := [9]) (by kernel_rfl) (by simp) ?_
        refine AllReadyH.cons (o := _) rfl (fun K hK => ?_) AllReadyH.nil
        refine own_st 0 rfl rowE H.out rfl rfl rfl rfl ?_
        intro ws HS
        simp only [List.set_cons_zero] at HS
        replace H := Lib.hid HS
        refine hK.out _ _ (⟨H.out.row 4 rfl, H.out.row 3 rfl⟩) (fun hN => ?_)
        clear hK K HS hH
        have hH := hN
        clear hN
        try simp only [List.setIfInBounds_toArray]
        try simp only [Act.put]
        refine wpAnyH_done (by kernel_rfl) ?_ _
        refine NoPanic.normal ?_
        clear hH
        replace H := Lib.hid (H.out.front (x := (g13, Blk 29 .u64 8 (NZ h54))) 1 rfl)
        go_wp2_with fail
        go_meet
        exact ⟨g13, g14, h54, h57, rfl, rfl, HV54.out, HV57.out, H.out⟩
    · skip
      refine own_wp_allocB 14 rfl nilE H.out rfl ?_
      intro w14 g14 H3 hb
      replace H := Lib.hid H3
      refine hK.out _ _ (⟨H.out.row 3 rfl, H.out.row 2 rfl⟩) (fun hN => ?_)
      clear hK K hH H3 hb
      have hH := hN
      clear hN
      try simp only [Act.put, List.setIfInBounds_toArray, List.set_cons_zero, List.set_cons_succ]
      refine wpAnyH_ready (rs := [2, 6]) (by kernel_rfl) (by simp) ?_
      refine AllReadyH.cons (o := _) rfl (fun K hK => ?_) (AllReadyH.cons (o := _) rfl (fun K hK => ?_) AllReadyH.nil)
      · skip
        go_simp
        refine (square_k _ HV27_0.out).mono ?_
        rintro e wc ⟨h54, rfl, hv, hb⟩
        replace H := Lib.hid (H.out.call hb)
        have HV54 := Lib.hid hv
        refine hK.out _ _ (⟨H.out.row 3 rfl, H.out.row 2 rfl⟩) (fun hN => ?_)
        clear hK K hH hb hv
        have hH := hN
        clear hN
        try simp only [Act.put, List.setIfInBounds_toArray, List.set_cons_zero, List.set_cons_succ]
        refine wpAnyH_ready (rs := [5, 6]) (by kernel_rfl) (by simp) ?_
        refine AllReadyH.cons (o := _) rfl (fun K hK => ?_) (AllReadyH.cons (o := _) rfl (fun K hK => ?_) AllReadyH.nil)
        · skip
          go_simp
          refine (square_k _ HV34_0.out).mono ?_
          rintro e wc ⟨h57, rfl, hv, hb⟩
          replace H := Lib.hid (H.out.call hb)
          have HV57 := Lib.hid hv
          refine hK.out _ _ (⟨H.out.row 3 rfl, H.out.row 2 rfl⟩) (fun hN => ?_)
          clear hK K hH hb hv
          have hH := hN
          clear hN
          try simp only [Act.put, List.setIfInBounds_toArray, List.set_cons_zero, List.set_cons_succ]
          refine wpAnyH_ready (rs := [6]) (by kernel_rfl) (by simp) ?_
          refine AllReadyH.cons (o := _) rfl (fun K hK => ?_) AllReadyH.nil
          refine own_wp_allocB 13 rfl nilE H.out rfl ?_
          intro w13 g13 H3 hb
          replace H := Lib.hid H3
          refine hK.out _ _ (⟨H.out.row 4 rfl, H.out.row 3 rfl⟩) (fun hN => ?_)
          clear hK K hH H3 hb
          have hH := hN
          clear hN
          try simp only [Act.put, List.setIfInBounds_toArray, List.set_cons_zero, List.set_cons_succ]
          refine wpAnyH_ready (rs := [8]) (by kernel_rfl) (by simp) ?_
          refine AllReadyH.cons (o := _) rfl (fun K hK => ?_) AllReadyH.nil
          refine own_st 0 rfl rowE H.out rfl rfl rfl rfl ?_
          intro ws HS
          simp only [List.set_cons_zero] at HS
          replace H := Lib.hid HS
          refine hK.out _ _ (⟨H.out.row 4 rfl, H.out.row 3 rfl⟩) (fun hN => ?_)
          clear hK K HS hH
          have hH := hN
          clear hN
          try simp only [List.setIfInBounds_toArray]
          refine wpAnyH_ready (rs := [9]) (by kernel_rfl) (by simp) ?_
          refine AllReadyH.cons (o := _) rfl (fun K hK => ?_) AllReadyH.nil
          refine own_st 1 rfl rowE H.out rfl rfl rfl rfl ?_
          intro ws HS
          simp only [List.set_cons_zero, List.set_cons_succ] at HS
          replace H := Lib.hid HS
          refine hK.out _ _ (⟨H.out.row 4 rfl, H.out.row 3 rfl⟩) (fun hN => ?_)
          clear hK K HS hH
          have hH := hN
          clear hN
          try simp only [List.setIfInBounds_toArray]
          try simp only [Act.put]
          refine wpAnyH_done (by kernel_rfl) ?_ _
          refine NoPanic.normal ?_
          clear hH
          replace H := Lib.hid (H.out.front (x := (g14, Blk 29 .u64 8 (NZ h57))) 1 rfl)
          replace H := Lib.hid (H.out.front (x := (g13, Blk 29 .u64 8 (NZ h54))) 1 rfl)
          go_wp2_with fail
          go_meet
          exact ⟨g13, g14, h54, h57, rfl, rfl, HV54.out, HV57.out, H.out⟩
        · skip
          refine own_wp_allocB 13 rfl nilE H.out rfl ?_
          intro w13 g13 H3 hb
          replace H := Lib.hid H3
          refine hK.out _ _ (⟨H.out.row 4 rfl, H.out.row 3 rfl⟩) (fun hN => ?_)
          clear hK K hH H3 hb
          have hH := hN
          clear hN
          try simp only [Act.put, List.setIfInBounds_toArray, List.set_cons_zero, List.set_cons_succ]
          refine wpAnyH_ready (rs := [5]) (by kernel_rfl) (by simp) ?_
          refine AllReadyH.cons (o := _) rfl (fun K hK => ?_) AllReadyH.nil
          go_simp
          refine (square_k _ HV34_0.out).mono ?_
          rintro e wc ⟨h57, rfl, hv, hb⟩
          replace H := Lib.hid (H.out.call hb)
          have HV57 := Lib.hid hv
          refine hK.out _ _ (⟨H.out.row 4 rfl, H.out.row 3 rfl⟩) (fun hN => ?_)
          clear hK K hH hb hv
          have hH := hN
          clear hN
          try simp only [Act.put, List.setIfInBounds_toArray, List.set_cons_zero, List.set_cons_succ]
          refine wpAnyH_ready (rs := [8]) (by kernel_rfl) (by simp) ?_
          refine AllReadyH.cons (o := _) rfl (fun K hK => ?_) AllReadyH.nil
          refine own_st 0 rfl rowE H.out rfl rfl rfl rfl ?_
          intro ws HS
          simp only [List.set_cons_zero] at HS
          replace H := Lib.hid HS
          refine hK.out _ _ (⟨H.out.row 4 rfl, H.out.row 3 rfl⟩) (fun hN => ?_)
          clear hK K HS hH
          have hH := hN
          clear hN
          try simp only [List.setIfInBounds_toArray]
          refine wpAnyH_ready (rs := [9]) (by kernel_rfl) (by simp) ?_
          refine AllReadyH.cons (o := _) rfl (fun K hK => ?_) AllReadyH.nil
          refine own_st 1 rfl rowE H.out rfl rfl rfl rfl ?_
          intro ws HS
          simp only [List.set_cons_zero, List.set_cons_succ] at HS
          replace H := Lib.hid HS
          refine hK.out _ _ (⟨H.out.row 4 rfl, H.out.row 3 rfl⟩) (fun hN => ?_)
          clear hK K HS hH
          have hH := hN
          clear hN
          try simp only [List.setIfInBounds_toArray]
          try simp only [Act.put]
          refine wpAnyH_done (by kernel_rfl) ?_ _
          refine NoPanic.normal ?_
          clear hH
          replace H := Lib.hid (H.out.front (x := (g14, Blk 29 .u64 8 (NZ h57))) 1 rfl)
          replace H := Lib.hid (H.out.front (x := (g13, Blk 29 .u64 8 (NZ h54))) 1 rfl)
          go_wp2_with fail
          go_meet
          exact ⟨g13, g14, h54, h57, rfl, rfl, HV54.out, HV57.out, H.out⟩
      · skip
        refine own_wp_allocB 13 rfl nilE H.out rfl ?_
        intro w13 g13 H3 hb
        replace H := Lib.hid H3
        refine hK.out _ _ (⟨H.out.row 4 rfl, H.out.row 3 rfl⟩) (fun hN => ?_)
        clear hK K hH H3 hb
        have hH := hN
        clear hN
        try simp only [Act.put, List.setIfInBounds_toArray, List.set_cons_zero, List.set_cons_succ]
        refine wpAnyH_ready (rs := [2]) (by kernel_rfl) (by simp) ?_
        refine AllReadyH.cons (o := _) rfl (fun K hK => ?_) AllReadyH.nil
        go_simp
        refine (square_k _ HV27_0.out).mono ?_
        rintro e wc ⟨h54, rfl, hv, hb⟩
        replace H := Lib.hid (H.out.call hb)
        have HV54 := Lib.hid hv
        refine hK.out _ _ (⟨H.out.row 4 rfl, H.out.row 3 rfl⟩) (fun hN => ?_)
        clear hK K hH hb hv
        have hH := hN
        clear hN
        try simp only [Act.put, List.setIfInBounds_toArray, List.set_cons_zero, List.set_cons_succ]
        refine wpAnyH_ready (rs := [5]) (by kernel_rfl) (by simp) ?_
        refine AllReadyH.cons (o := _) rfl (fun K hK => ?_) AllReadyH.nil
        go_simp
        refine (square_k _ HV34_0.out).mono ?_
        rintro e wc ⟨h57, rfl, hv, hb⟩
        replace H := Lib.hid (H.out.call hb)
        have HV57 := Lib.hid hv
        refine hK.out _ _ (⟨H.out.row 4 rfl, H.out.row 3 rfl⟩) (fun hN => ?_)
        clear hK K hH hb hv
        have hH := hN
        clear hN
        try simp only [Act.put, List.setIfInBounds_toArray, List.set_cons_zero, List.set_cons_succ]
        refine wpAnyH_ready (rs := [8]) (by kernel_rfl) (by simp) ?_
        refine AllReadyH.cons (o := _) rfl (fun K hK => ?_) AllReadyH.nil
        refine own_st 0 rfl rowE H.out rfl rfl rfl rfl ?_
        intro ws HS
        simp only [List.set_cons_zero] at HS
        replace H := Lib.hid HS
        refine hK.out _ _ (⟨H.out.row 4 rfl, H.out.row 3 rfl⟩) (fun hN => ?_)
        clear hK K HS hH
        have hH := hN
        clear hN
        try simp only [List.setIfInBounds_toArray]
        refine wpAnyH_ready (rs := [9]) (by kernel_rfl) (by simp) ?_
        refine AllReadyH.cons (o := _) rfl (fun K hK => ?_) AllReadyH.nil
        refine own_st 1 rfl rowE H.out rfl rfl rfl rfl ?_
        intro ws HS
        simp only [List.set_cons_zero, List.set_cons_succ] at HS
        replace H := Lib.hid HS
        refine hK.out _ _ (⟨H.out.row 4 rfl, H.out.row 3 rfl⟩) (fun hN => ?_)
        clear hK K HS hH
        have hH := hN
        clear hN
        try simp only [List.setIfInBounds_toArray]
        try simp only [Act.put]
        refine wpAnyH_done (by kernel_rfl) ?_ _
        refine NoPanic.normal ?_
        clear hH
        replace H := Lib.hid (H.out.front (x := (g14, Blk 29 .u64 8 (NZ h57))) 1 rfl)
        replace H := Lib.hid (H.out.front (x := (g13, Blk 29 .u64 8 (NZ h54))) 1 rfl)
        go_wp2_with fail
        go_meet
        exact ⟨g13, g14, h54, h57, rfl, rfl, HV54.out, HV57.out, H.out⟩
  clear H
  obtain ⟨g13, g14, h54, h57, rfl, rfl, hv54, hv57, HRR⟩ := hcut
  have HV54 := Lib.hid hv54
  have HV57 := Lib.hid hv57
  have H := Lib.hid HRR
  clear HRR hv54 hv57
  go_upto_region 14 with (first
    | ((with_reducible apply own_load rowE H); (case hgd => exact rfl); (case ho => exact rfl); (case hx => exact rfl); (case hi => first | exact at0 | exact at1 | exact at2 | exact at3 | exact at4 | exact at5 | exact at6 | exact at7 | exact at8 | exact at9); intro _ _; go_simp)
    | ((fail_if_success have := HV60); (with_reducible refine (sub_k _ (HT.out.below H.out.bel) HV54.out HV57.out).mono ?_); rintro e wc ⟨h60, rfl, hv, hb⟩; replace H := Lib.hid (H.out.call hb); clear hb; have HV60 := Lib.hid hv; clear hv)
    | ((fail_if_success have := g15); (with_reducible apply own_alloc nilE H); (case hgd => exact rfl); (case ho => exact rfl); intro w15 g15 H' _ _; replace H := H'; clear H'; go_simp)
    | ((with_reducible apply own_store rowE H); (case hgd => exact rfl); (case ho => exact rfl); (case hx => exact rfl); (case hy => exact rfl); (case hi => first | exact at0 | exact at1 | exact at2 | exact at3 | exact at4 | exact at5 | exact at6 | exact at7 | exact at8 | exact at9); intro ws H' _ _; replace H := H'; clear H'; simp only [List.set_cons_zero] at H; go_simp))
  refine wp_region_noPanic ?_
  refine wp_region_held_drew (S := fun W => W.heap[g13]? = some (Blk 29 .u64 8 (NZ h54)) ∧ W.heap[g14]? = some (Blk 29 .u64 8 (NZ h57)) ∧ W.heap[g10]? = some (Blk 32 .u64 16 ((t2 8 (NZ h49_0) (NZ h49_1))))) (by kernel_rfl) (⟨H.out.drew.row 1 rfl, H.out.drew.row 2 rfl, H.out.drew.row 3 rfl⟩) (fun hH => ?_)
  replace H := Lib.hid H.out.drew
  generalize World.drew _ = w8 at *
  refine held_row 0 61 rowE rfl rfl (by kernel_rfl) (by kernel_rfl) (by kernel_rfl) rfl hH rfl rfl (fun _ h => h.1) ?_
  try simp only [Act.put, List.setIfInBounds_toArray, List.set_cons_zero, List.set_cons_succ]
  refine held_row 1 62 rowE rfl rfl (by kernel_rfl) (by kernel_rfl) (by kernel_rfl) rfl hH rfl rfl (fun _ h => h.2.1) ?_
  try simp only [Act.put, List.setIfInBounds_toArray, List.set_cons_zero, List.set_cons_succ]
  refine held_value 3 64 (.pointer (some ⟨g10, 0, none⟩)) rfl rfl (by kernel_rfl) (by kernel_rfl) (by kernel_rfl) rfl hH (fun w hw => by go_simp) ?_
  try simp only [Act.put, List.setIfInBounds_toArray, List.set_cons_zero, List.set_cons_succ]
  refine held_part 4 65 rowE rfl rfl (by kernel_rfl) (by kernel_rfl) (by kernel_rfl) rfl hH rfl rfl part2_0 (fun _ h => h.2.2) ?_
  try simp only [Act.put, List.setIfInBounds_toArray, List.set_cons_zero, List.set_cons_succ]
  refine held_value 5 66 (.pointer (some ⟨g10, 8, none⟩)) rfl rfl (by kernel_rfl) (by kernel_rfl) (by kernel_rfl) rfl hH (fun w hw => by go_simp) ?_
  try simp only [Act.put, List.setIfInBounds_toArray, List.set_cons_zero, List.set_cons_succ]
  refine held_part 6 67 rowE rfl rfl (by kernel_rfl) (by kernel_rfl) (by kernel_rfl) rfl hH rfl rfl part2_1 (fun _ h => h.2.2) ?_
  try simp only [Act.put, List.setIfInBounds_toArray, List.set_cons_zero, List.set_cons_succ]
  refine wpAnyH_ready (rs := [2]) (by kernel_rfl) (by simp) ?_
  refine AllReadyH.cons (o := _) rfl (fun K hK => ?_) AllReadyH.nil
  go_simp
  refine (mul_k _ HV54.out HV57.out).mono ?_
  rintro e wc ⟨h63, rfl, hv, hb⟩
  replace H := Lib.hid (H.out.call hb)
  have HV63 := Lib.hid hv
  refine hK.out _ _ (⟨H.out.row 1 rfl, H.out.row 2 rfl, H.out.row 3 rfl⟩) (fun hN => ?_)
  clear hK K hH hb hv
  have hH := hN
  clear hN
  try simp only [Act.put, List.setIfInBounds_toArray, List.set_cons_zero, List.set_cons_succ]
  refine wpAnyH_ready (rs := [7]) (by kernel_rfl) (by simp) ?_
  refine AllReadyH.cons (o := _) rfl (fun K hK => ?_) AllReadyH.nil
  go_simp
  refine (add_k _ HV49_0.out HV49_1.out).mono ?_
  rintro e wc ⟨h68, rfl, hv, hb⟩
  replace H := Lib.hid (H.out.call hb)
  have HV68 := Lib.hid hv
  refine hK.out _ _ (⟨H.out.row 1 rfl, H.out.row 2 rfl, H.out.row 3 rfl⟩) (fun hN => ?_)
  clear hK K hH hb hv
  have hH := hN
  clear hN
  try simp only [Act.put, List.setIfInBounds_toArray, List.set_cons_zero, List.set_cons_succ]
  refine wpAnyH_ready (rs := [8]) (by kernel_rfl) (by simp) ?_
  refine AllReadyH.cons (o := _) rfl (fun K hK => ?_) AllReadyH.nil
  go_simp
  refine (square_k _ HV68.out).mono ?_
  rintro e wc ⟨h69, rfl, hv, hb⟩
  replace H := Lib.hid (H.out.call hb)
  have HV69 := Lib.hid hv
  refine hK.out _ _ (⟨H.out.row 1 rfl, H.out.row 2 rfl, H.out.row 3 rfl⟩) (fun hN => ?_)
  clear hK K hH hb hv
  have hH := hN
  clear hN
  try simp only [Act.put, List.setIfInBounds_toArray, List.set_cons_zero, List.set_cons_succ]
  refine held_E2 9 70 rfl rfl (by kernel_rfl) (by kernel_rfl) (by kernel_rfl) rfl hH rfl rfl rfl ?_
  try simp only [Act.put, List.setIfInBounds_toArray, List.set_cons_zero, List.set_cons_succ]
  refine wpAnyH_ready (rs := [10]) (by kernel_rfl) (by simp) ?_
  refine AllReadyH.cons (o := _) rfl (fun K hK => ?_) AllReadyH.nil
  refine own_st 7 rfl rowE2 H.out rfl rfl rfl rfl ?_
  intro ws HS
  simp only [List.set_cons_zero, List.set_cons_succ] at HS
  replace H := Lib.hid HS
  refine hK.out _ _ (⟨H.out.row 1 rfl, H.out.row 2 rfl, H.out.row 3 rfl⟩) (fun hN => ?_)
  clear hK K HS hH
  have hH := hN
  clear hN
  try simp only [List.setIfInBounds_toArray]
  try simp only [Act.put]
  refine wpAnyH_done (by kernel_rfl) ?_ _
  refine NoPanic.normal ?_
  clear hH
  go_simp
  go_upto_region 15 with fail
  refine wp_region_noPanic ?_
  refine wp_region_held_drew (S := fun W => W.heap[g15]? = some (Blk 29 .u64 8 (NZ h60)) ∧ W.heap[g13]? = some (Blk 29 .u64 8 (NZ h54)) ∧ W.heap[g3]? = some (Blk 29 .u64 8 (NZ f)) ∧ W.heap[g10]? = some (Blk 32 .u64 16 ((t2 8 (NZ h49_0) (NZ h49_1))))) (by kernel_rfl) (⟨H.out.drew.row 0 rfl, H.out.drew.row 1 rfl, H.out.drew.row 10 rfl, H.out.drew.row 3 rfl⟩) (fun hH => ?_)
  replace H := Lib.hid H.out.drew
  generalize World.drew _ = w8 at *
  refine held_row 0 71 rowE rfl rfl (by kernel_rfl) (by kernel_rfl) (by kernel_rfl) rfl hH rfl rfl (fun _ h => h.1) ?_
  try simp only [Act.put, List.setIfInBounds_toArray, List.set_cons_zero, List.set_cons_succ]
  refine held_row 1 72 rowE rfl rfl (by kernel_rfl) (by kernel_rfl) (by kernel_rfl) rfl hH rfl rfl (fun _ h => h.2.1) ?_
  try simp only [Act.put, List.setIfInBounds_toArray, List.set_cons_zero, List.set_cons_succ]
  refine held_row 2 73 rowE rfl rfl (by kernel_rfl) (by kernel_rfl) (by kernel_rfl) rfl hH rfl rfl (fun _ h => h.1) ?_
  try simp only [Act.put, List.setIfInBounds_toArray, List.set_cons_zero, List.set_cons_succ]
  refine held_row 6 77 rowE rfl rfl (by kernel_rfl) (by kernel_rfl) (by kernel_rfl) rfl hH rfl rfl (fun _ h => h.2.2.1) ?_
  try simp only [Act.put, List.setIfInBounds_toArray, List.set_cons_zero, List.set_cons_succ]
  refine held_value 7 78 (.pointer (some ⟨g10, 0, none⟩)) rfl rfl (by kernel_rfl) (by kernel_rfl) (by kernel_rfl) rfl hH (fun w hw => by go_simp) ?_
  try simp only [Act.put, List.setIfInBounds_toArray, List.set_cons_zero, List.set_cons_succ]
  refine held_part 8 79 rowE rfl rfl (by kernel_rfl) (by kernel_rfl) (by kernel_rfl) rfl hH rfl rfl part2_0 (fun _ h => h.2.2.2) ?_
  try simp only [Act.put, List.setIfInBounds_toArray, List.set_cons_zero, List.set_cons_succ]
  refine held_value 9 80 (.pointer (some ⟨g10, 8, none⟩)) rfl rfl (by kernel_rfl) (by kernel_rfl) (by kernel_rfl) rfl hH (fun w hw => by go_simp) ?_
  try simp only [Act.put, List.setIfInBounds_toArray, List.set_cons_zero, List.set_cons_succ]
  refine held_part 10 81 rowE rfl rfl (by kernel_rfl) (by kernel_rfl) (by kernel_rfl) rfl hH rfl rfl part2_1 (fun _ h => h.2.2.2) ?_
  try simp only [Act.put, List.setIfInBounds_toArray, List.set_cons_zero, List.set_cons_succ]
  refine wpAnyH_ready (rs := [3]) (by kernel_rfl) (by simp) ?_
  refine AllReadyH.cons (o := _) rfl (fun K hK => ?_) AllReadyH.nil
  go_simp
  refine (times_k (39081) _ (HT.out.below H.out.bel) HV60.out (by omega) (by omega)).mono ?_
  rintro e wc ⟨h74, rfl, hv, hb⟩
  replace H := Lib.hid (H.out.call hb)
  have HV74 := Lib.hid hv
  refine hK.out _ _ (⟨H.out.row 0 rfl, H.out.row 1 rfl, H.out.row 10 rfl, H.out.row 3 rfl⟩) (fun hN => ?_)
  clear hK K hH hb hv
  have hH := hN
  clear hN
  try simp only [Act.put, List.setIfInBounds_toArray, List.set_cons_zero, List.set_cons_succ]
  refine wpAnyH_ready (rs := [4]) (by kernel_rfl) (by simp) ?_
  refine AllReadyH.cons (o := _) rfl (fun K hK => ?_) AllReadyH.nil
  go_simp
  refine (add_k _ HV54.out HV74.out).mono ?_
  rintro e wc ⟨h75, rfl, hv, hb⟩
  replace H := Lib.hid (H.out.call hb)
  have HV75 := Lib.hid hv
  refine hK.out _ _ (⟨H.out.row 0 rfl, H.out.row 1 rfl, H.out.row 10 rfl, H.out.row 3 rfl⟩) (fun hN => ?_)
  clear hK K hH hb hv
  have hH := hN
  clear hN
  try simp only [Act.put, List.setIfInBounds_toArray, List.set_cons_zero, List.set_cons_succ]
  refine wpAnyH_ready (rs := [5]) (by kernel_rfl) (by simp) ?_
  refine AllReadyH.cons (o := _) rfl (fun K hK => ?_) AllReadyH.nil
  go_simp
  refine (mul_k _ HV60.out HV75.out).mono ?_
  rintro e wc ⟨h76, rfl, hv, hb⟩
  replace H := Lib.hid (H.out.call hb)
  have HV76 := Lib.hid hv
  refine hK.out _ _ (⟨H.out.row 0 rfl, H.out.row 1 rfl, H.out.row 10 rfl, H.out.row 3 rfl⟩) (fun hN => ?_)
  clear hK K hH hb hv
  have hH := hN
  clear hN
  try simp only [Act.put, List.setIfInBounds_toArray, List.set_cons_zero, List.set_cons_succ]
  refine wpAnyH_ready (rs := [11]) (by kernel_rfl) (by simp) ?_
  refine AllReadyH.cons (o := _) rfl (fun K hK => ?_) AllReadyH.nil
  go_simp
  refine (sub_k _ (HT.out.below H.out.bel) HV49_0.out HV49_1.out).mono ?_
  rintro e wc ⟨h82, rfl, hv, hb⟩
  replace H := Lib.hid (H.out.call hb)
  have HV82 := Lib.hid hv
  refine hK.out _ _ (⟨H.out.row 0 rfl, H.out.row 1 rfl, H.out.row 10 rfl, H.out.row 3 rfl⟩) (fun hN => ?_)
  clear hK K hH hb hv
  have hH := hN
  clear hN
  try simp only [Act.put, List.setIfInBounds_toArray, List.set_cons_zero, List.set_cons_succ]
  refine wpAnyH_ready (rs := [12]) (by kernel_rfl) (by simp) ?_
  refine AllReadyH.cons (o := _) rfl (fun K hK => ?_) AllReadyH.nil
  go_simp
  refine (square_k _ HV82.out).mono ?_
  rintro e wc ⟨h83, rfl, hv, hb⟩
  replace H := Lib.hid (H.out.call hb)
  have HV83 := Lib.hid hv
  refine hK.out _ _ (⟨H.out.row 0 rfl, H.out.row 1 rfl, H.out.row 10 rfl, H.out.row 3 rfl⟩) (fun hN => ?_)
  clear hK K hH hb hv
  have hH := hN
  clear hN
  try simp only [Act.put, List.setIfInBounds_toArray, List.set_cons_zero, List.set_cons_succ]
  refine wpAnyH_ready (rs := [13]) (by kernel_rfl) (by simp) ?_
  refine AllReadyH.cons (o := _) rfl (fun K hK => ?_) AllReadyH.nil
  go_simp
  refine (mul_k _ EU.out HV83.out).mono ?_
  rintro e wc ⟨h84, rfl, hv, hb⟩
  replace H := Lib.hid (H.out.call hb)
  have HV84 := Lib.hid hv
  refine hK.out _ _ (⟨H.out.row 0 rfl, H.out.row 1 rfl, H.out.row 10 rfl, H.out.row 3 rfl⟩) (fun hN => ?_)
  clear hK K hH hb hv
  have hH := hN
  clear hN
  try simp only [Act.put, List.setIfInBounds_toArray, List.set_cons_zero, List.set_cons_succ]
  refine held_E2 14 85 rfl rfl (by kernel_rfl) (by kernel_rfl) (by kernel_rfl) rfl hH rfl rfl rfl ?_
  try simp only [Act.put, List.setIfInBounds_toArray, List.set_cons_zero, List.set_cons_succ]
  refine wpAnyH_ready (rs := [15]) (by kernel_rfl) (by simp) ?_
  refine AllReadyH.cons (o := _) rfl (fun K hK => ?_) AllReadyH.nil
  refine own_st 6 rfl rowE2 H.out rfl rfl rfl rfl ?_
  intro ws HS
  simp only [List.set_cons_zero, List.set_cons_succ] at HS
  replace H := Lib.hid HS
  refine hK.out _ _ (⟨H.out.row 0 rfl, H.out.row 1 rfl, H.out.row 10 rfl, H.out.row 3 rfl⟩) (fun hN => ?_)
  clear hK K HS hH
  have hH := hN
  clear hN
  try simp only [List.setIfInBounds_toArray]
  try simp only [Act.put]
  refine wpAnyH_done (by kernel_rfl) ?_ _
  refine NoPanic.normal ?_
  clear hH
  go_simp
  go_upto_region 16 with fail
  refine wp_region_noPanic ?_
  refine wp_region_held_drew (S := fun W => W.heap[g6]? = some (Blk 32 .u64 16 ((t2 8 (NZ h63) (NZ h69)))) ∧ W.heap[g7]? = some (Blk 32 .u64 16 ((t2 8 (NZ h76) (NZ h84))))) (by kernel_rfl) (⟨H.out.drew.row 7 rfl, H.out.drew.row 6 rfl⟩) (fun hH => ?_)
  replace H := Lib.hid H.out.drew
  generalize World.drew _ = w8 at *
  refine held_row 0 86 rowE2 rfl rfl (by kernel_rfl) (by kernel_rfl) (by kernel_rfl) rfl hH rfl rfl (fun _ h => h.1) ?_
  try simp only [Act.put, List.setIfInBounds_toArray, List.set_cons_zero, List.set_cons_succ]
  refine held_row 1 87 rowE2 rfl rfl (by kernel_rfl) (by kernel_rfl) (by kernel_rfl) rfl hH rfl rfl (fun _ h => h.2) ?_
  try simp only [Act.put, List.setIfInBounds_toArray, List.set_cons_zero, List.set_cons_succ]
  refine wpAnyH_ready (rs := [2]) (by kernel_rfl) (by simp) ?_
  refine AllReadyH.cons (o := _) rfl (fun K hK => ?_) AllReadyH.nil
  refine own_st 7 rfl rowE2 H.out rfl rfl rfl rfl ?_
  intro ws HS
  simp only [List.set_cons_zero, List.set_cons_succ] at HS
  replace H := Lib.hid HS
  refine hK.out _ _ (⟨H.out.row 7 rfl, H.out.row 6 rfl⟩) (fun hN => ?_)
  clear hK K HS hH
  have hH := hN
  clear hN
  try simp only [List.setIfInBounds_toArray]
  refine wpAnyH_ready (rs := [3]) (by kernel_rfl) (by simp) ?_
  refine AllReadyH.cons (o := _) rfl (fun K hK => ?_) AllReadyH.nil
  refine own_st 6 rfl rowE2 H.out rfl rfl rfl rfl ?_
  intro ws HS
  simp only [List.set_cons_zero, List.set_cons_succ] at HS
  replace H := Lib.hid HS
  refine hK.out _ _ (⟨H.out.row 7 rfl, H.out.row 6 rfl⟩) (fun hN => ?_)
  clear hK K HS hH
  have hH := hN
  clear hN
  try simp only [List.setIfInBounds_toArray]
  try simp only [Act.put]
  refine wpAnyH_done (by kernel_rfl) ?_ _
  refine NoPanic.normal ?_
  clear hH
  go_wp2_with fail
  refine bodyPost_ret (own_result_two 7 6 rowE2 rowE2 rfl _ H rfl rfl rfl rfl) rfl ⟨h63, h69, h76, h84, rfl, HV63.out.eq ?_, HV69.out.eq ?_, HV76.out.eq ?_, HV84.out.eq ?_, H.out.bel⟩
  · exact step_x0 ..
  · exact step_x1 ..
  · exact step_z0 ..
  · exact step_z1 ..
end Go.Proofs.YtckmboebipbpbaaDoor
