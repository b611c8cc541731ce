/-
  The walk of KeccakPermutes.
-/
import Derived.Test.YtnjnmffjkcfdfaaDoorKecRefM
import Derived.Test.YtnjnmffjkcfdfaaDoorKecAwake
namespace Go.Proofs.YtnjnmffjkcfdfaaDoor
open Go.RowKit

attribute [local go_sem] eq24
set_option maxHeartbeats 1600000 in
set_option maxRecDepth 100000 in
theorem permutes_any (f : Nat → BitVec 64) (w : World) (hT : Tabs w) :
    Calls Tryd.prog 3 #[.agg (A 25 f)] w fun e w' => e = .returned (.bool true) ∧ Below w.heap.size w w' := by
  have HT := Lib.hid hT
  clear hT
  have hv : eqB 25 (permF f) (refPTo f 24) = true := (eqB_iff _ _ _).2 (perm_ref f)
  have hgd := guard24
  go_enter Tryd.func3, Tryd.ntmps3
  go_wp2_with fail
  have HD := Lib.hid ((St.start w).alloc (.cells (A 25 f) 24))
  refine wp_region_noPanic ?_
  refine wp_region_held_drew (S := fun w' => St w w' [(w.heap.size, Obj.cells (A 25 f) 24)]) (by kernel_rfl) HD.out.drew (fun hH => ?_)
  refine held_load lanes24 0 3 rfl rfl (by kernel_rfl) (by kernel_rfl) (by kernel_rfl) rfl hH rfl rfl (fun _ h => h.get _ _ (.head _)) ?_
  simp only [Act.put, List.setIfInBounds_toArray, List.set_cons_zero, List.set_cons_succ]
  refine held_load lanes24 2 5 rfl rfl (by kernel_rfl) (by kernel_rfl) (by kernel_rfl) rfl hH rfl rfl (fun _ h => h.get _ _ (.head _)) ?_
  simp only [Act.put, List.setIfInBounds_toArray, List.set_cons_zero, List.set_cons_succ]
  refine wpAnyH_ready (rs := [1]) (by kernel_rfl) (by simp) ?_
  refine AllReadyH.cons (o := _) rfl (fun K hK => ?_) AllReadyH.nil
  go_simp
  refine (perm_any _ _ (HT.out.below hH.bel)).mono ?_
  rintro e w' ⟨rfl, hb⟩
  refine hK.out _ _ (hH.call hb) (fun hN => ?_)
  clear hK K hH hb
  have hH := hN
  clear hN
  try simp only [Act.put, List.setIfInBounds_toArray, List.set_cons_zero, List.set_cons_succ]
  refine wpAnyH_ready (rs := [3]) (by kernel_rfl) (by simp) ?_
  refine AllReadyH.cons (o := _) rfl (fun K hK => ?_) AllReadyH.nil
  go_simp
  refine (refPerm_any _ _).mono ?_
  rintro e w' ⟨rfl, hb⟩
  refine hK.out _ _ (hH.call hb) (fun hN => ?_)
  clear hK K hH hb
  have hH := hN
  clear hN
  try simp only [Act.put, List.setIfInBounds_toArray, List.set_cons_zero, List.set_cons_succ]
  refine held_value 4 7 (.bool true) rfl rfl (by kernel_rfl) (by kernel_rfl) (by kernel_rfl) rfl hH (fun w hw => by go_simp) ?_
  simp only [Act.put, List.setIfInBounds_toArray, List.set_cons_zero, List.set_cons_succ]
  refine held_value 5 8 (.bool true) rfl rfl (by kernel_rfl) (by kernel_rfl) (by kernel_rfl) rfl hH (fun w hw => by go_simp) ?_
  simp only [Act.put, List.setIfInBounds_toArray, List.set_cons_zero, List.set_cons_succ]
  refine wpAnyH_ready (rs := [6]) (by kernel_rfl) (by simp) ?_
  refine AllReadyH.cons (o := _) rfl (fun K hK => ?_) AllReadyH.nil
  go_simp
  refine (awake_any _ (HT.out.below hH.bel)).mono ?_
  rintro e w' ⟨rfl, hb⟩
  refine hK.out _ _ (hH.call hb) (fun hN => ?_)
  clear hK K hH hb
  have hH := hN
  clear hN
  try simp only [Act.put, List.setIfInBounds_toArray, List.set_cons_zero, List.set_cons_succ]
  refine held_value 7 10 (.bool true) rfl rfl (by kernel_rfl) (by kernel_rfl) (by kernel_rfl) rfl hH (fun w hw => by go_simp) ?_
  simp only [Act.put, List.setIfInBounds_toArray, List.set_cons_zero, List.set_cons_succ]
  refine held_value 8 2 (.bool true) rfl rfl (by kernel_rfl) (by kernel_rfl) (by kernel_rfl) rfl hH (fun w hw => by go_simp) ?_
  simp only [Act.put, List.setIfInBounds_toArray, List.set_cons_zero, List.set_cons_succ]
  refine wpAnyH_done (by kernel_rfl) ?_ _
  refine NoPanic.normal ?_
  go_wp2_with fail
  go_ret
  exact ⟨rfl, hH.bel⟩
end Go.Proofs.YtnjnmffjkcfdfaaDoor
