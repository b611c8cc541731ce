/-
  The walk of KeccakApart.
-/
import Derived.Test.YtnjnmffjkcfdfaaDoorKecInj
import Derived.Test.YtnjnmffjkcfdfaaDoorKecAwake
import Derived.Test.YtnjnmffjkcfdfaaDoorKecHeld
namespace Go.Proofs.YtnjnmffjkcfdfaaDoor
open Go.RowKit

theorem apart_val (f g : Nat → BitVec 64) : (eqB 25 (permF f) (permF g) == eqB 25 f g) = true := by
  rw [beq_iff_eq, Bool.eq_iff_iff, eqB_iff, eqB_iff]
  exact perm_same f g

attribute [local go_sem] eq24
set_option maxHeartbeats 1600000 in
set_option maxRecDepth 100000 in
theorem apart_any (f g : Nat → BitVec 64) (w : World) (hT : Tabs w) :
    Calls Tryd.prog 6 #[.agg (A 25 f), .agg (A 25 g)] w fun e w' => e = .returned (.bool true) ∧ Below w.heap.size w w' := by
  have HT := Lib.hid hT
  clear hT
  have hv := apart_val f g
  have hgd := guard24
  go_enter Tryd.func6, Tryd.ntmps6
  go_wp2_with fail
  have HD := Lib.hid (Duo.start w 25 25 24 24 f g)
  refine wp_region_noPanic ?_
  refine wp_region_held_drew (S := fun w' => Duo w w' 25 25 24 24 f g) (by kernel_rfl) (Duo.drew HD.out) (fun hH => ?_)
  refine held_load lanes24 0 5 rfl rfl (by kernel_rfl) (by kernel_rfl) (by kernel_rfl) rfl hH rfl rfl (fun _ h => Duo.r1 h) ?_
  simp only [Act.put, List.setIfInBounds_toArray, List.set_cons_zero, List.set_cons_succ]
  refine held_load lanes24 2 7 rfl rfl (by kernel_rfl) (by kernel_rfl) (by kernel_rfl) rfl hH rfl rfl (fun _ h => Duo.r2 h) ?_
  simp only [Act.put, List.setIfInBounds_toArray, List.set_cons_zero, List.set_cons_succ]
  refine held_load lanes24 5 10 rfl rfl (by kernel_rfl) (by kernel_rfl) (by kernel_rfl) rfl hH rfl rfl (fun _ h => Duo.r1 h) ?_
  simp only [Act.put, List.setIfInBounds_toArray, List.set_cons_zero, List.set_cons_succ]
  refine held_load lanes24 6 11 rfl rfl (by kernel_rfl) (by kernel_rfl) (by kernel_rfl) rfl hH rfl rfl (fun _ h => Duo.r2 h) ?_
  simp only [Act.put, List.setIfInBounds_toArray, List.set_cons_zero, List.set_cons_succ]
  refine held_value 7 12 (.bool (eqB 25 f g)) rfl rfl (by kernel_rfl) (by kernel_rfl) (by kernel_rfl) rfl hH (fun w hw => by go_simp) ?_
  simp only [Act.put, List.setIfInBounds_toArray, List.set_cons_zero, List.set_cons_succ]
  refine wpAnyH_ready (rs := [1]) (by kernel_rfl) (by simp) ?_
  refine AllReadyH.cons (o := _) rfl (fun K hK => ?_) AllReadyH.nil
  go_simp
  refine (perm_any _ _ (HT.out.below hH.bel)).mono ?_
  rintro e w' ⟨rfl, hb⟩
  refine hK.out _ _ (Duo.call hH hb) (fun hN => ?_)
  clear hK K hH hb
  have hH := hN
  clear hN
  try simp only [Act.put, List.setIfInBounds_toArray, List.set_cons_zero, List.set_cons_succ]
  refine wpAnyH_ready (rs := [3]) (by kernel_rfl) (by simp) ?_
  refine AllReadyH.cons (o := _) rfl (fun K hK => ?_) AllReadyH.nil
  go_simp
  refine (perm_any _ _ (HT.out.below hH.bel)).mono ?_
  rintro e w' ⟨rfl, hb⟩
  refine hK.out _ _ (Duo.call hH hb) (fun hN => ?_)
  clear hK K hH hb
  have hH := hN
  clear hN
  try simp only [Act.put, List.setIfInBounds_toArray, List.set_cons_zero, List.set_cons_succ]
  refine held_value 4 9 (.bool (eqB 25 (permF f) (permF g))) rfl rfl (by kernel_rfl) (by kernel_rfl) (by kernel_rfl) rfl hH (fun w hw => by go_simp) ?_
  simp only [Act.put, List.setIfInBounds_toArray, List.set_cons_zero, List.set_cons_succ]
  refine held_value 8 13 (.bool true) rfl rfl (by kernel_rfl) (by kernel_rfl) (by kernel_rfl) rfl hH (fun w hw => by go_simp) ?_
  simp only [Act.put, List.setIfInBounds_toArray, List.set_cons_zero, List.set_cons_succ]
  refine held_value 9 14 (.bool true) rfl rfl (by kernel_rfl) (by kernel_rfl) (by kernel_rfl) rfl hH (fun w hw => by go_simp) ?_
  simp only [Act.put, List.setIfInBounds_toArray, List.set_cons_zero, List.set_cons_succ]
  refine wpAnyH_ready (rs := [10]) (by kernel_rfl) (by simp) ?_
  refine AllReadyH.cons (o := _) rfl (fun K hK => ?_) AllReadyH.nil
  go_simp
  refine (awake_any _ (HT.out.below hH.bel)).mono ?_
  rintro e w' ⟨rfl, hb⟩
  refine hK.out _ _ (Duo.call hH hb) (fun hN => ?_)
  clear hK K hH hb
  have hH := hN
  clear hN
  try simp only [Act.put, List.setIfInBounds_toArray, List.set_cons_zero, List.set_cons_succ]
  refine held_value 11 16 (.bool true) rfl rfl (by kernel_rfl) (by kernel_rfl) (by kernel_rfl) rfl hH (fun w hw => by go_simp) ?_
  simp only [Act.put, List.setIfInBounds_toArray, List.set_cons_zero, List.set_cons_succ]
  refine held_value 12 4 (.bool true) rfl rfl (by kernel_rfl) (by kernel_rfl) (by kernel_rfl) rfl hH (fun w hw => by go_simp) ?_
  simp only [Act.put, List.setIfInBounds_toArray, List.set_cons_zero, List.set_cons_succ]
  refine wpAnyH_done (by kernel_rfl) ?_ _
  refine NoPanic.normal ?_
  go_wp2_with fail
  go_ret
  exact ⟨rfl, hH.bel⟩
end Go.Proofs.YtnjnmffjkcfdfaaDoor
