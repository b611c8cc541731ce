/-
  The walk of KeccakBytes.
-/
import Derived.Test.YtnjnmffjkcfdfaaDoorKecXors
import Derived.Test.YtnjnmffjkcfdfaaDoorKecRefOf
namespace Go.Proofs.YtnjnmffjkcfdfaaDoor
open Go.RowKit

attribute [local go_sem] eq24 eqB_self
set_option maxHeartbeats 800000 in
theorem law_far (f : Nat → BitVec 64) (a : Option Addr) (n c : Nat) (w : World) (hT : Tabs w) (hn : 300 < n) (hm : n ≤ maxLen) :
    Calls Tryd.prog 4 #[.agg (A 25 f), .slice a n c] w fun e w' => e = .returned (.bool true) ∧ Below w.heap.size w w' := by
  have HT := Lib.hid hT
  clear hT
  unfold maxLen at hm
  have hd : (300 : Int) < (n : Int) := by omega
  go_enter Tryd.func4, Tryd.ntmps4
  go_wp2_with fail
  refine (awake_any _ (HT.out.below (by go_grown))).mono ?_
  rintro e w1 ⟨rfl, hb⟩
  have HB := Lib.hid (show Below w.heap.size w w1 from ((Below.refl _ _).alloc (Nat.le_refl _) _).trans (hb.mono (by simp)))
  clear hb
  go_wp2_with fail
  go_ret
  exact ⟨rfl, HB.out⟩

set_option maxHeartbeats 3200000 in
set_option maxRecDepth 100000 in
theorem law_near (f : Nat → BitVec 64) (a : Option Addr) (n c : Nat) (g : Nat → BitVec 8) (w : World) (hT : Tabs w) (hn : n ≤ 300) (hs : Sl w w.heap.size a n c g) :
    Calls Tryd.prog 4 #[.agg (A 25 f), .slice a n c] w fun e w' => e = .returned (.bool true) ∧ Below w.heap.size w w' := by
  have HT := Lib.hid hT
  have HS := Lib.hid hs
  clear hT hs
  have hgd := guard24
  have hd : (n : Int) ≤ 300 := by omega
  have hnd3 : decide ((300 : Int) < (n : Int)) = false := by simp; omega
  have hBF : eqB 25 (xorTo (fun _ => 0#64) (bytesF f) 200) f = true := (eqB_iff _ _ _).2 (of_back f)
  have H0 := Lib.hid ((St.start w).alloc (.cells (A 25 f) 24))
  go_enter Tryd.func4, Tryd.ntmps4
  go_wp2_with ((with_reducible apply lay_load lanes24); (case hgd => exact rfl); (case ho => exact rfl); (case hx => exact rfl); (case hg => exact H0.out.get _ _ (.head _)); intro _ _; go_simp)
  obtain ⟨W0, hW0⟩ : ∃ W, w.alloc (.cells (A 25 f) 24) = W := ⟨_, rfl⟩
  rw [hW0] at H0 ⊢
  refine (bytes_any f W0).mono ?_
  rintro e w1 ⟨rfl, HTw⟩
  have H1 := Lib.hid (H0.out.call HTw.bel)
  have HC := Lib.hid (Sl.own (n := 200) (c := 200) (B := w1.heap.size) HTw.r2 (Nat.le_refl _) (Nat.le_refl _) (row_lt HTw.r2))
  clear HTw H0 hW0
  go_wp2_with fail
  refine (of_near _ 200 (bytesF f) _ HC.out).mono ?_
  rintro e w2 ⟨rfl, hb⟩
  have H2 := Lib.hid ((H1.out.call hb).alloc (.cells (A 25 (xorTo (fun _ => 0) (bytesF f) 200)) 24))
  have HC2 := Lib.hid ((HC.out.call (Nat.le_refl _) hb).alloc (.cells (A 25 (xorTo (fun _ => 0) (bytesF f) 200)) 24))
  clear hb H1 HC
  go_wp2_with (first
    | ((with_reducible apply lay_load lanes24); (case hgd => exact rfl); (case ho => exact rfl); (case hx => exact rfl); (case hg => exact H2.out.get _ _ (.tail _ (.head _))); intro _ _; go_simp)
    | ((with_reducible apply lay_alloc lanes24); (case hgd => exact rfl); (case ho => exact rfl); intro _ _; go_simp)
    | ((with_reducible apply lay_store lanes24); (case hgd => exact rfl); (case ho => exact rfl); (case hx => exact rfl); (case hy => exact rfl); (case hg => exact row1 _ _); intro _ _; go_simp))
  refine (refBytes_any f _).mono ?_
  rintro e w3 ⟨⟨gw, cw, cur, rfl, hgw, hrow, hsl⟩, hb⟩
  have H3 := Lib.hid (H2.out.call hb)
  have HC3 := Lib.hid (HC2.out.call (Nat.le_refl _) hb)
  have HL3 := Lib.hid hsl
  clear hgw hrow hsl hb H2 HC2
  go_wp2_with fail
  refine (same_any _ _ 200 200 cw _ _ _ (by omega) HC3.out HL3.out (fun _ _ => rfl)).mono ?_
  rintro e w4 ⟨rfl, hb⟩
  have H4 := Lib.hid (H3.out.call hb)
  clear hb H3 HC3 HL3
  go_wp2_with ((with_reducible apply lay_loadg lanes24); (case hw => exact rfl); (case ho => exact rfl); (case hx => exact rfl); (case hg => first | exact H4.out.get _ _ (.head _) | exact H4.out.get _ _ (.tail _ (.head _))); intro _ _; go_simp)
  by_cases h200 : n = 200
  · subst h200
    have hTR : eqB 25 (xorTo (fun _ => 0#64) g 200) (refTo g 0) = true := (eqB_iff _ _ _).2 fun j hj => (of_ref g j hj).trans <| by unfold refTo; rw [if_pos (Nat.zero_le _)]
    refine (of_near a c g _ ((HS.out.below H4.out.bel).more H4.out.bel.size)).mono ?_
    rintro e w5 ⟨rfl, hb⟩
    have H5 := Lib.hid ((H4.out.call hb).alloc (.cells (A 25 (xorTo (fun _ => 0) g 200)) 24))
    clear hb H4
    go_wp2_with (first
      | ((with_reducible apply lay_alloc lanes24); (case hgd => exact rfl); (case ho => exact rfl); intro _ _; go_simp)
      | ((with_reducible apply lay_store lanes24); (case hgd => exact rfl); (case ho => exact rfl); (case hx => exact rfl); (case hy => exact rfl); (case hg => exact row1 _ _); intro _ _; go_simp))
    refine wp_region_noPanic ?_
    refine wp_region_held_drew (S := fun W' => St w W' [(w5.heap.size, Obj.cells (A 25 (xorTo (fun _ => 0) g 200)) 24), (w2.heap.size, Obj.cells (A 25 (xorTo (fun _ => 0) (bytesF f) 200)) 24), (w.heap.size, Obj.cells (A 25 f) 24)]) (by kernel_rfl) H5.out.drew (fun hH => ?_)
    clear H5
    refine held_load lanes24 0 53 rfl rfl (by kernel_rfl) (by kernel_rfl) (by kernel_rfl) rfl hH rfl rfl (fun _ h => h.get _ _ (.head _)) ?_
    simp only [Act.put, List.setIfInBounds_toArray, List.set_cons_zero, List.set_cons_succ]
    refine held_value 1 54 (.slice a 200 c) rfl rfl (by kernel_rfl) (by kernel_rfl) (by kernel_rfl) rfl hH (fun w hw => by go_simp) ?_
    simp only [Act.put, List.setIfInBounds_toArray, List.set_cons_zero, List.set_cons_succ]
    refine wpAnyH_ready (rs := [2]) (by kernel_rfl) (by simp) ?_
    refine AllReadyH.cons (o := _) rfl (fun K hK => ?_) AllReadyH.nil
    go_simp
    refine (refOf_any a c g _ ((HS.out.below hH.bel).more hH.bel.size)).mono ?_
    rintro e w' ⟨rfl, hb⟩
    refine hK.out _ _ (hH.call hb) (fun hN => ?_)
    clear hK K hH hb
    have hH := hN
    clear hN
    try simp only [Act.put, List.setIfInBounds_toArray, List.set_cons_zero, List.set_cons_succ]
    refine held_value 3 56 (.bool true) rfl rfl (by kernel_rfl) (by kernel_rfl) (by kernel_rfl) rfl hH (fun w hw => by go_simp) ?_
    simp only [Act.put, List.setIfInBounds_toArray, List.set_cons_zero, List.set_cons_succ]
    refine held_value 4 57 (.bool true) rfl rfl (by kernel_rfl) (by kernel_rfl) (by kernel_rfl) rfl hH (fun w hw => by go_simp) ?_
    simp only [Act.put, List.setIfInBounds_toArray, List.set_cons_zero, List.set_cons_succ]
    refine held_value 5 58 (.int .i64 0) rfl rfl (by kernel_rfl) (by kernel_rfl) (by kernel_rfl) rfl hH (fun w hw => by go_simp) ?_
    simp only [Act.put, List.setIfInBounds_toArray, List.set_cons_zero, List.set_cons_succ]
    refine held_value 6 59 (.bool true) rfl rfl (by kernel_rfl) (by kernel_rfl) (by kernel_rfl) rfl hH (fun w hw => by go_simp) ?_
    simp only [Act.put, List.setIfInBounds_toArray, List.set_cons_zero, List.set_cons_succ]
    refine held_value 7 60 (.bool true) rfl rfl (by kernel_rfl) (by kernel_rfl) (by kernel_rfl) rfl hH (fun w hw => by go_simp) ?_
    simp only [Act.put, List.setIfInBounds_toArray, List.set_cons_zero, List.set_cons_succ]
    refine held_value 8 61 (.bool true) rfl rfl (by kernel_rfl) (by kernel_rfl) (by kernel_rfl) rfl hH (fun w hw => by go_simp) ?_
    simp only [Act.put, List.setIfInBounds_toArray, List.set_cons_zero, List.set_cons_succ]
    refine held_load lanes24 9 62 rfl rfl (by kernel_rfl) (by kernel_rfl) (by kernel_rfl) rfl hH rfl rfl (fun _ h => h.get _ _ (.head _)) ?_
    simp only [Act.put, List.setIfInBounds_toArray, List.set_cons_zero, List.set_cons_succ]
    refine held_value 11 64 (.slice a 200 c) rfl rfl (by kernel_rfl) (by kernel_rfl) (by kernel_rfl) rfl hH (fun w hw => by go_simp) ?_
    simp only [Act.put, List.setIfInBounds_toArray, List.set_cons_zero, List.set_cons_succ]
    refine wpAnyH_ready (rs := [10]) (by kernel_rfl) (by simp) ?_
    refine AllReadyH.cons (o := _) rfl (fun K hK => ?_) AllReadyH.nil
    go_simp
    refine (bytes_any (xorTo (fun _ => 0) g 200) _).mono ?_
    rintro e w' ⟨rfl, HTw⟩
    refine hK.out _ _ (hH.call HTw.bel) (fun hN => ?_)
    have HC := Lib.hid (Sl.own (n := 200) (c := 200) (B := w'.heap.size) HTw.r2 (Nat.le_refl _) (Nat.le_refl _) (row_lt HTw.r2))
    clear hK K hH HTw
    have hH := hN
    clear hN
    try simp only [Act.put, List.setIfInBounds_toArray, List.set_cons_zero, List.set_cons_succ]
    refine wpAnyH_ready (rs := [12]) (by kernel_rfl) (by simp) ?_
    refine AllReadyH.cons (o := _) rfl (fun K hK => ?_) AllReadyH.nil
    go_simp
    refine (same_any _ a 200 200 c _ g _ (by omega) HC.out ((HS.out.below hH.bel).more hH.bel.size) (fun i hi => of_bytes g i hi)).mono ?_
    rintro e w' ⟨rfl, hb⟩
    refine hK.out _ _ (hH.call hb) (fun hN => ?_)
    clear hK K hH hb
    have hH := hN
    clear hN
    try simp only [Act.put, List.setIfInBounds_toArray, List.set_cons_zero, List.set_cons_succ]
    refine held_value 13 66 (.bool true) rfl rfl (by kernel_rfl) (by kernel_rfl) (by kernel_rfl) rfl hH (fun w hw => by go_simp) ?_
    simp only [Act.put, List.setIfInBounds_toArray, List.set_cons_zero, List.set_cons_succ]
    refine held_value 14 67 (.bool true) rfl rfl (by kernel_rfl) (by kernel_rfl) (by kernel_rfl) rfl hH (fun w hw => by go_simp) ?_
    simp only [Act.put, List.setIfInBounds_toArray, List.set_cons_zero, List.set_cons_succ]
    refine wpAnyH_ready (rs := [15]) (by kernel_rfl) (by simp) ?_
    refine AllReadyH.cons (o := _) rfl (fun K hK => ?_) AllReadyH.nil
    go_simp
    refine (awake_any _ (HT.out.below hH.bel)).mono ?_
    rintro e w' ⟨rfl, hb⟩
    refine hK.out _ _ (hH.call hb) (fun hN => ?_)
    clear hK K hH hb
    have hH := hN
    clear hN
    try simp only [Act.put, List.setIfInBounds_toArray, List.set_cons_zero, List.set_cons_succ]
    refine held_value 16 69 (.bool true) rfl rfl (by kernel_rfl) (by kernel_rfl) (by kernel_rfl) rfl hH (fun w hw => by go_simp) ?_
    simp only [Act.put, List.setIfInBounds_toArray, List.set_cons_zero, List.set_cons_succ]
    refine held_value 17 4 (.bool true) rfl rfl (by kernel_rfl) (by kernel_rfl) (by kernel_rfl) rfl hH (fun w hw => by go_simp) ?_
    simp only [Act.put, List.setIfInBounds_toArray, List.set_cons_zero, List.set_cons_succ]
    refine wpAnyH_done (by kernel_rfl) ?_ _
    refine NoPanic.normal ?_
    go_wp2_with fail
    go_ret
    exact ⟨rfl, hH.bel⟩
  · have hne : ((n : Int) != 200) = true := by rw [bne_iff_ne]; omega
    refine (of_far a n c _ h200).mono ?_
    rintro e w5 ⟨rfl, hb⟩
    have H5 := Lib.hid ((H4.out.call hb).alloc (.cells (A 25 fun _ => 0) 24))
    clear hb H4
    go_wp2_with (first
      | ((with_reducible apply lay_load lanes24); (case hgd => exact rfl); (case ho => exact rfl); (case hx => exact rfl); (case hg => exact H5.out.get _ _ (.head _)); intro _ _; go_simp)
      | ((with_reducible apply lay_build24); (case hgd => exact rfl); (case ho => exact rfl); intro _ _; go_simp)
      | ((with_reducible apply lay_alloc lanes24); (case hgd => exact rfl); (case ho => exact rfl); intro _ _; go_simp)
      | ((with_reducible apply lay_store lanes24); (case hgd => exact rfl); (case ho => exact rfl); (case hx => exact rfl); (case hy => exact rfl); (case hg => exact row1 _ _); intro _ _; go_simp))
    refine (awake_any _ (HT.out.below H5.out.bel)).mono ?_
    rintro e w6 ⟨rfl, hb⟩
    have H6 := Lib.hid (H5.out.call hb)
    clear hb H5
    go_wp2_with fail
    go_ret
    exact ⟨rfl, H6.out.bel⟩
end Go.Proofs.YtnjnmffjkcfdfaaDoor
