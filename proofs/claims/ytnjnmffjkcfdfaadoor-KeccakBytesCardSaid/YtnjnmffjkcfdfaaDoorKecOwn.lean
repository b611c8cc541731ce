/-
  The walk of KeccakOwn.
-/
import Derived.Test.YtnjnmffjkcfdfaaDoorKecSt
import Derived.Test.YtnjnmffjkcfdfaaDoorKecAwake
import Derived.Test.YtnjnmffjkcfdfaaDoorKecHeld
import Derived.Deep.Cut
namespace Go.Proofs.YtnjnmffjkcfdfaaDoor
open Go.RowKit

theorem eqB_self (n : Nat) (f : Nat → BitVec 64) : eqB n f f = true := (eqB_iff n f f).2 fun _ _ => rfl

set_option maxHeartbeats 800000 in
theorem own_far (f : Nat → BitVec 64) (a : Option Addr) (n c : Nat) (w : World) (hT : Tabs w) (hn : 200 < n) (hm : n ≤ maxLen) :
    Calls Tryd.prog 7 #[.agg (A 25 f), .slice a n c] w fun e w' => e = .returned (.bool true) ∧ Below w.heap.size w w' := by
  have HT := Lib.hid hT
  clear hT
  unfold maxLen at hm
  have hd : (200 : Int) < (n : Int) := by omega
  go_enter Tryd.func7, Tryd.ntmps7
  go_wp2_with fail
  refine (awake_any _ (HT.out.below (by go_grown))).mono ?_
  rintro e w1 ⟨rfl, hb⟩
  have HB := Lib.hid (show Below w.heap.size w w1 from ((Below.refl _ _).alloc (Nat.le_refl _) _).trans (hb.mono (by simp)))
  clear hb
  go_wp2_with fail
  go_ret
  exact ⟨rfl, HB.out⟩

attribute [local go_sem] eq24 eqB_self
set_option maxHeartbeats 3200000 in
set_option maxRecDepth 100000 in
theorem own_near (f : Nat → BitVec 64) (a : Option Addr) (n c : Nat) (g : Nat → BitVec 8) (w : World) (hT : Tabs w) (hn : n ≤ 200) (hs : Sl w w.heap.size a n c g) :
    Calls Tryd.prog 7 #[.agg (A 25 f), .slice a n c] w fun e w' => e = .returned (.bool true) ∧ Below w.heap.size w w' := by
  have HT := Lib.hid hT
  have HS := Lib.hid hs
  clear hT hs
  have hd : (n : Int) ≤ 200 := by omega
  have hnd : decide ((200 : Int) < (n : Int)) = false := by simp; omega
  have H0 := Lib.hid ((St.start w).alloc (.cells (A 25 f) 24))
  have HS0 := Lib.hid (HS.out.alloc (.cells (A 25 f) 24))
  go_enter Tryd.func7, Tryd.ntmps7
  go_upto_region 5 with (((with_reducible apply lay_append_nil); (case hgd => exact rfl); (case ho => exact rfl); (case hs => exact rfl); (case hx => exact rfl); (case hS => exact HS0.out); (case hn => omega); intro _ _ _ _ _ _ _; go_simp))
  rename_i a1 c1 w1 hs1 hb1 _ _
  have H1 := Lib.hid (H0.out.call hb1)
  have HS1 := Lib.hid hs1
  clear hs1 hb1 H0 HS0
  have H2 := Lib.hid (H1.out.alloc (.cells (A 25 f) 24))
  go_wp2_with (first
    | ((with_reducible apply lay_load lanes24); (case hgd => exact rfl); (case ho => exact rfl); (case hx => exact rfl); (case hg => first | exact H1.out.get _ _ (.head _) | exact H2.out.get _ _ (.tail _ (.head _))); intro _ _; go_simp)
    | ((with_reducible apply lay_alloc lanes24); (case hgd => exact rfl); (case ho => exact rfl); intro _ _; go_simp)
    | ((with_reducible apply lay_store lanes24); (case hgd => exact rfl); (case ho => exact rfl); (case hx => exact rfl); (case hy => exact rfl); (case hg => exact row1 _ _); intro _ _; go_simp))
  refine (perm_any f _ (HT.out.below H2.out.bel)).mono ?_
  rintro e w2 ⟨rfl, hb⟩
  have H3 := Lib.hid (H2.out.call hb)
  have HS3 := Lib.hid ((HS1.out.alloc (.cells (A 25 f) 24)).call (Nat.le_refl _) hb)
  clear hb H1 HS1 H2
  have H4 := Lib.hid (H3.out.alloc (.cells (A 25 (permF f)) 24))
  have HS4 := Lib.hid (HS3.out.alloc (.cells (A 25 (permF f)) 24))
  go_wp2_with (first
    | ((with_reducible apply lay_load lanes24); (case hgd => exact rfl); (case ho => exact rfl); (case hx => exact rfl); (case hg => first | exact H4.out.get _ _ (.tail _ (.tail _ (.head _)))); intro _ _; go_simp)
    | ((with_reducible apply lay_alloc lanes24); (case hgd => exact rfl); (case ho => exact rfl); intro _ _; go_simp)
    | ((with_reducible apply lay_store lanes24); (case hgd => exact rfl); (case ho => exact rfl); (case hx => exact rfl); (case hy => exact rfl); (case hg => exact row1 _ _); intro _ _; go_simp))
  refine (xor_near f a n c g _ hn ((HS.out.below H4.out.bel).more H4.out.bel.size)).mono ?_
  rintro e w3 ⟨rfl, hb⟩
  have H5 := Lib.hid (H4.out.call hb)
  have HS5 := Lib.hid (HS4.out.call (Nat.le_refl _) hb)
  clear hb H3 HS3 H4 HS4
  have H6 := Lib.hid (H5.out.alloc (.cells (A 25 (xorTo f g n)) 24))
  have HS6 := Lib.hid (HS5.out.alloc (.cells (A 25 (xorTo f g n)) 24))
  go_wp2_with (first
    | ((with_reducible apply lay_load lanes24); (case hgd => exact rfl); (case ho => exact rfl); (case hx => exact rfl); (case hg => first | exact H6.out.get _ _ (.tail _ (.tail _ (.tail _ (.head _))))); intro _ _; go_simp)
    | ((with_reducible apply lay_alloc lanes24); (case hgd => exact rfl); (case ho => exact rfl); intro _ _; go_simp)
    | ((with_reducible apply lay_store lanes24); (case hgd => exact rfl); (case ho => exact rfl); (case hx => exact rfl); (case hy => exact rfl); (case hg => exact row1 _ _); intro _ _; go_simp))
  clear H5 HS5
  refine (bytes_any f _).mono ?_
  rintro e w4 ⟨rfl, HTw⟩
  obtain ⟨W6, hW6⟩ : ∃ W, w3.alloc (.cells (A 25 (xorTo f g n)) 24) = W := ⟨_, rfl⟩
  have hz : w3.heap.size + 1 = W6.heap.size := by rw [← hW6]; simp
  rw [hW6] at H6 HS6 HTw ⊢
  have HT4 := Lib.hid HTw
  clear hW6 hz HTw
  go_wp2_with fail
  go_loopw [11] (fun v wr => ∃ (i : Nat) (h : Nat → BitVec 8), i ≤ 200 ∧ v = .int .i64 i ∧ Two W6 wr 24 5 (A 25 f) (AB 200 h)) (fun v _ => 200 - (intOf v).toNat)
  case atStart => exact ⟨0, bytesF f, by omega, rfl, HT4.out⟩
  case round =>
    clear HT4
    obtain ⟨i, h, hi, rfl, HR⟩ := hrel
    by_cases hlt : i < 200
    · have hid : decide ((i : Int) < 200) = true := by simp; omega
      have i200 : (i : Int) < 200 := by omega
      have hc : wr.cell? ⟨W6.heap.size + 1, i, none⟩ = some (U (h i)) := by rw [cell_of_row _ _ _ _ _ _ HR.r2, AB_get _ _ _ hlt]
      have hz := HR.z2 i
      have HH := Lib.hid HR
      clear HR
      go_wp2_with fail
      go_roundw
      case rel =>
        have h2 := HH.out.set2 i (U (h i + 1))
        rw [AB_set] at h2
        exact ⟨i + 1, _, by omega, by go_num, h2⟩
      case measure => simp [intOf]; omega
    · obtain rfl : i = 200 := by omega
      clear hlt hi
      rw [show ((200 : Nat) : Int) = 200 from rfl]
      have H7 := Lib.hid (H6.out.call HR.bel)
      have HS7 := Lib.hid (HS6.out.call (Nat.le_refl _) HR.bel)
      clear HR H6 HS6
      go_wp2_with (first
        | ((with_reducible apply lay_load lanes24); (case hgd => exact rfl); (case ho => exact rfl); (case hx => exact rfl); (case hg => first | exact H7.out.get _ _ (.tail _ (.tail _ (.head _)))); intro _ _; go_simp)
        | ((with_reducible apply lay_alloc lanes24); (case hgd => exact rfl); (case ho => exact rfl); intro _ _; go_simp)
        | ((with_reducible apply lay_store lanes24); (case hgd => exact rfl); (case ho => exact rfl); (case hx => exact rfl); (case hy => exact rfl); (case hg => exact row1 _ _); intro _ _; go_simp))
      refine (xor_near f a1 n c1 g _ hn HS7.out).mono ?_
      rintro e w5 ⟨rfl, hb⟩
      have H8 := Lib.hid ((H7.out.call hb).alloc (.cells (A 25 (xorTo f g n)) 24))
      have HS8 := Lib.hid ((HS7.out.call (Nat.le_refl _) hb).alloc (.cells (A 25 (xorTo f g n)) 24))
      clear hb H7 HS7
      go_wp2_with (first
        | ((with_reducible apply lay_load lanes24); (case hgd => exact rfl); (case ho => exact rfl); (case hx => exact rfl); (case hg => first | exact H8.out.get _ _ (.head _)); intro _ _; go_simp)
        | ((with_reducible apply lay_alloc lanes24); (case hgd => exact rfl); (case ho => exact rfl); intro _ _; go_simp)
        | ((with_reducible apply lay_store lanes24); (case hgd => exact rfl); (case ho => exact rfl); (case hx => exact rfl); (case hy => exact rfl); (case hg => exact row1 _ _); intro _ _; go_simp))
      refine wp_region_noPanic ?_
      refine wp_region_held_drew (S := fun W' => St w W' [(w5.heap.size, Obj.cells (A 25 (xorTo f g n)) 24), (w3.heap.size, Obj.cells (A 25 (xorTo f g n)) 24), (w2.heap.size, Obj.cells (A 25 (permF f)) 24), (w1.heap.size, Obj.cells (A 25 f) 24), (w.heap.size, Obj.cells (A 25 f) 24)] ∧ Sl W' W'.heap.size a1 n c1 g) (by kernel_rfl) ⟨H8.out.drew, HS8.out.drew⟩ (fun hH => ?_)
      clear H8 HS8
      refine held_value 0 52 (.int .i64 0) rfl rfl (by kernel_rfl) (by kernel_rfl) (by kernel_rfl) rfl hH (fun w hw => by go_simp) ?_
      simp only [Act.put, List.setIfInBounds_toArray, List.set_cons_zero, List.set_cons_succ]
      refine held_value 1 53 (.bool true) rfl rfl (by kernel_rfl) (by kernel_rfl) (by kernel_rfl) rfl hH (fun w hw => by go_simp) ?_
      simp only [Act.put, List.setIfInBounds_toArray, List.set_cons_zero, List.set_cons_succ]
      refine held_value 2 54 (.bool true) rfl rfl (by kernel_rfl) (by kernel_rfl) (by kernel_rfl) rfl hH (fun w hw => by go_simp) ?_
      simp only [Act.put, List.setIfInBounds_toArray, List.set_cons_zero, List.set_cons_succ]
      refine held_value 3 55 (.int .i64 0) rfl rfl (by kernel_rfl) (by kernel_rfl) (by kernel_rfl) rfl hH (fun w hw => by go_simp) ?_
      simp only [Act.put, List.setIfInBounds_toArray, List.set_cons_zero, List.set_cons_succ]
      refine held_value 4 56 (.bool true) rfl rfl (by kernel_rfl) (by kernel_rfl) (by kernel_rfl) rfl hH (fun w hw => by go_simp) ?_
      simp only [Act.put, List.setIfInBounds_toArray, List.set_cons_zero, List.set_cons_succ]
      refine held_value 5 57 (.bool true) rfl rfl (by kernel_rfl) (by kernel_rfl) (by kernel_rfl) rfl hH (fun w hw => by go_simp) ?_
      simp only [Act.put, List.setIfInBounds_toArray, List.set_cons_zero, List.set_cons_succ]
      refine held_value 6 58 (.bool true) rfl rfl (by kernel_rfl) (by kernel_rfl) (by kernel_rfl) rfl hH (fun w hw => by go_simp) ?_
      simp only [Act.put, List.setIfInBounds_toArray, List.set_cons_zero, List.set_cons_succ]
      refine held_load lanes24 7 59 rfl rfl (by kernel_rfl) (by kernel_rfl) (by kernel_rfl) rfl hH rfl rfl (fun _ h => h.1.get _ _ (.tail _ (.head _))) ?_
      simp only [Act.put, List.setIfInBounds_toArray, List.set_cons_zero, List.set_cons_succ]
      refine held_load lanes24 8 60 rfl rfl (by kernel_rfl) (by kernel_rfl) (by kernel_rfl) rfl hH rfl rfl (fun _ h => h.1.get _ _ (.head _)) ?_
      simp only [Act.put, List.setIfInBounds_toArray, List.set_cons_zero, List.set_cons_succ]
      refine held_value 9 61 (.bool true) rfl rfl (by kernel_rfl) (by kernel_rfl) (by kernel_rfl) rfl hH (fun w hw => by go_simp) ?_
      simp only [Act.put, List.setIfInBounds_toArray, List.set_cons_zero, List.set_cons_succ]
      refine held_value 10 62 (.bool true) rfl rfl (by kernel_rfl) (by kernel_rfl) (by kernel_rfl) rfl hH (fun w hw => by go_simp) ?_
      simp only [Act.put, List.setIfInBounds_toArray, List.set_cons_zero, List.set_cons_succ]
      refine held_value 11 63 (.bool true) rfl rfl (by kernel_rfl) (by kernel_rfl) (by kernel_rfl) rfl hH (fun w hw => by go_simp) ?_
      simp only [Act.put, List.setIfInBounds_toArray, List.set_cons_zero, List.set_cons_succ]
      refine held_load lanes24 12 64 rfl rfl (by kernel_rfl) (by kernel_rfl) (by kernel_rfl) rfl hH rfl rfl (fun _ h => h.1.get _ _ (.tail _ (.tail _ (.tail _ (.tail _ (.head _)))))) ?_
      simp only [Act.put, List.setIfInBounds_toArray, List.set_cons_zero, List.set_cons_succ]
      refine held_load lanes24 13 65 rfl rfl (by kernel_rfl) (by kernel_rfl) (by kernel_rfl) rfl hH rfl rfl (fun _ h => h.1.get _ _ (.tail _ (.tail _ (.tail _ (.head _))))) ?_
      simp only [Act.put, List.setIfInBounds_toArray, List.set_cons_zero, List.set_cons_succ]
      refine held_value 14 66 (.bool true) rfl rfl (by kernel_rfl) (by kernel_rfl) (by kernel_rfl) rfl hH (fun w hw => by go_simp) ?_
      simp only [Act.put, List.setIfInBounds_toArray, List.set_cons_zero, List.set_cons_succ]
      refine held_value 15 67 (.bool true) rfl rfl (by kernel_rfl) (by kernel_rfl) (by kernel_rfl) rfl hH (fun w hw => by go_simp) ?_
      simp only [Act.put, List.setIfInBounds_toArray, List.set_cons_zero, List.set_cons_succ]
      refine held_value 16 68 (.bool true) rfl rfl (by kernel_rfl) (by kernel_rfl) (by kernel_rfl) rfl hH (fun w hw => by go_simp) ?_
      simp only [Act.put, List.setIfInBounds_toArray, List.set_cons_zero, List.set_cons_succ]
      refine held_value 17 69 (.slice a n c) rfl rfl (by kernel_rfl) (by kernel_rfl) (by kernel_rfl) rfl hH (fun w hw => by go_simp) ?_
      simp only [Act.put, List.setIfInBounds_toArray, List.set_cons_zero, List.set_cons_succ]
      refine held_value 18 70 (.slice a1 n c1) rfl rfl (by kernel_rfl) (by kernel_rfl) (by kernel_rfl) rfl hH (fun w hw => by go_simp) ?_
      simp only [Act.put, List.setIfInBounds_toArray, List.set_cons_zero, List.set_cons_succ]
      refine wpAnyH_ready (rs := [19]) (by kernel_rfl) (by simp) ?_
      refine AllReadyH.cons (o := _) rfl (fun K hK => ?_) AllReadyH.nil
      go_simp
      refine (same_any a a1 n c c1 g g _ (by omega) ((HS.out.below hH.1.bel).more hH.1.bel.size) hH.2 (fun _ _ => rfl)).mono ?_
      rintro e w' ⟨rfl, hb⟩
      refine hK.out _ _ (⟨hH.1.call hb, hH.2.call (Nat.le_refl _) hb⟩) (fun hN => ?_)
      clear hK K hH hb
      have hH := hN
      clear hN
      try simp only [Act.put, List.setIfInBounds_toArray, List.set_cons_zero, List.set_cons_succ]
      refine held_value 20 72 (.bool true) rfl rfl (by kernel_rfl) (by kernel_rfl) (by kernel_rfl) rfl hH (fun w hw => by go_simp) ?_
      simp only [Act.put, List.setIfInBounds_toArray, List.set_cons_zero, List.set_cons_succ]
      refine held_value 21 73 (.bool true) rfl rfl (by kernel_rfl) (by kernel_rfl) (by kernel_rfl) rfl hH (fun w hw => by go_simp) ?_
      simp only [Act.put, List.setIfInBounds_toArray, List.set_cons_zero, List.set_cons_succ]
      refine held_load lanes24 22 74 rfl rfl (by kernel_rfl) (by kernel_rfl) (by kernel_rfl) rfl hH rfl rfl (fun _ h => h.1.get _ _ (.tail _ (.tail _ (.tail _ (.head _))))) ?_
      simp only [Act.put, List.setIfInBounds_toArray, List.set_cons_zero, List.set_cons_succ]
      refine held_load lanes24 24 76 rfl rfl (by kernel_rfl) (by kernel_rfl) (by kernel_rfl) rfl hH rfl rfl (fun _ h => h.1.get _ _ (.tail _ (.tail _ (.head _)))) ?_
      simp only [Act.put, List.setIfInBounds_toArray, List.set_cons_zero, List.set_cons_succ]
      refine wpAnyH_ready (rs := [23]) (by kernel_rfl) (by simp) ?_
      refine AllReadyH.cons (o := _) rfl (fun K hK => ?_) AllReadyH.nil
      go_simp
      refine (perm_any f _ (HT.out.below hH.1.bel)).mono ?_
      rintro e w' ⟨rfl, hb⟩
      refine hK.out _ _ (⟨hH.1.call hb, hH.2.call (Nat.le_refl _) hb⟩) (fun hN => ?_)
      clear hK K hH hb
      have hH := hN
      clear hN
      try simp only [Act.put, List.setIfInBounds_toArray, List.set_cons_zero, List.set_cons_succ]
      refine held_value 25 77 (.bool true) rfl rfl (by kernel_rfl) (by kernel_rfl) (by kernel_rfl) rfl hH (fun w hw => by go_simp) ?_
      simp only [Act.put, List.setIfInBounds_toArray, List.set_cons_zero, List.set_cons_succ]
      refine held_value 26 78 (.bool true) rfl rfl (by kernel_rfl) (by kernel_rfl) (by kernel_rfl) rfl hH (fun w hw => by go_simp) ?_
      simp only [Act.put, List.setIfInBounds_toArray, List.set_cons_zero, List.set_cons_succ]
      refine held_value 27 79 (.bool true) rfl rfl (by kernel_rfl) (by kernel_rfl) (by kernel_rfl) rfl hH (fun w hw => by go_simp) ?_
      simp only [Act.put, List.setIfInBounds_toArray, List.set_cons_zero, List.set_cons_succ]
      refine wpAnyH_ready (rs := [28]) (by kernel_rfl) (by simp) ?_
      refine AllReadyH.cons (o := _) rfl (fun K hK => ?_) AllReadyH.nil
      go_simp
      refine (awake_any _ (HT.out.below hH.1.bel)).mono ?_
      rintro e w' ⟨rfl, hb⟩
      refine hK.out _ _ (⟨hH.1.call hb, hH.2.call (Nat.le_refl _) hb⟩) (fun hN => ?_)
      clear hK K hH hb
      have hH := hN
      clear hN
      try simp only [Act.put, List.setIfInBounds_toArray, List.set_cons_zero, List.set_cons_succ]
      refine held_value 29 81 (.bool true) rfl rfl (by kernel_rfl) (by kernel_rfl) (by kernel_rfl) rfl hH (fun w hw => by go_simp) ?_
      simp only [Act.put, List.setIfInBounds_toArray, List.set_cons_zero, List.set_cons_succ]
      refine held_value 30 4 (.bool true) rfl rfl (by kernel_rfl) (by kernel_rfl) (by kernel_rfl) rfl hH (fun w hw => by go_simp) ?_
      simp only [Act.put, List.setIfInBounds_toArray, List.set_cons_zero, List.set_cons_succ]
      refine wpAnyH_done (by kernel_rfl) ?_ _
      refine NoPanic.normal ?_
      go_wp2_with fail
      go_ret
      exact ⟨rfl, hH.1.bel⟩
end Go.Proofs.YtnjnmffjkcfdfaaDoor
