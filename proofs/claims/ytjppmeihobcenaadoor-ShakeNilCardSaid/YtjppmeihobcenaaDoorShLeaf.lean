/-
  The contracts of the small functions on a hash: New, Clone, Reset, stir.
-/
import Derived.Test.YtjppmeihobcenaaDoorShMem
namespace Go.Proofs.YtjppmeihobcenaaDoor
open Go.RowKit

set_option maxHeartbeats 800000 in
theorem new_any (w : World) : Calls Tryd.prog 14 #[] w fun e w' => e = .returned (.pointer (some ⟨w.heap.size, 0, none⟩)) ∧ w' = w.alloc (.cells (HB zeroH) 57) := by
  go_enter Tryd.func14, Tryd.ntmps14
  go_wp2_with (first
    | ((with_reducible apply lay_build_h); (case hgd => exact rfl); (case ho => exact rfl); intro _ _; go_simp)
    | ((with_reducible apply lay_box_h); (case hgd => exact rfl); (case ho => exact rfl); (case hx => exact rfl); intro _ _; go_simp))
  go_ret
  exact ⟨rfl, rfl⟩

set_option maxHeartbeats 800000 in
theorem clone_any (g : Nat) (h : HS) (w : World) (hg : Lies w g h) : Calls Tryd.prog 18 #[.pointer (some ⟨g, 0, none⟩)] w fun e w' => e = .returned (.pointer (some ⟨w.heap.size, 0, none⟩)) ∧ w' = w.alloc (.cells (HB h) 57) := by
  have HG := Lib.hid hg
  clear hg
  go_enter Tryd.func18, Tryd.ntmps18
  go_wp2_with (first
    | ((with_reducible apply lay_load_h); (case hgd => exact rfl); (case ho => exact rfl); (case hx => exact rfl); (case hg => exact HG.out); intro _ _; go_simp)
    | ((with_reducible apply lay_alloc_h); (case hgd => exact rfl); (case ho => exact rfl); intro _ _; go_simp)
    | ((with_reducible apply lay_store_h); (case hgd => exact rfl); (case ho => exact rfl); (case hx => exact rfl); (case hy => exact rfl); (case hg => exact Lies.new _ _); intro _ _; go_simp))
  go_ret
  exact ⟨rfl, rfl⟩

set_option maxHeartbeats 800000 in
theorem reset_any (g : Nat) (h : HS) (w : World) (hg : Lies w g h) : Calls Tryd.prog 17 #[.pointer (some ⟨g, 0, none⟩)] w fun e w' => e = .returned (.tuple #[]) ∧ w' = w.setRow g (HB zeroH) := by
  have HG := Lib.hid hg
  clear hg
  go_enter Tryd.func17, Tryd.ntmps17
  go_wp2_with (first
    | ((with_reducible apply lay_build_h); (case hgd => exact rfl); (case ho => exact rfl); intro _ _; go_simp)
    | ((with_reducible apply lay_store_h); (case hgd => exact rfl); (case ho => exact rfl); (case hx => exact rfl); (case hy => exact rfl); (case hg => exact HG.out); intro _ _; go_simp))
  exact bodyPost_end (results_none Tryd.results17 _ _ _) rfl ⟨rfl, rfl⟩

set_option maxHeartbeats 1600000 in
theorem stir_any (g : Nat) (h : HS) (w : World) (hT : Tabs w) (h2 : 2 ≤ g) (hg : Lies w g h) :
    Calls Tryd.prog 30 #[.pointer (some ⟨g, 0, none⟩)] w fun e w' => e = .returned (.tuple #[]) ∧ Hs w g w' h.stir := by
  have HT := Lib.hid hT
  clear hT
  have HG := Lib.hid hg
  clear hg
  go_enter Tryd.func30, Tryd.ntmps30
  go_wp2_with fail
  refine wp_region_noPanic ?_
  refine wp_region_held_drew (S := fun W => Hs w g W h) (by kernel_rfl) (Hs.start HG.out).drew (fun hH => ?_)
  refine held_value 0 5 (.pointer (some ⟨g, 0, none⟩)) rfl rfl (by kernel_rfl) (by kernel_rfl) (by kernel_rfl) rfl hH (fun w hw => by go_simp) ?_
  simp only [Act.put, List.setIfInBounds_toArray, List.set_cons_zero, List.set_cons_succ]
  refine held_value 1 6 (.pointer (some ⟨g, 0, none⟩)) rfl rfl (by kernel_rfl) (by kernel_rfl) (by kernel_rfl) rfl hH (fun w hw => by go_simp) ?_
  simp only [Act.put, List.setIfInBounds_toArray, List.set_cons_zero, List.set_cons_succ]
  refine held_value 2 7 (.pointer (some ⟨g, 0, none⟩)) rfl rfl (by kernel_rfl) (by kernel_rfl) (by kernel_rfl) rfl hH (fun w hw => by go_simp) ?_
  simp only [Act.put, List.setIfInBounds_toArray, List.set_cons_zero, List.set_cons_succ]
  refine held_load_s 3 8 rfl rfl (by kernel_rfl) (by kernel_rfl) (by kernel_rfl) rfl hH rfl rfl (fun _ h => h.row) ?_
  simp only [Act.put, List.setIfInBounds_toArray, List.set_cons_zero, List.set_cons_succ]
  refine held_value 4 9 (.pointer (some ⟨g, 0, none⟩)) rfl rfl (by kernel_rfl) (by kernel_rfl) (by kernel_rfl) rfl hH (fun w hw => by go_simp) ?_
  simp only [Act.put, List.setIfInBounds_toArray, List.set_cons_zero, List.set_cons_succ]
  refine held_value 5 10 (.pointer (some ⟨g, 0, none⟩)) rfl rfl (by kernel_rfl) (by kernel_rfl) (by kernel_rfl) rfl hH (fun w hw => by go_simp) ?_
  simp only [Act.put, List.setIfInBounds_toArray, List.set_cons_zero, List.set_cons_succ]
  refine held_value 6 11 (.pointer (some ⟨g, 25, none⟩)) rfl rfl (by kernel_rfl) (by kernel_rfl) (by kernel_rfl) rfl hH (fun w hw => by go_simp) ?_
  simp only [Act.put, List.setIfInBounds_toArray, List.set_cons_zero, List.set_cons_succ]
  refine held_value 7 12 (.slice (some ⟨g, 25, none⟩) 136 136) rfl rfl (by kernel_rfl) (by kernel_rfl) (by kernel_rfl) rfl hH (fun w hw => by go_simp) ?_
  simp only [Act.put, List.setIfInBounds_toArray, List.set_cons_zero, List.set_cons_succ]
  refine wpAnyH_ready (rs := [8, 12]) (by kernel_rfl) (by simp) ?_
  refine AllReadyH.cons (o := _) rfl (fun K hK => ?_) (AllReadyH.cons (o := _) rfl (fun K hK => ?_) AllReadyH.nil)
  · have hz0 := hH.size
    go_simp
    refine (xor_near h.s (some ⟨g, 25, none⟩) 136 136 h.b _ (by omega) (hH.row.sl 136 (by omega))).mono ?_
    rintro e w1 ⟨rfl, hb⟩
    have hz1 := Nat.le_trans hz0 hb.size
    refine hK.out _ _ (hH.call hb) (fun hN => ?_)
    clear hK K hH hb
    have hH := hN
    clear hN
    try simp only [Act.put, List.setIfInBounds_toArray, List.set_cons_zero, List.set_cons_succ]
    refine held_value 9 4 (.tuple #[.agg (A 25 (xorTo h.s h.b 136)), .int .i64 0]) rfl rfl (by kernel_rfl) (by kernel_rfl) (by kernel_rfl) rfl hH (fun w hw => by go_simp) ?_
    simp only [Act.put, List.setIfInBounds_toArray, List.set_cons_zero, List.set_cons_succ]
    refine held_value 10 14 (.agg (A 25 (xorTo h.s h.b 136))) rfl rfl (by kernel_rfl) (by kernel_rfl) (by kernel_rfl) rfl hH (fun w hw => by go_simp) ?_
    simp only [Act.put, List.setIfInBounds_toArray, List.set_cons_zero, List.set_cons_succ]
    refine held_value 11 15 (.int .i64 0) rfl rfl (by kernel_rfl) (by kernel_rfl) (by kernel_rfl) rfl hH (fun w hw => by go_simp) ?_
    simp only [Act.put, List.setIfInBounds_toArray, List.set_cons_zero, List.set_cons_succ]
    refine wpAnyH_ready (rs := [12]) (by kernel_rfl) (by simp) ?_
    refine AllReadyH.cons (o := _) rfl (fun K hK => ?_) AllReadyH.nil
    refine want rfl ?_
    refine lanes_alloc lanes24 rfl ?_
    refine hK.out _ _ (hH.alloc _) (fun hN => ?_)
    clear hK K hH
    have hH := hN
    clear hN
    try simp only [Act.put, List.setIfInBounds_toArray]
        have hgl := HG.out.lt
    have hr : (w1.alloc (.cells (A 25 fun _ => 0) 54)).heap[w1.heap.size]? = some (.cells (A 25 fun _ => 0) 54) := row1 _ _
    have hs1 : w.heap.size ≤ w1.heap.size := hz1
    refine wpAnyH_ready (rs := [13]) (by kernel_rfl) (by simp) ?_
    refine AllReadyH.cons (o := _) rfl (fun K hK => ?_) AllReadyH.nil
    refine want rfl ?_
    refine lanes_store lanes24 _ _ rfl _ rfl _ rfl (hr) ?_
    refine hK.out _ _ (hH.setOther _ _ (hs1) (by omega)) (fun hN => ?_)
    clear hK K hH
    have hH := hN
    clear hN
    try simp only [Act.put]
    have hr2 := setRow_heap _ _ _ (A 25 (xorTo h.s h.b 136)) _ _ hr
    clear hr
    generalize (w1.alloc (.cells (A 25 fun _ => 0) 54)).setRow w1.heap.size (A 25 (xorTo h.s h.b 136)) = W at hH hr2 ⊢
    refine held_value 14 3 (.int .i64 0) rfl rfl (by kernel_rfl) (by kernel_rfl) (by kernel_rfl) rfl hH (fun w hw => by go_simp) ?_
    simp only [Act.put]
    refine wpAnyH_done (by kernel_rfl) ?_ _
    refine NoPanic.normal ?_
    have HR := Lib.hid hr2
    have HH := Lib.hid hH
    clear hH hr2
    go_wp2_with (first
      | ((with_reducible apply lay_load lanes24); (case hgd => exact rfl); (case ho => exact rfl); (case hx => exact rfl); (case hg => exact HR.out); intro _ _; go_simp))
    refine (perm_any _ _ (HH.out.tabs h2 HT.out)).mono ?_
    rintro e w2 ⟨rfl, hb⟩
    have HH2 := Lib.hid (HH.out.call hb)
    clear hb HH HR
    go_wp2_with (first
      | ((with_reducible apply lay_store_s); (case hgd => exact rfl); (case ho => exact rfl); (case hx => exact rfl); (case hy => exact rfl); (case hg => exact HH2.out.row); intro _ _; go_simp)
      | ((with_reducible apply lay_build_b); (case hgd => exact rfl); (case ho => exact rfl); intro _ _; go_simp)
      | ((with_reducible apply lay_store_b); (case hgd => exact rfl); (case ho => exact rfl); (case hx => exact rfl); (case hy => exact rfl); (case hg => exact (HH2.out.set _).row); intro _ _; go_simp)
      | ((with_reducible apply lay_store_k (n := 0)); (case hgd => exact rfl); (case ho => exact rfl); (case hx => exact rfl); (case hy => exact rfl); (case hg => exact ((HH2.out.set _).set _).row); intro _ _; go_simp))
    refine bodyPost_end (results_none Tryd.results30 _ _ _) rfl ⟨rfl, ?_⟩
    exact ((HH2.out.set _).set _).set _
  · refine want rfl ?_
    refine lanes_alloc lanes24 rfl ?_
    refine hK.out _ _ (hH.alloc _) (fun hN => ?_)
    clear hK K hH
    have hH := hN
    clear hN
    try simp only [Act.put, List.setIfInBounds_toArray]
    have hr0 : (w.drew.alloc (.cells (A 25 fun _ => 0) 54)).heap[w.heap.size]? = some (.cells (A 25 fun _ => 0) 54) := row1 w.drew _
    have hgl := HG.out.lt
    refine wpAnyH_ready (rs := [8]) (by kernel_rfl) (by simp) ?_
    refine AllReadyH.cons (o := _) rfl (fun K hK => ?_) AllReadyH.nil
    go_simp
    refine (xor_near h.s (some ⟨g, 25, none⟩) 136 136 h.b _ (by omega) (hH.row.sl 136 (by omega))).mono ?_
    rintro e w1 ⟨rfl, hb⟩
    have hr := (hb.block _ (row_lt hr0)).trans hr0
    refine hK.out _ _ (hH.call hb) (fun hN => ?_)
    clear hK K hH hb hr0
    have hH := hN
    clear hN
    try simp only [Act.put, List.setIfInBounds_toArray, List.set_cons_zero, List.set_cons_succ]
    refine held_value 9 4 (.tuple #[.agg (A 25 (xorTo h.s h.b 136)), .int .i64 0]) rfl rfl (by kernel_rfl) (by kernel_rfl) (by kernel_rfl) rfl hH (fun w hw => by go_simp) ?_
    simp only [Act.put, List.setIfInBounds_toArray, List.set_cons_zero, List.set_cons_succ]
    refine held_value 10 14 (.agg (A 25 (xorTo h.s h.b 136))) rfl rfl (by kernel_rfl) (by kernel_rfl) (by kernel_rfl) rfl hH (fun w hw => by go_simp) ?_
    simp only [Act.put, List.setIfInBounds_toArray, List.set_cons_zero, List.set_cons_succ]
    refine held_value 11 15 (.int .i64 0) rfl rfl (by kernel_rfl) (by kernel_rfl) (by kernel_rfl) rfl hH (fun w hw => by go_simp) ?_
    simp only [Act.put, List.setIfInBounds_toArray, List.set_cons_zero, List.set_cons_succ]
    refine wpAnyH_ready (rs := [13]) (by kernel_rfl) (by simp) ?_
    refine AllReadyH.cons (o := _) rfl (fun K hK => ?_) AllReadyH.nil
    refine want rfl ?_
    refine lanes_store lanes24 _ _ rfl _ rfl _ rfl (hr) ?_
    refine hK.out _ _ (hH.setOther _ _ (Nat.le_refl _) (by show w.heap.size ≠ g; omega)) (fun hN => ?_)
    clear hK K hH
    have hH := hN
    clear hN
    try simp only [Act.put, List.setIfInBounds_toArray]
    have hr2 := setRow_heap _ _ _ (A 25 (xorTo h.s h.b 136)) _ _ hr
    clear hr
    generalize w1.setRow w.heap.size (A 25 (xorTo h.s h.b 136)) = W at hH hr2 ⊢
    refine held_value 14 3 (.int .i64 0) rfl rfl (by kernel_rfl) (by kernel_rfl) (by kernel_rfl) rfl hH (fun w hw => by go_simp) ?_
    simp only [Act.put]
    refine wpAnyH_done (by kernel_rfl) ?_ _
    refine NoPanic.normal ?_
    have HR := Lib.hid hr2
    have HH := Lib.hid hH
    clear hH hr2
    go_wp2_with (first
      | ((with_reducible apply lay_load lanes24); (case hgd => exact rfl); (case ho => exact rfl); (case hx => exact rfl); (case hg => exact HR.out); intro _ _; go_simp))
    refine (perm_any _ _ (HH.out.tabs h2 HT.out)).mono ?_
    rintro e w2 ⟨rfl, hb⟩
    have HH2 := Lib.hid (HH.out.call hb)
    clear hb HH HR
    go_wp2_with (first
      | ((with_reducible apply lay_store_s); (case hgd => exact rfl); (case ho => exact rfl); (case hx => exact rfl); (case hy => exact rfl); (case hg => exact HH2.out.row); intro _ _; go_simp)
      | ((with_reducible apply lay_build_b); (case hgd => exact rfl); (case ho => exact rfl); intro _ _; go_simp)
      | ((with_reducible apply lay_store_b); (case hgd => exact rfl); (case ho => exact rfl); (case hx => exact rfl); (case hy => exact rfl); (case hg => exact (HH2.out.set _).row); intro _ _; go_simp)
      | ((with_reducible apply lay_store_k (n := 0)); (case hgd => exact rfl); (case ho => exact rfl); (case hx => exact rfl); (case hy => exact rfl); (case hg => exact ((HH2.out.set _).set _).row); intro _ _; go_simp))
    refine bodyPost_end (results_none Tryd.results30 _ _ _) rfl ⟨rfl, ?_⟩
    exact ((HH2.out.set _).set _).set _
end Go.Proofs.YtjppmeihobcenaaDoor
