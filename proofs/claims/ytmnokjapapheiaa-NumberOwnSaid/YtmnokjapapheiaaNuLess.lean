/-
  The contracts of number.lessen and double: what is written on the spot.
-/
import Derived.Test.YtmnokjapapheiaaNuTrim
namespace Go.Proofs.Ytmnokjapapheiaa
open Go.RowKit

/-- What a difference is, word by word. -/
theorem sbb_word {x y : Nat} (h : y ≤ x) (i : Nat) : sbb (wd x i) (wd y i) (bor x y i) = wd (x - y) i := by
  apply BitVec.eq_of_toNat_eq
  rw [wd_sub h]
  unfold sbb
  rw [BitVec.toNat_ofNat, cy_of (bor_le x y i)]
theorem sbk_word {x y : Nat} (h : y ≤ x) (i : Nat) : sbk (wd x i) (wd y i) (bor x y i) = bor x y (i + 1) := by
  rw [bor_succ h]
  unfold sbk
  rw [cy_of (bor_le x y i)]
set_option maxHeartbeats 1000000 in
theorem lessen_any (g N x : Nat) (a : Option Addr) (m c y : Nat) (w : World) (hN : N ≤ 1000000) (hm : m ≤ 1000000) (hr : RowW w g N (wd x)) (hxy : y ≤ x) (h : Sw w g a m c y) :
    Calls Try.prog 44 #[.slice (some ⟨g, 0, none⟩) N N, .slice a m c] w fun e w' => e = .returned (.tuple #[]) ∧ RowW w' g N (wd (x - y)) ∧ Below g w w' := by
  have H := Lib.hid h
  have HR := Lib.hid hr
  clear h hr
  have hN' : (N : Int) ≤ 1000000 := by omega
  go_enter Try.func44, Try.ntmps44
  go_wp2_with fail
  go_loopw [4, 8] (fun v4 v8 wr => ∃ i : Nat, i ≤ N ∧ v8 = .int .i64 i ∧ v4 = V (cy (bor x y i)) ∧ RowW wr g N (mix i (wd (x - y)) (wd x)) ∧ Below g w wr) (fun _ v8 _ => N - (intOf v8).toNat)
  case atStart => exact ⟨0, by omega, rfl, by rw [bor_zero]; rfl, by rw [mix_zero]; exact HR.out, Below.refl _ _⟩
  case round =>
    clear HR
    obtain ⟨i, hi, rfl, rfl, HW, HB⟩ := hrel
    by_cases hlt : i < N
    · have hid : decide ((i : Int) < (N : Int)) = true := by simp; omega
      have iN : (i : Int) < (N : Int) := by omega
      have H1 := Lib.hid HW
      have H2 := Lib.hid HB
      clear HW HB
      go_wp2_with fail
      refine wp_region_noPanic ?_
      refine wp_region_held_drew (S := fun _ => True) (by kernel_rfl) trivial (fun hH => ?_)
      have D1 := Lib.hid H1.out.drew
      have D2 := Lib.hid (Below.drew H2.out)
      clear H1 H2
      generalize wr.drew = w2 at *
      have hc : w2.cell? ⟨g, i, none⟩ = some (V (wd x i)) := by rw [D1.out.cell i hlt, mix_at]
      have hz := D1.out.thaw i
      have HS := Lib.hid (H.out.below D2.out)
      refine held_value 0 12 (Value.slice (some ⟨g, 0, none⟩) N N) rfl rfl (by kernel_rfl) (by kernel_rfl) (by kernel_rfl) rfl hH (fun w hw => by go_simp) ?_
      simp only [Act.put, List.setIfInBounds_toArray, List.set_cons_zero, List.set_cons_succ]
      refine held_value 1 13 (Value.int .i64 (i : Int)) rfl rfl (by kernel_rfl) (by kernel_rfl) (by kernel_rfl) rfl hH (fun w hw => by go_simp) ?_
      simp only [Act.put, List.setIfInBounds_toArray, List.set_cons_zero, List.set_cons_succ]
      refine held_value 2 14 (Value.slice (some ⟨g, 0, none⟩) N N) rfl rfl (by kernel_rfl) (by kernel_rfl) (by kernel_rfl) rfl hH (fun w hw => by go_simp) ?_
      simp only [Act.put, List.setIfInBounds_toArray, List.set_cons_zero, List.set_cons_succ]
      refine held_value 3 15 (Value.int .i64 (i : Int)) rfl rfl (by kernel_rfl) (by kernel_rfl) (by kernel_rfl) rfl hH (fun w hw => by go_simp) ?_
      simp only [Act.put, List.setIfInBounds_toArray, List.set_cons_zero, List.set_cons_succ]
      refine held_value 4 16 (Value.pointer (some ⟨g, i, none⟩)) rfl rfl (by kernel_rfl) (by kernel_rfl) (by kernel_rfl) rfl hH (fun w hw => by go_simp) ?_
      simp only [Act.put, List.setIfInBounds_toArray, List.set_cons_zero, List.set_cons_succ]
      refine held_value 6 18 (Value.slice a m c) rfl rfl (by kernel_rfl) (by kernel_rfl) (by kernel_rfl) rfl hH (fun w hw => by go_simp) ?_
      simp only [Act.put, List.setIfInBounds_toArray, List.set_cons_zero, List.set_cons_succ]
      refine held_value 7 19 (Value.int .i64 (i : Int)) rfl rfl (by kernel_rfl) (by kernel_rfl) (by kernel_rfl) rfl hH (fun w hw => by go_simp) ?_
      simp only [Act.put, List.setIfInBounds_toArray, List.set_cons_zero, List.set_cons_succ]
      refine held_value 9 21 (V (cy (bor x y i))) rfl rfl (by kernel_rfl) (by kernel_rfl) (by kernel_rfl) rfl hH (fun w hw => by go_simp) ?_
      simp only [Act.put, List.setIfInBounds_toArray, List.set_cons_zero, List.set_cons_succ]
      refine wpAnyH_ready (rs := [5, 8]) (by kernel_rfl) (by simp) ?_
      refine AllReadyH.cons (o := _) rfl (fun K hK => ?_) (AllReadyH.cons (o := _) rfl (fun K hK => ?_) AllReadyH.nil)
      · go_simp
        refine hK.out _ _ trivial (fun _ => ?_)
        clear hK K
        try simp only [Act.put, List.setIfInBounds_toArray, List.set_cons_zero, List.set_cons_succ]
        refine wpAnyH_ready (rs := [8]) (by kernel_rfl) (by simp) ?_
        refine AllReadyH.cons (o := _) rfl (fun K hK => ?_) AllReadyH.nil
        go_simp
        refine (word_any a m c y i _ (by omega) (by omega) HS.out).mono ?_
        rintro e w' ⟨rfl, rfl⟩
        refine hK.out _ _ trivial (fun _ => ?_)
        clear hK K
        try simp only [Act.put, List.setIfInBounds_toArray, List.set_cons_zero, List.set_cons_succ]
        refine wpAnyH_ready (rs := [10]) (by kernel_rfl) (by simp) ?_
        refine AllReadyH.cons (o := _) rfl (fun K hK => ?_) AllReadyH.nil
        go_simp
        refine hK.out _ _ trivial (fun _ => ?_)
        clear hK K
        try simp only [Act.put, List.setIfInBounds_toArray, List.set_cons_zero, List.set_cons_succ]
        refine held_value 11 11 (Value.tuple #[V (sbb (wd x i) (wd y i) (bor x y i)), V (cy (sbk (wd x i) (wd y i) (bor x y i)))]) rfl rfl (by kernel_rfl) (by kernel_rfl) (by kernel_rfl) rfl hH (fun w hw => by go_simp) ?_
        simp only [Act.put, List.setIfInBounds_toArray, List.set_cons_zero, List.set_cons_succ]
        refine held_value 12 23 (V (sbb (wd x i) (wd y i) (bor x y i))) rfl rfl (by kernel_rfl) (by kernel_rfl) (by kernel_rfl) rfl hH (fun w hw => by go_simp) ?_
        simp only [Act.put, List.setIfInBounds_toArray, List.set_cons_zero, List.set_cons_succ]
        refine held_value 13 24 (V (cy (sbk (wd x i) (wd y i) (bor x y i)))) rfl rfl (by kernel_rfl) (by kernel_rfl) (by kernel_rfl) rfl hH (fun w hw => by go_simp) ?_
        simp only [Act.put, List.setIfInBounds_toArray, List.set_cons_zero, List.set_cons_succ]
        refine held_value 14 25 (Value.pointer (some ⟨g, i, none⟩)) rfl rfl (by kernel_rfl) (by kernel_rfl) (by kernel_rfl) rfl hH (fun w hw => by go_simp) ?_
        simp only [Act.put, List.setIfInBounds_toArray, List.set_cons_zero, List.set_cons_succ]
        refine wpAnyH_ready (rs := [15]) (by kernel_rfl) (by simp) ?_
        refine AllReadyH.cons (o := _) rfl (fun K hK => ?_) AllReadyH.nil
        go_simp
        refine hK.out _ _ trivial (fun _ => ?_)
        clear hK K
        try simp only [Act.put, List.setIfInBounds_toArray, List.set_cons_zero, List.set_cons_succ]
        refine held_value 16 4 (V (cy (sbk (wd x i) (wd y i) (bor x y i)))) rfl rfl (by kernel_rfl) (by kernel_rfl) (by kernel_rfl) rfl hH (fun w hw => by go_simp) ?_
        simp only [Act.put, List.setIfInBounds_toArray, List.set_cons_zero, List.set_cons_succ]
        refine wpAnyH_done (by kernel_rfl) ?_ _
        refine NoPanic.normal ?_
        clear hc hz
        go_wp2_with fail
        go_roundw
        case rel => exact ⟨i + 1, by omega, by go_num, by rw [sbk_word hxy], by rw [← mix_upd, ← sbb_word hxy]; exact D1.out.setCell i _, D2.out.setCell (Nat.le_refl _) _⟩
        case measure => simp [intOf]; omega
      · go_simp
        refine (word_any a m c y i _ (by omega) (by omega) HS.out).mono ?_
        rintro e w' ⟨rfl, rfl⟩
        refine hK.out _ _ trivial (fun _ => ?_)
        clear hK K
        try simp only [Act.put, List.setIfInBounds_toArray, List.set_cons_zero, List.set_cons_succ]
        refine wpAnyH_ready (rs := [5]) (by kernel_rfl) (by simp) ?_
        refine AllReadyH.cons (o := _) rfl (fun K hK => ?_) AllReadyH.nil
        go_simp
        refine hK.out _ _ trivial (fun _ => ?_)
        clear hK K
        try simp only [Act.put, List.setIfInBounds_toArray, List.set_cons_zero, List.set_cons_succ]
        refine wpAnyH_ready (rs := [10]) (by kernel_rfl) (by simp) ?_
        refine AllReadyH.cons (o := _) rfl (fun K hK => ?_) AllReadyH.nil
        go_simp
        refine hK.out _ _ trivial (fun _ => ?_)
        clear hK K
        try simp only [Act.put, List.setIfInBounds_toArray, List.set_cons_zero, List.set_cons_succ]
        refine held_value 11 11 (Value.tuple #[V (sbb (wd x i) (wd y i) (bor x y i)), V (cy (sbk (wd x i) (wd y i) (bor x y i)))]) rfl rfl (by kernel_rfl) (by kernel_rfl) (by kernel_rfl) rfl hH (fun w hw => by go_simp) ?_
        simp only [Act.put, List.setIfInBounds_toArray, List.set_cons_zero, List.set_cons_succ]
        refine held_value 12 23 (V (sbb (wd x i) (wd y i) (bor x y i))) rfl rfl (by kernel_rfl) (by kernel_rfl) (by kernel_rfl) rfl hH (fun w hw => by go_simp) ?_
        simp only [Act.put, List.setIfInBounds_toArray, List.set_cons_zero, List.set_cons_succ]
        refine held_value 13 24 (V (cy (sbk (wd x i) (wd y i) (bor x y i)))) rfl rfl (by kernel_rfl) (by kernel_rfl) (by kernel_rfl) rfl hH (fun w hw => by go_simp) ?_
        simp only [Act.put, List.setIfInBounds_toArray, List.set_cons_zero, List.set_cons_succ]
        refine held_value 14 25 (Value.pointer (some ⟨g, i, none⟩)) rfl rfl (by kernel_rfl) (by kernel_rfl) (by kernel_rfl) rfl hH (fun w hw => by go_simp) ?_
        simp only [Act.put, List.setIfInBounds_toArray, List.set_cons_zero, List.set_cons_succ]
        refine wpAnyH_ready (rs := [15]) (by kernel_rfl) (by simp) ?_
        refine AllReadyH.cons (o := _) rfl (fun K hK => ?_) AllReadyH.nil
        go_simp
        refine hK.out _ _ trivial (fun _ => ?_)
        clear hK K
        try simp only [Act.put, List.setIfInBounds_toArray, List.set_cons_zero, List.set_cons_succ]
        refine held_value 16 4 (V (cy (sbk (wd x i) (wd y i) (bor x y i)))) rfl rfl (by kernel_rfl) (by kernel_rfl) (by kernel_rfl) rfl hH (fun w hw => by go_simp) ?_
        simp only [Act.put, List.setIfInBounds_toArray, List.set_cons_zero, List.set_cons_succ]
        refine wpAnyH_done (by kernel_rfl) ?_ _
        refine NoPanic.normal ?_
        clear hc hz
        go_wp2_with fail
        go_roundw
        case rel => exact ⟨i + 1, by omega, by go_num, by rw [sbk_word hxy], by rw [← mix_upd, ← sbb_word hxy]; exact D1.out.setCell i _, D2.out.setCell (Nat.le_refl _) _⟩
        case measure => simp [intOf]; omega
    · obtain rfl : i = N := by omega
      have H1 := Lib.hid HW
      have H2 := Lib.hid HB
      clear HW HB
      go_wp2_with fail
      go_end0
      exact ⟨rfl, H1.out.congr fun k hk => mix_all _ _ _ k hk, H2.out⟩
end Go.Proofs.Ytmnokjapapheiaa
