/-
  The walk of RootSums. No statement is proved here: lemmas for the walks.
-/
import Derived.Test.YtieoapcakdaelaaDoorZRtAwk
import Derived.Test.YtieoapcakdaelaaDoorZRtPow
import Derived.Test.YtieoapcakdaelaaDoorBuE
import Derived.Test.YtieoapcakdaelaaDoorBuO
import Derived.Test.YtieoapcakdaelaaDoorZLaLeaf
namespace Go.Proofs.YtieoapcakdaelaaDoor
open Go.RowKit

theorem rowSb {w : World} {g n x k : Nat} (h : w.heap[g]? = some (BlkB n (bt x))) (hk : k = 8 * n) (hx : x < 2 ^ k) : Sb w w.heap.size (some ⟨g, 0, none⟩) n n x := by
  subst hk
  exact ⟨Sl.own h (Nat.le_refl _) (Nat.le_refl _) (lt_row h), hx⟩
theorem nbytes_row (a : Option Addr) (n c x s : Nat) (z : Int) (hz : z = (s : Int)) (w : World) (hn : n ≤ 1000000) (hs : s ≤ 65536) (h : Sw w w.heap.size a n c x) {k : Nat} (hk : k = 8 * s) (hx : x < 2 ^ k) :
    Calls Tryd.prog 44 #[.slice a n c, .int .i64 z] w fun e w' => ∃ g, e = .returned (.tuple #[.slice (some ⟨g, 0, none⟩) s s, .int .i64 0]) ∧ w.heap.size ≤ g ∧ w'.heap[g]? = some (BlkB s (bt x)) ∧ Below w.heap.size w w' := by
  subst hz hk
  exact (nbytes_any a n c x s w hn hs h hx).mono fun _ _ ⟨he, hr, hb⟩ => ⟨_, he, Nat.le_refl _, hr, hb⟩
theorem two_sum {x y m : Nat} (hx : x < 2 ^ m) (hy : y < 2 ^ m) : x + y < 2 ^ (m + 8) := by
  rw [Nat.pow_add]
  generalize 2 ^ m = p at *
  omega
theorem two_prod {x y m : Nat} (hx : x < 2 ^ m) (hy : y < 2 ^ m) : x * y < 2 ^ (m + m) := by
  rw [Nat.pow_add]
  exact Nat.mul_lt_mul'' hx hy
theorem fits_up {x m n : Nat} (h : x < 2 ^ m) (hmn : m ≤ n) : x < 2 ^ n := Nat.lt_of_lt_of_le h (Nat.pow_le_pow_right (by omega) hmn)
theorem three_words {x n : Nat} (h : x < 2 ^ (64 * n)) (hn : n ≤ 3) : x < 2 ^ 192 := Nat.lt_of_lt_of_le h (Nat.pow_le_pow_right (by omega) (by omega))
theorem dl_small6 {x k : Nat} (h : x < 2 ^ k) (hk : k ≤ 384) : dl 64 x ≤ 6 := by
  obtain ⟨s, hs⟩ : ∃ s, s = 6 := ⟨_, rfl⟩
  exact Nat.le_trans ((dl_le 64 x s (by omega)).2 (fits_up h (by omega))) (Nat.le_of_eq hs)
set_option maxRecDepth 20000 in
set_option maxHeartbeats 12800000 in
theorem sums_far0 (u : Nat → BitVec 8) (am : Option Addr) (nm cm : Nat) (an : Option Addr) (nn cn : Nat) (w : World) (hT : Tp w) (h : 3 < nm) :
    Calls Tryd.prog 10 #[.agg (AZ .u8 56 (UB u)), .slice am nm cm, .slice an nn cn] w fun e w' => e = .returned (.bool true) ∧ Below w.heap.size w w' := by
  obtain ⟨f, a, hm1, hp1, hv1⟩ := raw_k u
  have HM1 := Lib.hid hm1
  have HP1 := Lib.hid hp1
  have HV1 := Lib.hid hv1
  clear hm1 hp1 hv1
  have HT := Lib.hid hT
  clear hT
  have hd : decide ((3 : Int) < (nm : Int)) = true := by simp; omega
  clear h
  have H := Lib.hid (Ow.start w)
  go_enter Tryd.func10, Tryd.ntmps10
  go_wp2_with (first
    | ((fail_if_success have := g3); (with_reducible apply own_box H); (case hgd => exact rfl); (case ho => exact rfl); (case hx => exact rfl); intro w3 g3 H' _ _; replace H := H'; clear H'; go_simp)
    | ((with_reducible apply own_load rowB H); (case hgd => exact rfl); (case ho => exact rfl); (case hx => exact rfl); (case hi => first | exact at0 | exact at1 | exact at2 | exact at3 | exact at4 | exact at5 | exact at6 | exact at7 | exact at8 | exact at9); intro _ _; go_simp)
    | ((with_reducible refine (HM1.out _).mono ?_); rintro e wc ⟨rfl, hb⟩; replace H := Lib.hid (H.out.call hb); clear hb)
    | ((fail_if_success have := g7); (with_reducible apply own_alloc nilE H); (case hgd => exact rfl); (case ho => exact rfl); intro w7 g7 H' _ _; replace H := H'; clear H'; go_simp)
    | ((with_reducible apply own_store rowE H); (case hgd => exact rfl); (case ho => exact rfl); (case hx => exact rfl); (case hy => exact rfl); (case hi => first | exact at0 | exact at1 | exact at2 | exact at3 | exact at4 | exact at5 | exact at6 | exact at7 | exact at8 | exact at9); intro ws H' _ _; replace H := H'; clear H'; simp only [List.set_cons_zero] at H; go_simp)
    | ((with_reducible refine (awake5 _ (HT.out.below H.out.bel)).mono ?_); rintro e wc ⟨rfl, hb⟩; replace H := Lib.hid (H.out.call hb); clear hb))
  go_ret
  exact ⟨rfl, H.out.bel⟩
set_option maxRecDepth 20000 in
set_option maxHeartbeats 12800000 in
theorem sums_far1 (u : Nat → BitVec 8) (am : Option Addr) (nm cm : Nat) (an : Option Addr) (nn cn : Nat) (w : World) (hT : Tp w) (h1 : ¬ 3 < nm) (h : 3 < nn) :
    Calls Tryd.prog 10 #[.agg (AZ .u8 56 (UB u)), .slice am nm cm, .slice an nn cn] w fun e w' => e = .returned (.bool true) ∧ Below w.heap.size w w' := by
  obtain ⟨f, a, hm1, hp1, hv1⟩ := raw_k u
  have HM1 := Lib.hid hm1
  have HP1 := Lib.hid hp1
  have HV1 := Lib.hid hv1
  clear hm1 hp1 hv1
  have HT := Lib.hid hT
  clear hT
  have hd : decide ((3 : Int) < (nm : Int)) = false := by simp; omega
  have hd2 : decide ((3 : Int) < (nn : Int)) = true := by simp; omega
  clear h
  have H := Lib.hid (Ow.start w)
  go_enter Tryd.func10, Tryd.ntmps10
  go_wp2_with (first
    | ((fail_if_success have := g3); (with_reducible apply own_box H); (case hgd => exact rfl); (case ho => exact rfl); (case hx => exact rfl); intro w3 g3 H' _ _; replace H := H'; clear H'; go_simp)
    | ((with_reducible apply own_load rowB H); (case hgd => exact rfl); (case ho => exact rfl); (case hx => exact rfl); (case hi => first | exact at0 | exact at1 | exact at2 | exact at3 | exact at4 | exact at5 | exact at6 | exact at7 | exact at8 | exact at9); intro _ _; go_simp)
    | ((with_reducible refine (HM1.out _).mono ?_); rintro e wc ⟨rfl, hb⟩; replace H := Lib.hid (H.out.call hb); clear hb)
    | ((fail_if_success have := g7); (with_reducible apply own_alloc nilE H); (case hgd => exact rfl); (case ho => exact rfl); intro w7 g7 H' _ _; replace H := H'; clear H'; go_simp)
    | ((with_reducible apply own_store rowE H); (case hgd => exact rfl); (case ho => exact rfl); (case hx => exact rfl); (case hy => exact rfl); (case hi => first | exact at0 | exact at1 | exact at2 | exact at3 | exact at4 | exact at5 | exact at6 | exact at7 | exact at8 | exact at9); intro ws H' _ _; replace H := H'; clear H'; simp only [List.set_cons_zero] at H; go_simp)
    | ((with_reducible refine (awake5 _ (HT.out.below H.out.bel)).mono ?_); rintro e wc ⟨rfl, hb⟩; replace H := Lib.hid (H.out.call hb); clear hb))
  go_ret
  exact ⟨rfl, H.out.bel⟩
set_option maxRecDepth 20000 in
set_option maxHeartbeats 12800000 in
theorem sums_near (u : Nat → BitVec 8) (am : Option Addr) (nm cm x : Nat) (an : Option Addr) (nn cn y : Nat) (w : World) (hT : Tp w) (hm : Sw w w.heap.size am nm cm x) (hn : Sw w w.heap.size an nn cn y) (h1 : nm ≤ 3) (h2 : nn ≤ 3) :
    Calls Tryd.prog 10 #[.agg (AZ .u8 56 (UB u)), .slice am nm cm, .slice an nn cn] w fun e w' => e = .returned (.bool true) ∧ Below w.heap.size w w' := by
  obtain ⟨f, a, hm1, hp1, hv1⟩ := raw_k u
  have HM1 := Lib.hid hm1
  have HP1 := Lib.hid hp1
  have HV1 := Lib.hid hv1
  clear hm1 hp1 hv1
  have HT := Lib.hid hT
  clear hT
  have hd : decide ((3 : Int) < (nm : Int)) = false := by simp; omega
  have hd2 : decide ((3 : Int) < (nn : Int)) = false := by simp; omega
  have hx := three_words hm.fits h1
  have hy := three_words hn.fits h2
  obtain ⟨e24, he24⟩ : ∃ k, k = 192 := ⟨_, rfl⟩
  rw [← he24] at hx hy
  have XM := Lib.hid hx
  have YM := Lib.hid hy
  have E24 : Hid (e24 = 8 * 24) := Lib.hid (by omega)
  have E25 : Hid (e24 + 8 = 8 * 25) := Lib.hid (by omega)
  have E48 : Hid (e24 + e24 = 8 * 48) := Lib.hid (by omega)
  have SM := Lib.hid (two_sum hx hy)
  have PM := Lib.hid (two_prod hx hy)
  have HM := Lib.hid hm
  have HN := Lib.hid hn
  have dx := dl_small6 hx (by omega)
  have ds := dl_small6 (two_sum hx hy) (by omega)
  have dp := dl_small6 (two_prod hx hy) (by omega)
  have DX := Lib.hid dx
  have DS := Lib.hid ds
  have DP := Lib.hid dp
  clear hm hn hx hy dx ds dp he24
  have H := Lib.hid (Ow.start w)
  go_enter Tryd.func10, Tryd.ntmps10
  go_wp2_with (first
    | ((fail_if_success have := g3); (with_reducible apply own_box H); (case hgd => exact rfl); (case ho => exact rfl); (case hx => exact rfl); intro w3 g3 H' _ _; replace H := H'; clear H'; go_simp)
    | ((with_reducible apply own_load rowB H); (case hgd => exact rfl); (case ho => exact rfl); (case hx => exact rfl); (case hi => first | exact at0 | exact at1 | exact at2 | exact at3 | exact at4 | exact at5 | exact at6 | exact at7 | exact at8 | exact at9); intro _ _; go_simp)
    | ((with_reducible refine (HM1.out _).mono ?_); rintro e wc ⟨rfl, hb⟩; replace H := Lib.hid (H.out.call hb); clear hb)
    | ((fail_if_success have := g7); (with_reducible apply own_alloc nilE H); (case hgd => exact rfl); (case ho => exact rfl); intro w7 g7 H' _ _; replace H := H'; clear H'; go_simp)
    | ((with_reducible apply own_store rowE H); (case hgd => exact rfl); (case ho => exact rfl); (case hx => exact rfl); (case hy => exact rfl); (case hi => first | exact at0 | exact at1 | exact at2 | exact at3 | exact at4 | exact at5 | exact at6 | exact at7 | exact at8 | exact at9); intro ws H' _ _; replace H := H'; clear H'; simp only [List.set_cons_zero] at H; go_simp))
  refine (nbytes_row am nm cm x 24 _ rfl _ (by omega) (by omega) ((HM.out.below H.out.bel).more H.out.bel.size) E24.out XM.out).mono ?_
  rintro e wc ⟨gb, rfl, hge, hrow, hb⟩
  replace H := Lib.hid (H.out.add hb hge hrow)
  clear hge hrow hb
  go_wp2_with fail
  refine (nbytes_row an nn cn y 24 _ rfl _ (by omega) (by omega) ((HN.out.below H.out.bel).more H.out.bel.size) E24.out YM.out).mono ?_
  rintro e wc ⟨gc, rfl, hge, hrow, hb⟩
  replace H := Lib.hid (H.out.add hb hge hrow)
  clear hge hrow hb
  go_wp2_with fail
  refine (nadd_any am nm cm x an nn cn y _ (by omega) (by omega) ((HM.out.below H.out.bel).more H.out.bel.size) ((HN.out.below H.out.bel).more H.out.bel.size)).mono ?_
  rintro e wc ⟨v, rfl, hg⟩
  obtain ⟨aa, rfl, hs, hb⟩ := hg.open
  replace H := Lib.hid (H.out.call hb)
  have HA := Lib.hid hs
  clear hg hs hb
  go_wp2_with fail
  refine (nbytes_row aa _ _ (x + y) 25 _ rfl _ (by have := DS.out; omega) (by omega) HA.out E25.out SM.out).mono ?_
  rintro e wc ⟨gs, rfl, hge, hrow, hb⟩
  replace H := Lib.hid (H.out.add hb hge hrow)
  clear hge hrow hb
  clear HA
  go_wp2_with fail
  refine (nmul_any am nm cm x an nn cn y _ (by omega) (by omega) ((HM.out.below H.out.bel).more H.out.bel.size) ((HN.out.below H.out.bel).more H.out.bel.size)).mono ?_
  rintro e wc ⟨v, rfl, hg⟩
  obtain ⟨ap, rfl, hs, hb⟩ := hg.open
  replace H := Lib.hid (H.out.call hb)
  have HA := Lib.hid hs
  clear hg hs hb
  go_wp2_with fail
  refine (nbytes_row ap _ _ (x * y) 48 _ rfl _ (by have := DP.out; omega) (by omega) HA.out E48.out PM.out).mono ?_
  rintro e wc ⟨gp, rfl, hge, hrow, hb⟩
  replace H := Lib.hid (H.out.add hb hge hrow)
  clear hge hrow hb
  clear HA
  go_wp2_with fail
  refine (nof_any (some ⟨gb, 0, none⟩) 24 24 x _ (by omega) (rowSb (H.out.row 3 rfl) E24.out XM.out)).mono ?_
  rintro e wc ⟨v, rfl, hg⟩
  obtain ⟨ao, rfl, hs, hb⟩ := hg.open
  replace H := Lib.hid (H.out.call hb)
  have HO := Lib.hid hs
  clear hg hs hb
  go_wp2_with fail
  refine (nadd_any am nm cm x none 0 0 0 _ (by omega) (by omega) ((HM.out.below H.out.bel).more H.out.bel.size) (Sw.zero _ _)).mono ?_
  rintro e wc ⟨v, rfl, hg⟩
  rw [Nat.add_zero] at hg
  obtain ⟨az, rfl, hs, hb⟩ := hg.open
  replace H := Lib.hid (H.out.call hb)
  replace HO := Lib.hid (HO.out.call hb)
  have HA := Lib.hid hs
  clear hg hs hb
  go_wp2_with fail
  refine (words_any ao az _ _ _ x _ (by have := DX.out; omega) HO.out HA.out).mono ?_
  rintro e wc ⟨rfl, hb⟩
  replace H := Lib.hid (H.out.call hb)
  clear hb HO HA
  go_wp2_with (first
    | ((with_reducible apply own_load rowE H); (case hgd => exact rfl); (case ho => exact rfl); (case hx => exact rfl); (case hi => first | exact at0 | exact at1 | exact at2 | exact at3 | exact at4 | exact at5 | exact at6 | exact at7 | exact at8 | exact at9); intro _ _; go_simp)
    | ((with_reducible refine (power_k _ _ _ _ _ (HT.out.below H.out.bel) HV1.out (rowSb (H.out.row 3 rfl) E24.out XM.out) (by omega)).mono ?_); rintro e wc ⟨k1, rfl, hv, hb⟩; replace H := Lib.hid (H.out.call hb); clear hb; have HV2 := Lib.hid hv; clear hv)
    | ((fail_if_success have := g17); (with_reducible apply own_alloc nilE H); (case hgd => exact rfl); (case ho => exact rfl); intro w17 g17 H' _ _; replace H := H'; clear H'; go_simp)
    | ((with_reducible apply own_store rowE H); (case hgd => exact rfl); (case ho => exact rfl); (case hx => exact rfl); (case hy => exact rfl); (case hi => first | exact at0 | exact at1 | exact at2 | exact at3 | exact at4 | exact at5 | exact at6 | exact at7 | exact at8 | exact at9); intro ws H' _ _; replace H := H'; clear H'; simp only [List.set_cons_zero] at H; go_simp))
  refine wp_region_noPanic ?_
  refine wp_region_held_drew (S := fun W => W.heap[g7]? = some (Blk 28 .u64 8 (NZ f)) ∧ W.heap[g17]? = some (Blk 28 .u64 8 (NZ k1))) (by kernel_rfl) (⟨H.out.drew.row 5 rfl, H.out.drew.row 0 rfl⟩) (fun hH => ?_)
  replace H := Lib.hid H.out.drew
  generalize World.drew _ = w8 at *
  refine held_row 0 88 rowE rfl rfl (by kernel_rfl) (by kernel_rfl) (by kernel_rfl) rfl hH rfl rfl (fun _ h => h.1) ?_
  try simp only [Act.put, List.setIfInBounds_toArray, List.set_cons_zero, List.set_cons_succ]
  refine held_value 1 89 (.slice (some ⟨gs, 0, none⟩) 25 25) rfl rfl (by kernel_rfl) (by kernel_rfl) (by kernel_rfl) rfl hH (fun w hw => by go_simp) ?_
  try simp only [Act.put, List.setIfInBounds_toArray, List.set_cons_zero, List.set_cons_succ]
  refine held_row 3 91 rowE rfl rfl (by kernel_rfl) (by kernel_rfl) (by kernel_rfl) rfl hH rfl rfl (fun _ h => h.2) ?_
  try simp only [Act.put, List.setIfInBounds_toArray, List.set_cons_zero, List.set_cons_succ]
  refine held_row 4 92 rowE rfl rfl (by kernel_rfl) (by kernel_rfl) (by kernel_rfl) rfl hH rfl rfl (fun _ h => h.1) ?_
  try simp only [Act.put, List.setIfInBounds_toArray, List.set_cons_zero, List.set_cons_succ]
  refine held_value 5 93 (.slice (some ⟨gc, 0, none⟩) 24 24) rfl rfl (by kernel_rfl) (by kernel_rfl) (by kernel_rfl) rfl hH (fun w hw => by go_simp) ?_
  try simp only [Act.put, List.setIfInBounds_toArray, List.set_cons_zero, List.set_cons_succ]
  refine wpAnyH_ready (rs := [2]) (by kernel_rfl) (by simp) ?_
  refine AllReadyH.cons (o := _) rfl (fun K hK => ?_) AllReadyH.nil
  go_simp
  refine (power_k _ _ _ _ _ (HT.out.below H.out.bel) HV1.out (rowSb (H.out.row 2 rfl) E25.out SM.out) (by omega)).mono ?_
  rintro e wc ⟨h90, rfl, hv, hb⟩
  replace H := Lib.hid (H.out.call hb)
  have HV90 := Lib.hid hv
  refine hK.out _ _ (⟨H.out.row 5 rfl, H.out.row 0 rfl⟩) (fun hN => ?_)
  clear hK K hH hb hv
  have hH := hN
  clear hN
  try simp only [Act.put, List.setIfInBounds_toArray, List.set_cons_zero, List.set_cons_succ]
  refine wpAnyH_ready (rs := [6]) (by kernel_rfl) (by simp) ?_
  refine AllReadyH.cons (o := _) rfl (fun K hK => ?_) AllReadyH.nil
  go_simp
  refine (power_k _ _ _ _ _ (HT.out.below H.out.bel) HV1.out (rowSb (H.out.row 3 rfl) E24.out YM.out) (by omega)).mono ?_
  rintro e wc ⟨h94, rfl, hv, hb⟩
  replace H := Lib.hid (H.out.call hb)
  have HV94 := Lib.hid hv
  refine hK.out _ _ (⟨H.out.row 5 rfl, H.out.row 0 rfl⟩) (fun hN => ?_)
  clear hK K hH hb hv
  have hH := hN
  clear hN
  try simp only [Act.put, List.setIfInBounds_toArray, List.set_cons_zero, List.set_cons_succ]
  refine wpAnyH_ready (rs := [7]) (by kernel_rfl) (by simp) ?_
  refine AllReadyH.cons (o := _) rfl (fun K hK => ?_) AllReadyH.nil
  go_simp
  refine (mul_k _ HV2.out HV94.out).mono ?_
  rintro e wc ⟨h95, rfl, hv, hb⟩
  replace H := Lib.hid (H.out.call hb)
  have HV95 := Lib.hid hv
  refine hK.out _ _ (⟨H.out.row 5 rfl, H.out.row 0 rfl⟩) (fun hN => ?_)
  clear hK K hH hb hv
  have hH := hN
  clear hN
  try simp only [Act.put, List.setIfInBounds_toArray, List.set_cons_zero, List.set_cons_succ]
  refine wpAnyH_ready (rs := [8]) (by kernel_rfl) (by simp) ?_
  refine AllReadyH.cons (o := _) rfl (fun K hK => ?_) AllReadyH.nil
  go_simp
  refine (equal_kt _ (HT.out.below H.out.bel) HV90.out HV95.out (fp_pow_add a x y)).mono ?_
  rintro e wc ⟨rfl, hb⟩
  replace H := Lib.hid (H.out.call hb)
  refine hK.out _ _ (⟨H.out.row 5 rfl, H.out.row 0 rfl⟩) (fun hN => ?_)
  clear hK K hH hb
  have hH := hN
  clear hN
  try simp only [Act.put, List.setIfInBounds_toArray, List.set_cons_zero, List.set_cons_succ]
  refine held_value 9 97 (.bool true) rfl rfl (by kernel_rfl) (by kernel_rfl) (by kernel_rfl) rfl hH (fun w hw => by go_simp) ?_
  try simp only [Act.put, List.setIfInBounds_toArray, List.set_cons_zero, List.set_cons_succ]
  refine held_row 10 98 rowE rfl rfl (by kernel_rfl) (by kernel_rfl) (by kernel_rfl) rfl hH rfl rfl (fun _ h => h.1) ?_
  try simp only [Act.put, List.setIfInBounds_toArray, List.set_cons_zero, List.set_cons_succ]
  refine held_value 11 99 (.slice (some ⟨gp, 0, none⟩) 48 48) rfl rfl (by kernel_rfl) (by kernel_rfl) (by kernel_rfl) rfl hH (fun w hw => by go_simp) ?_
  try simp only [Act.put, List.setIfInBounds_toArray, List.set_cons_zero, List.set_cons_succ]
  refine held_row 13 101 rowE rfl rfl (by kernel_rfl) (by kernel_rfl) (by kernel_rfl) rfl hH rfl rfl (fun _ h => h.2) ?_
  try simp only [Act.put, List.setIfInBounds_toArray, List.set_cons_zero, List.set_cons_succ]
  refine held_value 14 102 (.slice (some ⟨gc, 0, none⟩) 24 24) rfl rfl (by kernel_rfl) (by kernel_rfl) (by kernel_rfl) rfl hH (fun w hw => by go_simp) ?_
  try simp only [Act.put, List.setIfInBounds_toArray, List.set_cons_zero, List.set_cons_succ]
  refine wpAnyH_ready (rs := [12]) (by kernel_rfl) (by simp) ?_
  refine AllReadyH.cons (o := _) rfl (fun K hK => ?_) AllReadyH.nil
  go_simp
  refine (power_k _ _ _ _ _ (HT.out.below H.out.bel) HV1.out (rowSb (H.out.row 1 rfl) E48.out PM.out) (by omega)).mono ?_
  rintro e wc ⟨h100, rfl, hv, hb⟩
  replace H := Lib.hid (H.out.call hb)
  have HV100 := Lib.hid hv
  refine hK.out _ _ (⟨H.out.row 5 rfl, H.out.row 0 rfl⟩) (fun hN => ?_)
  clear hK K hH hb hv
  have hH := hN
  clear hN
  try simp only [Act.put, List.setIfInBounds_toArray, List.set_cons_zero, List.set_cons_succ]
  refine wpAnyH_ready (rs := [15]) (by kernel_rfl) (by simp) ?_
  refine AllReadyH.cons (o := _) rfl (fun K hK => ?_) AllReadyH.nil
  go_simp
  refine (power_k _ _ _ _ _ (HT.out.below H.out.bel) HV2.out (rowSb (H.out.row 3 rfl) E24.out YM.out) (by omega)).mono ?_
  rintro e wc ⟨h103, rfl, hv, hb⟩
  replace H := Lib.hid (H.out.call hb)
  have HV103 := Lib.hid hv
  refine hK.out _ _ (⟨H.out.row 5 rfl, H.out.row 0 rfl⟩) (fun hN => ?_)
  clear hK K hH hb hv
  have hH := hN
  clear hN
  try simp only [Act.put, List.setIfInBounds_toArray, List.set_cons_zero, List.set_cons_succ]
  refine wpAnyH_ready (rs := [16]) (by kernel_rfl) (by simp) ?_
  refine AllReadyH.cons (o := _) rfl (fun K hK => ?_) AllReadyH.nil
  go_simp
  refine (equal_kt _ (HT.out.below H.out.bel) HV100.out HV103.out (fp_pow_mul a x y)).mono ?_
  rintro e wc ⟨rfl, hb⟩
  replace H := Lib.hid (H.out.call hb)
  refine hK.out _ _ (⟨H.out.row 5 rfl, H.out.row 0 rfl⟩) (fun hN => ?_)
  clear hK K hH hb
  have hH := hN
  clear hN
  try simp only [Act.put, List.setIfInBounds_toArray, List.set_cons_zero, List.set_cons_succ]
  refine held_value 17 105 (.bool true) rfl rfl (by kernel_rfl) (by kernel_rfl) (by kernel_rfl) rfl hH (fun w hw => by go_simp) ?_
  try simp only [Act.put, List.setIfInBounds_toArray, List.set_cons_zero, List.set_cons_succ]
  refine held_value 18 106 (.bool true) rfl rfl (by kernel_rfl) (by kernel_rfl) (by kernel_rfl) rfl hH (fun w hw => by go_simp) ?_
  try simp only [Act.put, List.setIfInBounds_toArray, List.set_cons_zero, List.set_cons_succ]
  refine wpAnyH_ready (rs := [19]) (by kernel_rfl) (by simp) ?_
  refine AllReadyH.cons (o := _) rfl (fun K hK => ?_) AllReadyH.nil
  go_simp
  refine (awake5 _ (HT.out.below H.out.bel)).mono ?_
  rintro e wc ⟨rfl, hb⟩
  replace H := Lib.hid (H.out.call hb)
  refine hK.out _ _ (⟨H.out.row 5 rfl, H.out.row 0 rfl⟩) (fun hN => ?_)
  clear hK K hH hb
  have hH := hN
  clear hN
  try simp only [Act.put, List.setIfInBounds_toArray, List.set_cons_zero, List.set_cons_succ]
  refine held_value 20 108 (.bool true) rfl rfl (by kernel_rfl) (by kernel_rfl) (by kernel_rfl) rfl hH (fun w hw => by go_simp) ?_
  try simp only [Act.put, List.setIfInBounds_toArray, List.set_cons_zero, List.set_cons_succ]
  refine held_value 21 6 (.bool true) rfl rfl (by kernel_rfl) (by kernel_rfl) (by kernel_rfl) rfl hH (fun w hw => by go_simp) ?_
  try simp only [Act.put, List.setIfInBounds_toArray, List.set_cons_zero, List.set_cons_succ]
  try simp only [Act.put]
  refine wpAnyH_done (by kernel_rfl) ?_ _
  refine NoPanic.normal ?_
  clear hH
  go_wp2_with fail
  go_ret
  exact ⟨rfl, H.out.bel⟩
set_option maxRecDepth 20000 in
set_option maxHeartbeats 12800000 in
theorem sums_walk (u : Nat → BitVec 8) (am : Option Addr) (nm cm x : Nat) (an : Option Addr) (nn cn y : Nat) (w : World) (hT : Tp w) (hm : Sw w w.heap.size am nm cm x) (hn : Sw w w.heap.size an nn cn y) :
    Calls Tryd.prog 10 #[.agg (AZ .u8 56 (UB u)), .slice am nm cm, .slice an nn cn] w fun e w' => e = .returned (.bool true) ∧ Below w.heap.size w w' := by
  by_cases h1 : 3 < nm
  · exact sums_far0 u am nm cm an nn cn w hT h1
  by_cases h2 : 3 < nn
  · exact sums_far1 u am nm cm an nn cn w hT h1 h2
  exact sums_near u am nm cm x an nn cn y w hT hm hn (by omega) (by omega)
end Go.Proofs.YtieoapcakdaelaaDoor
