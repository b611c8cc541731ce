/-
  The walk of ScalarBytes. No statement is proved here: lemmas for the walks.
-/
import Derived.Test.YtocjncflgbnglaaDoorZScClamps
namespace Go.Proofs.YtocjncflgbnglaaDoor
open Go.RowKit

section
variable (a : Option Addr) (n c x : Nat) {z : KL} (hz : z = 0)
/-- What bytes leave, as a scalar. -/
theorem reduce_k (hn : n ≤ 128) : ∃ k : KL, (∀ w, Tl true w → Sb w w.heap.size a n c x → Calls Tryd.prog 12 #[.slice a n c] w fun e w' => e = .returned (.tuple #[W7 k.val, .int .i64 0]) ∧ Below w.heap.size w w') ∧
    (∀ w, Sb w w.heap.size a n c x → Calls Tryd.prog 19 #[.slice a n c] w fun e w' => ∃ a' c', e = .returned (.slice a' (dl 8 k.val) c') ∧ Sb w' w'.heap.size a' (dl 8 k.val) c' k.val ∧ Below w.heap.size w w') ∧ (x < lN → k.val = x) := by
  obtain ⟨k, hk⟩ : ∃ k : KL, k.val = x % lN := ⟨⟨x % lN, Nat.mod_lt _ lN_pos⟩, rfl⟩
  refine ⟨k, fun w hT hs => ?_, fun w hs => ?_, fun h => by rw [hk, Nat.mod_eq_of_lt h]⟩
  · rw [hk]
    exact reduce_ok a n c x w hT hn hs
  · rw [hk]
    refine (r6reduce_v a n c x w (by omega) hs).mono fun e w' h => ?_
    obtain ⟨v, rfl, a', c', rfl, h1, h2⟩ := h
    exact ⟨a', c', rfl, h1, h2⟩
include hz in
theorem reduce_k0 (w : World) (hn : 128 < n) : Calls Tryd.prog 12 #[.slice a n c] w fun e w' => e = .returned (.tuple #[W7 z.val, .int .i64 11]) ∧ Below w.heap.size w w' := by
  rw [show z.val = 0 from fp_val_zero.1 hz]
  exact reduce_bad a n c w hn
include hz in
theorem decode_k0 (w : World) (hn : n ≠ 56) (hn2 : n ≠ 57) : Calls Tryd.prog 11 #[.slice a n c] w fun e w' => e = .returned (.tuple #[W7 z.val, .int .i64 11]) ∧ Below w.heap.size w w' := by
  rw [show z.val = 0 from fp_val_zero.1 hz]
  exact decode_bad a n c w hn hn2
include hz in
theorem decode_k1 (w : World) {r : Bool} (hT : Tl r w) (hn : n = 56 ∨ n = 57) (hs : Sb w w.heap.size a n c x) (hx : lN ≤ x) : Calls Tryd.prog 11 #[.slice a n c] w fun e w' => e = .returned (.tuple #[W7 z.val, .int .i64 14]) ∧ Below w.heap.size w w' := by
  rw [show z.val = 0 from fp_val_zero.1 hz]
  exact decode_none a n c x w hT hn hs hx
end
set_option maxRecDepth 20000 in
set_option maxHeartbeats 12800000 in
theorem bytes_far (a : Option Addr) (n c : Nat) (w : World) (hT : Tl true w) (hn : 200 < n) : Calls Tryd.prog 3 #[.slice a n c] w fun e w' => e = .returned (.bool true) ∧ Below w.heap.size w w' := by
  have hid : decide ((200 : Int) < (n : Int)) = true := by simp; omega
  have HT := Lib.hid hT
  clear hT
  have H := Lib.hid (Ow.start w)
  go_enter Tryd.func3, Tryd.ntmps3
  go_wp2_with (first
    | ((with_reducible refine (awake6 _ (HT.out.below H.out.bel)).mono ?_); rintro e wc ⟨rfl, hb⟩; replace H := Lib.hid (H.out.call hb); clear hb))
  go_ret
  exact ⟨rfl, H.out.bel⟩
set_option maxRecDepth 20000 in
set_option maxHeartbeats 12800000 in
theorem bytes_long (a : Option Addr) (n c : Nat) (w : World) (hT : Tl true w) (h1 : 128 < n) (h2 : n ≤ 200) : Calls Tryd.prog 3 #[.slice a n c] w fun e w' => e = .returned (.bool true) ∧ Below w.heap.size w w' := by
  have hi1 : decide ((200 : Int) < (n : Int)) = false := by simp; omega
  have hi2 : decide ((128 : Int) < (n : Int)) = true := by simp; omega
  have hn1 : ((n : Int) != 56) = true := by rw [bne_iff_ne]; omega
  have hn2 : ((n : Int) != 57) = true := by rw [bne_iff_ne]; omega
  have N1 : Hid (n ≠ 56) := Lib.hid (by omega)
  have N2 : Hid (n ≠ 57) := Lib.hid (by omega)
  have N3 := Lib.hid h1
  clear h1 h2
  obtain ⟨o, ho⟩ : ∃ o : KL, o = 0 := ⟨_, rfl⟩
  have Z0 := Lib.hid ho
  clear ho
  have HT := Lib.hid hT
  clear hT
  have H := Lib.hid (Ow.start w)
  go_enter Tryd.func3, Tryd.ntmps3
  go_wp2_with (first
    | ((with_reducible refine (decode_k0 a n c Z0.out _ N1.out N2.out).mono ?_); rintro e wc ⟨rfl, hb⟩; replace H := Lib.hid (H.out.call hb); clear hb)
    | ((with_reducible refine (reduce_k0 a n c Z0.out _ N3.out).mono ?_); rintro e wc ⟨rfl, hb⟩; replace H := Lib.hid (H.out.call hb); clear hb)
    | ((with_reducible refine (L_v _ (HT.out.below H.out.bel)).mono ?_); rintro e wc ⟨a1, c1, rfl, hs, hb⟩; replace H := Lib.hid (H.out.call hb); have S1 := Lib.hid hs; clear hs hb)
    | ((with_reducible refine (refL_v _).mono ?_); rintro e wc ⟨a2, c2, rfl, hs, hb⟩; replace S1 := Lib.hid (S1.out.call hb); replace H := Lib.hid (H.out.call hb); have S2 := Lib.hid hs; clear hs hb)
    | ((with_reducible refine (r6bytes_v a2 56 c2 lN _ (by omega) S2.out).mono ?_); rintro e wc ⟨a3, c3, rfl, hs, hb⟩; replace S1 := Lib.hid (S1.out.call hb); replace H := Lib.hid (H.out.call hb); have S3 := Lib.hid hs; clear hs hb)
    | ((with_reducible refine (same_sl a1 a3 57 c1 c3 (bt lN) (bt lN) _ (by omega) S1.out.sl S3.out.sl (fun _ _ => rfl)).mono ?_); rintro e wc ⟨rfl, hb⟩; replace H := Lib.hid (H.out.call hb); clear hb)
    | ((fail_if_success have := g3); (with_reducible apply own_alloc nilSc H); (case hgd => exact rfl); (case ho => exact rfl); intro w3 g3 H' _ _; replace H := H'; clear H'; go_simp)
    | ((fail_if_success have := g5); (with_reducible apply own_alloc nilSc H); (case hgd => exact rfl); (case ho => exact rfl); intro w5 g5 H' _ _; replace H := H'; clear H'; go_simp)
    | ((with_reducible apply own_store rowSc H); (case hgd => exact rfl); (case ho => exact rfl); (case hx => exact rfl); (case hy => exact rfl); (case hi => first | exact at0 | exact at1 | exact at2 | exact at3 | exact at4 | exact at5 | exact at6 | exact at7 | exact at8 | exact at9); intro ws H' _ _; replace H := H'; clear H'; simp only [List.set_cons_zero] at H; go_simp)
    | ((with_reducible apply own_load rowSc H); (case hgd => exact rfl); (case ho => exact rfl); (case hx => exact rfl); (case hi => first | exact at0 | exact at1 | exact at2 | exact at3 | exact at4 | exact at5 | exact at6 | exact at7 | exact at8 | exact at9); intro _ _; go_simp)
    | ((with_reducible refine (zero_st (x := o) _ Z0.out).mono ?_); rintro e wc ⟨rfl, hb⟩; replace H := Lib.hid (H.out.call hb); clear hb)
    | ((with_reducible refine (awake6 _ (HT.out.below H.out.bel)).mono ?_); rintro e wc ⟨rfl, hb⟩; replace H := Lib.hid (H.out.call hb); clear hb))
  go_ret
  exact ⟨rfl, H.out.bel⟩
theorem cut_kl {a : Option Addr} {n c : Nat} {k : KL} (w : World) (hs : Sb w w.heap.size a n c k.val ∧ n ≤ 1000000) : Calls Tryd.prog 21 #[.slice a n c] w fun e w' => e = .returned (.slice a (dl 8 k.val) c) ∧ Sb w' w'.heap.size a (dl 8 k.val) c k.val ∧ Below w.heap.size w w' :=
  (cut_any a n c k.val w hs.2 hs.1).mono fun _ _ ⟨h1, h2⟩ => by
    subst h2
    exact ⟨h1, hs.1.cut, Below.refl _ _⟩
set_option maxRecDepth 20000 in
set_option maxHeartbeats 12800000 in
theorem bytes_off (a : Option Addr) (n c x : Nat) (w : World) (hT : Tl true w) (hs : Sb w w.heap.size a n c x) (h0 : n ≤ 128) (h1 : n ≠ 56) (h2 : n ≠ 57) : Calls Tryd.prog 3 #[.slice a n c] w fun e w' => e = .returned (.bool true) ∧ Below w.heap.size w w' := by
  obtain ⟨k, hR, hP, hk⟩ := reduce_k a n c x (by omega)
  have hi1 : decide ((200 : Int) < (n : Int)) = false := by simp; omega
  have hi2 : decide ((128 : Int) < (n : Int)) = false := by simp; omega
  have hn1 : ((n : Int) != 56) = true := by rw [bne_iff_ne]; omega
  have hn2 : ((n : Int) != 57) = true := by rw [bne_iff_ne]; omega
  have N1 := Lib.hid h1
  have N2 := Lib.hid h2
  clear h1 h2 hk
  obtain ⟨o, ho⟩ : ∃ o : KL, o = 0 := ⟨_, rfl⟩
  have Z0 := Lib.hid ho
  clear ho
  have HR := Lib.hid hR
  have HP := Lib.hid hP
  clear hR hP
  have HS := Lib.hid hs
  clear hs
  have HT := Lib.hid hT
  clear hT
  have H := Lib.hid (Ow.start w)
  go_enter Tryd.func3, Tryd.ntmps3
  go_wp2_with (first
    | ((with_reducible refine (decode_k0 a n c Z0.out _ N1.out N2.out).mono ?_); rintro e wc ⟨rfl, hb⟩; replace H := Lib.hid (H.out.call hb); clear hb)
    | ((with_reducible refine (HR.out _ (HT.out.below H.out.bel) (HS.out.call H.out.bel)).mono ?_); rintro e wc ⟨rfl, hb⟩; replace H := Lib.hid (H.out.call hb); clear hb)
    | ((with_reducible refine (L_v _ (HT.out.below H.out.bel)).mono ?_); rintro e wc ⟨a1, c1, rfl, hs, hb⟩; replace H := Lib.hid (H.out.call hb); have S1 := Lib.hid hs; clear hs hb)
    | ((with_reducible refine (refL_v _).mono ?_); rintro e wc ⟨a2, c2, rfl, hs, hb⟩; replace S1 := Lib.hid (S1.out.call hb); replace H := Lib.hid (H.out.call hb); have S2 := Lib.hid hs; clear hs hb)
    | ((with_reducible refine (r6bytes_v a2 56 c2 lN _ (by omega) S2.out).mono ?_); rintro e wc ⟨a3, c3, rfl, hs, hb⟩; replace S1 := Lib.hid (S1.out.call hb); replace H := Lib.hid (H.out.call hb); have S3 := Lib.hid hs; clear hs hb)
    | ((with_reducible refine (same_sl a1 a3 57 c1 c3 (bt lN) (bt lN) _ (by omega) S1.out.sl S3.out.sl (fun _ _ => rfl)).mono ?_); rintro e wc ⟨rfl, hb⟩; replace H := Lib.hid (H.out.call hb); clear hb)
    | ((fail_if_success have := g3); (with_reducible apply own_alloc nilSc H); (case hgd => exact rfl); (case ho => exact rfl); intro w3 g3 H' _ _; replace H := H'; clear H'; go_simp)
    | ((fail_if_success have := g5); (with_reducible apply own_alloc nilSc H); (case hgd => exact rfl); (case ho => exact rfl); intro w5 g5 H' _ _; replace H := H'; clear H'; go_simp)
    | ((with_reducible apply own_store rowSc H); (case hgd => exact rfl); (case ho => exact rfl); (case hx => exact rfl); (case hy => exact rfl); (case hi => first | exact at0 | exact at1 | exact at2 | exact at3 | exact at4 | exact at5 | exact at6 | exact at7 | exact at8 | exact at9); intro ws H' _ _; replace H := H'; clear H'; simp only [List.set_cons_zero] at H; go_simp)
    | ((with_reducible apply own_load rowSc H); (case hgd => exact rfl); (case ho => exact rfl); (case hx => exact rfl); (case hi => first | exact at0 | exact at1 | exact at2 | exact at3 | exact at4 | exact at5 | exact at6 | exact at7 | exact at8 | exact at9); intro _ _; go_simp))
  refine wp_region_noPanic ?_
  refine wp_region_held_drew (S := fun W => W.heap[g5]? = some (WB 27 7 (wd (k).val))) (by kernel_rfl) (H.out.drew.row 0 rfl) (fun hH => ?_)
  replace H := Lib.hid H.out.drew
  generalize World.drew _ = w8 at *
  refine held_value 0 36 (.int .i64 0) rfl rfl (by kernel_rfl) (by kernel_rfl) (by kernel_rfl) rfl hH (fun w hw => by go_simp) ?_
  try simp only [Act.put, List.setIfInBounds_toArray, List.set_cons_zero, List.set_cons_succ]
  refine held_value 1 37 (.bool false) rfl rfl (by kernel_rfl) (by kernel_rfl) (by kernel_rfl) rfl hH (fun w hw => by go_simp) ?_
  try simp only [Act.put, List.setIfInBounds_toArray, List.set_cons_zero, List.set_cons_succ]
  refine held_value 2 38 (.bool false) rfl rfl (by kernel_rfl) (by kernel_rfl) (by kernel_rfl) rfl hH (fun w hw => by go_simp) ?_
  try simp only [Act.put, List.setIfInBounds_toArray, List.set_cons_zero, List.set_cons_succ]
  refine held_row 3 39 rowSc rfl rfl (by kernel_rfl) (by kernel_rfl) (by kernel_rfl) rfl hH rfl rfl (fun _ h => h) ?_
  try simp only [Act.put, List.setIfInBounds_toArray, List.set_cons_zero, List.set_cons_succ]
  refine held_value 4 40 (.slice a n c) rfl rfl (by kernel_rfl) (by kernel_rfl) (by kernel_rfl) rfl hH (fun w hw => by go_simp) ?_
  try simp only [Act.put, List.setIfInBounds_toArray, List.set_cons_zero, List.set_cons_succ]
  refine wpAnyH_ready (rs := [5]) (by kernel_rfl) (by simp) ?_
  refine AllReadyH.cons (o := _) rfl (fun K hK => ?_) AllReadyH.nil
  go_simp
  refine (HP.out _ (HS.out.call H.out.bel)).mono ?_
  rintro e wc ⟨a41, c41, rfl, hs, hb⟩
  replace H := Lib.hid (H.out.call hb)
  have S41 := Lib.hid hs
  refine hK.out _ _ (H.out.row 0 rfl) (fun hN => ?_)
  clear hK K hH hb hs
  have hH := hN
  clear hN
  try simp only [Act.put, List.setIfInBounds_toArray, List.set_cons_zero, List.set_cons_succ]
  refine wpAnyH_ready (rs := [6]) (by kernel_rfl) (by simp) ?_
  refine AllReadyH.cons (o := _) rfl (fun K hK => ?_) AllReadyH.nil
  go_simp
  refine (is_st (x := k) (y := k) _ S41.out rfl).mono ?_
  rintro e wc ⟨rfl, hb⟩
  replace S41 := Lib.hid (S41.out.call hb)
  replace H := Lib.hid (H.out.call hb)
  refine hK.out _ _ (H.out.row 0 rfl) (fun hN => ?_)
  clear hK K hH hb
  have hH := hN
  clear hN
  try simp only [Act.put, List.setIfInBounds_toArray, List.set_cons_zero, List.set_cons_succ]
  refine held_value 7 43 (.bool false) rfl rfl (by kernel_rfl) (by kernel_rfl) (by kernel_rfl) rfl hH (fun w hw => by go_simp) ?_
  try simp only [Act.put, List.setIfInBounds_toArray, List.set_cons_zero, List.set_cons_succ]
  refine held_value 8 44 (.bool false) rfl rfl (by kernel_rfl) (by kernel_rfl) (by kernel_rfl) rfl hH (fun w hw => by go_simp) ?_
  try simp only [Act.put, List.setIfInBounds_toArray, List.set_cons_zero, List.set_cons_succ]
  try simp only [Act.put]
  refine wpAnyH_done (by kernel_rfl) ?_ _
  refine NoPanic.normal ?_
  clear hH
  go_wp2_with (first
    | ((with_reducible apply own_load rowSc H); (case hgd => exact rfl); (case ho => exact rfl); (case hx => exact rfl); (case hi => first | exact at0 | exact at1 | exact at2 | exact at3 | exact at4 | exact at5 | exact at6 | exact at7 | exact at8 | exact at9); intro _ _; go_simp)
    | ((with_reducible refine (zero_st (x := o) _ Z0.out).mono ?_); rintro e wc ⟨rfl, hb⟩; replace H := Lib.hid (H.out.call hb); clear hb)
    | ((with_reducible refine (awake6 _ (HT.out.below H.out.bel)).mono ?_); rintro e wc ⟨rfl, hb⟩; replace H := Lib.hid (H.out.call hb); clear hb))
  go_ret
  exact ⟨rfl, H.out.bel⟩
set_option maxRecDepth 20000 in
set_option maxHeartbeats 12800000 in
theorem bytes_none56 (a : Option Addr) (c x : Nat) (w : World) (hT : Tl true w) (hs : Sb w w.heap.size a 56 c x) (hx : lN ≤ x) : Calls Tryd.prog 3 #[.slice a 56 c] w fun e w' => e = .returned (.bool true) ∧ Below w.heap.size w w' := by
  obtain ⟨k, hR, hP, hk⟩ := reduce_k a 56 c x (by omega)
  have HX := Lib.hid hx
  have HF : Hid (decide (x < lN) = false) := Lib.hid (decide_eq_false (by omega))
  clear hx hk
  obtain ⟨o, ho⟩ : ∃ o : KL, o = 0 := ⟨_, rfl⟩
  have Z0 := Lib.hid ho
  clear ho
  have HR := Lib.hid hR
  have HP := Lib.hid hP
  clear hR hP
  have HS := Lib.hid hs
  clear hs
  have HT := Lib.hid hT
  clear hT
  have H := Lib.hid (Ow.start w)
  go_enter Tryd.func3, Tryd.ntmps3
  go_wp2_with (first
    | ((with_reducible refine (decode_k1 a 56 c x Z0.out _ (HT.out.below H.out.bel) (.inl rfl) (HS.out.call H.out.bel) HX.out).mono ?_); rintro e wc ⟨rfl, hb⟩; replace H := Lib.hid (H.out.call hb); clear hb)
    | ((with_reducible refine (HR.out _ (HT.out.below H.out.bel) (HS.out.call H.out.bel)).mono ?_); rintro e wc ⟨rfl, hb⟩; replace H := Lib.hid (H.out.call hb); clear hb)
    | ((with_reducible refine (L_v _ (HT.out.below H.out.bel)).mono ?_); rintro e wc ⟨a1, c1, rfl, hs, hb⟩; replace H := Lib.hid (H.out.call hb); have S1 := Lib.hid hs; clear hs hb)
    | ((with_reducible refine (refL_v _).mono ?_); rintro e wc ⟨a2, c2, rfl, hs, hb⟩; replace S1 := Lib.hid (S1.out.call hb); replace H := Lib.hid (H.out.call hb); have S2 := Lib.hid hs; clear hs hb)
    | ((with_reducible refine (r6bytes_v a2 56 c2 lN _ (by omega) S2.out).mono ?_); rintro e wc ⟨a3, c3, rfl, hs, hb⟩; replace S1 := Lib.hid (S1.out.call hb); replace H := Lib.hid (H.out.call hb); have S3 := Lib.hid hs; clear hs hb)
    | ((with_reducible refine (same_sl a1 a3 57 c1 c3 (bt lN) (bt lN) _ (by omega) S1.out.sl S3.out.sl (fun _ _ => rfl)).mono ?_); rintro e wc ⟨rfl, hb⟩; replace H := Lib.hid (H.out.call hb); clear hb)
    | ((fail_if_success have := g3); (with_reducible apply own_alloc nilSc H); (case hgd => exact rfl); (case ho => exact rfl); intro w3 g3 H' _ _; replace H := H'; clear H'; go_simp)
    | ((fail_if_success have := g5); (with_reducible apply own_alloc nilSc H); (case hgd => exact rfl); (case ho => exact rfl); intro w5 g5 H' _ _; replace H := H'; clear H'; go_simp)
    | ((with_reducible apply own_store rowSc H); (case hgd => exact rfl); (case ho => exact rfl); (case hx => exact rfl); (case hy => exact rfl); (case hi => first | exact at0 | exact at1 | exact at2 | exact at3 | exact at4 | exact at5 | exact at6 | exact at7 | exact at8 | exact at9); intro ws H' _ _; replace H := H'; clear H'; simp only [List.set_cons_zero] at H; go_simp)
    | ((with_reducible apply own_load rowSc H); (case hgd => exact rfl); (case ho => exact rfl); (case hx => exact rfl); (case hi => first | exact at0 | exact at1 | exact at2 | exact at3 | exact at4 | exact at5 | exact at6 | exact at7 | exact at8 | exact at9); intro _ _; go_simp))
  refine wp_region_noPanic ?_
  refine wp_region_held_drew (S := fun W => W.heap[g5]? = some (WB 27 7 (wd (k).val))) (by kernel_rfl) (H.out.drew.row 0 rfl) (fun hH => ?_)
  replace H := Lib.hid H.out.drew
  generalize World.drew _ = w8 at *
  refine held_value 0 36 (.int .i64 0) rfl rfl (by kernel_rfl) (by kernel_rfl) (by kernel_rfl) rfl hH (fun w hw => by go_simp) ?_
  try simp only [Act.put, List.setIfInBounds_toArray, List.set_cons_zero, List.set_cons_succ]
  refine held_value 1 37 (.bool false) rfl rfl (by kernel_rfl) (by kernel_rfl) (by kernel_rfl) rfl hH (fun w hw => by go_simp) ?_
  try simp only [Act.put, List.setIfInBounds_toArray, List.set_cons_zero, List.set_cons_succ]
  refine held_value 2 38 (.bool false) rfl rfl (by kernel_rfl) (by kernel_rfl) (by kernel_rfl) rfl hH (fun w hw => by go_simp) ?_
  try simp only [Act.put, List.setIfInBounds_toArray, List.set_cons_zero, List.set_cons_succ]
  refine held_row 3 39 rowSc rfl rfl (by kernel_rfl) (by kernel_rfl) (by kernel_rfl) rfl hH rfl rfl (fun _ h => h) ?_
  try simp only [Act.put, List.setIfInBounds_toArray, List.set_cons_zero, List.set_cons_succ]
  refine held_value 4 40 (.slice a 56 c) rfl rfl (by kernel_rfl) (by kernel_rfl) (by kernel_rfl) rfl hH (fun w hw => by go_simp) ?_
  try simp only [Act.put, List.setIfInBounds_toArray, List.set_cons_zero, List.set_cons_succ]
  refine wpAnyH_ready (rs := [5]) (by kernel_rfl) (by simp) ?_
  refine AllReadyH.cons (o := _) rfl (fun K hK => ?_) AllReadyH.nil
  go_simp
  refine (HP.out _ (HS.out.call H.out.bel)).mono ?_
  rintro e wc ⟨a41, c41, rfl, hs, hb⟩
  replace H := Lib.hid (H.out.call hb)
  have S41 := Lib.hid hs
  refine hK.out _ _ (H.out.row 0 rfl) (fun hN => ?_)
  clear hK K hH hb hs
  have hH := hN
  clear hN
  try simp only [Act.put, List.setIfInBounds_toArray, List.set_cons_zero, List.set_cons_succ]
  refine wpAnyH_ready (rs := [6]) (by kernel_rfl) (by simp) ?_
  refine AllReadyH.cons (o := _) rfl (fun K hK => ?_) AllReadyH.nil
  go_simp
  refine (is_st (x := k) (y := k) _ S41.out rfl).mono ?_
  rintro e wc ⟨rfl, hb⟩
  replace S41 := Lib.hid (S41.out.call hb)
  replace H := Lib.hid (H.out.call hb)
  refine hK.out _ _ (H.out.row 0 rfl) (fun hN => ?_)
  clear hK K hH hb
  have hH := hN
  clear hN
  try simp only [Act.put, List.setIfInBounds_toArray, List.set_cons_zero, List.set_cons_succ]
  refine held_value 7 43 (.bool false) rfl rfl (by kernel_rfl) (by kernel_rfl) (by kernel_rfl) rfl hH (fun w hw => by go_simp) ?_
  try simp only [Act.put, List.setIfInBounds_toArray, List.set_cons_zero, List.set_cons_succ]
  refine held_value 8 44 (.bool false) rfl rfl (by kernel_rfl) (by kernel_rfl) (by kernel_rfl) rfl hH (fun w hw => by go_simp) ?_
  try simp only [Act.put, List.setIfInBounds_toArray, List.set_cons_zero, List.set_cons_succ]
  try simp only [Act.put]
  refine wpAnyH_done (by kernel_rfl) ?_ _
  refine NoPanic.normal ?_
  clear hH
  go_wp2_with (first
    | ((with_reducible apply own_load rowSc H); (case hgd => exact rfl); (case ho => exact rfl); (case hx => exact rfl); (case hi => first | exact at0 | exact at1 | exact at2 | exact at3 | exact at4 | exact at5 | exact at6 | exact at7 | exact at8 | exact at9); intro _ _; go_simp)
    | ((with_reducible refine (r6fits_v a 56 c x _ (by omega) (HS.out.call H.out.bel)).mono ?_); rintro e wc ⟨rfl, hb⟩; replace H := Lib.hid (H.out.call hb); clear hb; rw [HF.out])
    | ((with_reducible refine (zero_st (x := o) _ Z0.out).mono ?_); rintro e wc ⟨rfl, hb⟩; replace H := Lib.hid (H.out.call hb); clear hb)
    | ((with_reducible refine (awake6 _ (HT.out.below H.out.bel)).mono ?_); rintro e wc ⟨rfl, hb⟩; replace H := Lib.hid (H.out.call hb); clear hb))
  go_ret
  exact ⟨rfl, H.out.bel⟩
set_option maxRecDepth 20000 in
set_option maxHeartbeats 12800000 in
theorem bytes_ok56 (a : Option Addr) (c x : Nat) (w : World) (hT : Tl true w) (hs : Sb w w.heap.size a 56 c x) (hx : x < lN) : Calls Tryd.prog 3 #[.slice a 56 c] w fun e w' => e = .returned (.bool true) ∧ Below w.heap.size w w' := by
  obtain ⟨k, hR, hP, hk⟩ := reduce_k a 56 c x (by omega)
  have HX := Lib.hid hx
  have HD : Hid (∀ w, Tl true w → Sb w w.heap.size a 56 c x → Calls Tryd.prog 11 #[.slice a 56 c] w fun e w' => e = .returned (.tuple #[W7 k.val, .int .i64 0]) ∧ Below w.heap.size w w') := Lib.hid fun w hT hs => by
    rw [hk hx]
    exact decode_ok a 56 c x w hT (.inl rfl) hs hx
  have HC : Hid (∀ w, Sb w w.heap.size a 56 c x → Sb w w.heap.size a 56 c k.val ∧ 56 ≤ 1000000) := Lib.hid fun w hs => by
    rw [hk hx]
    exact ⟨hs, by omega⟩
  have HF : Hid (decide (x < lN) = true) := Lib.hid (decide_eq_true hx)
  clear hx hk
  have HR := Lib.hid hR
  have HP := Lib.hid hP
  clear hR hP
  have HS := Lib.hid hs
  clear hs
  have HT := Lib.hid hT
  clear hT
  have H := Lib.hid (Ow.start w)
  go_enter Tryd.func3, Tryd.ntmps3
  go_wp2_with (first
    | ((with_reducible refine (HD.out _ (HT.out.below H.out.bel) (HS.out.call H.out.bel)).mono ?_); rintro e wc ⟨rfl, hb⟩; replace H := Lib.hid (H.out.call hb); clear hb)
    | ((with_reducible refine (HR.out _ (HT.out.below H.out.bel) (HS.out.call H.out.bel)).mono ?_); rintro e wc ⟨rfl, hb⟩; replace H := Lib.hid (H.out.call hb); clear hb)
    | ((with_reducible refine (L_v _ (HT.out.below H.out.bel)).mono ?_); rintro e wc ⟨a1, c1, rfl, hs, hb⟩; replace H := Lib.hid (H.out.call hb); have S1 := Lib.hid hs; clear hs hb)
    | ((with_reducible refine (refL_v _).mono ?_); rintro e wc ⟨a2, c2, rfl, hs, hb⟩; replace S1 := Lib.hid (S1.out.call hb); replace H := Lib.hid (H.out.call hb); have S2 := Lib.hid hs; clear hs hb)
    | ((with_reducible refine (r6bytes_v a2 56 c2 lN _ (by omega) S2.out).mono ?_); rintro e wc ⟨a3, c3, rfl, hs, hb⟩; replace S1 := Lib.hid (S1.out.call hb); replace H := Lib.hid (H.out.call hb); have S3 := Lib.hid hs; clear hs hb)
    | ((with_reducible refine (same_sl a1 a3 57 c1 c3 (bt lN) (bt lN) _ (by omega) S1.out.sl S3.out.sl (fun _ _ => rfl)).mono ?_); rintro e wc ⟨rfl, hb⟩; replace H := Lib.hid (H.out.call hb); clear hb)
    | ((fail_if_success have := g3); (with_reducible apply own_alloc nilSc H); (case hgd => exact rfl); (case ho => exact rfl); intro w3 g3 H' _ _; replace H := H'; clear H'; go_simp)
    | ((fail_if_success have := g5); (with_reducible apply own_alloc nilSc H); (case hgd => exact rfl); (case ho => exact rfl); intro w5 g5 H' _ _; replace H := H'; clear H'; go_simp)
    | ((with_reducible apply own_store rowSc H); (case hgd => exact rfl); (case ho => exact rfl); (case hx => exact rfl); (case hy => exact rfl); (case hi => first | exact at0 | exact at1 | exact at2 | exact at3 | exact at4 | exact at5 | exact at6 | exact at7 | exact at8 | exact at9); intro ws H' _ _; replace H := H'; clear H'; simp only [List.set_cons_zero] at H; go_simp)
    | ((with_reducible apply own_load rowSc H); (case hgd => exact rfl); (case ho => exact rfl); (case hx => exact rfl); (case hi => first | exact at0 | exact at1 | exact at2 | exact at3 | exact at4 | exact at5 | exact at6 | exact at7 | exact at8 | exact at9); intro _ _; go_simp))
  refine wp_region_noPanic ?_
  refine wp_region_held_drew (S := fun W => W.heap[g5]? = some (WB 27 7 (wd (k).val))) (by kernel_rfl) (H.out.drew.row 0 rfl) (fun hH => ?_)
  replace H := Lib.hid H.out.drew
  generalize World.drew _ = w8 at *
  refine held_value 0 36 (.int .i64 0) rfl rfl (by kernel_rfl) (by kernel_rfl) (by kernel_rfl) rfl hH (fun w hw => by go_simp) ?_
  try simp only [Act.put, List.setIfInBounds_toArray, List.set_cons_zero, List.set_cons_succ]
  refine held_value 1 37 (.bool false) rfl rfl (by kernel_rfl) (by kernel_rfl) (by kernel_rfl) rfl hH (fun w hw => by go_simp) ?_
  try simp only [Act.put, List.setIfInBounds_toArray, List.set_cons_zero, List.set_cons_succ]
  refine held_value 2 38 (.bool false) rfl rfl (by kernel_rfl) (by kernel_rfl) (by kernel_rfl) rfl hH (fun w hw => by go_simp) ?_
  try simp only [Act.put, List.setIfInBounds_toArray, List.set_cons_zero, List.set_cons_succ]
  refine held_row 3 39 rowSc rfl rfl (by kernel_rfl) (by kernel_rfl) (by kernel_rfl) rfl hH rfl rfl (fun _ h => h) ?_
  try simp only [Act.put, List.setIfInBounds_toArray, List.set_cons_zero, List.set_cons_succ]
  refine held_value 4 40 (.slice a 56 c) rfl rfl (by kernel_rfl) (by kernel_rfl) (by kernel_rfl) rfl hH (fun w hw => by go_simp) ?_
  try simp only [Act.put, List.setIfInBounds_toArray, List.set_cons_zero, List.set_cons_succ]
  refine wpAnyH_ready (rs := [5]) (by kernel_rfl) (by simp) ?_
  refine AllReadyH.cons (o := _) rfl (fun K hK => ?_) AllReadyH.nil
  go_simp
  refine (HP.out _ (HS.out.call H.out.bel)).mono ?_
  rintro e wc ⟨a41, c41, rfl, hs, hb⟩
  replace H := Lib.hid (H.out.call hb)
  have S41 := Lib.hid hs
  refine hK.out _ _ (H.out.row 0 rfl) (fun hN => ?_)
  clear hK K hH hb hs
  have hH := hN
  clear hN
  try simp only [Act.put, List.setIfInBounds_toArray, List.set_cons_zero, List.set_cons_succ]
  refine wpAnyH_ready (rs := [6]) (by kernel_rfl) (by simp) ?_
  refine AllReadyH.cons (o := _) rfl (fun K hK => ?_) AllReadyH.nil
  go_simp
  refine (is_st (x := k) (y := k) _ S41.out rfl).mono ?_
  rintro e wc ⟨rfl, hb⟩
  replace S41 := Lib.hid (S41.out.call hb)
  replace H := Lib.hid (H.out.call hb)
  refine hK.out _ _ (H.out.row 0 rfl) (fun hN => ?_)
  clear hK K hH hb
  have hH := hN
  clear hN
  try simp only [Act.put, List.setIfInBounds_toArray, List.set_cons_zero, List.set_cons_succ]
  refine held_value 7 43 (.bool false) rfl rfl (by kernel_rfl) (by kernel_rfl) (by kernel_rfl) rfl hH (fun w hw => by go_simp) ?_
  try simp only [Act.put, List.setIfInBounds_toArray, List.set_cons_zero, List.set_cons_succ]
  refine held_value 8 44 (.bool false) rfl rfl (by kernel_rfl) (by kernel_rfl) (by kernel_rfl) rfl hH (fun w hw => by go_simp) ?_
  try simp only [Act.put, List.setIfInBounds_toArray, List.set_cons_zero, List.set_cons_succ]
  try simp only [Act.put]
  refine wpAnyH_done (by kernel_rfl) ?_ _
  refine NoPanic.normal ?_
  clear hH
  go_wp2_with (first
    | ((with_reducible refine (r6fits_v a 56 c x _ (by omega) (HS.out.call H.out.bel)).mono ?_); rintro e wc ⟨rfl, hb⟩; replace H := Lib.hid (H.out.call hb); clear hb; rw [HF.out]))
  refine wp_region_noPanic ?_
  refine wp_region_held_drew (S := fun W => W.heap[g3]? = some (WB 27 7 (wd (k).val))) (by kernel_rfl) (H.out.drew.row 1 rfl) (fun hH => ?_)
  replace H := Lib.hid H.out.drew
  generalize World.drew _ = w8 at *
  refine held_value 0 74 (.int .i64 0) rfl rfl (by kernel_rfl) (by kernel_rfl) (by kernel_rfl) rfl hH (fun w hw => by go_simp) ?_
  try simp only [Act.put, List.setIfInBounds_toArray, List.set_cons_zero, List.set_cons_succ]
  refine held_value 1 75 (.bool true) rfl rfl (by kernel_rfl) (by kernel_rfl) (by kernel_rfl) rfl hH (fun w hw => by go_simp) ?_
  try simp only [Act.put, List.setIfInBounds_toArray, List.set_cons_zero, List.set_cons_succ]
  refine held_value 2 76 (.bool true) rfl rfl (by kernel_rfl) (by kernel_rfl) (by kernel_rfl) rfl hH (fun w hw => by go_simp) ?_
  try simp only [Act.put, List.setIfInBounds_toArray, List.set_cons_zero, List.set_cons_succ]
  refine held_row 3 77 rowSc rfl rfl (by kernel_rfl) (by kernel_rfl) (by kernel_rfl) rfl hH rfl rfl (fun _ h => h) ?_
  try simp only [Act.put, List.setIfInBounds_toArray, List.set_cons_zero, List.set_cons_succ]
  refine held_value 4 78 (.slice a 56 c) rfl rfl (by kernel_rfl) (by kernel_rfl) (by kernel_rfl) rfl hH (fun w hw => by go_simp) ?_
  try simp only [Act.put, List.setIfInBounds_toArray, List.set_cons_zero, List.set_cons_succ]
  refine wpAnyH_ready (rs := [5]) (by kernel_rfl) (by simp) ?_
  refine AllReadyH.cons (o := _) rfl (fun K hK => ?_) AllReadyH.nil
  go_simp
  refine (cut_kl _ (HC.out _ (HS.out.call H.out.bel))).mono ?_
  rintro e wc ⟨rfl, hs, hb⟩
  replace H := Lib.hid (H.out.call hb)
  have S79 := Lib.hid hs
  refine hK.out _ _ (H.out.row 1 rfl) (fun hN => ?_)
  clear hK K hH hb hs
  have hH := hN
  clear hN
  try simp only [Act.put, List.setIfInBounds_toArray, List.set_cons_zero, List.set_cons_succ]
  refine wpAnyH_ready (rs := [6]) (by kernel_rfl) (by simp) ?_
  refine AllReadyH.cons (o := _) rfl (fun K hK => ?_) AllReadyH.nil
  go_simp
  refine (is_st (x := k) (y := k) _ S79.out rfl).mono ?_
  rintro e wc ⟨rfl, hb⟩
  replace S79 := Lib.hid (S79.out.call hb)
  replace H := Lib.hid (H.out.call hb)
  refine hK.out _ _ (H.out.row 1 rfl) (fun hN => ?_)
  clear hK K hH hb
  have hH := hN
  clear hN
  try simp only [Act.put, List.setIfInBounds_toArray, List.set_cons_zero, List.set_cons_succ]
  refine held_value 7 81 (.bool true) rfl rfl (by kernel_rfl) (by kernel_rfl) (by kernel_rfl) rfl hH (fun w hw => by go_simp) ?_
  try simp only [Act.put, List.setIfInBounds_toArray, List.set_cons_zero, List.set_cons_succ]
  refine held_value 8 82 (.bool true) rfl rfl (by kernel_rfl) (by kernel_rfl) (by kernel_rfl) rfl hH (fun w hw => by go_simp) ?_
  try simp only [Act.put, List.setIfInBounds_toArray, List.set_cons_zero, List.set_cons_succ]
  refine wpAnyH_ready (rs := [9]) (by kernel_rfl) (by simp) ?_
  refine AllReadyH.cons (o := _) rfl (fun K hK => ?_) AllReadyH.nil
  go_simp
  refine (awake6 _ (HT.out.below H.out.bel)).mono ?_
  rintro e wc ⟨rfl, hb⟩
  replace S79 := Lib.hid (S79.out.call hb)
  replace H := Lib.hid (H.out.call hb)
  refine hK.out _ _ (H.out.row 1 rfl) (fun hN => ?_)
  clear hK K hH hb
  have hH := hN
  clear hN
  try simp only [Act.put, List.setIfInBounds_toArray, List.set_cons_zero, List.set_cons_succ]
  refine held_value 10 84 (.bool true) rfl rfl (by kernel_rfl) (by kernel_rfl) (by kernel_rfl) rfl hH (fun w hw => by go_simp) ?_
  try simp only [Act.put, List.setIfInBounds_toArray, List.set_cons_zero, List.set_cons_succ]
  refine held_value 11 2 (.bool true) rfl rfl (by kernel_rfl) (by kernel_rfl) (by kernel_rfl) rfl hH (fun w hw => by go_simp) ?_
  try simp only [Act.put, List.setIfInBounds_toArray, List.set_cons_zero, List.set_cons_succ]
  try simp only [Act.put]
  refine wpAnyH_done (by kernel_rfl) ?_ _
  refine NoPanic.normal ?_
  clear hH
  go_wp2_with fail
  go_ret
  exact ⟨rfl, H.out.bel⟩
set_option maxRecDepth 20000 in
set_option maxHeartbeats 12800000 in
theorem bytes_none57 (a : Option Addr) (c x : Nat) (w : World) (hT : Tl true w) (hs : Sb w w.heap.size a 57 c x) (hx : lN ≤ x) : Calls Tryd.prog 3 #[.slice a 57 c] w fun e w' => e = .returned (.bool true) ∧ Below w.heap.size w w' := by
  obtain ⟨k, hR, hP, hk⟩ := reduce_k a 57 c x (by omega)
  have HX := Lib.hid hx
  have HF : Hid (decide (x < lN) = false) := Lib.hid (decide_eq_false (by omega))
  clear hx hk
  obtain ⟨o, ho⟩ : ∃ o : KL, o = 0 := ⟨_, rfl⟩
  have Z0 := Lib.hid ho
  clear ho
  have HR := Lib.hid hR
  have HP := Lib.hid hP
  clear hR hP
  have HS := Lib.hid hs
  clear hs
  have HT := Lib.hid hT
  clear hT
  have H := Lib.hid (Ow.start w)
  go_enter Tryd.func3, Tryd.ntmps3
  go_wp2_with (first
    | ((with_reducible refine (decode_k1 a 57 c x Z0.out _ (HT.out.below H.out.bel) (.inr rfl) (HS.out.call H.out.bel) HX.out).mono ?_); rintro e wc ⟨rfl, hb⟩; replace H := Lib.hid (H.out.call hb); clear hb)
    | ((with_reducible refine (HR.out _ (HT.out.below H.out.bel) (HS.out.call H.out.bel)).mono ?_); rintro e wc ⟨rfl, hb⟩; replace H := Lib.hid (H.out.call hb); clear hb)
    | ((with_reducible refine (L_v _ (HT.out.below H.out.bel)).mono ?_); rintro e wc ⟨a1, c1, rfl, hs, hb⟩; replace H := Lib.hid (H.out.call hb); have S1 := Lib.hid hs; clear hs hb)
    | ((with_reducible refine (refL_v _).mono ?_); rintro e wc ⟨a2, c2, rfl, hs, hb⟩; replace S1 := Lib.hid (S1.out.call hb); replace H := Lib.hid (H.out.call hb); have S2 := Lib.hid hs; clear hs hb)
    | ((with_reducible refine (r6bytes_v a2 56 c2 lN _ (by omega) S2.out).mono ?_); rintro e wc ⟨a3, c3, rfl, hs, hb⟩; replace S1 := Lib.hid (S1.out.call hb); replace H := Lib.hid (H.out.call hb); have S3 := Lib.hid hs; clear hs hb)
    | ((with_reducible refine (same_sl a1 a3 57 c1 c3 (bt lN) (bt lN) _ (by omega) S1.out.sl S3.out.sl (fun _ _ => rfl)).mono ?_); rintro e wc ⟨rfl, hb⟩; replace H := Lib.hid (H.out.call hb); clear hb)
    | ((fail_if_success have := g3); (with_reducible apply own_alloc nilSc H); (case hgd => exact rfl); (case ho => exact rfl); intro w3 g3 H' _ _; replace H := H'; clear H'; go_simp)
    | ((fail_if_success have := g5); (with_reducible apply own_alloc nilSc H); (case hgd => exact rfl); (case ho => exact rfl); intro w5 g5 H' _ _; replace H := H'; clear H'; go_simp)
    | ((with_reducible apply own_store rowSc H); (case hgd => exact rfl); (case ho => exact rfl); (case hx => exact rfl); (case hy => exact rfl); (case hi => first | exact at0 | exact at1 | exact at2 | exact at3 | exact at4 | exact at5 | exact at6 | exact at7 | exact at8 | exact at9); intro ws H' _ _; replace H := H'; clear H'; simp only [List.set_cons_zero] at H; go_simp)
    | ((with_reducible apply own_load rowSc H); (case hgd => exact rfl); (case ho => exact rfl); (case hx => exact rfl); (case hi => first | exact at0 | exact at1 | exact at2 | exact at3 | exact at4 | exact at5 | exact at6 | exact at7 | exact at8 | exact at9); intro _ _; go_simp))
  refine wp_region_noPanic ?_
  refine wp_region_held_drew (S := fun W => W.heap[g5]? = some (WB 27 7 (wd (k).val))) (by kernel_rfl) (H.out.drew.row 0 rfl) (fun hH => ?_)
  replace H := Lib.hid H.out.drew
  generalize World.drew _ = w8 at *
  refine held_value 0 36 (.int .i64 0) rfl rfl (by kernel_rfl) (by kernel_rfl) (by kernel_rfl) rfl hH (fun w hw => by go_simp) ?_
  try simp only [Act.put, List.setIfInBounds_toArray, List.set_cons_zero, List.set_cons_succ]
  refine held_value 1 37 (.bool false) rfl rfl (by kernel_rfl) (by kernel_rfl) (by kernel_rfl) rfl hH (fun w hw => by go_simp) ?_
  try simp only [Act.put, List.setIfInBounds_toArray, List.set_cons_zero, List.set_cons_succ]
  refine held_value 2 38 (.bool false) rfl rfl (by kernel_rfl) (by kernel_rfl) (by kernel_rfl) rfl hH (fun w hw => by go_simp) ?_
  try simp only [Act.put, List.setIfInBounds_toArray, List.set_cons_zero, List.set_cons_succ]
  refine held_row 3 39 rowSc rfl rfl (by kernel_rfl) (by kernel_rfl) (by kernel_rfl) rfl hH rfl rfl (fun _ h => h) ?_
  try simp only [Act.put, List.setIfInBounds_toArray, List.set_cons_zero, List.set_cons_succ]
  refine held_value 4 40 (.slice a 57 c) rfl rfl (by kernel_rfl) (by kernel_rfl) (by kernel_rfl) rfl hH (fun w hw => by go_simp) ?_
  try simp only [Act.put, List.setIfInBounds_toArray, List.set_cons_zero, List.set_cons_succ]
  refine wpAnyH_ready (rs := [5]) (by kernel_rfl) (by simp) ?_
  refine AllReadyH.cons (o := _) rfl (fun K hK => ?_) AllReadyH.nil
  go_simp
  refine (HP.out _ (HS.out.call H.out.bel)).mono ?_
  rintro e wc ⟨a41, c41, rfl, hs, hb⟩
  replace H := Lib.hid (H.out.call hb)
  have S41 := Lib.hid hs
  refine hK.out _ _ (H.out.row 0 rfl) (fun hN => ?_)
  clear hK K hH hb hs
  have hH := hN
  clear hN
  try simp only [Act.put, List.setIfInBounds_toArray, List.set_cons_zero, List.set_cons_succ]
  refine wpAnyH_ready (rs := [6]) (by kernel_rfl) (by simp) ?_
  refine AllReadyH.cons (o := _) rfl (fun K hK => ?_) AllReadyH.nil
  go_simp
  refine (is_st (x := k) (y := k) _ S41.out rfl).mono ?_
  rintro e wc ⟨rfl, hb⟩
  replace S41 := Lib.hid (S41.out.call hb)
  replace H := Lib.hid (H.out.call hb)
  refine hK.out _ _ (H.out.row 0 rfl) (fun hN => ?_)
  clear hK K hH hb
  have hH := hN
  clear hN
  try simp only [Act.put, List.setIfInBounds_toArray, List.set_cons_zero, List.set_cons_succ]
  refine held_value 7 43 (.bool false) rfl rfl (by kernel_rfl) (by kernel_rfl) (by kernel_rfl) rfl hH (fun w hw => by go_simp) ?_
  try simp only [Act.put, List.setIfInBounds_toArray, List.set_cons_zero, List.set_cons_succ]
  refine held_value 8 44 (.bool false) rfl rfl (by kernel_rfl) (by kernel_rfl) (by kernel_rfl) rfl hH (fun w hw => by go_simp) ?_
  try simp only [Act.put, List.setIfInBounds_toArray, List.set_cons_zero, List.set_cons_succ]
  try simp only [Act.put]
  refine wpAnyH_done (by kernel_rfl) ?_ _
  refine NoPanic.normal ?_
  clear hH
  go_wp2_with (first
    | ((with_reducible apply own_load rowSc H); (case hgd => exact rfl); (case ho => exact rfl); (case hx => exact rfl); (case hi => first | exact at0 | exact at1 | exact at2 | exact at3 | exact at4 | exact at5 | exact at6 | exact at7 | exact at8 | exact at9); intro _ _; go_simp)
    | ((with_reducible refine (r6fits_v a 57 c x _ (by omega) (HS.out.call H.out.bel)).mono ?_); rintro e wc ⟨rfl, hb⟩; replace H := Lib.hid (H.out.call hb); clear hb; rw [HF.out])
    | ((with_reducible refine (zero_st (x := o) _ Z0.out).mono ?_); rintro e wc ⟨rfl, hb⟩; replace H := Lib.hid (H.out.call hb); clear hb)
    | ((with_reducible refine (awake6 _ (HT.out.below H.out.bel)).mono ?_); rintro e wc ⟨rfl, hb⟩; replace H := Lib.hid (H.out.call hb); clear hb))
  go_ret
  exact ⟨rfl, H.out.bel⟩
set_option maxRecDepth 20000 in
set_option maxHeartbeats 12800000 in
theorem bytes_ok57 (a : Option Addr) (c x : Nat) (w : World) (hT : Tl true w) (hs : Sb w w.heap.size a 57 c x) (hx : x < lN) : Calls Tryd.prog 3 #[.slice a 57 c] w fun e w' => e = .returned (.bool true) ∧ Below w.heap.size w w' := by
  obtain ⟨k, hR, hP, hk⟩ := reduce_k a 57 c x (by omega)
  have HX := Lib.hid hx
  have HD : Hid (∀ w, Tl true w → Sb w w.heap.size a 57 c x → Calls Tryd.prog 11 #[.slice a 57 c] w fun e w' => e = .returned (.tuple #[W7 k.val, .int .i64 0]) ∧ Below w.heap.size w w') := Lib.hid fun w hT hs => by
    rw [hk hx]
    exact decode_ok a 57 c x w hT (.inr rfl) hs hx
  have HC : Hid (∀ w, Sb w w.heap.size a 57 c x → Sb w w.heap.size a 57 c k.val ∧ 57 ≤ 1000000) := Lib.hid fun w hs => by
    rw [hk hx]
    exact ⟨hs, by omega⟩
  have HF : Hid (decide (x < lN) = true) := Lib.hid (decide_eq_true hx)
  clear hx hk
  have HR := Lib.hid hR
  have HP := Lib.hid hP
  clear hR hP
  have HS := Lib.hid hs
  clear hs
  have HT := Lib.hid hT
  clear hT
  have H := Lib.hid (Ow.start w)
  go_enter Tryd.func3, Tryd.ntmps3
  go_wp2_with (first
    | ((with_reducible refine (HD.out _ (HT.out.below H.out.bel) (HS.out.call H.out.bel)).mono ?_); rintro e wc ⟨rfl, hb⟩; replace H := Lib.hid (H.out.call hb); clear hb)
    | ((with_reducible refine (HR.out _ (HT.out.below H.out.bel) (HS.out.call H.out.bel)).mono ?_); rintro e wc ⟨rfl, hb⟩; replace H := Lib.hid (H.out.call hb); clear hb)
    | ((with_reducible refine (L_v _ (HT.out.below H.out.bel)).mono ?_); rintro e wc ⟨a1, c1, rfl, hs, hb⟩; replace H := Lib.hid (H.out.call hb); have S1 := Lib.hid hs; clear hs hb)
    | ((with_reducible refine (refL_v _).mono ?_); rintro e wc ⟨a2, c2, rfl, hs, hb⟩; replace S1 := Lib.hid (S1.out.call hb); replace H := Lib.hid (H.out.call hb); have S2 := Lib.hid hs; clear hs hb)
    | ((with_reducible refine (r6bytes_v a2 56 c2 lN _ (by omega) S2.out).mono ?_); rintro e wc ⟨a3, c3, rfl, hs, hb⟩; replace S1 := Lib.hid (S1.out.call hb); replace H := Lib.hid (H.out.call hb); have S3 := Lib.hid hs; clear hs hb)
    | ((with_reducible refine (same_sl a1 a3 57 c1 c3 (bt lN) (bt lN) _ (by omega) S1.out.sl S3.out.sl (fun _ _ => rfl)).mono ?_); rintro e wc ⟨rfl, hb⟩; replace H := Lib.hid (H.out.call hb); clear hb)
    | ((fail_if_success have := g3); (with_reducible apply own_alloc nilSc H); (case hgd => exact rfl); (case ho => exact rfl); intro w3 g3 H' _ _; replace H := H'; clear H'; go_simp)
    | ((fail_if_success have := g5); (with_reducible apply own_alloc nilSc H); (case hgd => exact rfl); (case ho => exact rfl); intro w5 g5 H' _ _; replace H := H'; clear H'; go_simp)
    | ((with_reducible apply own_store rowSc H); (case hgd => exact rfl); (case ho => exact rfl); (case hx => exact rfl); (case hy => exact rfl); (case hi => first | exact at0 | exact at1 | exact at2 | exact at3 | exact at4 | exact at5 | exact at6 | exact at7 | exact at8 | exact at9); intro ws H' _ _; replace H := H'; clear H'; simp only [List.set_cons_zero] at H; go_simp)
    | ((with_reducible apply own_load rowSc H); (case hgd => exact rfl); (case ho => exact rfl); (case hx => exact rfl); (case hi => first | exact at0 | exact at1 | exact at2 | exact at3 | exact at4 | exact at5 | exact at6 | exact at7 | exact at8 | exact at9); intro _ _; go_simp))
  refine wp_region_noPanic ?_
  refine wp_region_held_drew (S := fun W => W.heap[g5]? = some (WB 27 7 (wd (k).val))) (by kernel_rfl) (H.out.drew.row 0 rfl) (fun hH => ?_)
  replace H := Lib.hid H.out.drew
  generalize World.drew _ = w8 at *
  refine held_value 0 36 (.int .i64 0) rfl rfl (by kernel_rfl) (by kernel_rfl) (by kernel_rfl) rfl hH (fun w hw => by go_simp) ?_
  try simp only [Act.put, List.setIfInBounds_toArray, List.set_cons_zero, List.set_cons_succ]
  refine held_value 1 37 (.bool false) rfl rfl (by kernel_rfl) (by kernel_rfl) (by kernel_rfl) rfl hH (fun w hw => by go_simp) ?_
  try simp only [Act.put, List.setIfInBounds_toArray, List.set_cons_zero, List.set_cons_succ]
  refine held_value 2 38 (.bool false) rfl rfl (by kernel_rfl) (by kernel_rfl) (by kernel_rfl) rfl hH (fun w hw => by go_simp) ?_
  try simp only [Act.put, List.setIfInBounds_toArray, List.set_cons_zero, List.set_cons_succ]
  refine held_row 3 39 rowSc rfl rfl (by kernel_rfl) (by kernel_rfl) (by kernel_rfl) rfl hH rfl rfl (fun _ h => h) ?_
  try simp only [Act.put, List.setIfInBounds_toArray, List.set_cons_zero, List.set_cons_succ]
  refine held_value 4 40 (.slice a 57 c) rfl rfl (by kernel_rfl) (by kernel_rfl) (by kernel_rfl) rfl hH (fun w hw => by go_simp) ?_
  try simp only [Act.put, List.setIfInBounds_toArray, List.set_cons_zero, List.set_cons_succ]
  refine wpAnyH_ready (rs := [5]) (by kernel_rfl) (by simp) ?_
  refine AllReadyH.cons (o := _) rfl (fun K hK => ?_) AllReadyH.nil
  go_simp
  refine (HP.out _ (HS.out.call H.out.bel)).mono ?_
  rintro e wc ⟨a41, c41, rfl, hs, hb⟩
  replace H := Lib.hid (H.out.call hb)
  have S41 := Lib.hid hs
  refine hK.out _ _ (H.out.row 0 rfl) (fun hN => ?_)
  clear hK K hH hb hs
  have hH := hN
  clear hN
  try simp only [Act.put, List.setIfInBounds_toArray, List.set_cons_zero, List.set_cons_succ]
  refine wpAnyH_ready (rs := [6]) (by kernel_rfl) (by simp) ?_
  refine AllReadyH.cons (o := _) rfl (fun K hK => ?_) AllReadyH.nil
  go_simp
  refine (is_st (x := k) (y := k) _ S41.out rfl).mono ?_
  rintro e wc ⟨rfl, hb⟩
  replace S41 := Lib.hid (S41.out.call hb)
  replace H := Lib.hid (H.out.call hb)
  refine hK.out _ _ (H.out.row 0 rfl) (fun hN => ?_)
  clear hK K hH hb
  have hH := hN
  clear hN
  try simp only [Act.put, List.setIfInBounds_toArray, List.set_cons_zero, List.set_cons_succ]
  refine held_value 7 43 (.bool false) rfl rfl (by kernel_rfl) (by kernel_rfl) (by kernel_rfl) rfl hH (fun w hw => by go_simp) ?_
  try simp only [Act.put, List.setIfInBounds_toArray, List.set_cons_zero, List.set_cons_succ]
  refine held_value 8 44 (.bool false) rfl rfl (by kernel_rfl) (by kernel_rfl) (by kernel_rfl) rfl hH (fun w hw => by go_simp) ?_
  try simp only [Act.put, List.setIfInBounds_toArray, List.set_cons_zero, List.set_cons_succ]
  try simp only [Act.put]
  refine wpAnyH_done (by kernel_rfl) ?_ _
  refine NoPanic.normal ?_
  clear hH
  go_wp2_with (first
    | ((with_reducible refine (r6fits_v a 57 c x _ (by omega) (HS.out.call H.out.bel)).mono ?_); rintro e wc ⟨rfl, hb⟩; replace H := Lib.hid (H.out.call hb); clear hb; rw [HF.out]))
  refine wp_region_noPanic ?_
  refine wp_region_held_drew (S := fun W => W.heap[g3]? = some (WB 27 7 (wd (k).val))) (by kernel_rfl) (H.out.drew.row 1 rfl) (fun hH => ?_)
  replace H := Lib.hid H.out.drew
  generalize World.drew _ = w8 at *
  refine held_value 0 74 (.int .i64 0) rfl rfl (by kernel_rfl) (by kernel_rfl) (by kernel_rfl) rfl hH (fun w hw => by go_simp) ?_
  try simp only [Act.put, List.setIfInBounds_toArray, List.set_cons_zero, List.set_cons_succ]
  refine held_value 1 75 (.bool true) rfl rfl (by kernel_rfl) (by kernel_rfl) (by kernel_rfl) rfl hH (fun w hw => by go_simp) ?_
  try simp only [Act.put, List.setIfInBounds_toArray, List.set_cons_zero, List.set_cons_succ]
  refine held_value 2 76 (.bool true) rfl rfl (by kernel_rfl) (by kernel_rfl) (by kernel_rfl) rfl hH (fun w hw => by go_simp) ?_
  try simp only [Act.put, List.setIfInBounds_toArray, List.set_cons_zero, List.set_cons_succ]
  refine held_row 3 77 rowSc rfl rfl (by kernel_rfl) (by kernel_rfl) (by kernel_rfl) rfl hH rfl rfl (fun _ h => h) ?_
  try simp only [Act.put, List.setIfInBounds_toArray, List.set_cons_zero, List.set_cons_succ]
  refine held_value 4 78 (.slice a 57 c) rfl rfl (by kernel_rfl) (by kernel_rfl) (by kernel_rfl) rfl hH (fun w hw => by go_simp) ?_
  try simp only [Act.put, List.setIfInBounds_toArray, List.set_cons_zero, List.set_cons_succ]
  refine wpAnyH_ready (rs := [5]) (by kernel_rfl) (by simp) ?_
  refine AllReadyH.cons (o := _) rfl (fun K hK => ?_) AllReadyH.nil
  go_simp
  refine (cut_kl _ (HC.out _ (HS.out.call H.out.bel))).mono ?_
  rintro e wc ⟨rfl, hs, hb⟩
  replace H := Lib.hid (H.out.call hb)
  have S79 := Lib.hid hs
  refine hK.out _ _ (H.out.row 1 rfl) (fun hN => ?_)
  clear hK K hH hb hs
  have hH := hN
  clear hN
  try simp only [Act.put, List.setIfInBounds_toArray, List.set_cons_zero, List.set_cons_succ]
  refine wpAnyH_ready (rs := [6]) (by kernel_rfl) (by simp) ?_
  refine AllReadyH.cons (o := _) rfl (fun K hK => ?_) AllReadyH.nil
  go_simp
  refine (is_st (x := k) (y := k) _ S79.out rfl).mono ?_
  rintro e wc ⟨rfl, hb⟩
  replace S79 := Lib.hid (S79.out.call hb)
  replace H := Lib.hid (H.out.call hb)
  refine hK.out _ _ (H.out.row 1 rfl) (fun hN => ?_)
  clear hK K hH hb
  have hH := hN
  clear hN
  try simp only [Act.put, List.setIfInBounds_toArray, List.set_cons_zero, List.set_cons_succ]
  refine held_value 7 81 (.bool true) rfl rfl (by kernel_rfl) (by kernel_rfl) (by kernel_rfl) rfl hH (fun w hw => by go_simp) ?_
  try simp only [Act.put, List.setIfInBounds_toArray, List.set_cons_zero, List.set_cons_succ]
  refine held_value 8 82 (.bool true) rfl rfl (by kernel_rfl) (by kernel_rfl) (by kernel_rfl) rfl hH (fun w hw => by go_simp) ?_
  try simp only [Act.put, List.setIfInBounds_toArray, List.set_cons_zero, List.set_cons_succ]
  refine wpAnyH_ready (rs := [9]) (by kernel_rfl) (by simp) ?_
  refine AllReadyH.cons (o := _) rfl (fun K hK => ?_) AllReadyH.nil
  go_simp
  refine (awake6 _ (HT.out.below H.out.bel)).mono ?_
  rintro e wc ⟨rfl, hb⟩
  replace S79 := Lib.hid (S79.out.call hb)
  replace H := Lib.hid (H.out.call hb)
  refine hK.out _ _ (H.out.row 1 rfl) (fun hN => ?_)
  clear hK K hH hb
  have hH := hN
  clear hN
  try simp only [Act.put, List.setIfInBounds_toArray, List.set_cons_zero, List.set_cons_succ]
  refine held_value 10 84 (.bool true) rfl rfl (by kernel_rfl) (by kernel_rfl) (by kernel_rfl) rfl hH (fun w hw => by go_simp) ?_
  try simp only [Act.put, List.setIfInBounds_toArray, List.set_cons_zero, List.set_cons_succ]
  refine held_value 11 2 (.bool true) rfl rfl (by kernel_rfl) (by kernel_rfl) (by kernel_rfl) rfl hH (fun w hw => by go_simp) ?_
  try simp only [Act.put, List.setIfInBounds_toArray, List.set_cons_zero, List.set_cons_succ]
  try simp only [Act.put]
  refine wpAnyH_done (by kernel_rfl) ?_ _
  refine NoPanic.normal ?_
  clear hH
  go_wp2_with fail
  go_ret
  exact ⟨rfl, H.out.bel⟩
theorem bytes_walk (a : Option Addr) (n c : Nat) (f : Nat → BitVec 8) (w : World) (hT : Tl true w) (hs : Sl w w.heap.size a n c f) : Calls Tryd.prog 3 #[.slice a n c] w fun e w' => e = .returned (.bool true) ∧ Below w.heap.size w w' := by
  obtain ⟨x, hx, hf⟩ := bytes_of f n
  have hb : Sb w w.heap.size a n c x := ⟨hs.congr fun i hi => (hf i hi).symm, hx⟩
  clear hs hx hf
  by_cases h : 200 < n
  · exact bytes_far a n c w hT h
  · by_cases h1 : 128 < n
    · exact bytes_long a n c w hT h1 (by omega)
    · by_cases h2 : n = 56
      · subst h2
        by_cases h4 : x < lN
        · exact bytes_ok56 a c x w hT hb h4
        · exact bytes_none56 a c x w hT hb (by omega)
      · by_cases h3 : n = 57
        · subst h3
          by_cases h4 : x < lN
          · exact bytes_ok57 a c x w hT hb h4
          · exact bytes_none57 a c x w hT hb (by omega)
        · exact bytes_off a n c x w hT hb (by omega) h2 h3
end Go.Proofs.YtocjncflgbnglaaDoor
