/-
  The contract of digits.Signed. No statement is proved here: lemmas for the walks.
-/
import Derived.Test.YtgdfpboccgfadaaZDgSigned
namespace Go.Proofs.Ytgdfpboccgfadaa
open Go.RowKit

set_option maxRecDepth 8000 in
set_option maxHeartbeats 800000 in
theorem signed_bad (a : Option Addr) (n c : Nat) (k r : Int) (w : World) (hr : ask n k 2 = r) (h0 : r ≠ 0) :
    Calls Try.prog 11 #[.slice a n c, .int .i64 k] w fun e w' => e = .returned (.tuple #[.slice none 0 0, .int .i64 r]) ∧ Below w.heap.size w w' := by
  have E := Lib.hid hr
  have hne : (r != 0) = true := by simpa using h0
  clear hr h0
  have H := Lib.hid (Ow.start w)
  go_enter Try.func11, Try.ntmps11
  go_wp2_with (first
    | ((fail_if_success have := g1); (with_reducible apply own_box1 (one_int .i64 k) H); (case hgd => exact rfl); (case ho => exact rfl); (case hx => exact rfl); intro w1 g1 H' _ _; replace H := H'; clear H'; go_simp)
    | ((with_reducible apply own_load1 cellZ H); (case hgd => exact rfl); (case ho => exact rfl); (case hx => exact rfl); (case hi => exact at0); intro _ _; go_simp)
    | ((with_reducible refine (asked_v a n c k 2 _).mono ?_); rintro e w' ⟨rfl, hb⟩; rw [E.out]; replace H := Lib.hid (H.out.call hb); clear hb))
  go_ret2
  exact ⟨rfl, H.out.bel⟩
set_option maxRecDepth 8000 in
set_option maxHeartbeats 1600000 in
theorem signed_v (a : Option Addr) (n c x k m : Nat) (w : World) (hn : n ≤ 64) (hk : 2 ≤ k) (hk8 : k ≤ 8) (hm : (8 * n + k - 1) / k = m) (hs : Sb w w.heap.size a n c x) :
    Calls Try.prog 11 #[.slice a n c, .int .i64 (k : Int)] w fun e w' => ∃ g, e = .returned (.tuple #[.slice (some ⟨g, 0, none⟩) (m + 1) (m + 1), .int .i64 0]) ∧ w.heap.size ≤ g ∧ w'.heap[g]? = some (Blk 3 .i64 (m + 1) (sdg x k)) ∧ Below w.heap.size w w' := by
  have E : Hid (ask n (k : Int) 2 = 0) := Lib.hid (by unfold ask; rw [if_neg (by omega), if_neg (by omega)])
  have HS := Lib.hid hs
  have HM := Lib.hid hm
  have hmb : m ≤ 600 := by
    have := Nat.div_le_self (8 * n + k - 1) k
    omega
  have HMK : Hid ((m + 1) * k ≤ 10000) := Lib.hid (by
    have := Nat.div_mul_le_self (8 * n + k - 1) k
    rw [hm] at this
    rw [Nat.add_mul]
    omega)
  clear hs hm
  have H := Lib.hid (Ow.start w)
  go_enter Try.func11, Try.ntmps11
  go_wp2_with (first
    | ((fail_if_success have := g1); (with_reducible apply own_box1 (one_int .i64 (k : Int)) H); (case hgd => exact rfl); (case ho => exact rfl); (case hx => exact rfl); intro w1 g1 H' _ _; replace H := H'; clear H'; go_simp)
    | ((with_reducible apply own_load1 cellZ H); (case hgd => exact rfl); (case ho => exact rfl); (case hx => exact rfl); (case hi => exact at0); intro _ _; go_simp)
    | ((with_reducible refine (asked_v a n c (k : Int) 2 _).mono ?_); rintro e wa ⟨rfl, hb⟩; rw [E.out]; replace H := Lib.hid (H.out.call hb); clear hb)
    | ((with_reducible refine (reader_v a n c x w _ _ H.out (HS.out.call H.out.bel)).mono ?_); rintro e wb ⟨g2, rfl, hO, _⟩; replace H := Lib.hid hO; clear hO)
    | ((fail_if_success have := g3); (with_reducible apply own_alloc1 nilF one_nil H); (case hgd => exact rfl); (case ho => exact rfl); intro w3 g3 H' _ _; replace H := H'; clear H'; go_simp)
    | ((with_reducible apply own_store1 cellF (one_func _ _ _) H); (case hgd => exact rfl); (case ho => exact rfl); (case hx => exact rfl); (case hy => exact rfl); (case hi => exact at0); intro ws H' _ _; replace H := H'; clear H'; simp only [List.set_cons_zero] at H; go_simp))
  refine wp_region_noPanic ?_
  refine wp_region_held_drew (S := fun W => W.heap[g1]? = some (Oc 3 (.int .i64 (k : Int)))) (by kernel_rfl) (H.out.drew.row 2 rfl) (fun hH => ?_)
  replace H := Lib.hid H.out.drew
  generalize World.drew _ = w8 at *
  refine held_value 0 18 (.slice a n c) rfl rfl (by kernel_rfl) (by kernel_rfl) (by kernel_rfl) rfl hH (fun w hw => by go_simp) ?_
  try simp only [Act.put, List.setIfInBounds_toArray, List.set_cons_zero, List.set_cons_succ]
  refine held_one 1 19 cellZ rfl rfl (by kernel_rfl) (by kernel_rfl) (by kernel_rfl) rfl hH rfl rfl (fun _ h => h) ?_
  try simp only [Act.put, List.setIfInBounds_toArray, List.set_cons_zero, List.set_cons_succ]
  refine held_one 4 22 cellZ rfl rfl (by kernel_rfl) (by kernel_rfl) (by kernel_rfl) rfl hH rfl rfl (fun _ h => h) ?_
  try simp only [Act.put, List.setIfInBounds_toArray, List.set_cons_zero, List.set_cons_succ]
  refine held_value 5 23 (.func (.func 27) #[] #[.pointer (some ⟨g3, 0, none⟩), .pointer (some ⟨g1, 0, none⟩)]) rfl rfl (by kernel_rfl) (by kernel_rfl) (by kernel_rfl) rfl hH (fun w hw => by go_simp) ?_
  try simp only [Act.put, List.setIfInBounds_toArray, List.set_cons_zero, List.set_cons_succ]
  refine wpAnyH_ready (rs := [2]) (by kernel_rfl) (by simp) ?_
  refine AllReadyH.cons (o := _) rfl (fun K hK => ?_) AllReadyH.nil
  go_simp
  refine (parts_v a n c k _ (by omega) (by omega) hk8 m HM.out).mono ?_
  rintro e wc ⟨rfl, rfl⟩
  refine hK.out _ _ hH (fun hN => ?_)
  clear hK K hH
  have hH := hN
  clear hN
  try simp only [Act.put, List.setIfInBounds_toArray, List.set_cons_zero, List.set_cons_succ]
  refine held_value 3 21 (.int .i64 ((m : Int) + 1)) rfl rfl (by kernel_rfl) (by kernel_rfl) (by kernel_rfl) rfl hH (fun w hw => by go_simp; rw [IntKind.wrap_i64]; omega) ?_
  try simp only [Act.put, List.setIfInBounds_toArray, List.set_cons_zero, List.set_cons_succ]
  refine wpAnyH_ready (rs := [6]) (by kernel_rfl) (by simp) ?_
  refine AllReadyH.cons (o := _) rfl (fun K hK => ?_) AllReadyH.nil
  go_simp
  refine (carried_s (n := n) (a := a) (c := c) (g := g2) (gb := g3) (gq := g1) _ (m + 1) k H.out HS.out hn (by omega) hk8 HMK.out (by omega)).mono ?_
  rintro e wd ⟨g5, rfl, hO⟩
  replace H := Lib.hid hO
  refine hK.out _ _ (H.out.row 3 rfl) (fun hN => ?_)
  clear hK K hH hO
  have hH := hN
  clear hN
  try simp only [Act.put, List.setIfInBounds_toArray, List.set_cons_zero, List.set_cons_succ]
  refine held_value 7 4 (.slice (some ⟨g5, 0, none⟩) (m + 1) (m + 1)) rfl rfl (by kernel_rfl) (by kernel_rfl) (by kernel_rfl) rfl hH (fun w hw => by go_simp) ?_
  try simp only [Act.put, List.setIfInBounds_toArray, List.set_cons_zero, List.set_cons_succ]
  refine held_value 8 5 (.int .i64 0) rfl rfl (by kernel_rfl) (by kernel_rfl) (by kernel_rfl) rfl hH (fun w hw => by go_simp) ?_
  try simp only [Act.put, List.setIfInBounds_toArray, List.set_cons_zero, List.set_cons_succ]
  refine wpAnyH_done (by kernel_rfl) ?_ _
  refine NoPanic.normal ?_
  clear hH
  go_wp2_with fail
  go_ret2
  exact ⟨_, rfl, H.out.ge 0 rfl, H.out.row 0 rfl, H.out.bel⟩
end Go.Proofs.Ytgdfpboccgfadaa
