/-
  The contracts of package root's chain and Inverse. No statement is proved here: lemmas for the walks.
-/
import Derived.Test.YtgcdahcmfniceaaDoorZRtChain
namespace Go.Proofs.YtgcdahcmfniceaaDoor
open Go.RowKit

theorem chain_k {f : Nat → Nat} {a : K} (w : World) (hf : EK f a) :
    Calls Tryd.prog 16 #[EV f] w fun e w' => ∃ h, e = .returned (EV h) ∧ EK h (a ^ eC) ∧ Below w.heap.size w w' := by
  obtain ⟨E1, e1⟩ : ∃ E, 1 * 2 ^ 1 + 1 = E := ⟨_, rfl⟩
  obtain ⟨E2, e2⟩ : ∃ E, E1 * 2 ^ 1 + 1 = E := ⟨_, rfl⟩
  obtain ⟨E3, e3⟩ : ∃ E, E2 * 2 ^ 3 + E2 = E := ⟨_, rfl⟩
  obtain ⟨E4, e4⟩ : ∃ E, E3 * 2 ^ 3 + E2 = E := ⟨_, rfl⟩
  obtain ⟨E5, e5⟩ : ∃ E, E4 * 2 ^ 9 + E4 = E := ⟨_, rfl⟩
  obtain ⟨E6, e6⟩ : ∃ E, E5 * 2 ^ 1 + 1 = E := ⟨_, rfl⟩
  obtain ⟨E7, e7⟩ : ∃ E, E6 * 2 ^ 18 + E5 = E := ⟨_, rfl⟩
  obtain ⟨E8, e8⟩ : ∃ E, E7 * 2 ^ 37 + E7 = E := ⟨_, rfl⟩
  obtain ⟨E9, e9⟩ : ∃ E, E8 * 2 ^ 37 + E7 = E := ⟨_, rfl⟩
  obtain ⟨E10, e10⟩ : ∃ E, E9 * 2 ^ 111 + E9 = E := ⟨_, rfl⟩
  obtain ⟨E11, e11⟩ : ∃ E, E10 * 2 ^ 1 + 1 = E := ⟨_, rfl⟩
  obtain ⟨E12, e12⟩ : ∃ E, E11 * 2 ^ 223 + E10 = E := ⟨_, rfl⟩
  have e : E12 = eC := by
    subst e1 e2 e3 e4 e5 e6 e7 e8 e9 e10 e11 e12
    decide +kernel
  rw [← e]
  exact chain_walk w (hf.eq (by grind)) _ _ _ _ _ _ _ _ _ _ _ _ e1 e2 e3 e4 e5 e6 e7 e8 e9 e10 e11 e12
theorem inv_chain (a : K) : (a ^ eC) ^ 2 ^ 2 * a = inv a := by
  unfold inv
  rw [← fp_pow_mul, ← fp_pow_succ, show eC * 2 ^ 2 + 1 = pN - 2 by have := pN_c; omega]
set_option maxRecDepth 8000 in
set_option maxHeartbeats 3200000 in
theorem inverse_k {f : Nat → Nat} {a : K} (w : World) (hf : EK f a) :
    Calls Tryd.prog 11 #[EV f] w fun e w' => ∃ h, e = .returned (EV h) ∧ EK h (inv a) ∧ Below w.heap.size w w' := by
  have HF := Lib.hid hf
  clear hf
  have H := Lib.hid (Ow.start w)
  go_enter Tryd.func11, Tryd.ntmps11
  go_wp2_with (first
    | ((fail_if_success have := g1); (with_reducible apply own_box H); (case hgd => exact rfl); (case ho => exact rfl); (case hx => exact rfl); intro w1 g1 H' _ _; replace H := H'; clear H'; go_simp)
    | ((fail_if_success have := g2); (with_reducible apply own_alloc nilE H); (case hgd => exact rfl); (case ho => exact rfl); intro w2 g2 H' _ _; replace H := H'; clear H'; go_simp))
  refine wp_region_noPanic ?_
  refine wp_region_held_drew (S := fun W => W.heap[g1]? = some (Blk 27 .u64 8 (NZ f))) (by kernel_rfl) (H.out.drew.row 1 rfl) (fun hH => ?_)
  replace H := Lib.hid H.out.drew
  generalize World.drew _ = w8 at *
  refine held_row 0 3 rowE rfl rfl (by kernel_rfl) (by kernel_rfl) (by kernel_rfl) rfl hH rfl rfl (fun _ h => h) ?_
  try simp only [Act.put, List.setIfInBounds_toArray, List.set_cons_zero, List.set_cons_succ]
  refine held_row 3 6 rowE rfl rfl (by kernel_rfl) (by kernel_rfl) (by kernel_rfl) rfl hH rfl rfl (fun _ h => h) ?_
  try simp only [Act.put, List.setIfInBounds_toArray, List.set_cons_zero, List.set_cons_succ]
  refine wpAnyH_ready (rs := [1]) (by kernel_rfl) (by simp) ?_
  refine AllReadyH.cons (o := _) rfl (fun K hK => ?_) AllReadyH.nil
  go_simp
  refine (chain_k _ HF.out).mono ?_
  rintro e wc ⟨h4, rfl, hv, hb⟩
  replace H := Lib.hid (H.out.call hb)
  have HV4 := Lib.hid hv
  refine hK.out _ _ (H.out.row 1 rfl) (fun hN => ?_)
  clear hK K hH hb hv
  have hH := hN
  clear hN
  try simp only [Act.put, List.setIfInBounds_toArray, List.set_cons_zero, List.set_cons_succ]
  refine wpAnyH_ready (rs := [2]) (by kernel_rfl) (by simp) ?_
  refine AllReadyH.cons (o := _) rfl (fun K hK => ?_) AllReadyH.nil
  go_simp
  refine (squares_k 2 _ (by omega) HV4.out).mono ?_
  rintro e wc ⟨h5, rfl, hv, hb⟩
  replace H := Lib.hid (H.out.call hb)
  have HV5 := Lib.hid hv
  refine hK.out _ _ (H.out.row 1 rfl) (fun hN => ?_)
  clear hK K hH hb hv
  have hH := hN
  clear hN
  try simp only [Act.put, List.setIfInBounds_toArray, List.set_cons_zero, List.set_cons_succ]
  refine wpAnyH_ready (rs := [4]) (by kernel_rfl) (by simp) ?_
  refine AllReadyH.cons (o := _) rfl (fun K hK => ?_) AllReadyH.nil
  go_simp
  refine (mul_k _ HV5.out HF.out).mono ?_
  rintro e wc ⟨h7, rfl, hv, hb⟩
  replace H := Lib.hid (H.out.call hb)
  have HV7 := Lib.hid hv
  refine hK.out _ _ (H.out.row 1 rfl) (fun hN => ?_)
  clear hK K hH hb hv
  have hH := hN
  clear hN
  try simp only [Act.put, List.setIfInBounds_toArray, List.set_cons_zero, List.set_cons_succ]
  refine wpAnyH_ready (rs := [5]) (by kernel_rfl) (by simp) ?_
  refine AllReadyH.cons (o := _) rfl (fun K hK => ?_) AllReadyH.nil
  refine own_wp_store 0 rowE H.out rfl rfl rfl rfl ?_
  intro ws HS
  simp only [List.set_cons_zero] at HS
  replace H := Lib.hid HS
  refine hK.out _ _ (H.out.row 1 rfl) (fun hN => ?_)
  clear hK K HS hH
  have hH := hN
  clear hN
  try simp only [Act.put, List.setIfInBounds_toArray]
  try simp only [Act.put]
  refine wpAnyH_done (by kernel_rfl) ?_ _
  refine NoPanic.normal ?_
  clear hH
  go_wp2_with fail
  exact bodyPost_ret (own_result 0 rowE rfl _ H rfl rfl) rfl ⟨_, rfl, HV7.out.eq (inv_chain a), H.out.bel⟩
end Go.Proofs.YtgcdahcmfniceaaDoor
