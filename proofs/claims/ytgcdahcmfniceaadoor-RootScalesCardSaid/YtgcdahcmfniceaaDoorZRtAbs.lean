/-
  The contracts of package root's lowest, Negative and Abs. No statement is proved here: lemmas for the walks.
-/
import Derived.Test.YtgcdahcmfniceaaDoorZRtK
namespace Go.Proofs.YtgcdahcmfniceaaDoor
open Go.RowKit

theorem u8_and1 (n : Nat) : bits .and .u8 (n : Int) 1 = ((n % 2 : Nat) : Int) := by
  have h127 : (BitVec.ofInt 8 1).toNat = 2 ^ 1 - 1 := by decide
  have key : (BitVec.ofInt 8 (n : Int) &&& BitVec.ofInt 8 1).toNat = ((n : Int) % ((2 ^ 8 : Nat) : Int)).toNat % 2 ^ 1 := by
    rw [BitVec.toNat_and, BitVec.toNat_ofInt, h127, Nat.and_two_pow_sub_one_eq_mod]
  show IntKind.u8.wrap ((BitVec.ofInt 8 (n : Int) &&& BitVec.ofInt 8 1).toNat : Nat) = ((n % 2 : Nat) : Int)
  rw [key, IntKind.wrap_u8]
  omega
set_option maxRecDepth 8000 in
set_option maxHeartbeats 3200000 in
theorem lowest_k {f : Nat → Nat} {a : K} (w : World) (hf : EK f a) :
    Calls Tryd.prog 25 #[EV f] w fun e w' => e = .returned (.int .i64 ((a.val % 2 : Nat) : Int)) ∧ Below w.heap.size w w' := by
  have HF := Lib.hid hf
  clear hf
  have H := Lib.hid (Ow.start w)
  go_enter Tryd.func25, Tryd.ntmps25
  go_wp2_with (first
    | ((fail_if_success have := g1); (with_reducible apply own_box H); (case hgd => exact rfl); (case ho => exact rfl); (case hx => exact rfl); intro w1 g1 H' _ _; replace H := H'; clear H'; go_simp)
    | ((with_reducible apply own_load rowE H); (case hgd => exact rfl); (case ho => exact rfl); (case hx => exact rfl); (case hi => first | exact at0 | exact at1 | exact at2 | exact at3 | exact at4 | exact at5 | exact at6 | exact at7 | exact at8 | exact at9); intro _ _; go_simp))
  refine (bytes_v _ HF.out).mono ?_
  rintro e w2 ⟨ad, c, rfl, hs, hb⟩
  replace H := Lib.hid (H.out.call hb)
  obtain ⟨b, o, rfl, _, hcell⟩ := hold_slice hs (by omega)
  obtain ⟨y, hy⟩ : ∃ y, (bX a.val 0).toNat = y := ⟨_, rfl⟩
  have hc : w2.cell? ⟨b, o, none⟩ = some (.int .u8 (y : Int)) := by
    have := hcell 0 (by omega)
    rw [show U (bX a.val 0) = .int .u8 (y : Int) from congrArg (Value.int .u8) (by rw [← hy]; rfl)] at this
    exact this
  have e1 := u8_and1 y
  obtain ⟨z, hz⟩ : ∃ z, y % 2 = z := ⟨_, rfl⟩
  rw [hz] at e1
  have HZ : Hid (z = a.val % 2) := Lib.hid (by
    rw [← hz, ← hy, bX_nat, Nat.pow_zero, Nat.div_one]
    omega)
  have z2 : (z : Int) < 2 := by omega
  clear hb hs hcell hy hz
  go_wp2_with fail
  go_ret
  exact ⟨by rw [← HZ.out]; rfl, H.out.bel⟩

















theorem pick_ab {a : K} {n : Nat} (h : a.val % 2 = n) : (if (n : Int) % 2 = 0 then a else -a) = ab a := by
  unfold ab
  have hb := Nat.mod_lt a.val (show 0 < 2 by omega)
  by_cases e : a.val % 2 = 1
  · rw [if_pos e, if_neg (by omega)]
  · rw [if_neg e, if_pos (by omega)]
set_option maxRecDepth 8000 in
set_option maxHeartbeats 3200000 in
theorem abs_k {f : Nat → Nat} {a : K} (w : World) (hT : Tp w) (hf : EK f a) :
    Calls Tryd.prog 12 #[EV f] w fun e w' => ∃ h, e = .returned (EV h) ∧ EK h (ab a) ∧ Below w.heap.size w w' := by
  have HF := Lib.hid hf
  have HT := Lib.hid hT
  have HL := Lib.hid (fun w => lowest_k w hf)
  obtain ⟨z, hz⟩ : ∃ z, a.val % 2 = z := ⟨_, rfl⟩
  rw [hz] at HL
  have HZ := Lib.hid hz
  clear hf hT hz
  have H := Lib.hid (Ow.start w)
  go_enter Tryd.func12, Tryd.ntmps12
  go_wp2_with (first
    | ((fail_if_success have := g1); (with_reducible apply own_box H); (case hgd => exact rfl); (case ho => exact rfl); (case hx => exact rfl); intro w1 g1 H' _ _; replace H := H'; clear H'; go_simp)
    | ((fail_if_success have := g2); (with_reducible apply own_alloc nilE H); (case hgd => exact rfl); (case ho => exact rfl); intro w2 g2 H' _ _; replace H := H'; clear H'; go_simp))
  refine wp_region_noPanic ?_
  refine wp_region_held_drew (S := fun W => W.heap[g1]? = some (Blk 27 .u64 8 (NZ f))) (by kernel_rfl) (H.out.drew.row 1 rfl) (fun hH => ?_)
  replace H := Lib.hid H.out.drew
  generalize World.drew _ = w8 at *
  refine held_row 0 3 rowE rfl rfl (by kernel_rfl) (by kernel_rfl) (by kernel_rfl) rfl hH rfl rfl (fun _ h => h) ?_
  try simp only [Act.put, List.setIfInBounds_toArray, List.set_cons_zero, List.set_cons_succ]
  refine held_row 2 5 rowE rfl rfl (by kernel_rfl) (by kernel_rfl) (by kernel_rfl) rfl hH rfl rfl (fun _ h => h) ?_
  try simp only [Act.put, List.setIfInBounds_toArray, List.set_cons_zero, List.set_cons_succ]
  refine held_row 3 6 rowE rfl rfl (by kernel_rfl) (by kernel_rfl) (by kernel_rfl) rfl hH rfl rfl (fun _ h => h) ?_
  try simp only [Act.put, List.setIfInBounds_toArray, List.set_cons_zero, List.set_cons_succ]
  refine wpAnyH_ready (rs := [1]) (by kernel_rfl) (by simp) ?_
  refine AllReadyH.cons (o := _) rfl (fun K hK => ?_) AllReadyH.nil
  go_simp
  refine (HL.out _).mono ?_
  rintro e wc ⟨rfl, hb⟩
  replace H := Lib.hid (H.out.call hb)
  refine hK.out _ _ (H.out.row 1 rfl) (fun hN => ?_)
  clear hK K hH hb
  have hH := hN
  clear hN
  try simp only [Act.put, List.setIfInBounds_toArray, List.set_cons_zero, List.set_cons_succ]
  refine wpAnyH_ready (rs := [4]) (by kernel_rfl) (by simp) ?_
  refine AllReadyH.cons (o := _) rfl (fun K hK => ?_) AllReadyH.nil
  go_simp
  refine (neg_k _ (HT.out.below H.out.bel) HF.out).mono ?_
  rintro e wc ⟨h7, rfl, hv, hb⟩
  replace H := Lib.hid (H.out.call hb)
  have HV7 := Lib.hid hv
  refine hK.out _ _ (H.out.row 1 rfl) (fun hN => ?_)
  clear hK K hH hb hv
  have hH := hN
  clear hN
  try simp only [Act.put, List.setIfInBounds_toArray, List.set_cons_zero, List.set_cons_succ]
  refine wpAnyH_ready (rs := [5]) (by kernel_rfl) (by simp) ?_
  refine AllReadyH.cons (o := _) rfl (fun K hK => ?_) AllReadyH.nil
  go_simp
  refine (select_any _ _ _ _ HF.out.lim HV7.out.lim).mono ?_
  rintro e wc ⟨rfl, hb⟩
  replace H := Lib.hid (H.out.call hb)
  have HV8 := Lib.hid (pick_k (n := (z : Int)) HF.out HV7.out)
  refine hK.out _ _ (H.out.row 1 rfl) (fun hN => ?_)
  clear hK K hH hb
  have hH := hN
  clear hN
  try simp only [Act.put, List.setIfInBounds_toArray, List.set_cons_zero, List.set_cons_succ]
  refine wpAnyH_ready (rs := [6]) (by kernel_rfl) (by simp) ?_
  refine AllReadyH.cons (o := _) rfl (fun K hK => ?_) AllReadyH.nil
  refine own_wp_store 0 rowE H.out rfl rfl rfl rfl ?_
  intro ws HS
  simp only [List.set_cons_zero] at HS
  replace H := Lib.hid HS
  refine hK.out _ _ (H.out.row 1 rfl) (fun hN => ?_)
  clear hK K HS hH
  have hH := hN
  clear hN
  try simp only [Act.put, List.setIfInBounds_toArray]
  try simp only [Act.put]
  refine wpAnyH_done (by kernel_rfl) ?_ _
  refine NoPanic.normal ?_
  clear hH
  go_wp2_with fail
  exact bodyPost_ret (own_result 0 rowE rfl _ H rfl rfl) rfl ⟨_, rfl, HV8.out.eq (pick_ab HZ.out), H.out.bel⟩
end Go.Proofs.YtgcdahcmfniceaaDoor
