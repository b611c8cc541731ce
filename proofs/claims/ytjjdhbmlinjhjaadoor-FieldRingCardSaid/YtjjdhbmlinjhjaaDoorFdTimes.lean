/-
  The contracts of field.Times, Int and Swap.
-/
import Derived.Test.YtjjdhbmlinjhjaaDoorFdMul
import Derived.Test.YtjjdhbmlinjhjaaDoorFdPick
import Derived.Test.YtjjdhbmlinjhjaaDoorRf4Int
namespace Go.Proofs.YtjjdhbmlinjhjaaDoor
open Go.RowKit

theorem i64_xor0 (n : Int) (h1 : -9223372036854775808 ≤ n) (h2 : n ≤ 9223372036854775807) : bits .xor .i64 n 0 = n := by
  show IntKind.i64.wrap ((BitVec.ofInt 64 n ^^^ BitVec.ofInt 64 0).toNat : Nat) = n
  rw [show BitVec.ofInt 64 0 = 0#64 from rfl, BitVec.xor_zero, BitVec.toNat_ofInt, IntKind.wrap_i64]
  omega
theorem i64_xor1 (n : Int) (h1 : -9223372036854775808 ≤ n) (h2 : n ≤ 9223372036854775807) : bits .xor .i64 n (-1) = -1 - n := by
  show IntKind.i64.wrap ((BitVec.ofInt 64 n ^^^ BitVec.ofInt 64 (-1)).toNat : Nat) = -1 - n
  rw [show BitVec.ofInt 64 (-1) = BitVec.allOnes 64 from rfl, BitVec.xor_allOnes, BitVec.toNat_not, BitVec.toNat_ofInt, IntKind.wrap_i64]
  omega
set_option maxRecDepth 8000 in
set_option maxHeartbeats 1000000 in
theorem times1_any (i x m g7 : Nat) (w : World) (hm : w.cell? ⟨g7, 0, none⟩ = some (.int .u64 (m : Int))) (hx : x < 72057594037927940) (hmm : m ≤ 9223372036854775808) :
    Calls Tryd.prog 59 #[.int .i64 i, .int .u64 x, .pointer (some ⟨g7, 0, none⟩)] w fun e w' => e = .returned (.agg (AZ .u64 2 (pz (x * m)))) ∧ Below w.heap.size w w' := by
  have hp := Nat.mul_le_mul (show x ≤ 72057594037927939 by omega) hmm
  have HP := Lib.hid (fun w => plus_any 0 x m w (by omega) (by omega) (by omega))
  rw [Nat.zero_add] at HP
  have HM := Lib.hid hm
  have hg := block_lt_of_cell hm
  clear hp hx hmm hm
  have H := Lib.hid (Ow.start w)
  go_enter Tryd.func59, Tryd.ntmps59
  go_wp2_with (first
    | ((fail_if_success have := g1); (with_reducible apply own_alloc nilP H); (case hgd => exact rfl); (case ho => exact rfl); intro w1 g1 H' _ _; replace H := H'; clear H'; have hc : w1.cell? ⟨g7, 0, none⟩ = some (.int .u64 (m : Int)) := (H.out.bel.cell (p := ⟨g7, 0, none⟩) hg).trans HM.out; go_simp)
    | ((with_reducible apply lay_build_P0); (case hgd => exact rfl); (case ho => exact rfl); intro _ _; go_simp)
    | ((with_reducible refine (HP.out _).mono ?_); rintro e wc ⟨rfl, hb⟩; replace H := Lib.hid (H.out.call hb); clear hb)
    | ((with_reducible apply own_store rowP H); (case hgd => exact rfl); (case ho => exact rfl); (case hx => exact rfl); (case hy => exact rfl); (case hi => first | exact at0 | exact at1 | exact at2 | exact at3 | exact at4 | exact at5 | exact at6); intro ws H' _ _; replace H := H'; clear H'; simp only [List.set_cons_zero] at H; go_simp))
  exact bodyPost_ret (own_result 0 rowP rfl _ H rfl rfl) rfl ⟨rfl, H.out.bel⟩
theorem lv_scale (f : Nat → Nat) (m : Nat) : ∀ n, lv (fun i => f i * m) n = lv f n * m
  | 0 => by rw [show lv (fun i => f i * m) 0 = 0 from rfl, show lv f 0 = 0 from rfl, Nat.zero_mul]
  | n + 1 => by
    unfold lv
    rw [lv_scale f m n, Nat.add_mul, Nat.mul_right_comm]
/-- What goes with the same number to nought, divided by p, leaves the same. -/
theorem less_same {a b c : Nat} (h1 : (a + c) % pN = 0) (h2 : (b + c) % pN = 0) : a % pN = b % pN := by
  unfold pN at *
  omega
theorem neg_mul_p (v m : Nat) : (v * ((pN - m % pN) % pN) + v * m) % pN = 0 := by
  have hm := Nat.mod_lt m pN_pos
  have e : (pN - m % pN + m) % pN = 0 := by
    have : pN - m % pN + m = pN * (m / pN + 1) := by
      have h := Nat.mod_add_div m pN
      rw [Nat.mul_add, Nat.mul_one]
      omega
    rw [this, Nat.mul_mod_right]
  rw [← Nat.mul_add, Nat.mul_mod, Nat.mod_add_mod, e, Nat.mul_zero, Nat.zero_mod]
set_option maxRecDepth 8000 in
set_option maxHeartbeats 2000000 in
theorem times_walk (f : Nat → Nat) (n z y zz : Int) (m : Nat) (w : World) (hT : Tp w) (hf : Lim f) (hm : m ≤ 9223372036854775808) (e0 : n / 9223372036854775808 = z) (e1 : bits .xor .i64 n z = y) (e2 : IntKind.u64.wrap y = y) (e3 : IntKind.u64.wrap z = zz) (e4 : IntKind.u64.wrap (y - zz) = (m : Int)) :
    Calls Tryd.prog 35 #[EV f, .int .i64 n] w fun e w' => ∃ h k, e = .returned (EV (pickF z h k)) ∧ Lim h ∧ Lim k ∧ lv h 8 % pN = lv f 8 * m % pN ∧ (lv k 8 + lv h 8) % pN = 0 ∧ Below w.heap.size w w' := by
  have HT := Lib.hid hT
  have HF := Lib.hid hf
  have HM := Lib.hid hm
  have HN := Lib.hid (fun w => narrow_any (fun i => f i * m) w (fun i hi => by have := Nat.mul_le_mul (show f i ≤ 72057594037927939 from Nat.le_of_lt_succ (by have := hf i hi; omega)) hm; show f i * m < _; omega))
  rw [lv_scale] at HN
  clear hf hT hm
  have H := Lib.hid (Ow.start w)
  go_enter Tryd.func35, Tryd.ntmps35
  go_wp2_with (first
    | ((fail_if_success have := g1); (with_reducible apply own_box H); (case hgd => exact rfl); (case ho => exact rfl); (case hx => exact rfl); intro w1 g1 H' _ _; replace H := H'; clear H'; go_simp)
    | ((fail_if_success have := g2); (with_reducible apply own_alloc nilE H); (case hgd => exact rfl); (case ho => exact rfl); intro w2 g2 H' _ _; replace H := H'; clear H'; go_simp)
    | ((fail_if_success have := g3); (with_reducible apply own_var nilW H); (case hgd => exact rfl); (case ho => exact rfl); intro w3 g3 H' _ _; replace H := H'; clear H'; go_simp)
    | ((with_reducible apply own_put oneW H); (case hgd => exact rfl); (case ho => exact rfl); (case hx => exact rfl); (case hy => exact rfl); (case hi => first | exact at0 | exact at1 | exact at2 | exact at3 | exact at4 | exact at5 | exact at6); (case hj => omega); intro ws H' _ _; replace H := H'; clear H'; simp only [List.set_cons_zero] at H; go_simp)
    | ((with_reducible apply own_load rowL H); (case hgd => exact rfl); (case ho => exact rfl); (case hx => exact rfl); (case hi => first | exact at0 | exact at1 | exact at2 | exact at3 | exact at4 | exact at5 | exact at6); intro _ _; go_simp))
  refine (eachP_any 59 #[.pointer (some ⟨g3, 0, none⟩)] f (fun i => f i * m) _ (run_enter Tryd.func59 (by kernel_rfl) rfl) (fun i W hi hB => ?_)).mono ?_
  · exact times1_any i (f i) m g3 W ((H.out.call hB).cell 0 rfl 0 (by omega)) (HF.out i hi) HM.out
  rintro e wc ⟨rfl, hb⟩
  replace H := Lib.hid (H.out.call hb)
  clear hb e0 e1 e2 e3 e4
  go_wp2_with (first
    | ((with_reducible refine (HN.out _).mono ?_); rintro e wc ⟨h, rfl, hl, hw, hb⟩; replace H := Lib.hid (H.out.call hb); clear hb; have HL := Lib.hid (And.intro hl hw); clear hl hw)
    | ((fail_if_success have := g4); (with_reducible apply own_alloc nilE H); (case hgd => exact rfl); (case ho => exact rfl); intro w4 g4 H' _ _; replace H := H'; clear H'; go_simp)
    | ((with_reducible apply own_store rowE H); (case hgd => exact rfl); (case ho => exact rfl); (case hx => exact rfl); (case hy => exact rfl); (case hi => first | exact at0 | exact at1 | exact at2 | exact at3 | exact at4 | exact at5 | exact at6); intro ws H' _ _; replace H := H'; clear H'; simp only [List.set_cons_zero] at H; go_simp))
  refine wp_region_noPanic ?_
  refine wp_region_held_drew (S := fun W => ∃ f3, Ow w W [(g4, Blk 27 .u64 8 (NZ h)), (g3, Blk 24 .u64 1 (updZ (fun _ => 0) 0 (m : Int))), (g2, Blk 27 .u64 8 f3), (g1, Blk 27 .u64 8 (NZ f))]) (by kernel_rfl) (⟨_, H.out.drew⟩) (fun hH => ?_)
  clear H
  refine held_value 0 22 (.int .i64 z) rfl rfl (by kernel_rfl) (by kernel_rfl) (by kernel_rfl) rfl hH (fun w hw => by go_simp) ?_
  simp only [Act.put, List.setIfInBounds_toArray, List.set_cons_zero, List.set_cons_succ]
  refine held_row 1 23 rowE rfl rfl (by kernel_rfl) (by kernel_rfl) (by kernel_rfl) rfl hH rfl rfl (fun _ h => by obtain ⟨f3, h⟩ := h; exact h.row 0 rfl) ?_
  simp only [Act.put, List.setIfInBounds_toArray, List.set_cons_zero, List.set_cons_succ]
  refine held_row 2 24 rowE rfl rfl (by kernel_rfl) (by kernel_rfl) (by kernel_rfl) rfl hH rfl rfl (fun _ h => by obtain ⟨f3, h⟩ := h; exact h.row 0 rfl) ?_
  simp only [Act.put, List.setIfInBounds_toArray, List.set_cons_zero, List.set_cons_succ]
  refine wpAnyH_ready (rs := [3]) (by kernel_rfl) (by simp) ?_
  refine AllReadyH.cons (o := _) rfl (fun K hK => ?_) AllReadyH.nil
  go_simp
  refine (neg_any h _ (by obtain ⟨f3, h⟩ := hH; exact HT.out.below h.bel) HL.out.1).mono ?_
  rintro e wc ⟨k, rfl, hkl, hkv, hb⟩
  refine hK.out _ _ (by obtain ⟨f3, h⟩ := hH; exact ⟨f3, h.call hb⟩) (fun hN => ?_)
  clear hK K hH hb
  have hH := hN
  clear hN
  try simp only [Act.put, List.setIfInBounds_toArray, List.set_cons_zero, List.set_cons_succ]
  have HK := Lib.hid (And.intro hkl hkv)
  clear hkl hkv
  refine wpAnyH_ready (rs := [4]) (by kernel_rfl) (by simp) ?_
  refine AllReadyH.cons (o := _) rfl (fun K hK => ?_) AllReadyH.nil
  go_simp
  refine (select_any z h k _ HL.out.1 HK.out.1).mono ?_
  rintro e wc ⟨rfl, hb⟩
  refine hK.out _ _ (by obtain ⟨f3, h⟩ := hH; exact ⟨f3, h.call hb⟩) (fun hN => ?_)
  clear hK K hH hb
  have hH := hN
  clear hN
  try simp only [Act.put, List.setIfInBounds_toArray, List.set_cons_zero, List.set_cons_succ]
  obtain ⟨f3, hH3⟩ := hH
  refine wpAnyH_ready (rs := [5]) (by kernel_rfl) (by simp) ?_
  refine AllReadyH.cons (o := _) rfl (fun K hK => ?_) AllReadyH.nil
  refine own_wp_store 2 rowE hH3 rfl rfl rfl rfl ?_
  intro ws HS
  simp only [List.set_cons_zero, List.set_cons_succ] at HS
  refine hK.out _ _ ⟨_, HS⟩ (fun hN => ?_)
  have H := Lib.hid HS
  clear hK K hH3 hN HS
  try simp only [Act.put, List.setIfInBounds_toArray]
  refine wpAnyH_done (by kernel_rfl) ?_ _
  refine NoPanic.normal ?_
  go_wp2_with fail
  exact bodyPost_ret (own_result 2 rowE rfl _ H rfl rfl) rfl ⟨h, k, rfl, HL.out.1, HK.out.1, HL.out.2, HK.out.2, H.out.bel⟩
/-- Times: an element times a number. -/
theorem times_any (f : Nat → Nat) (n : Int) (w : World) (hT : Tp w) (hf : Lim f) (h1 : -9223372036854775808 ≤ n) (h2 : n ≤ 9223372036854775807) :
    Calls Tryd.prog 35 #[EV f, .int .i64 n] w fun e w' => ∃ h, e = .returned (EV h) ∧ Lim h ∧ lv h 8 % pN = lv f 8 * (n % pZ).toNat % pN ∧ Below w.heap.size w w' := by
  rcases (by omega : 0 ≤ n ∨ n < 0) with hn | hn
  · obtain ⟨m, rfl⟩ : ∃ m : Nat, n = (m : Int) := ⟨n.toNat, by omega⟩
    refine (times_walk f m 0 m 0 m w hT hf (by omega) (by omega) (i64_xor0 _ h1 h2) (by rw [IntKind.wrap_u64]; omega) rfl (by rw [IntKind.wrap_u64]; omega)).mono ?_
    rintro e w' ⟨h, k, rfl, hl, hk, hv, hw, hb⟩
    refine ⟨h, rfl, hl, ?_, hb⟩
    rw [hv, left_p, Nat.mul_mod_mod]
  · obtain ⟨m, rfl⟩ : ∃ m : Nat, n = -(m : Int) := ⟨(-n).toNat, by omega⟩
    refine (times_walk f (-(m : Int)) (-1) (m - 1) 18446744073709551615 m w hT hf (by omega) (by omega) (by rw [i64_xor1 _ h1 h2]; omega) (by rw [IntKind.wrap_u64]; omega) rfl (by rw [IntKind.wrap_u64]; omega)).mono ?_
    rintro e w' ⟨h, k, rfl, hl, hk, hv, hw, hb⟩
    refine ⟨k, rfl, hk, ?_, hb⟩
    rw [← neg_p]
    refine less_same hw ?_
    rw [Nat.add_mod, hv, ← Nat.add_mod]
    exact neg_mul_p _ _
end Go.Proofs.YtjjdhbmlinjhjaaDoor
