/-
  The contracts of field.Int and Swap.
-/
import Derived.Test.YtjjdhbmlinjhjaaDoorFdOf
namespace Go.Proofs.YtjjdhbmlinjhjaaDoor
open Go.RowKit

def oneN (i : Nat) : Nat := if i = 0 then 1 else 0
theorem built_L1 (w : World) : (Instr.build 25 #[(0, .int .u64 1)]).run Tryd.prog w = .ok (.agg (AZ .u64 8 (NZ oneN))) w := by
  rw [AZ_eight]
  go_simp
  simp [NZ, oneN]
section
variable {ops : Array Oper} {rest : List Oper} {o : Oper} {a : Act} {w : World} {Q : Exit → Act → World → Prop}
theorem lay_build_L1 (hgd : o.guard = none) {x : Operand} (ho : o.op = .build 25 #[(0, x)]) (hx : a.eval x = .int .u64 1)
    (k : ∀ K : Act → World → Prop, (∀ a w, wpList Tryd.prog ops Q rest a w → K a w) → K (a.put o.dst (.agg (AZ .u64 8 (NZ oneN)))) w) : wpList Tryd.prog ops Q (o :: rest) a w :=
  wpList_plain hgd fun K hK => by
    unfold Oper.wp execOp
    simp only [ho, List.map_toArray, List.map_cons, List.map_nil, hx, Sem.run_bind, built_L1, Result.andThen_ok]
    exact k K hK
end
theorem lim_one : Lim oneN := fun i _ => by unfold oneN; split <;> omega
theorem lv_one : lv oneN 8 = 1 := by decide +kernel
set_option maxRecDepth 8000 in
set_option maxHeartbeats 1600000 in
theorem int_any (n : Int) (w : World) (hT : Tp w) (h1 : -9223372036854775808 ≤ n) (h2 : n ≤ 9223372036854775807) :
    Calls Tryd.prog 34 #[.int .i64 n] w fun e w' => ∃ h, e = .returned (EV h) ∧ Lim h ∧ lv h 8 % pN = (n % pZ).toNat ∧ Below w.heap.size w w' := by
  have HT := Lib.hid hT
  have HI := Lib.hid (And.intro h1 h2)
  clear hT h1 h2
  have H := Lib.hid (Ow.start w)
  go_enter Tryd.func34, Tryd.ntmps34
  go_wp2_with (first
    | ((fail_if_success have := g1); (with_reducible apply own_alloc nilE H); (case hgd => exact rfl); (case ho => exact rfl); intro w1 g1 H' _ _; replace H := H'; clear H'; go_simp)
    | ((with_reducible apply lay_build_L1); (case hgd => exact rfl); (case ho => exact rfl); (case hx => exact rfl); intro _ _; go_simp)
    | ((with_reducible apply lay_build_E); (case hgd => exact rfl); (case ho => exact rfl); (case hx => exact rfl); intro _ _; go_simp))
  refine (times_any oneN n _ (HT.out.below H.out.bel) lim_one HI.out.1 HI.out.2).mono ?_
  rintro e wc ⟨h, rfl, hl, hv, hb⟩
  replace H := Lib.hid (H.out.call hb)
  have HV := Lib.hid (And.intro hl hv)
  clear hb hl hv
  go_wp2_with (first
    | ((with_reducible apply own_store rowE H); (case hgd => exact rfl); (case ho => exact rfl); (case hx => exact rfl); (case hy => exact rfl); (case hi => first | exact at0 | exact at1 | exact at2 | exact at3 | exact at4 | exact at5 | exact at6); intro ws H' _ _; replace H := H'; clear H'; simp only [List.set_cons_zero] at H; go_simp))
  refine bodyPost_ret (own_result 0 rowE rfl _ H rfl rfl) rfl ⟨h, rfl, HV.out.1, ?_, H.out.bel⟩
  rw [HV.out.2, lv_one, Nat.one_mul]
  refine Nat.mod_eq_of_lt ?_
  have h1 := Int.emod_lt_of_pos n (show (0 : Int) < pZ by decide)
  have h2 := Int.emod_nonneg n (show pZ ≠ 0 by decide)
  rw [pZ_eq] at h1 h2 ⊢
  omega
set_option maxRecDepth 8000 in
set_option maxHeartbeats 1600000 in
theorem swap_any (n : Int) (f g : Nat → Nat) (w : World) (hf : Lim f) (hg : Lim g) :
    Calls Tryd.prog 36 #[.int .i64 n, EV f, EV g] w fun e w' => e = .returned (.tuple #[EV (pickF n f g), EV (pickF n g f)]) ∧ Below w.heap.size w w' := by
  have HP1 := Lib.hid (fun w => select_any n f g w hf hg)
  have HP2 := Lib.hid (fun w => select_any n g f w hg hf)
  clear hf hg
  have H := Lib.hid (Ow.start w)
  go_enter Tryd.func36, Tryd.ntmps36
  go_wp2_with (first
    | ((fail_if_success have := g1); (with_reducible apply own_box H); (case hgd => exact rfl); (case ho => exact rfl); (case hx => exact rfl); intro w1 g1 H' _ _; replace H := H'; clear H'; go_simp)
    | ((fail_if_success have := g2); (with_reducible apply own_box H); (case hgd => exact rfl); (case ho => exact rfl); (case hx => exact rfl); intro w2 g2 H' _ _; replace H := H'; clear H'; go_simp)
    | ((fail_if_success have := g3); (with_reducible apply own_alloc nilE H); (case hgd => exact rfl); (case ho => exact rfl); intro w3 g3 H' _ _; replace H := H'; clear H'; go_simp)
    | ((fail_if_success have := g4); (with_reducible apply own_alloc nilE H); (case hgd => exact rfl); (case ho => exact rfl); intro w4 g4 H' _ _; replace H := H'; clear H'; go_simp))
  refine wp_region_noPanic ?_
  refine wp_region_held_drew (S := fun W => ∃ f3 f4, Ow w W [(g4, Blk 27 .u64 8 f4), (g3, Blk 27 .u64 8 f3), (g2, Blk 27 .u64 8 (NZ g)), (g1, Blk 27 .u64 8 (NZ f))]) (by kernel_rfl) ⟨_, _, H.out.drew⟩ (fun hH => ?_)
  replace H := Lib.hid H.out.drew
  generalize World.drew _ = w8 at *
  refine held_value 0 8 (.int .i64 n) rfl rfl (by kernel_rfl) (by kernel_rfl) (by kernel_rfl) rfl hH (fun w hw => by go_simp) ?_
  simp only [Act.put, List.setIfInBounds_toArray, List.set_cons_zero, List.set_cons_succ]
  refine held_value 4 12 (.int .i64 n) rfl rfl (by kernel_rfl) (by kernel_rfl) (by kernel_rfl) rfl hH (fun w hw => by go_simp) ?_
  simp only [Act.put, List.setIfInBounds_toArray, List.set_cons_zero, List.set_cons_succ]
  refine held_row 1 9 rowE rfl rfl (by kernel_rfl) (by kernel_rfl) (by kernel_rfl) rfl hH rfl rfl (fun _ h => by obtain ⟨f3, f4, h⟩ := h; exact h.row 3 rfl) ?_
  try simp only [Act.put, List.setIfInBounds_toArray, List.set_cons_zero, List.set_cons_succ]
  refine held_row 2 10 rowE rfl rfl (by kernel_rfl) (by kernel_rfl) (by kernel_rfl) rfl hH rfl rfl (fun _ h => by obtain ⟨f3, f4, h⟩ := h; exact h.row 2 rfl) ?_
  try simp only [Act.put, List.setIfInBounds_toArray, List.set_cons_zero, List.set_cons_succ]
  refine held_row 5 13 rowE rfl rfl (by kernel_rfl) (by kernel_rfl) (by kernel_rfl) rfl hH rfl rfl (fun _ h => by obtain ⟨f3, f4, h⟩ := h; exact h.row 2 rfl) ?_
  try simp only [Act.put, List.setIfInBounds_toArray, List.set_cons_zero, List.set_cons_succ]
  refine held_row 6 14 rowE rfl rfl (by kernel_rfl) (by kernel_rfl) (by kernel_rfl) rfl hH rfl rfl (fun _ h => by obtain ⟨f3, f4, h⟩ := h; exact h.row 3 rfl) ?_
  try simp only [Act.put, List.setIfInBounds_toArray, List.set_cons_zero, List.set_cons_succ]
  refine wpAnyH_ready (rs := [3]) (by kernel_rfl) (by simp) ?_
  refine AllReadyH.cons (o := _) rfl (fun K hK => ?_) AllReadyH.nil
  go_simp
  refine (HP1.out _).mono ?_
  rintro e wc ⟨rfl, hb⟩
  replace H := Lib.hid (H.out.call hb)
  refine hK.out _ _ ⟨_, _, H.out⟩ (fun hN => ?_)
  clear hK K hH hb
  have hH := hN
  clear hN
  try simp only [Act.put, List.setIfInBounds_toArray, List.set_cons_zero, List.set_cons_succ]
  refine wpAnyH_ready (rs := [7]) (by kernel_rfl) (by simp) ?_
  refine AllReadyH.cons (o := _) rfl (fun K hK => ?_) AllReadyH.nil
  go_simp
  refine (HP2.out _).mono ?_
  rintro e wc ⟨rfl, hb⟩
  replace H := Lib.hid (H.out.call hb)
  refine hK.out _ _ ⟨_, _, H.out⟩ (fun hN => ?_)
  clear hK K hH hb
  have hH := hN
  clear hN
  try simp only [Act.put, List.setIfInBounds_toArray, List.set_cons_zero, List.set_cons_succ]
  refine wpAnyH_ready (rs := [8]) (by kernel_rfl) (by simp) ?_
  refine AllReadyH.cons (o := _) rfl (fun K hK => ?_) AllReadyH.nil
  refine own_wp_store 1 rowE H.out rfl rfl rfl rfl ?_
  intro ws HS
  simp only [List.set_cons_zero, List.set_cons_succ] at HS
  replace H := Lib.hid HS
  refine hK.out _ _ ⟨_, _, HS⟩ (fun hN => ?_)
  clear hK K HS hH
  have hH := hN
  clear hN
  try simp only [Act.put, List.setIfInBounds_toArray]
  refine wpAnyH_ready (rs := [9]) (by kernel_rfl) (by simp) ?_
  refine AllReadyH.cons (o := _) rfl (fun K hK => ?_) AllReadyH.nil
  refine own_wp_store 0 rowE H.out rfl rfl rfl rfl ?_
  intro ws HS
  simp only [List.set_cons_zero] at HS
  replace H := Lib.hid HS
  refine hK.out _ _ ⟨_, _, HS⟩ (fun hN => ?_)
  clear hK K HS hH
  have hH := hN
  clear hN
  try simp only [Act.put]
  refine wpAnyH_done (by kernel_rfl) ?_ _
  refine NoPanic.normal ?_
  go_wp2_with fail
  exact bodyPost_ret (own_result_two 1 0 rowE rowE rfl _ H rfl rfl rfl rfl) rfl ⟨rfl, H.out.bel⟩
end Go.Proofs.YtjjdhbmlinjhjaaDoor
