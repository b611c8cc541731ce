/-
  The contracts of field.excess and least: whether an element stands at p or more, and its number below p.
-/
import Derived.Test.YtjjdhbmlinjhjaaDoorFdAdd
namespace Go.Proofs.YtjjdhbmlinjhjaaDoor
open Go.RowKit

section
variable {P : Program} {o : Oper} {a : Act} {w w0 : World} {l : List (Nat × Obj)} {K : Act → World → Prop} {Q : Exit → Act → World → Prop} {t : TypeId} {k : IntKind} {n : Nat}
/-- A row is made, in a region that draws its order. It lies first in the list. -/
theorem own_wp_alloc (dd : Tmp) (hd : o.dst = some dd) (hz : ∀ w, (zeroValue t).run P w = .ok (.agg (AZ k n fun _ => 0)) w) (H : Ow w0 w l) (ho : o.op = .alloc t)
    (h : ∀ w' g, Ow w0 w' ((g, Blk t k n fun _ => 0) :: l) → K (a.put (some dd) (.pointer (some ⟨g, 0, none⟩))) w') : o.wp P a w K Q := by
  unfold Oper.wp execOp
  simp only [ho, Instr.alloc, Sem.run_bind, hz, Result.andThen_ok, newVar, Value.cells]
  simp [go_sem]
  show K (a.put o.dst _) _
  rw [hd]
  exact h _ _ (H.alloc _)
end
/-- A number's limb. -/
def lF (x i : Nat) : Nat := x / 72057594037927936 ^ i % 72057594037927936
theorem lv_lt {f : Nat → Nat} (h : ∀ i, f i < 72057594037927936) : ∀ n, lv f n < 72057594037927936 ^ n
  | 0 => by rw [show lv f 0 = 0 from rfl]; exact Nat.pow_pos (by omega)
  | n + 1 => by
    have ih := lv_lt h n
    have hn := h n
    rw [show lv f (n + 1) = lv f n + f n * 72057594037927936 ^ n from rfl, Nat.pow_succ]
    have h2 := Nat.mul_le_mul_right (72057594037927936 ^ n) (show f n ≤ 72057594037927935 by omega)
    generalize 72057594037927936 ^ n = b at *
    omega
theorem lF_lv {f : Nat → Nat} (h : ∀ i, f i < 72057594037927936) : ∀ n i, i < n → lF (lv f n) i = f i
  | 0, _, hi => by omega
  | n + 1, i, hi => by
    have hb := lv_lt h n
    have hn := h n
    have hpos : 0 < 72057594037927936 ^ i := Nat.pow_pos (by omega)
    unfold lF
    rw [show lv f (n + 1) = lv f n + f n * 72057594037927936 ^ n from rfl, Nat.mul_comm (f n)]
    by_cases e : i = n
    · subst e
      rw [Nat.add_mul_div_left _ _ hpos, Nat.div_eq_of_lt hb, Nat.zero_add, Nat.mod_eq_of_lt hn]
    · have ih := lF_lv h n i (by omega)
      unfold lF at ih
      obtain ⟨k, rfl⟩ : ∃ k, n = i + (k + 1) := ⟨n - i - 1, by omega⟩
      rw [show 72057594037927936 ^ (i + (k + 1)) = 72057594037927936 ^ i * (72057594037927936 * 72057594037927936 ^ k) by rw [Nat.pow_add, Nat.pow_succ, Nat.mul_comm (72057594037927936 ^ k)], Nat.mul_assoc, Nat.add_mul_div_left _ _ hpos, Nat.mul_assoc, Nat.add_mul_mod_self_left]
      exact ih
theorem lv_lF (x : Nat) : ∀ n, lv (lF x) n = x % 72057594037927936 ^ n
  | 0 => by rw [show lv (lF x) 0 = 0 from rfl, Nat.pow_zero, Nat.mod_one]
  | n + 1 => by
    rw [show lv (lF x) (n + 1) = lv (lF x) n + lF x n * 72057594037927936 ^ n from rfl, lv_lF x n, Nat.pow_succ, Nat.mod_mul, Nat.mul_comm]
    rfl
theorem lF_lt (x i : Nat) : lF x i < 72057594037927936 := Nat.mod_lt _ (by omega)
theorem lim_gen {l0 l1 l2 l3 l4 l5 l6 l7 : Nat} (h0 : l0 < 72057594037927940) (h1 : l1 < 72057594037927940) (h2 : l2 < 72057594037927940) (h3 : l3 < 72057594037927940) (h4 : l4 < 72057594037927940) (h5 : l5 < 72057594037927940) (h6 : l6 < 72057594037927940) (h7 : l7 < 72057594037927940) :
    l0 + l1 * 72057594037927936 ^ 1 + l2 * 72057594037927936 ^ 2 + l3 * 72057594037927936 ^ 3 + l4 * 72057594037927936 ^ 4 + l5 * 72057594037927936 ^ 5 + l6 * 72057594037927936 ^ 6 + l7 * 72057594037927936 ^ 7 < 2 * 726838724295606890549323807888004534353641360687318060281490199180612328166730772686396383698676545930088884461843637361053498018365439 := by
  omega
/-- An element stands below twice p. -/
theorem lv_lim {f : Nat → Nat} (h : Lim f) : lv f 8 < 2 * pN := by
  rw [lv_eight]
  exact lim_gen (h 0 (by omega)) (h 1 (by omega)) (h 2 (by omega)) (h 3 (by omega)) (h 4 (by omega)) (h 5 (by omega)) (h 6 (by omega)) (h 7 (by omega))
theorem ovC_in {f : Nat → Nat} {b : Nat} (h : Lim f) (hb : b ≤ 1) : ∀ i, i ≤ 8 → ovC f b i ≤ 2
  | 0, _ => by rw [show ovC f b 0 = b from rfl]; omega
  | i + 1, hi => by
    have ih := ovC_in h hb i (by omega)
    have hf := h i (by omega)
    rw [show ovC f b (i + 1) = (f i + ovC f b i) / 72057594037927936 + if i = 3 then b else 0 from rfl]
    split <;> omega
def exN (f : Nat → Nat) : Nat := if lv f 8 < pN then 0 else 1
theorem ex_gen {v d o p a b : Nat} (hp : p + 1 + a = b) (hv : v < 2 * p) (hd : d < b) (h : v + 1 + a = d + o * b) : o = if v < p then 0 else 1 := by
  by_cases hl : v < p
  · rw [if_pos hl]
    rcases Nat.eq_zero_or_pos o with h0 | h0
    · exact h0
    · have := Nat.mul_le_mul_right b h0
      omega
  · rw [if_neg hl]
    rcases (by omega : o = 0 ∨ o = 1 ∨ 2 ≤ o) with h0 | h0 | h0
    · subst h0; omega
    · exact h0
    · have := Nat.mul_le_mul_right b h0
      omega
theorem ov_ex {f : Nat → Nat} (h : Lim f) : ovC f 1 8 = exN f := by
  have h1 := lv_carry f 1 8
  rw [if_pos (by omega), Nat.one_mul] at h1
  exact ex_gen pN_limbs (lv_lim h) (lv_lt (dgC_lt f 1) 8) h1
theorem least_gen {v d o p a b e : Nat} (hp : p + 1 + a = b) (hv : v < 2 * p) (hd : d < b) (he : e = if v < p then 0 else 1) (h : v + e + e * a = d + o * b) : d = v % p := by
  by_cases hl : v < p
  · rw [if_pos hl] at he
    subst he
    rw [Nat.mod_eq_of_lt hl]
    rcases Nat.eq_zero_or_pos o with h0 | h0
    · subst h0; omega
    · have := Nat.mul_le_mul_right b h0
      omega
  · rw [if_neg hl] at he
    subst he
    rw [Nat.mod_eq_sub_mod (by omega), Nat.mod_eq_of_lt (by omega)]
    rcases (by omega : o = 0 ∨ o = 1 ∨ 2 ≤ o) with h0 | h0 | h0
    · subst h0; omega
    · subst h0; omega
    · have := Nat.mul_le_mul_right b h0
      omega
theorem least_lv {f : Nat → Nat} (h : Lim f) : lv (dgC f (exN f)) 8 = lv f 8 % pN := by
  have h1 := lv_carry f (exN f) 8
  rw [if_pos (by omega)] at h1
  exact least_gen pN_limbs (lv_lim h) (lv_lt (dgC_lt f _) 8) rfl h1
theorem least_limbs {f : Nat → Nat} (h : Lim f) : AZ .u64 8 (NZ (dgC f (exN f))) = AZ .u64 8 (NZ (lF (lv f 8 % pN))) :=
  AZ_congr fun i hi => by
    unfold NZ
    rw [← least_lv h, lF_lv (dgC_lt f _) 8 i hi]
theorem exN_le (f : Nat → Nat) : exN f ≤ 1 := by unfold exN; split <;> omega
set_option maxRecDepth 8000 in
set_option maxHeartbeats 1000000 in
theorem excess_any (f : Nat → Nat) (w : World) (hf : Lim f) :
    Calls Tryd.prog 42 #[EV f] w fun e w' => e = .returned (.int .u64 (exN f : Int)) ∧ Below w.heap.size w w' := by
  have ho := ovC_in hf (b := 1) (by omega)
  have HC : Hid (∀ w, Calls Tryd.prog 50 #[.agg (AZ .u64 8 (NZ f)), .int .u64 1, .func (.func 53) #[] #[]] w fun e w' => e = .returned (.tuple #[.agg (AZ .u64 8 (NZ (dgC f 1))), .int .u64 (ovC f 1 8 : Int)]) ∧ Below w.heap.size w w') := Lib.hid (fun w => carry_any f 1 w (fun i hi => by have := hf i hi; have := ho i (by omega); omega) (by have := ho 4 (by omega); omega))
  rw [ov_ex hf] at HC
  obtain ⟨x, hx⟩ : ∃ x, exN f = x := ⟨_, rfl⟩
  rw [hx] at HC ⊢
  clear ho hf hx
  have H := Lib.hid (Ow.start w)
  go_enter Tryd.func42, Tryd.ntmps42
  go_wp2_with (first
    | ((fail_if_success have := g1); (with_reducible apply own_box H); (case hgd => exact rfl); (case ho => exact rfl); (case hx => exact rfl); intro w1 g1 H' _ _; replace H := H'; clear H'; go_simp)
    | ((with_reducible apply own_load rowL H); (case hgd => exact rfl); (case ho => exact rfl); (case hx => exact rfl); (case hi => first | exact at0 | exact at1 | exact at2 | exact at3 | exact at4 | exact at5 | exact at6); intro _ _; go_simp)
    | ((with_reducible refine (HC.out _).mono ?_); rintro e wc ⟨rfl, hb⟩; replace H := Lib.hid (H.out.call hb); clear hb)
    | ((fail_if_success have := g2); (with_reducible apply own_alloc nilL H); (case hgd => exact rfl); (case ho => exact rfl); intro w2 g2 H' _ _; replace H := H'; clear H'; go_simp)
    | ((with_reducible apply own_store rowL H); (case hgd => exact rfl); (case ho => exact rfl); (case hx => exact rfl); (case hy => exact rfl); (case hi => first | exact at0 | exact at1 | exact at2 | exact at3 | exact at4 | exact at5 | exact at6); intro ws H' _ _; replace H := H'; clear H'; simp only [List.set_cons_zero] at H; go_simp))
  go_ret
  exact ⟨rfl, H.out.bel⟩
set_option maxRecDepth 8000 in
set_option maxHeartbeats 2000000 in
theorem least_any (f : Nat → Nat) (w : World) (hf : Lim f) :
    Calls Tryd.prog 46 #[EV f] w fun e w' => e = .returned (.agg (AZ .u64 8 (NZ (lF (lv f 8 % pN))))) ∧ Below w.heap.size w w' := by
  have ho := ovC_in hf (exN_le f)
  have HC := Lib.hid (fun w => carry_any f (exN f) w (fun i hi => by have := hf i hi; have := ho i (by omega); omega) (by have := ho 4 (by omega); omega))
  have HD := Lib.hid (least_limbs hf)
  have HF := Lib.hid hf
  obtain ⟨x, hx⟩ : ∃ x, exN f = x := ⟨_, rfl⟩
  have HEX := Lib.hid hx
  rw [hx] at HC HD
  obtain ⟨d, hd⟩ : ∃ d, dgC f x = d := ⟨_, rfl⟩
  obtain ⟨o, ho'⟩ : ∃ o, ovC f x 8 = o := ⟨_, rfl⟩
  rw [hd, ho'] at HC
  rw [hd] at HD
  clear ho hf hx hd ho'
  have H := Lib.hid (Ow.start w)
  go_enter Tryd.func46, Tryd.ntmps46
  go_wp2_with (first
    | ((fail_if_success have := g1); (with_reducible apply own_box H); (case hgd => exact rfl); (case ho => exact rfl); (case hx => exact rfl); intro w1 g1 H' _ _; replace H := H'; clear H'; go_simp)
    | ((fail_if_success have := g2); (with_reducible apply own_alloc nilL H); (case hgd => exact rfl); (case ho => exact rfl); intro w2 g2 H' _ _; replace H := H'; clear H'; go_simp))
  refine wp_region_noPanic ?_
  refine wp_region_held_drew (S := fun W => W.heap[g1]? = some (Blk 27 .u64 8 (NZ f))) (by kernel_rfl) (H.out.drew.row 1 rfl) (fun hH => ?_)
  replace H := Lib.hid H.out.drew
  generalize World.drew _ = w8 at *
  refine held_value 0 6 (.pointer (some ⟨g1, 0, none⟩)) rfl rfl (by kernel_rfl) (by kernel_rfl) (by kernel_rfl) rfl hH (fun w hw => by go_simp) ?_
  simp only [Act.put, List.setIfInBounds_toArray, List.set_cons_zero, List.set_cons_succ]
  refine held_row 1 7 rowL rfl rfl (by kernel_rfl) (by kernel_rfl) (by kernel_rfl) rfl hH rfl rfl (fun _ h => h) ?_
  try simp only [Act.put, List.setIfInBounds_toArray, List.set_cons_zero, List.set_cons_succ]
  refine held_row 2 8 rowE rfl rfl (by kernel_rfl) (by kernel_rfl) (by kernel_rfl) rfl hH rfl rfl (fun _ h => h) ?_
  try simp only [Act.put, List.setIfInBounds_toArray, List.set_cons_zero, List.set_cons_succ]
  refine wpAnyH_ready (rs := [3, 8]) (by kernel_rfl) (by simp) ?_
  refine AllReadyH.cons (o := _) rfl (fun K hK => ?_) (AllReadyH.cons (o := _) rfl (fun K hK => ?_) AllReadyH.nil)
  · skip
    go_simp
    refine (excess_any f _ HF.out).mono ?_
    rintro e we ⟨rfl, hb⟩
    rw [HEX.out]
    replace H := Lib.hid (H.out.call hb)
    refine hK.out _ _ (H.out.row 1 rfl) (fun hH => ?_)
    clear hK K hb
    try simp only [Act.put, List.setIfInBounds_toArray, List.set_cons_zero, List.set_cons_succ]
    refine wpAnyH_ready (rs := [4, 8]) (by kernel_rfl) (by simp) ?_
    refine AllReadyH.cons (o := _) rfl (fun K hK => ?_) (AllReadyH.cons (o := _) rfl (fun K hK => ?_) AllReadyH.nil)
    · skip
      go_simp
      refine (HC.out _).mono ?_
      rintro e wc ⟨rfl, hb⟩
      replace H := Lib.hid (H.out.call hb)
      refine hK.out _ _ (H.out.row 1 rfl) (fun hH => ?_)
      clear hK K hb
      try simp only [Act.put, List.setIfInBounds_toArray, List.set_cons_zero, List.set_cons_succ]
      refine held_value 5 5 (.tuple #[.agg (AZ .u64 8 (NZ d)), .int .u64 (o : Int)]) rfl rfl (by kernel_rfl) (by kernel_rfl) (by kernel_rfl) rfl hH (fun w hw => by go_simp) ?_
      simp only [Act.put, List.setIfInBounds_toArray, List.set_cons_zero, List.set_cons_succ]
      refine held_value 6 11 (.agg (AZ .u64 8 (NZ d))) rfl rfl (by kernel_rfl) (by kernel_rfl) (by kernel_rfl) rfl hH (fun w hw => by go_simp) ?_
      simp only [Act.put, List.setIfInBounds_toArray, List.set_cons_zero, List.set_cons_succ]
      refine held_value 7 12 (.int .u64 (o : Int)) rfl rfl (by kernel_rfl) (by kernel_rfl) (by kernel_rfl) rfl hH (fun w hw => by go_simp) ?_
      simp only [Act.put, List.setIfInBounds_toArray, List.set_cons_zero, List.set_cons_succ]
      refine wpAnyH_ready (rs := [8]) (by kernel_rfl) (by simp) ?_
      refine AllReadyH.cons (o := _) rfl (fun K hK => ?_) AllReadyH.nil
      refine own_wp_alloc 3 rfl nilL H.out rfl ?_
      intro w3 g3 H3
      replace H := Lib.hid H3
      refine hK.out _ _ (H.out.row 2 rfl) (fun hH => ?_)
      clear hK K H3
      try simp only [Act.put, List.setIfInBounds_toArray, List.set_cons_zero, List.set_cons_succ]
      refine wpAnyH_ready (rs := [9]) (by kernel_rfl) (by simp) ?_
      refine AllReadyH.cons (o := _) rfl (fun K hK => ?_) AllReadyH.nil
      refine own_wp_store 0 rowL H.out rfl rfl rfl rfl ?_
      intro ws HS
      simp only [List.set_cons_zero] at HS
      replace H := Lib.hid HS
      refine hK.out _ _ (H.out.row 2 rfl) (fun hH => ?_)
      clear hK K HS
      try simp only [Act.put, List.setIfInBounds_toArray]
      refine held_value 10 4 (.int .u64 (o : Int)) rfl rfl (by kernel_rfl) (by kernel_rfl) (by kernel_rfl) rfl hH (fun w hw => by go_simp) ?_
      simp only [Act.put]
      refine wpAnyH_done (by kernel_rfl) ?_ _
      refine NoPanic.normal ?_
      go_wp2_with (first
        | ((with_reducible apply own_load rowL H); (case hgd => exact rfl); (case ho => exact rfl); (case hx => exact rfl); (case hi => first | exact at0 | exact at1 | exact at2 | exact at3 | exact at4 | exact at5 | exact at6); intro _ _; go_simp)
        | ((with_reducible apply own_store rowL H); (case hgd => exact rfl); (case ho => exact rfl); (case hx => exact rfl); (case hy => exact rfl); (case hi => first | exact at0 | exact at1 | exact at2 | exact at3 | exact at4 | exact at5 | exact at6); intro ws H' _ _; replace H := H'; clear H'; simp only [List.set_cons_zero, List.set_cons_succ] at H; go_simp))
      exact bodyPost_ret (own_result 1 rowL rfl _ H rfl rfl) rfl ⟨by rw [HD.out], H.out.bel⟩
    · skip
      refine own_wp_alloc 3 rfl nilL H.out rfl ?_
      intro w3 g3 H3
      replace H := Lib.hid H3
      refine hK.out _ _ (H.out.row 2 rfl) (fun hH => ?_)
      clear hK K H3
      try simp only [Act.put, List.setIfInBounds_toArray, List.set_cons_zero, List.set_cons_succ]
      refine wpAnyH_ready (rs := [4]) (by kernel_rfl) (by simp) ?_
      refine AllReadyH.cons (o := _) rfl (fun K hK => ?_) AllReadyH.nil
      go_simp
      refine (HC.out _).mono ?_
      rintro e wc ⟨rfl, hb⟩
      replace H := Lib.hid (H.out.call hb)
      refine hK.out _ _ (H.out.row 2 rfl) (fun hH => ?_)
      clear hK K hb
      try simp only [Act.put, List.setIfInBounds_toArray, List.set_cons_zero, List.set_cons_succ]
      refine held_value 5 5 (.tuple #[.agg (AZ .u64 8 (NZ d)), .int .u64 (o : Int)]) rfl rfl (by kernel_rfl) (by kernel_rfl) (by kernel_rfl) rfl hH (fun w hw => by go_simp) ?_
      simp only [Act.put, List.setIfInBounds_toArray, List.set_cons_zero, List.set_cons_succ]
      refine held_value 6 11 (.agg (AZ .u64 8 (NZ d))) rfl rfl (by kernel_rfl) (by kernel_rfl) (by kernel_rfl) rfl hH (fun w hw => by go_simp) ?_
      simp only [Act.put, List.setIfInBounds_toArray, List.set_cons_zero, List.set_cons_succ]
      refine held_value 7 12 (.int .u64 (o : Int)) rfl rfl (by kernel_rfl) (by kernel_rfl) (by kernel_rfl) rfl hH (fun w hw => by go_simp) ?_
      simp only [Act.put, List.setIfInBounds_toArray, List.set_cons_zero, List.set_cons_succ]
      refine wpAnyH_ready (rs := [9]) (by kernel_rfl) (by simp) ?_
      refine AllReadyH.cons (o := _) rfl (fun K hK => ?_) AllReadyH.nil
      refine own_wp_store 0 rowL H.out rfl rfl rfl rfl ?_
      intro ws HS
      simp only [List.set_cons_zero] at HS
      replace H := Lib.hid HS
      refine hK.out _ _ (H.out.row 2 rfl) (fun hH => ?_)
      clear hK K HS
      try simp only [Act.put, List.setIfInBounds_toArray]
      refine held_value 10 4 (.int .u64 (o : Int)) rfl rfl (by kernel_rfl) (by kernel_rfl) (by kernel_rfl) rfl hH (fun w hw => by go_simp) ?_
      simp only [Act.put]
      refine wpAnyH_done (by kernel_rfl) ?_ _
      refine NoPanic.normal ?_
      go_wp2_with (first
        | ((with_reducible apply own_load rowL H); (case hgd => exact rfl); (case ho => exact rfl); (case hx => exact rfl); (case hi => first | exact at0 | exact at1 | exact at2 | exact at3 | exact at4 | exact at5 | exact at6); intro _ _; go_simp)
        | ((with_reducible apply own_store rowL H); (case hgd => exact rfl); (case ho => exact rfl); (case hx => exact rfl); (case hy => exact rfl); (case hi => first | exact at0 | exact at1 | exact at2 | exact at3 | exact at4 | exact at5 | exact at6); intro ws H' _ _; replace H := H'; clear H'; simp only [List.set_cons_zero, List.set_cons_succ] at H; go_simp))
      exact bodyPost_ret (own_result 1 rowL rfl _ H rfl rfl) rfl ⟨by rw [HD.out], H.out.bel⟩
  · skip
    refine own_wp_alloc 3 rfl nilL H.out rfl ?_
    intro w3 g3 H3
    replace H := Lib.hid H3
    refine hK.out _ _ (H.out.row 2 rfl) (fun hH => ?_)
    clear hK K H3
    try simp only [Act.put, List.setIfInBounds_toArray, List.set_cons_zero, List.set_cons_succ]
    refine wpAnyH_ready (rs := [3]) (by kernel_rfl) (by simp) ?_
    refine AllReadyH.cons (o := _) rfl (fun K hK => ?_) AllReadyH.nil
    go_simp
    refine (excess_any f _ HF.out).mono ?_
    rintro e we ⟨rfl, hb⟩
    rw [HEX.out]
    replace H := Lib.hid (H.out.call hb)
    refine hK.out _ _ (H.out.row 2 rfl) (fun hH => ?_)
    clear hK K hb
    try simp only [Act.put, List.setIfInBounds_toArray, List.set_cons_zero, List.set_cons_succ]
    refine wpAnyH_ready (rs := [4]) (by kernel_rfl) (by simp) ?_
    refine AllReadyH.cons (o := _) rfl (fun K hK => ?_) AllReadyH.nil
    go_simp
    refine (HC.out _).mono ?_
    rintro e wc ⟨rfl, hb⟩
    replace H := Lib.hid (H.out.call hb)
    refine hK.out _ _ (H.out.row 2 rfl) (fun hH => ?_)
    clear hK K hb
    try simp only [Act.put, List.setIfInBounds_toArray, List.set_cons_zero, List.set_cons_succ]
    refine held_value 5 5 (.tuple #[.agg (AZ .u64 8 (NZ d)), .int .u64 (o : Int)]) rfl rfl (by kernel_rfl) (by kernel_rfl) (by kernel_rfl) rfl hH (fun w hw => by go_simp) ?_
    simp only [Act.put, List.setIfInBounds_toArray, List.set_cons_zero, List.set_cons_succ]
    refine held_value 6 11 (.agg (AZ .u64 8 (NZ d))) rfl rfl (by kernel_rfl) (by kernel_rfl) (by kernel_rfl) rfl hH (fun w hw => by go_simp) ?_
    simp only [Act.put, List.setIfInBounds_toArray, List.set_cons_zero, List.set_cons_succ]
    refine held_value 7 12 (.int .u64 (o : Int)) rfl rfl (by kernel_rfl) (by kernel_rfl) (by kernel_rfl) rfl hH (fun w hw => by go_simp) ?_
    simp only [Act.put, List.setIfInBounds_toArray, List.set_cons_zero, List.set_cons_succ]
    refine wpAnyH_ready (rs := [9]) (by kernel_rfl) (by simp) ?_
    refine AllReadyH.cons (o := _) rfl (fun K hK => ?_) AllReadyH.nil
    refine own_wp_store 0 rowL H.out rfl rfl rfl rfl ?_
    intro ws HS
    simp only [List.set_cons_zero] at HS
    replace H := Lib.hid HS
    refine hK.out _ _ (H.out.row 2 rfl) (fun hH => ?_)
    clear hK K HS
    try simp only [Act.put, List.setIfInBounds_toArray]
    refine held_value 10 4 (.int .u64 (o : Int)) rfl rfl (by kernel_rfl) (by kernel_rfl) (by kernel_rfl) rfl hH (fun w hw => by go_simp) ?_
    simp only [Act.put]
    refine wpAnyH_done (by kernel_rfl) ?_ _
    refine NoPanic.normal ?_
    go_wp2_with (first
      | ((with_reducible apply own_load rowL H); (case hgd => exact rfl); (case ho => exact rfl); (case hx => exact rfl); (case hi => first | exact at0 | exact at1 | exact at2 | exact at3 | exact at4 | exact at5 | exact at6); intro _ _; go_simp)
      | ((with_reducible apply own_store rowL H); (case hgd => exact rfl); (case ho => exact rfl); (case hx => exact rfl); (case hy => exact rfl); (case hi => first | exact at0 | exact at1 | exact at2 | exact at3 | exact at4 | exact at5 | exact at6); intro ws H' _ _; replace H := H'; clear H'; simp only [List.set_cons_zero, List.set_cons_succ] at H; go_simp))
    exact bodyPost_ret (own_result 1 rowL rfl _ H rfl rfl) rfl ⟨by rw [HD.out], H.out.bel⟩
end Go.Proofs.YtjjdhbmlinjhjaaDoor
