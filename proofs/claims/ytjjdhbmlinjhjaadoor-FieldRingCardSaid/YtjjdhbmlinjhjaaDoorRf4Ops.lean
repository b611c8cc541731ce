/-
  The contracts of chicoryref04's Add, Neg, Sub, Same.
-/
import Derived.Test.YtjjdhbmlinjhjaaDoorRf4Norm
import Derived.Test.YtjjdhbmlinjhjaaDoorOwn
namespace Go.Proofs.YtjjdhbmlinjhjaaDoor
open Go.RowKit

theorem at0 {α : Type} {x : α} {l : List α} : (x :: l)[0]? = some x := rfl
theorem at1 {α : Type} {a x : α} {l : List α} : (a :: x :: l)[1]? = some x := rfl
theorem at2 {α : Type} {a b x : α} {l : List α} : (a :: b :: x :: l)[2]? = some x := rfl
theorem at3 {α : Type} {a b c x : α} {l : List α} : (a :: b :: c :: x :: l)[3]? = some x := rfl
theorem at4 {α : Type} {a b c d x : α} {l : List α} : (a :: b :: c :: d :: x :: l)[4]? = some x := rfl
theorem at5 {α : Type} {a b c d e x : α} {l : List α} : (a :: b :: c :: d :: e :: x :: l)[5]? = some x := rfl
theorem at6 {α : Type} {a b c d e f x : α} {l : List α} : (a :: b :: c :: d :: e :: f :: x :: l)[6]? = some x := rfl
theorem oneI : IsOne Tryd.prog 3 .i64 := ⟨Tryd.underlying3, by kernel_rfl⟩
theorem rowF : IsRow Tryd.prog 36 16 := ⟨⟨_, Tryd.underlying36, rfl⟩, by kernel_rfl⟩
/-- p. -/
def pN : Nat := 726838724295606890549323807888004534353641360687318060281490199180612328166730772686396383698676545930088884461843637361053498018365439
theorem pZ_eq : pZ = (pN : Int) := rfl
theorem pN_pos : 0 < pN := by decide
theorem pN_lt : pN < 268435456 ^ 16 := by decide +kernel
theorem val_FV {x : Nat} (h : x < pN) : val (dF x) 16 = (x : Int) := by
  rw [val_dF, Nat.mod_eq_of_lt (Nat.lt_trans h pN_lt)]
theorem left_p (n : Nat) : ((n : Int) % pZ).toNat = n % pN := by
  rw [pZ_eq, ← Int.natCast_emod, Int.toNat_natCast]
theorem pF_bd (k : Nat) : 0 ≤ pF k ∧ pF k < 268435456 := by unfold pF; split <;> omega
set_option maxRecDepth 8000 in
set_option maxHeartbeats 1000000 in
theorem refAdd_any (x y : Nat) (w : World) (hx : x < pN) (hy : y < pN) :
    Calls Tryd.prog 25 #[FV x, FV y] w fun e w' => e = .returned (FV ((x + y) % pN)) ∧ Below w.heap.size w w' := by
  have hv : val (fun k => dF x k + dF y k) 16 = ((x + y : Nat) : Int) := by rw [val_add, val_FV hx, val_FV hy, Int.natCast_add]
  have hf : Fine (fun k => dF x k + dF y k) := fun k _ => by
    have h1 := dF_bd x k
    have h2 := dF_bd y k
    show _ ≤ dF x k + dF y k ∧ dF x k + dF y k ≤ _
    omega
  have HN := Lib.hid (fun w => norm_any _ w hf (by rw [hv]; omega))
  rw [hv, left_p] at HN
  clear hv hf hx hy
  have H := Lib.hid (Ow.start w)
  go_enter Tryd.func25, Tryd.ntmps25
  go_wp2_with (first
    | ((fail_if_success have := g1); (with_reducible apply own_box H); (case hgd => exact rfl); (case ho => exact rfl); (case hx => exact rfl); intro w1 g1 H' _ _; replace H := H'; clear H'; go_simp)
    | ((fail_if_success have := g2); (with_reducible apply own_box H); (case hgd => exact rfl); (case ho => exact rfl); (case hx => exact rfl); intro w2 g2 H' _ _; replace H := H'; clear H'; go_simp)
    | ((fail_if_success have := g3); (with_reducible apply own_alloc intsF.zero H); (case hgd => exact rfl); (case ho => exact rfl); intro w3 g3 H' _ _; replace H := H'; clear H'; go_simp))
  go_loopw [5] (fun v wr => ∃ i : Nat, i ≤ 16 ∧ v = .int .i64 i ∧ Ow w wr [(g3, Blk 36 .i64 16 fun _ => 0), (g2, Blk 36 .i64 16 (dF y)), (g1, Blk 36 .i64 16 (mixZ i (fun k => dF x k + dF y k) (dF x)))]) (fun v _ => 16 - (intOf v).toNat)
  case atStart => exact ⟨0, by omega, rfl, by rw [mixZ_zero]; exact H.out⟩
  case round =>
    clear H
    obtain ⟨i, hi, rfl, HR⟩ := hrel
    by_cases hlt : i < 16
    · have hid : decide ((i : Int) < 16) = true := by simp; omega
      have iN : (i : Int) < 16 := by omega
      have H1 := Lib.hid HR
      clear HR
      go_wp2_with fail
      refine wp_region_still_tail 9 (by kernel_rfl) (by kernel_rfl) ?_
      change wpStill _ _ wr.drew (fun a' => wpList _ _ _ _ a' wr.drew) _ _
      have D := Lib.hid H1.out.drew
      clear H1
      generalize wr.drew = w8 at *
      have hc1 := D.out.cell 2 rfl i hlt
      have hc2 := D.out.cell 1 rfl i hlt
      rw [mixZ_at] at hc1
      have hz := D.out.thaw 2 rfl i
      have bx := dF_bd x i
      have by' := dF_bd y i
      have U1 := Lib.hid (D.out.setCell 2 rfl i (dF x i + dF y i))
      rw [mixZ_upd i (fun k => dF x k + dF y k) (dF x)] at U1
      clear D
      obtain ⟨x', hx'⟩ : ∃ x', dF x i = x' := ⟨_, rfl⟩
      obtain ⟨y', hy'⟩ : ∃ y', dF y i = y' := ⟨_, rfl⟩
      rw [hx'] at hc1 bx
      rw [hy'] at hc2 by'
      rw [hx', hy'] at U1
      obtain ⟨b1, b2⟩ := bx
      obtain ⟨b3, b4⟩ := by'
      clear hx' hy'
      simp only [List.take_succ_cons, List.take_zero, List.drop_succ_cons, List.drop_zero]
      iterate 9 still_step
      refine wpStill_nil ?_
      go_wp2_with fail
      go_roundw
      case rel => exact ⟨i + 1, by omega, by go_num, U1.out⟩
      case measure => simp [intOf]; omega
    · obtain rfl : i = 16 := by omega
      clear hlt hi
      rw [show ((16 : Nat) : Int) = 16 from rfl]
      have H := Lib.hid (HR.like 2 (g := fun k => dF x k + dF y k) rfl fun k hk => mixZ_all _ _ _ _ hk)
      simp only [List.set_cons_zero, List.set_cons_succ] at H
      clear HR
      go_wp2_with (first
        | ((with_reducible apply own_load rowF H); (case hgd => exact rfl); (case ho => exact rfl); (case hx => exact rfl); (case hi => first | exact at0 | exact at1 | exact at2 | exact at3 | exact at4 | exact at5 | exact at6); intro _ _; go_simp)
        | ((with_reducible refine (HN.out _).mono ?_); rintro e wc ⟨rfl, hb⟩; replace H := Lib.hid (H.out.call hb); clear hb)
        | ((with_reducible apply own_store rowF H); (case hgd => exact rfl); (case ho => exact rfl); (case hx => exact rfl); (case hy => exact rfl); (case hi => first | exact at0 | exact at1 | exact at2 | exact at3 | exact at4 | exact at5 | exact at6); intro ws H' _ _; replace H := H'; clear H'; simp only [List.set_cons_zero] at H; go_simp))
      exact bodyPost_ret (own_result 0 rowF rfl _ H rfl rfl) rfl ⟨rfl, H.out.bel⟩
set_option maxRecDepth 8000 in
set_option maxHeartbeats 1000000 in
theorem refNeg_any (x : Nat) (w : World) (hx : x < pN) :
    Calls Tryd.prog 29 #[FV x] w fun e w' => e = .returned (FV ((pN - x) % pN)) ∧ Below w.heap.size w w' := by
  have hv : val (fun k => pF k - dF x k) 16 = ((pN - x : Nat) : Int) := by rw [val_sub, val_FV hx, val_p, pZ_eq, Int.natCast_sub (Nat.le_of_lt hx)]
  have hf : Fine (fun k => pF k - dF x k) := fun k _ => by
    have h1 := dF_bd x k
    have h2 := pF_bd k
    show _ ≤ pF k - dF x k ∧ pF k - dF x k ≤ _
    omega
  have HN := Lib.hid (fun w => norm_any _ w hf (by rw [hv]; omega))
  rw [hv, left_p] at HN
  clear hv hf hx
  have H := Lib.hid (Ow.start w)
  go_enter Tryd.func29, Tryd.ntmps29
  go_wp2_with (first
    | ((fail_if_success have := g1); (with_reducible apply own_box H); (case hgd => exact rfl); (case ho => exact rfl); (case hx => exact rfl); intro w1 g1 H' _ _; replace H := H'; clear H'; go_simp)
    | ((fail_if_success have := g2); (with_reducible apply own_alloc intsF.zero H); (case hgd => exact rfl); (case ho => exact rfl); intro w2 g2 H' _ _; replace H := H'; clear H'; go_simp)
    | ((with_reducible refine (prime_any _).mono ?_); rintro e wc ⟨rfl, hb⟩; replace H := Lib.hid (H.out.call hb); clear hb)
    | ((fail_if_success have := g3); (with_reducible apply own_alloc intsF.zero H); (case hgd => exact rfl); (case ho => exact rfl); intro w3 g3 H' _ _; replace H := H'; clear H'; go_simp)
    | ((with_reducible apply own_store rowF H); (case hgd => exact rfl); (case ho => exact rfl); (case hx => exact rfl); (case hy => exact rfl); (case hi => first | exact at0 | exact at1 | exact at2 | exact at3 | exact at4 | exact at5 | exact at6); intro ws H' _ _; replace H := H'; clear H'; simp only [List.set_cons_zero] at H; go_simp))
  go_loopw [4] (fun v wr => ∃ i : Nat, i ≤ 16 ∧ v = .int .i64 i ∧ Ow w wr [(g3, Blk 36 .i64 16 pF), (g2, Blk 36 .i64 16 fun _ => 0), (g1, Blk 36 .i64 16 (mixZ i (fun k => pF k - dF x k) (dF x)))]) (fun v _ => 16 - (intOf v).toNat)
  case atStart => exact ⟨0, by omega, rfl, by rw [mixZ_zero]; exact H.out⟩
  case round =>
    clear H
    obtain ⟨i, hi, rfl, HR⟩ := hrel
    by_cases hlt : i < 16
    · have hid : decide ((i : Int) < 16) = true := by simp; omega
      have iN : (i : Int) < 16 := by omega
      have H1 := Lib.hid HR
      clear HR
      go_wp2_with fail
      refine wp_region_still_tail 9 (by kernel_rfl) (by kernel_rfl) ?_
      change wpStill _ _ wr.drew (fun a' => wpList _ _ _ _ a' wr.drew) _ _
      have D := Lib.hid H1.out.drew
      clear H1
      generalize wr.drew = w8 at *
      have hc1 := D.out.cell 0 rfl i hlt
      have hc2 := D.out.cell 2 rfl i hlt
      rw [mixZ_at] at hc2
      have hz := D.out.thaw 2 rfl i
      have bx := pF_bd i
      have by' := dF_bd x i
      have U1 := Lib.hid (D.out.setCell 2 rfl i (pF i - dF x i))
      rw [mixZ_upd i (fun k => pF k - dF x k) (dF x)] at U1
      clear D
      obtain ⟨x', hx'⟩ : ∃ x', pF i = x' := ⟨_, rfl⟩
      obtain ⟨y', hy'⟩ : ∃ y', dF x i = y' := ⟨_, rfl⟩
      rw [hx'] at hc1 bx
      rw [hy'] at hc2 by'
      rw [hx', hy'] at U1
      obtain ⟨b1, b2⟩ := bx
      obtain ⟨b3, b4⟩ := by'
      clear hx' hy'
      simp only [List.take_succ_cons, List.take_zero, List.drop_succ_cons, List.drop_zero]
      iterate 9 still_step
      refine wpStill_nil ?_
      go_wp2_with fail
      go_roundw
      case rel => exact ⟨i + 1, by omega, by go_num, U1.out⟩
      case measure => simp [intOf]; omega
    · obtain rfl : i = 16 := by omega
      clear hlt hi
      rw [show ((16 : Nat) : Int) = 16 from rfl]
      have H := Lib.hid (HR.like 2 (g := fun k => pF k - dF x k) rfl fun k hk => mixZ_all _ _ _ _ hk)
      simp only [List.set_cons_zero, List.set_cons_succ] at H
      clear HR
      go_wp2_with (first
        | ((with_reducible apply own_load rowF H); (case hgd => exact rfl); (case ho => exact rfl); (case hx => exact rfl); (case hi => first | exact at0 | exact at1 | exact at2 | exact at3 | exact at4 | exact at5 | exact at6); intro _ _; go_simp)
        | ((with_reducible refine (HN.out _).mono ?_); rintro e wc ⟨rfl, hb⟩; replace H := Lib.hid (H.out.call hb); clear hb)
        | ((with_reducible apply own_store rowF H); (case hgd => exact rfl); (case ho => exact rfl); (case hx => exact rfl); (case hy => exact rfl); (case hi => first | exact at0 | exact at1 | exact at2 | exact at3 | exact at4 | exact at5 | exact at6); intro ws H' _ _; replace H := H'; clear H'; simp only [List.set_cons_zero, List.set_cons_succ] at H; go_simp))
      exact bodyPost_ret (own_result 1 rowF rfl _ H rfl rfl) rfl ⟨rfl, H.out.bel⟩
set_option maxRecDepth 8000 in
set_option maxHeartbeats 1000000 in
theorem refSub_any (x y : Nat) (w : World) (hx : x < pN) (hy : y < pN) :
    Calls Tryd.prog 27 #[FV x, FV y] w fun e w' => e = .returned (FV ((x + (pN - y)) % pN)) ∧ Below w.heap.size w w' := by
  have HN := Lib.hid (fun w => refNeg_any y w hy)
  have HA := Lib.hid (fun w => refAdd_any x ((pN - y) % pN) w hx (Nat.mod_lt _ pN_pos))
  rw [Nat.add_mod_mod] at HA
  clear hx hy
  have H := Lib.hid (Ow.start w)
  go_enter Tryd.func27, Tryd.ntmps27
  go_wp2_with (first
    | ((fail_if_success have := g1); (with_reducible apply own_box H); (case hgd => exact rfl); (case ho => exact rfl); (case hx => exact rfl); intro w1 g1 H' _ _; replace H := H'; clear H'; go_simp)
    | ((fail_if_success have := g2); (with_reducible apply own_box H); (case hgd => exact rfl); (case ho => exact rfl); (case hx => exact rfl); intro w2 g2 H' _ _; replace H := H'; clear H'; go_simp)
    | ((fail_if_success have := g3); (with_reducible apply own_alloc intsF.zero H); (case hgd => exact rfl); (case ho => exact rfl); intro w3 g3 H' _ _; replace H := H'; clear H'; go_simp))
  refine wp_region_noPanic ?_
  refine wp_region_held_drew (S := fun W => ∃ f3, Ow w W [(g3, Blk 36 .i64 16 f3), (g2, Blk 36 .i64 16 (dF y)), (g1, Blk 36 .i64 16 (dF x))]) (by kernel_rfl) (⟨_, H.out.drew⟩) (fun hH => ?_)
  clear H
  refine held_row 0 5 rowF rfl rfl (by kernel_rfl) (by kernel_rfl) (by kernel_rfl) rfl hH rfl rfl (fun _ h => by obtain ⟨f3, h⟩ := h; exact h.row 2 rfl) ?_
  simp only [Act.put, List.setIfInBounds_toArray, List.set_cons_zero, List.set_cons_succ]
  refine held_row 1 6 rowF rfl rfl (by kernel_rfl) (by kernel_rfl) (by kernel_rfl) rfl hH rfl rfl (fun _ h => by obtain ⟨f3, h⟩ := h; exact h.row 1 rfl) ?_
  simp only [Act.put, List.setIfInBounds_toArray, List.set_cons_zero, List.set_cons_succ]
  refine wpAnyH_ready (rs := [2]) (by kernel_rfl) (by simp) ?_
  refine AllReadyH.cons (o := _) rfl (fun K hK => ?_) AllReadyH.nil
  go_simp
  refine (HN.out _).mono ?_
  rintro e wc ⟨rfl, hb⟩
  refine hK.out _ _ (by obtain ⟨f3, h⟩ := hH; exact ⟨f3, h.call hb⟩) (fun hN => ?_)
  clear hK K hH hb
  have hH := hN
  clear hN
  try simp only [Act.put, List.setIfInBounds_toArray, List.set_cons_zero, List.set_cons_succ]
  refine wpAnyH_ready (rs := [3]) (by kernel_rfl) (by simp) ?_
  refine AllReadyH.cons (o := _) rfl (fun K hK => ?_) AllReadyH.nil
  go_simp
  refine (HA.out _).mono ?_
  rintro e wc ⟨rfl, hb⟩
  refine hK.out _ _ (by obtain ⟨f3, h⟩ := hH; exact ⟨f3, h.call hb⟩) (fun hN => ?_)
  clear hK K hH hb
  have hH := hN
  clear hN
  try simp only [Act.put, List.setIfInBounds_toArray, List.set_cons_zero, List.set_cons_succ]
  obtain ⟨f3, hH3⟩ := hH
  refine wpAnyH_ready (rs := [4]) (by kernel_rfl) (by simp) ?_
  refine AllReadyH.cons (o := _) rfl (fun K hK => ?_) AllReadyH.nil
  refine own_wp_store 0 rowF hH3 rfl rfl rfl rfl ?_
  intro ws HS
  simp only [List.set_cons_zero] at HS
  refine hK.out _ _ ⟨_, HS⟩ (fun hN => ?_)
  have H := Lib.hid HS
  clear hK K hH3 hN HS
  try simp only [Act.put, List.setIfInBounds_toArray]
  refine wpAnyH_done (by kernel_rfl) ?_ _
  refine NoPanic.normal ?_
  go_wp2_with fail
  exact bodyPost_ret (own_result 0 rowF rfl _ H rfl rfl) rfl ⟨rfl, H.out.bel⟩
end Go.Proofs.YtjjdhbmlinjhjaaDoor
