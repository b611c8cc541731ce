/-
  The contracts of chicoryref04's Int and Same.
-/
import Derived.Test.YtjjdhbmlinjhjaaDoorRf4Ops
import Derived.Laws.StructEq
namespace Go.Proofs.YtjjdhbmlinjhjaaDoor
open Go.RowKit

theorem val_two (r q : Int) : val (updZ (updZ (fun _ => 0) 0 r) 1 q) 16 = r + q * 268435456 := by
  rw [val_upd _ _ _ _ (by omega), val_upd _ _ _ _ (by omega)]
  have h0 : ∀ n, val (fun _ => 0) n = 0 := fun n => by
    induction n with
    | zero => rfl
    | succ n ih => unfold val; rw [ih, Int.zero_mul]; rfl
  rw [h0, show updZ (fun _ => 0) 0 r 1 = 0 from rfl, Int.pow_zero, Int.pow_one]
  omega
theorem fine_two {r q : Int} (h1 : 0 ≤ r) (h2 : r ≤ 268435456) (h3 : 0 ≤ q) (h4 : q ≤ 68719476736) : Fine (updZ (updZ (fun _ => 0) 0 r) 1 q) := fun i _ => by
  unfold updZ
  by_cases e1 : i = 1
  · rw [if_pos e1]; omega
  · rw [if_neg e1]
    by_cases e0 : i = 0
    · rw [if_pos e0]; omega
    · rw [if_neg e0]; show (_ : Int) ≤ 0 ∧ (0 : Int) ≤ _; omega
theorem neg_p (m : Nat) : (pN - m % pN) % pN = (-(m : Int) % pZ).toNat := by
  rw [pZ_eq]
  have hp : (0 : Int) < (pN : Int) := by have := pN_pos; omega
  have hm := Nat.mod_lt m pN_pos
  have e : (m : Int) = ((m % pN : Nat) : Int) + (pN : Int) * ((m / pN : Nat) : Int) := by
    have := Nat.mod_add_div m pN
    exact_mod_cast this.symm
  have e2 : (-(m : Int)) % (pN : Int) = ((pN - m % pN : Nat) : Int) % (pN : Int) := by
    rw [Int.natCast_sub (Nat.le_of_lt hm)]
    rw [show -(m : Int) = ((pN : Int) - ((m % pN : Nat) : Int)) + (pN : Int) * (-((m / pN : Nat) : Int) - 1) by rw [Int.mul_sub, Int.mul_neg, Int.mul_one]; omega]
    rw [Int.add_mul_emod_self_left]
  rw [e2, ← Int.natCast_emod, Int.toNat_natCast]
set_option maxRecDepth 8000 in
set_option maxHeartbeats 1000000 in
theorem refInt_pos (m : Nat) (w : World) (hm : m ≤ 9223372036854775807) :
    Calls Tryd.prog 30 #[.int .i64 (m : Int)] w fun e w' => e = .returned (FV (m % pN)) ∧ Below w.heap.size w w' := by
  obtain ⟨r, hr⟩ : ∃ r, m % 268435456 = r := ⟨_, rfl⟩
  obtain ⟨q, hq⟩ : ∃ q, m / 268435456 = q := ⟨_, rfl⟩
  have e1 : (m : Int) % 268435456 = (r : Int) := by omega
  have e2 : (m : Int) / 268435456 = (q : Int) := by omega
  have hv : val (updZ (updZ (fun _ => 0) 0 (r : Int)) 1 (q : Int)) 16 = (m : Int) := by rw [val_two]; omega
  have HN := Lib.hid (fun w => norm_any _ w (fine_two (r := (r : Int)) (q := (q : Int)) (by omega) (by omega) (by omega) (by omega)) (by rw [hv]; omega))
  rw [hv, left_p] at HN
  have dn : decide ((m : Int) < 0) = false := by simp
  have Hm := Lib.hid hm
  have mb : (m : Int) ≤ 9223372036854775807 := by omega
  clear hv hr hq hm
  have H := Lib.hid (Ow.start w)
  go_enter Tryd.func30, Tryd.ntmps30
  go_wp2_with (first
    | ((fail_if_success have := g1); (with_reducible apply own_alloc intsF.zero H); (case hgd => exact rfl); (case ho => exact rfl); intro w1 g1 H' _ _; replace H := H'; clear H'; go_simp)
    | ((fail_if_success have := g2); (with_reducible apply own_alloc intsF.zero H); (case hgd => exact rfl); (case ho => exact rfl); intro w2 g2 H' _ _; replace H := H'; clear H'; go_simp)
    | ((with_reducible apply own_put oneI H); (case hgd => exact rfl); (case ho => exact rfl); (case hx => exact rfl); (case hy => exact rfl); (case hi => first | exact at0 | exact at1 | exact at2 | exact at3 | exact at4 | exact at5 | exact at6); (case hj => omega); intro ws H' _ _; replace H := H'; clear H'; simp only [List.set_cons_zero] at H; go_simp)
    | ((with_reducible apply own_load rowF H); (case hgd => exact rfl); (case ho => exact rfl); (case hx => exact rfl); (case hi => first | exact at0 | exact at1 | exact at2 | exact at3 | exact at4 | exact at5 | exact at6); intro _ _; go_simp)
    | ((with_reducible refine (HN.out _).mono ?_); rintro e wc ⟨rfl, hb⟩; replace H := Lib.hid (H.out.call hb); clear hb)
    | ((with_reducible apply own_store rowF H); (case hgd => exact rfl); (case ho => exact rfl); (case hx => exact rfl); (case hy => exact rfl); (case hi => first | exact at0 | exact at1 | exact at2 | exact at3 | exact at4 | exact at5 | exact at6); intro ws H' _ _; replace H := H'; clear H'; simp only [List.set_cons_zero, List.set_cons_succ] at H; go_simp))
  exact bodyPost_ret (own_result 1 rowF rfl _ H rfl rfl) rfl ⟨rfl, H.out.bel⟩
set_option maxRecDepth 8000 in
set_option maxHeartbeats 1000000 in
theorem refInt_neg (m : Nat) (w : World) (h1 : 1 ≤ m) (hm : m ≤ 9223372036854775808) :
    Calls Tryd.prog 30 #[.int .i64 (-(m : Int))] w fun e w' => e = .returned (FV ((pN - m % pN) % pN)) ∧ Below w.heap.size w w' := by
  obtain ⟨r, hr⟩ : ∃ r, m % 268435456 = r := ⟨_, rfl⟩
  obtain ⟨q, hq⟩ : ∃ q, m / 268435456 = q := ⟨_, rfl⟩
  have e1 : (-(m : Int)).tmod 268435456 = -(r : Int) := by rw [Int.neg_tmod, Int.tmod_eq_emod_of_nonneg (by omega)]; omega
  have e2 : (-(m : Int)).tdiv 268435456 = -(q : Int) := by rw [Int.neg_tdiv, Int.tdiv_eq_ediv_of_nonneg (by omega)]; omega
  have hv : val (updZ (updZ (fun _ => 0) 0 (r : Int)) 1 (q : Int)) 16 = (m : Int) := by rw [val_two]; omega
  have HN := Lib.hid (fun w => norm_any _ w (fine_two (r := (r : Int)) (q := (q : Int)) (by omega) (by omega) (by omega) (by omega)) (by rw [hv]; omega))
  rw [hv, left_p] at HN
  have HM := Lib.hid (fun w => refNeg_any (m % pN) w (Nat.mod_lt _ pN_pos))
  obtain ⟨z, hz⟩ : ∃ z : Int, -(m : Int) = z := ⟨_, rfl⟩
  have z0 : z < 0 := by omega
  have z1 : -9223372036854775808 ≤ z := by omega
  have r0 : r < 268435456 := by omega
  have q0 : q ≤ 68719476736 := by omega
  rw [hz] at e1 e2 ⊢
  have dn : decide (z < 0) = true := by simpa using z0
  clear hv hr hq hm h1 hz
  have H := Lib.hid (Ow.start w)
  go_enter Tryd.func30, Tryd.ntmps30
  go_wp2_with (first
    | ((fail_if_success have := g1); (with_reducible apply own_alloc intsF.zero H); (case hgd => exact rfl); (case ho => exact rfl); intro w1 g1 H' _ _; replace H := H'; clear H'; go_simp)
    | ((fail_if_success have := g2); (with_reducible apply own_alloc intsF.zero H); (case hgd => exact rfl); (case ho => exact rfl); intro w2 g2 H' _ _; replace H := H'; clear H'; go_simp)
    | ((with_reducible apply own_put oneI H); (case hgd => exact rfl); (case ho => exact rfl); (case hx => exact rfl); (case hy => exact rfl); (case hi => first | exact at0 | exact at1 | exact at2 | exact at3 | exact at4 | exact at5 | exact at6); (case hj => omega); intro ws H' _ _; replace H := H'; clear H'; simp only [List.set_cons_zero] at H; go_simp)
    | ((with_reducible apply own_load rowF H); (case hgd => exact rfl); (case ho => exact rfl); (case hx => exact rfl); (case hi => first | exact at0 | exact at1 | exact at2 | exact at3 | exact at4 | exact at5 | exact at6); intro _ _; go_simp)
    | ((with_reducible refine (HN.out _).mono ?_); rintro e wc ⟨rfl, hb⟩; replace H := Lib.hid (H.out.call hb); clear hb)
    | ((with_reducible refine (HM.out _).mono ?_); rintro e wc ⟨rfl, hb⟩; replace H := Lib.hid (H.out.call hb); clear hb)
    | ((with_reducible apply own_store rowF H); (case hgd => exact rfl); (case ho => exact rfl); (case hx => exact rfl); (case hy => exact rfl); (case hi => first | exact at0 | exact at1 | exact at2 | exact at3 | exact at4 | exact at5 | exact at6); intro ws H' _ _; replace H := H'; clear H'; simp only [List.set_cons_zero, List.set_cons_succ] at H; go_simp))
  exact bodyPost_ret (own_result 1 rowF rfl _ H rfl rfl) rfl ⟨rfl, H.out.bel⟩
/-- Int: a number modulo p. -/
theorem refInt_any (n : Int) (w : World) (h1 : -9223372036854775808 ≤ n) (h2 : n ≤ 9223372036854775807) :
    Calls Tryd.prog 30 #[.int .i64 n] w fun e w' => e = .returned (FV (n % pZ).toNat) ∧ Below w.heap.size w w' := by
  rcases (by omega : 0 ≤ n ∨ n < 0) with h | h
  · obtain ⟨m, rfl⟩ : ∃ m : Nat, n = (m : Int) := ⟨n.toNat, by omega⟩
    rw [left_p]
    exact refInt_pos m w (by omega)
  · obtain ⟨m, rfl⟩ : ∃ m : Nat, n = -(m : Int) := ⟨(-n).toNat, by omega⟩
    rw [← neg_p]
    exact refInt_neg m w (by omega) (by omega)
end Go.Proofs.YtjjdhbmlinjhjaaDoor
