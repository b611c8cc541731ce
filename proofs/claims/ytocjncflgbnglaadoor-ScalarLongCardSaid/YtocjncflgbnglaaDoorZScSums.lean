/-
  The walks of ScalarSums and ScalarProducts. No statement is proved here: lemmas for the walks.
-/
import Derived.Test.YtocjncflgbnglaaDoorBuV
namespace Go.Proofs.YtocjncflgbnglaaDoor
open Go.RowKit

/-- What Made and Plain make of a Raw. -/
theorem raw_k6 (u : Nat) (hu : u < 2 ^ (8 * 57)) : ∃ x : KL, (∀ w, Tl true w → Calls Tryd.prog 22 #[RV u] w fun e w' => e = .returned (.tuple #[W7 x.val, .bool true]) ∧ Below w.heap.size w w') ∧
    (∀ w, Calls Tryd.prog 23 #[RV u] w fun e w' => ∃ v, e = .returned v ∧ GotB w w' v x.val) :=
  ⟨ofL (u : Int), fun w hT => made_v u w hT hu, fun w => plain_v u w hu⟩
theorem kl_sub (x y : KL) : x - y = x + -y := by grind
set_option maxRecDepth 20000 in
set_option maxHeartbeats 12800000 in
theorem sums_walk (u v : Nat) (n : Int) (w : World) (hT : Tl true w) (hr1 : u < 2 ^ (8 * 57)) (hr2 : v < 2 ^ (8 * 57)) (h1 : -9223372036854775808 ≤ n) (h2 : n ≤ 9223372036854775807) :
    Calls Tryd.prog 4 #[RV u, RV v, .int .i64 n] w fun e w' => e = .returned (.bool true) ∧ Below w.heap.size w w' := by
  obtain ⟨x, hm1, hp1⟩ := raw_k6 u hr1
  have HM1 := Lib.hid hm1
  have HP1 := Lib.hid hp1
  clear hm1 hp1 hr1
  obtain ⟨y, hm2, hp2⟩ := raw_k6 v hr2
  have HM2 := Lib.hid hm2
  have HP2 := Lib.hid hp2
  clear hm2 hp2 hr2
  have N1 := Lib.hid h1
  have N2 := Lib.hid h2
  have HE := Lib.hid (kl_sub x y)
  clear h1 h2
  have HT := Lib.hid hT
  clear hT
  have H := Lib.hid (Ow.start w)
  go_enter Tryd.func4, Tryd.ntmps4
  go_wp2_with (first
    | ((fail_if_success have := g3); (with_reducible apply own_box H); (case hgd => exact rfl); (case ho => exact rfl); (case hx => exact rfl); intro w3 g3 H' _ _; replace H := H'; clear H'; go_simp)
    | ((fail_if_success have := g4); (with_reducible apply own_box H); (case hgd => exact rfl); (case ho => exact rfl); (case hx => exact rfl); intro w4 g4 H' _ _; replace H := H'; clear H'; go_simp)
    | ((with_reducible apply own_load rowRaw H); (case hgd => exact rfl); (case ho => exact rfl); (case hx => exact rfl); (case hi => first | exact at0 | exact at1 | exact at2 | exact at3 | exact at4 | exact at5 | exact at6 | exact at7 | exact at8 | exact at9); intro _ _; go_simp)
    | ((with_reducible refine (HM1.out _ (HT.out.below H.out.bel)).mono ?_); rintro e wc ⟨rfl, hb⟩; replace H := Lib.hid (H.out.call hb); clear hb)
    | ((with_reducible refine (HM2.out _ (HT.out.below H.out.bel)).mono ?_); rintro e wc ⟨rfl, hb⟩; replace H := Lib.hid (H.out.call hb); clear hb)
    | ((fail_if_success have := g7); (with_reducible apply own_alloc nilSc H); (case hgd => exact rfl); (case ho => exact rfl); intro w7 g7 H' _ _; replace H := H'; clear H'; go_simp)
    | ((fail_if_success have := g9); (with_reducible apply own_alloc nilSc H); (case hgd => exact rfl); (case ho => exact rfl); intro w9 g9 H' _ _; replace H := H'; clear H'; go_simp)
    | ((with_reducible apply own_store rowSc H); (case hgd => exact rfl); (case ho => exact rfl); (case hx => exact rfl); (case hy => exact rfl); (case hi => first | exact at0 | exact at1 | exact at2 | exact at3 | exact at4 | exact at5 | exact at6 | exact at7 | exact at8 | exact at9); intro ws H' _ _; replace H := H'; clear H'; simp only [List.set_cons_zero] at H; go_simp)
    | ((with_reducible refine (HP1.out _).mono ?_); rintro e wc ⟨v, rfl, hv⟩; obtain ⟨ap, cp, rfl, hs, hb⟩ := hv; replace H := Lib.hid (H.out.call hb); have P := Lib.hid hs; clear hs hb)
    | ((with_reducible refine (HP2.out _).mono ?_); rintro e wc ⟨v, rfl, hv⟩; obtain ⟨aq, cq, rfl, hs, hb⟩ := hv; replace P := Lib.hid (P.out.call hb); replace H := Lib.hid (H.out.call hb); have Q := Lib.hid hs; clear hs hb)
    | ((with_reducible apply own_load rowSc H); (case hgd => exact rfl); (case ho => exact rfl); (case hx => exact rfl); (case hi => first | exact at0 | exact at1 | exact at2 | exact at3 | exact at4 | exact at5 | exact at6 | exact at7 | exact at8 | exact at9); intro _ _; go_simp)
    | ((with_reducible apply own_loadg rowSc H); (case hw => exact rfl); (case ho => exact rfl); (case hx => exact rfl); (case hi => first | exact at0 | exact at1 | exact at2 | exact at3 | exact at4 | exact at5 | exact at6 | exact at7 | exact at8 | exact at9); intro _ _; go_simp)
    | ((with_reducible refine (add_s x y _ (HT.out.below H.out.bel)).mono ?_); rintro e wc ⟨rfl, hb⟩; replace P := Lib.hid (P.out.call hb); replace Q := Lib.hid (Q.out.call hb); replace H := Lib.hid (H.out.call hb); clear hb)
    | ((with_reducible refine (r6add_v x y ap aq cp cq _ P.out Q.out).mono ?_); rintro e wc ⟨v, rfl, hv⟩; obtain ⟨a5, c5, rfl, hs, hb⟩ := hv; replace P := Lib.hid (P.out.call hb); replace Q := Lib.hid (Q.out.call hb); replace H := Lib.hid (H.out.call hb); have S5 := Lib.hid hs; clear hs hb)
    | ((with_reducible refine (is_st (x := x + y) (y := x + y) _ S5.out rfl).mono ?_); rintro e wc ⟨rfl, hb⟩; replace P := Lib.hid (P.out.call hb); replace Q := Lib.hid (Q.out.call hb); replace H := Lib.hid (H.out.call hb); clear hb)
    | ((with_reducible refine (sub_s x y _ (HT.out.below H.out.bel)).mono ?_); rintro e wc ⟨rfl, hb⟩; replace P := Lib.hid (P.out.call hb); replace Q := Lib.hid (Q.out.call hb); replace H := Lib.hid (H.out.call hb); clear hb)
    | ((with_reducible refine (r6neg_v y aq cq _ Q.out).mono ?_); rintro e wc ⟨v, rfl, hv⟩; obtain ⟨a6, c6, rfl, hs, hb⟩ := hv; replace P := Lib.hid (P.out.call hb); replace Q := Lib.hid (Q.out.call hb); replace H := Lib.hid (H.out.call hb); have S6 := Lib.hid hs; clear hs hb)
    | ((with_reducible refine (r6add_v x (-y) ap a6 cp c6 _ P.out S6.out).mono ?_); rintro e wc ⟨v, rfl, hv⟩; obtain ⟨a7, c7, rfl, hs, hb⟩ := hv; replace P := Lib.hid (P.out.call hb); replace Q := Lib.hid (Q.out.call hb); replace H := Lib.hid (H.out.call hb); have S7 := Lib.hid hs; clear hs hb)
    | ((with_reducible refine (is_st (x := x - y) (y := x + -y) _ S7.out HE.out).mono ?_); rintro e wc ⟨rfl, hb⟩; replace P := Lib.hid (P.out.call hb); replace Q := Lib.hid (Q.out.call hb); replace H := Lib.hid (H.out.call hb); clear hb)
    | ((with_reducible refine (neg_s x _ (HT.out.below H.out.bel)).mono ?_); rintro e wc ⟨rfl, hb⟩; replace P := Lib.hid (P.out.call hb); replace Q := Lib.hid (Q.out.call hb); replace H := Lib.hid (H.out.call hb); clear hb)
    | ((with_reducible refine (r6neg_v x ap cp _ P.out).mono ?_); rintro e wc ⟨v, rfl, hv⟩; obtain ⟨a8, c8, rfl, hs, hb⟩ := hv; replace P := Lib.hid (P.out.call hb); replace Q := Lib.hid (Q.out.call hb); replace H := Lib.hid (H.out.call hb); have S8 := Lib.hid hs; clear hs hb)
    | ((with_reducible refine (is_st (x := -x) (y := -x) _ S8.out rfl).mono ?_); rintro e wc ⟨rfl, hb⟩; replace P := Lib.hid (P.out.call hb); replace Q := Lib.hid (Q.out.call hb); replace H := Lib.hid (H.out.call hb); clear hb)
    | ((with_reducible refine (int_s n _ (HT.out.below H.out.bel) N1.out N2.out).mono ?_); rintro e wc ⟨rfl, hb⟩; replace P := Lib.hid (P.out.call hb); replace Q := Lib.hid (Q.out.call hb); replace H := Lib.hid (H.out.call hb); clear hb)
    | ((with_reducible refine (r6int_v n _ N1.out N2.out).mono ?_); rintro e wc ⟨v, rfl, hv⟩; obtain ⟨a9, c9, rfl, hs, hb⟩ := hv; replace P := Lib.hid (P.out.call hb); replace Q := Lib.hid (Q.out.call hb); replace H := Lib.hid (H.out.call hb); have S9 := Lib.hid hs; clear hs hb)
    | ((with_reducible refine (is_st (x := ofL n) (y := ofL n) _ S9.out rfl).mono ?_); rintro e wc ⟨rfl, hb⟩; replace P := Lib.hid (P.out.call hb); replace Q := Lib.hid (Q.out.call hb); replace H := Lib.hid (H.out.call hb); clear hb)
    | ((with_reducible refine (awake6 _ (HT.out.below H.out.bel)).mono ?_); rintro e wc ⟨rfl, hb⟩; replace P := Lib.hid (P.out.call hb); replace Q := Lib.hid (Q.out.call hb); replace H := Lib.hid (H.out.call hb); clear hb))
  go_ret
  exact ⟨rfl, H.out.bel⟩
theorem zero_len (x : KL) : (((dl 8 x.val : Nat) : Int) == 0) = decide (x = 0) := by
  have h := dl_pos (b := 8) (x := x.val) (by omega)
  by_cases e : x = 0
  · rw [decide_eq_true e, e]
    show (((dl 8 0 : Nat) : Int) == 0) = true
    rw [dl_zero 8 (by omega)]
    rfl
  · rw [decide_eq_false e, beq_eq_false_iff_ne]
    have h0 : x.val ≠ 0 := fun h1 => e (fp_val_zero.2 h1)
    omega
set_option maxRecDepth 20000 in
set_option maxHeartbeats 12800000 in
theorem products_walk (u v : Nat) (w : World) (hT : Tl true w) (hr1 : u < 2 ^ (8 * 57)) (hr2 : v < 2 ^ (8 * 57)) :
    Calls Tryd.prog 5 #[RV u, RV v] w fun e w' => e = .returned (.bool true) ∧ Below w.heap.size w w' := by
  obtain ⟨x, hm1, hp1⟩ := raw_k6 u hr1
  have HM1 := Lib.hid hm1
  have HP1 := Lib.hid hp1
  clear hm1 hp1 hr1
  obtain ⟨y, hm2, hp2⟩ := raw_k6 v hr2
  have HM2 := Lib.hid hm2
  have HP2 := Lib.hid hp2
  clear hm2 hp2 hr2
  have hz := zero_len x
  obtain ⟨d, hd⟩ : ∃ d, decide (x = y) = d := ⟨_, rfl⟩
  obtain ⟨z, hz'⟩ : ∃ z, decide (x = 0) = z := ⟨_, rfl⟩
  rw [hz'] at hz
  have HD := Lib.hid hd
  have HZ := Lib.hid hz'
  clear hd hz'
  have HT := Lib.hid hT
  clear hT
  have H := Lib.hid (Ow.start w)
  go_enter Tryd.func5, Tryd.ntmps5
  go_wp2_with (first
    | ((fail_if_success have := g2); (with_reducible apply own_box H); (case hgd => exact rfl); (case ho => exact rfl); (case hx => exact rfl); intro w2 g2 H' _ _; replace H := H'; clear H'; go_simp)
    | ((fail_if_success have := g3); (with_reducible apply own_box H); (case hgd => exact rfl); (case ho => exact rfl); (case hx => exact rfl); intro w3 g3 H' _ _; replace H := H'; clear H'; go_simp)
    | ((with_reducible apply own_load rowRaw H); (case hgd => exact rfl); (case ho => exact rfl); (case hx => exact rfl); (case hi => first | exact at0 | exact at1 | exact at2 | exact at3 | exact at4 | exact at5 | exact at6 | exact at7 | exact at8 | exact at9); intro _ _; go_simp)
    | ((with_reducible refine (HM1.out _ (HT.out.below H.out.bel)).mono ?_); rintro e wc ⟨rfl, hb⟩; replace H := Lib.hid (H.out.call hb); clear hb)
    | ((with_reducible refine (HM2.out _ (HT.out.below H.out.bel)).mono ?_); rintro e wc ⟨rfl, hb⟩; replace H := Lib.hid (H.out.call hb); clear hb)
    | ((fail_if_success have := g5); (with_reducible apply own_alloc nilSc H); (case hgd => exact rfl); (case ho => exact rfl); intro w5 g5 H' _ _; replace H := H'; clear H'; go_simp)
    | ((fail_if_success have := g7); (with_reducible apply own_alloc nilSc H); (case hgd => exact rfl); (case ho => exact rfl); intro w7 g7 H' _ _; replace H := H'; clear H'; go_simp)
    | ((with_reducible apply own_store rowSc H); (case hgd => exact rfl); (case ho => exact rfl); (case hx => exact rfl); (case hy => exact rfl); (case hi => first | exact at0 | exact at1 | exact at2 | exact at3 | exact at4 | exact at5 | exact at6 | exact at7 | exact at8 | exact at9); intro ws H' _ _; replace H := H'; clear H'; simp only [List.set_cons_zero] at H; go_simp)
    | ((with_reducible refine (HP1.out _).mono ?_); rintro e wc ⟨v, rfl, hv⟩; obtain ⟨ap, cp, rfl, hs, hb⟩ := hv; replace H := Lib.hid (H.out.call hb); have P := Lib.hid hs; clear hs hb)
    | ((with_reducible refine (HP2.out _).mono ?_); rintro e wc ⟨v, rfl, hv⟩; obtain ⟨aq, cq, rfl, hs, hb⟩ := hv; replace P := Lib.hid (P.out.call hb); replace H := Lib.hid (H.out.call hb); have Q := Lib.hid hs; clear hs hb)
    | ((with_reducible apply own_load rowSc H); (case hgd => exact rfl); (case ho => exact rfl); (case hx => exact rfl); (case hi => first | exact at0 | exact at1 | exact at2 | exact at3 | exact at4 | exact at5 | exact at6 | exact at7 | exact at8 | exact at9); intro _ _; go_simp)
    | ((with_reducible apply own_loadg rowSc H); (case hw => exact rfl); (case ho => exact rfl); (case hx => exact rfl); (case hi => first | exact at0 | exact at1 | exact at2 | exact at3 | exact at4 | exact at5 | exact at6 | exact at7 | exact at8 | exact at9); intro _ _; go_simp)
    | ((with_reducible refine (mul_s x y _ (HT.out.below H.out.bel)).mono ?_); rintro e wc ⟨rfl, hb⟩; replace P := Lib.hid (P.out.call hb); replace Q := Lib.hid (Q.out.call hb); replace H := Lib.hid (H.out.call hb); clear hb)
    | ((with_reducible refine (r6mul_v x y ap aq cp cq _ P.out Q.out).mono ?_); rintro e wc ⟨v, rfl, hv⟩; obtain ⟨a5, c5, rfl, hs, hb⟩ := hv; replace P := Lib.hid (P.out.call hb); replace Q := Lib.hid (Q.out.call hb); replace H := Lib.hid (H.out.call hb); have S5 := Lib.hid hs; clear hs hb)
    | ((with_reducible refine (is_st (x := x * y) (y := x * y) _ S5.out rfl).mono ?_); rintro e wc ⟨rfl, hb⟩; replace P := Lib.hid (P.out.call hb); replace Q := Lib.hid (Q.out.call hb); replace H := Lib.hid (H.out.call hb); clear hb)
    | ((with_reducible refine (half_s x _ (HT.out.below H.out.bel)).mono ?_); rintro e wc ⟨rfl, hb⟩; replace P := Lib.hid (P.out.call hb); replace Q := Lib.hid (Q.out.call hb); replace H := Lib.hid (H.out.call hb); clear hb)
    | ((with_reducible refine (r6half_v x ap cp _ P.out).mono ?_); rintro e wc ⟨v, rfl, hv⟩; obtain ⟨a6, c6, rfl, hs, hb⟩ := hv; replace P := Lib.hid (P.out.call hb); replace Q := Lib.hid (Q.out.call hb); replace H := Lib.hid (H.out.call hb); have S6 := Lib.hid hs; clear hs hb)
    | ((with_reducible refine (is_st (x := haK x) (y := haK x) _ S6.out rfl).mono ?_); rintro e wc ⟨rfl, hb⟩; replace P := Lib.hid (P.out.call hb); replace Q := Lib.hid (Q.out.call hb); replace H := Lib.hid (H.out.call hb); clear hb)
    | ((with_reducible refine (equal_s x y _ (HT.out.below H.out.bel)).mono ?_); rintro e wc ⟨rfl, hb⟩; replace P := Lib.hid (P.out.call hb); replace Q := Lib.hid (Q.out.call hb); replace H := Lib.hid (H.out.call hb); clear hb; rw [HD.out])
    | ((with_reducible refine (cmp_kl x y ap aq cp cq _ P.out Q.out).mono ?_); rintro e wc ⟨rfl, hb⟩; replace P := Lib.hid (P.out.call hb); replace Q := Lib.hid (Q.out.call hb); replace H := Lib.hid (H.out.call hb); clear hb; rw [HD.out])
    | ((with_reducible refine (zero_s x _).mono ?_); rintro e wc ⟨rfl, hb⟩; replace P := Lib.hid (P.out.call hb); replace Q := Lib.hid (Q.out.call hb); replace H := Lib.hid (H.out.call hb); clear hb; rw [HZ.out])
    | ((with_reducible refine (awake6 _ (HT.out.below H.out.bel)).mono ?_); rintro e wc ⟨rfl, hb⟩; replace P := Lib.hid (P.out.call hb); replace Q := Lib.hid (Q.out.call hb); replace H := Lib.hid (H.out.call hb); clear hb))
  go_ret
  exact ⟨rfl, H.out.bel⟩
end Go.Proofs.YtocjncflgbnglaaDoor
