/-
  The walk of ScalarClamps. No statement is proved here: lemmas for the walks.
-/
import Derived.Test.YtocjncflgbnglaaDoorZScSums
namespace Go.Proofs.YtocjncflgbnglaaDoor
open Go.RowKit

/-- The number of what Clamp makes: 448 bits, the two lowest nought. -/
theorem clamp_num (f : Nat → BitVec 8) (n : Nat) (hn : 56 ≤ n) : ∃ z, z < 2 ^ (8 * n) ∧ (∀ i, i < n → bt z i = clF f i) ∧ bl z = 448 ∧ bitI z 0 = 0 ∧ bitI z 1 = 0 := by
  obtain ⟨z, hz, h⟩ := bytes_of (clF f) n
  have hb : ∀ i j, i < n → j < 8 → z.testBit (8 * i + j) = (clF f i).getLsbD j := fun i j hi hj => by
    have e := bt_bit z i j
    rw [h i hi, decide_eq_true hj, Bool.true_and] at e
    exact e.symm
  have hf : ∀ K, K = 448 → z < 2 ^ K := fun K hK => Nat.lt_pow_two_of_testBit _ fun k hk => by
    by_cases h1 : k < 8 * n
    · have e := hb (k / 8) (k % 8) (by omega) (by omega)
      rw [show 8 * (k / 8) + k % 8 = k by omega, clF_over f _ (by omega)] at e
      rw [e]
      exact BitVec.getLsbD_zero
    · exact Nat.testBit_lt_two_pow (Nat.lt_of_lt_of_le hz (Nat.pow_le_pow_right (by omega) (by omega)))
  have hl : ∀ K, K = 447 → ¬ z < 2 ^ K := fun K hK hlt => by
    have e := hb 55 7 (by omega) (by omega)
    have e1 := Nat.testBit_lt_two_pow hlt
    rw [show 8 * 55 + 7 = K by omega, e1, show clF f 55 = f 55 ||| 128 from rfl, BitVec.getLsbD_or] at e
    have e2 : (128 : BitVec 8).getLsbD 7 = true := rfl
    rw [e2, Bool.or_true] at e
    cases e
  have c0 : clF f 0 = f 0 &&& ~~~3 := rfl
  have low : ∀ j, j < 2 → z.testBit j = false := fun j hj => by
    have e := hb 0 j (by omega) (by omega)
    rw [show 8 * 0 + j = j by omega, c0, BitVec.getLsbD_and] at e
    rw [e]
    have : (~~~(3 : BitVec 8)).getLsbD j = false := by
      rcases (by omega : j = 0 ∨ j = 1) with rfl | rfl <;> rfl
    rw [this, Bool.and_false]
  have h1 : ∀ K, K = 448 → bl z ≤ K := fun K hK => (bl_le z K).2 (hf K hK)
  have h2 : ∀ K, K = 447 → ¬ bl z ≤ K := fun K hK h => hl K hK ((bl_le z K).1 h)
  have h3 := h1 _ rfl
  have h4 := h2 _ rfl
  clear h1 h2 hf hl hb
  refine ⟨z, hz, h, ?_, ?_, ?_⟩
  · omega
  · have e := low 0 (by omega)
    rw [Nat.testBit_zero, decide_eq_false_iff_not] at e
    show (if (0 : Int) < 0 then (0 : Int) else ((z / 2 ^ (0 : Int).toNat % 2 : Nat) : Int)) = 0
    rw [if_neg (by omega), show (0 : Int).toNat = 0 from rfl, Nat.pow_zero, Nat.div_one]
    omega
  · have e := low 1 (by omega)
    rw [show (1 : Nat) = 0 + 1 from rfl, Nat.testBit_succ, Nat.testBit_zero, decide_eq_false_iff_not] at e
    show (if (1 : Int) < 0 then (0 : Int) else ((z / 2 ^ (1 : Int).toNat % 2 : Nat) : Int)) = 0
    rw [if_neg (by omega), show (1 : Int).toNat = 1 from rfl, Nat.pow_one]
    omega
set_option maxRecDepth 20000 in
set_option maxHeartbeats 12800000 in
theorem clamps_far (a : Option Addr) (n c : Nat) (w : World) (hT : Tl false w) (hn : 100 < n) : Calls Tryd.prog 6 #[.slice a n c] w fun e w' => e = .returned (.bool true) ∧ Below w.heap.size w w' := by
  have hid : decide ((100 : Int) < (n : Int)) = true := by simp; omega
  have HT := Lib.hid hT
  clear hT
  have H := Lib.hid (Ow.start w)
  go_enter Tryd.func6, Tryd.ntmps6
  go_wp2_with (first
    | ((with_reducible refine (awake6 _ (HT.out.below H.out.bel)).mono ?_); rintro e wc ⟨rfl, hb⟩; replace H := Lib.hid (H.out.call hb); clear hb))
  go_ret
  exact ⟨rfl, H.out.bel⟩
set_option maxRecDepth 20000 in
set_option maxHeartbeats 12800000 in
theorem clamps_off (a : Option Addr) (n c : Nat) (w : World) (hT : Tl false w) (hn : n ≤ 100) (h1 : n ≠ 56) (h2 : n ≠ 57) : Calls Tryd.prog 6 #[.slice a n c] w fun e w' => e = .returned (.bool true) ∧ Below w.heap.size w w' := by
  have hid : decide ((100 : Int) < (n : Int)) = false := by simp; omega
  have hn1 : ((n : Int) != 56) = true := by rw [bne_iff_ne]; omega
  have hn2 : ((n : Int) != 57) = true := by rw [bne_iff_ne]; omega
  have N1 := Lib.hid h1
  have N2 := Lib.hid h2
  clear h1 h2
  have HT := Lib.hid hT
  clear hT
  have H := Lib.hid (Ow.start w)
  go_enter Tryd.func6, Tryd.ntmps6
  go_wp2_with (first
    | ((with_reducible refine (clamp_bad a n c _ N1.out N2.out).mono ?_); rintro e wc ⟨rfl, hb⟩; replace H := Lib.hid (H.out.call hb); clear hb)
    | ((with_reducible refine (awake6 _ (HT.out.below H.out.bel)).mono ?_); rintro e wc ⟨rfl, hb⟩; replace H := Lib.hid (H.out.call hb); clear hb))
  go_ret
  exact ⟨rfl, H.out.bel⟩
set_option maxRecDepth 20000 in
set_option maxHeartbeats 12800000 in
theorem clamps_56 (a : Option Addr) (c : Nat) (f : Nat → BitVec 8) (w : World) (hT : Tl false w) (hs : Sl w w.heap.size a 56 c f) : Calls Tryd.prog 6 #[.slice a 56 c] w fun e w' => e = .returned (.bool true) ∧ Below w.heap.size w w' := by
  obtain ⟨z, hz, hf, hl, hb0, hb1⟩ := clamp_num f 56 (by omega)
  have HL := Lib.hid hl
  have HB0 := Lib.hid hb0
  have HB1 := Lib.hid hb1
  have HF : Hid (∀ w a c, Sl w w.heap.size a 56 c (clF f) → Sb w w.heap.size a 56 c z) := Lib.hid fun w a c h => ⟨h.congr fun i hi => (hf i hi).symm, hz⟩
  have HS := Lib.hid hs
  clear hs hz hf hl hb0 hb1
  have HT := Lib.hid hT
  clear hT
  have H := Lib.hid (Ow.start w)
  go_enter Tryd.func6, Tryd.ntmps6
  go_wp2_with (first
    | ((with_reducible refine (clamp_ok a 56 c f _ (by omega) HS.out).mono ?_); rintro e wc ⟨a1, c1, rfl, hs, hb⟩; replace HS := Lib.hid (HS.out.call (Nat.le_refl _) hb); replace H := Lib.hid (H.out.call hb); have S1 := Lib.hid hs; clear hs hb)
    | ((with_reducible refine (r6clamp_56 a c f _ HS.out).mono ?_); rintro e wc ⟨a2, c2, rfl, hs, hb⟩; replace S1 := Lib.hid (S1.out.call (Nat.le_refl _) hb); replace H := Lib.hid (H.out.call hb); have S2 := Lib.hid hs; clear hs hb)
    | ((with_reducible refine (same_sl a1 a2 56 c1 c2 (clF f) (clF f) _ (by omega) S1.out S2.out (fun _ _ => rfl)).mono ?_); rintro e wc ⟨rfl, hb⟩; replace S1 := Lib.hid (S1.out.call (Nat.le_refl _) hb); replace H := Lib.hid (H.out.call hb); clear hb)
    | ((with_reducible refine (refLen_any a1 56 c1 z _ (by omega) (HF.out _ _ _ S1.out)).mono ?_); rintro e wc ⟨rfl, rfl⟩; rw [HL.out])
    | ((with_reducible refine (refBit_any a1 56 c1 z 0 _ (by omega) (by omega) (HF.out _ _ _ S1.out)).mono ?_); rintro e wc ⟨rfl, rfl⟩; rw [HB0.out])
    | ((with_reducible refine (refBit_any a1 56 c1 z 1 _ (by omega) (by omega) (HF.out _ _ _ S1.out)).mono ?_); rintro e wc ⟨rfl, rfl⟩; rw [HB1.out])
    | ((with_reducible refine (awake6 _ (HT.out.below H.out.bel)).mono ?_); rintro e wc ⟨rfl, hb⟩; replace H := Lib.hid (H.out.call hb); clear hb))
  go_ret
  exact ⟨rfl, H.out.bel⟩
set_option maxRecDepth 20000 in
set_option maxHeartbeats 12800000 in
theorem clamps_57 (a : Option Addr) (c : Nat) (f : Nat → BitVec 8) (w : World) (hT : Tl false w) (hs : Sl w w.heap.size a 57 c f) : Calls Tryd.prog 6 #[.slice a 57 c] w fun e w' => e = .returned (.bool true) ∧ Below w.heap.size w w' := by
  obtain ⟨z, hz, hf, hl, hb0, hb1⟩ := clamp_num f 57 (by omega)
  have HL := Lib.hid hl
  have HB0 := Lib.hid hb0
  have HB1 := Lib.hid hb1
  have HF : Hid (∀ w a c, Sl w w.heap.size a 57 c (clF f) → Sb w w.heap.size a 57 c z) := Lib.hid fun w a c h => ⟨h.congr fun i hi => (hf i hi).symm, hz⟩
  have HS := Lib.hid hs
  clear hs hz hf hl hb0 hb1
  have HT := Lib.hid hT
  clear hT
  have H := Lib.hid (Ow.start w)
  go_enter Tryd.func6, Tryd.ntmps6
  go_wp2_with (first
    | ((with_reducible refine (clamp_ok a 57 c f _ (by omega) HS.out).mono ?_); rintro e wc ⟨a1, c1, rfl, hs, hb⟩; replace HS := Lib.hid (HS.out.call (Nat.le_refl _) hb); replace H := Lib.hid (H.out.call hb); have S1 := Lib.hid hs; clear hs hb)
    | ((with_reducible refine (r6clamp_57 a c f _ HS.out).mono ?_); rintro e wc ⟨a2, c2, rfl, hs, hb⟩; replace S1 := Lib.hid (S1.out.call (Nat.le_refl _) hb); replace H := Lib.hid (H.out.call hb); have S2 := Lib.hid hs; clear hs hb)
    | ((with_reducible refine (same_sl a1 a2 57 c1 c2 (clF f) (clF f) _ (by omega) S1.out S2.out (fun _ _ => rfl)).mono ?_); rintro e wc ⟨rfl, hb⟩; replace S1 := Lib.hid (S1.out.call (Nat.le_refl _) hb); replace H := Lib.hid (H.out.call hb); clear hb)
    | ((with_reducible refine (refLen_any a1 57 c1 z _ (by omega) (HF.out _ _ _ S1.out)).mono ?_); rintro e wc ⟨rfl, rfl⟩; rw [HL.out])
    | ((with_reducible refine (refBit_any a1 57 c1 z 0 _ (by omega) (by omega) (HF.out _ _ _ S1.out)).mono ?_); rintro e wc ⟨rfl, rfl⟩; rw [HB0.out])
    | ((with_reducible refine (refBit_any a1 57 c1 z 1 _ (by omega) (by omega) (HF.out _ _ _ S1.out)).mono ?_); rintro e wc ⟨rfl, rfl⟩; rw [HB1.out])
    | ((with_reducible refine (awake6 _ (HT.out.below H.out.bel)).mono ?_); rintro e wc ⟨rfl, hb⟩; replace H := Lib.hid (H.out.call hb); clear hb))
  go_ret
  exact ⟨rfl, H.out.bel⟩
theorem clamps_walk (a : Option Addr) (n c : Nat) (f : Nat → BitVec 8) (w : World) (hT : Tl false w) (hs : Sl w w.heap.size a n c f) : Calls Tryd.prog 6 #[.slice a n c] w fun e w' => e = .returned (.bool true) ∧ Below w.heap.size w w' := by
  by_cases h : 100 < n
  · exact clamps_far a n c w hT h
  · by_cases h1 : n = 56
    · subst h1
      exact clamps_56 a c f w hT hs
    · by_cases h2 : n = 57
      · subst h2
        exact clamps_57 a c f w hT hs
      · exact clamps_off a n c w hT (by omega) h1 h2
end Go.Proofs.YtocjncflgbnglaaDoor
