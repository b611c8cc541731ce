/-
  The contracts of the reference's Bit and Len.
-/
import Derived.Test.YtgdfpboccgfadaaRfLeaf
namespace Go.Proofs.Ytgdfpboccgfadaa
open Go.RowKit

theorem half_once (d k : Nat) : d / 2 ^ k / 2 = d / 2 ^ (k + 1) := by
  rw [Nat.div_div_eq_div_mul, ← Nat.pow_succ]
set_option maxRecDepth 8000 in
set_option maxHeartbeats 1000000 in
theorem refBit_any (a : Option Addr) (n c x : Nat) (i : Int) (w : World) (hn : n ≤ 1000000) (hi : i ≤ 9223372036854775807) {B : Nat} (h : Sb w B a n c x) :
    Calls Try.prog 31 #[.slice a n c, .int .i64 i] w fun e w' => e = .returned (.int .i64 (bitI x i)) ∧ w' = w := by
  by_cases h0 : i < 0
  · have He : Hid (bitI x i = 0) := Lib.hid (by simp [bitI, h0])
    have hd : decide (i < 0) = true := by simpa using h0
    clear h
    go_enter Try.func31, Try.ntmps31
    go_wp2
    go_ret
    exact ⟨by rw [He.out]; rfl, rfl⟩
  · obtain ⟨j, rfl⟩ := Int.eq_ofNat_of_zero_le (by omega : 0 ≤ i)
    have hd : decide ((j : Int) < 0) = false := by simp
    have He : Hid (bitI x (j : Int) = ((dg x (j / 8) / 2 ^ (j % 8) % 2 : Nat) : Int)) := Lib.hid (by
      unfold bitI
      rw [if_neg h0, dg_bit]
      rfl)
    obtain ⟨q, hq⟩ : ∃ q, j / 8 = q := ⟨_, rfl⟩
    obtain ⟨s, hs⟩ : ∃ s, j % 8 = s := ⟨_, rfl⟩
    have e1 : (j : Int) / 8 = (q : Int) := by omega
    have e2 : (j : Int) % 8 = (s : Int) := by omega
    have e3 : (j : Int).tmod 8 = (s : Int) := by rw [Int.tmod_eq_emod_of_nonneg (by omega)]; exact e2
    rw [hq, hs] at He
    have H := Lib.hid h
    have hq2 : q ≤ 9223372036854775807 := by omega
    have hs8 : s < 8 := by omega
    have hs8' : (s : Int) < 8 := by omega
    have hdl := dg_lt x q
    have Hat : Hid (∀ w', Sb w' B a n c x → Calls Try.prog 45 #[.slice a n c, .int .i64 q] w' fun e w'' => e = .returned (.int .i64 ((dg x q : Nat) : Int)) ∧ w'' = w') := Lib.hid fun w' hw => at_any a n c x q w' (by omega) (by omega) hw
    clear h hq hs h0
    generalize dg x q = d at *
    go_enter Try.func31, Try.ntmps31
    go_wp2_with ((with_reducible refine (Hat.out _ H.out).mono ?_); rintro e w' ⟨rfl, rfl⟩)
    go_loop [5, 6] (fun v5 v6 => ∃ k : Nat, k ≤ s ∧ v6 = .int .i64 k ∧ v5 = .int .i64 ((d / 2 ^ k : Nat) : Int)) (fun _ v6 => s - (intOf v6).toNat)
    case atStart => exact ⟨0, by omega, rfl, by rw [Nat.pow_zero, Nat.div_one]⟩
    case round =>
      obtain ⟨k, hk, rfl, rfl⟩ := hrel
      have hlt : d / 2 ^ k ≤ d := Nat.div_le_self _ _
      have hh := half_once d k
      obtain ⟨u, hu⟩ : ∃ u, d / 2 ^ k = u := ⟨_, rfl⟩
      rw [hu] at hlt hh ⊢
      have Hu := Lib.hid hu
      have Hh := Lib.hid hh
      clear hu hh
      have u6 : (u : Int) ≤ 256 := by omega
      by_cases hks : k < s
      · have hid : decide ((k : Int) < (s : Int)) = true := by simp; omega
        go_wp2_with fail
        go_round
        case rel => exact ⟨k + 1, by omega, by go_num, by rw [← Hh.out]; congr 1⟩
        case measure => (simp [intOf] <;> omega)
      · obtain rfl : k = s := by omega
        have hid : decide ((k : Int) < (k : Int)) = false := by simp
        have e4 : (u : Int).tmod 2 = ((u % 2 : Nat) : Int) := by rw [Int.tmod_eq_emod_of_nonneg (by omega)]; omega
        go_wp2_with fail
        go_ret
        exact ⟨by rw [He.out, Hu.out]; exact congrArg (fun n => Ending.returned (.int .i64 n)) (by omega), rfl⟩
set_option maxRecDepth 8000 in
set_option maxHeartbeats 1000000 in
theorem refLen_any (a : Option Addr) (n c x : Nat) (w : World) (hn : n ≤ 1000000) {B : Nat} (h : Sb w B a n c x) :
    Calls Try.prog 46 #[.slice a n c] w fun e w' => e = .returned (.int .i64 ((bl x : Nat) : Int)) ∧ w' = w := by
  have H := Lib.hid h
  have Hx := Lib.hid h.fits
  have hn' : (n : Int) ≤ 1000000 := by omega
  clear h
  go_enter Try.func46, Try.ntmps46
  go_wp2_with fail
  go_loop [3] (fun v => ∃ k : Nat, k ≤ 8 * n ∧ v = .int .i64 k ∧ x < 2 ^ k) (fun v => (intOf v).toNat)
  case atStart => exact ⟨8 * n, Nat.le_refl _, by go_num, Hx.out⟩
  case round =>
    clear Hx
    obtain ⟨k, hk, rfl, hx⟩ := hrel
    have done : (k = 0 ∨ 2 ^ (k - 1) ≤ x) → bl x = k := fun h => bl_eq hx h
    rcases Nat.eq_zero_or_pos k with h0 | h0
    · subst h0
      have He := Lib.hid (done (.inl rfl))
      have d0 : decide ((0 : Int) < 0) = false := by simp
      clear done hx hk
      go_wp2_with fail
      go_ret
      exact ⟨by rw [He.out]; rfl, rfl⟩
    · obtain ⟨j, rfl⟩ : ∃ j, k = j + 1 := ⟨k - 1, by omega⟩
      have hj1 : ((j + 1 : Nat) : Int) = (j : Int) + 1 := by omega
      have d0 : decide ((0 : Int) < (j : Int) + 1) = true := by simp
      have hb : bitI x (j : Int) = ((x / 2 ^ j % 2 : Nat) : Int) := by unfold bitI; rw [if_neg (by omega)]; rfl
      by_cases hz : x / 2 ^ j % 2 = 0
      · have Hb : Hid (bitI x (j : Int) = 0) := Lib.hid (by rw [hb, hz]; rfl)
        have Hs := Lib.hid ((bit_top hx).1 hz)
        clear done hz hx hb
        go_wp2_with ((with_reducible refine (refBit_any a n c x (j : Int) _ (by omega) (by omega) H.out).mono ?_); rintro e w' ⟨rfl, rfl⟩; rw [Hb.out])
        go_round
        case rel => exact ⟨j, by omega, by go_num, Hs.out⟩
        case measure => simp [intOf]
      · have Hb : Hid (bitI x (j : Int) = 1) := Lib.hid (by rw [hb, show x / 2 ^ j % 2 = 1 by omega]; rfl)
        have He := Lib.hid (done (.inr (by
          rcases Nat.lt_or_ge x (2 ^ j) with h1 | h1
          · exact absurd ((bit_top hx).2 h1) hz
          · exact h1)))
        clear done hz hx hb
        go_wp2_with ((with_reducible refine (refBit_any a n c x (j : Int) _ (by omega) (by omega) H.out).mono ?_); rintro e w' ⟨rfl, rfl⟩; rw [Hb.out])
        go_ret
        exact ⟨by rw [He.out]; rfl, rfl⟩
end Go.Proofs.Ytgdfpboccgfadaa
