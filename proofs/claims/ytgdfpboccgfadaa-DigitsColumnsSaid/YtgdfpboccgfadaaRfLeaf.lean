/-
  The contracts of the reference's at and Cut.
-/
import Derived.Test.YtgdfpboccgfadaaRfMath
import Derived.BigQuiet
namespace Go.Proofs.Ytgdfpboccgfadaa
open Go.RowKit

theorem at_any (a : Option Addr) (n c x i : Nat) (w : World) (_hi : i ≤ 9223372036854775807) (_hn : n ≤ 1000000) {B : Nat} (h : Sb w B a n c x) :
    Calls Try.prog 45 #[.slice a n c, .int .i64 i] w fun e w' => e = .returned (.int .i64 ((dg x i : Nat) : Int)) ∧ w' = w := by
  by_cases hlt : i < n
  · obtain ⟨b, o, rfl, _, hc⟩ := h.sl.get i hlt
    have hid : decide ((n : Int) ≤ (i : Int)) = false := by simp; omega
    have hlt' : (i : Int) < (n : Int) := by omega
    have hb := U8_bd (bt x i)
    obtain ⟨hb0, hb1⟩ := hb
    have E := Lib.hid (U8_bt x i)
    clear h
    go_enter Try.func45, Try.ntmps45
    go_wp2
    go_ret
    exact ⟨congrArg (fun n => Ending.returned (.int .i64 n)) E.out, rfl⟩
  · have hid : decide ((n : Int) ≤ (i : Int)) = true := by simp; omega
    have hz : dg x i = 0 := dg_over h.fits (by omega)
    rw [hz]
    clear h hz
    go_enter Try.func45, Try.ntmps45
    go_wp2
    go_ret
    exact ⟨rfl, rfl⟩
theorem U8_eq0 (b : BitVec 8) (h : b = 0) : (U8 b == 0) = true := by subst h; rfl
theorem U8_ne0 (b : BitVec 8) (h : b ≠ 0) : (U8 b == 0) = false := by
  rw [beq_eq_false_iff_ne]
  intro e
  have e0 : U8 0 = 0 := rfl
  exact h (U8_inj.1 (e.trans e0.symm))
set_option maxRecDepth 8000 in
set_option maxHeartbeats 1000000 in
theorem cut_any (a : Option Addr) (n c x : Nat) (w : World) (hn : n ≤ 1000000) {B : Nat} (h : Sb w B a n c x) :
    Calls Try.prog 33 #[.slice a n c] w fun e w' => e = .returned (.slice a (dl 8 x) c) ∧ w' = w := by
  have hle := h.sl.le
  have hle' : (n : Int) ≤ (c : Int) := by omega
  have H := Lib.hid h.sl
  have Hx := Lib.hid h.fits
  clear h
  go_enter Try.func33, Try.ntmps33
  go_wp2_with fail
  go_loop [3] (fun v => ∃ k : Nat, k ≤ n ∧ v = .int .i64 k ∧ x < 2 ^ (8 * k)) (fun v => (intOf v).toNat)
  case atStart => exact ⟨n, Nat.le_refl _, rfl, Hx.out⟩
  case round =>
    clear Hx
    obtain ⟨k, hk, rfl, hx⟩ := hrel
    have done : (k = 0 ∨ 2 ^ (8 * (k - 1)) ≤ x) → dl 8 x = k := fun h => dl_eq (by omega) hx h
    rcases Nat.eq_zero_or_pos k with h0 | h0
    · subst h0
      have He := Lib.hid (done (.inl rfl))
      have d0 : decide ((0 : Int) < 0) = false := by simp
      clear done hx hk
      go_wp2_with fail
      go_ret
      exact ⟨by rw [He.out]; rfl, rfl⟩
    · obtain ⟨j, rfl⟩ : ∃ j, k = j + 1 := ⟨k - 1, by omega⟩
      obtain ⟨b, o, rfl, _, hc⟩ := H.out.get j (by omega)
      have hj : (j : Int) < (n : Int) := by omega
      have hj1 : ((j + 1 : Nat) : Int) = (j : Int) + 1 := by omega
      have hj2 : (j : Int) + 1 ≤ (c : Int) := by omega
      have d0 : decide ((0 : Int) < (j : Int) + 1) = true := by simp
      by_cases hz : bt x j = 0
      · have hL := U8_eq0 _ hz
        have Hs := Lib.hid ((bt_top hx).1 hz)
        clear done hz hx
        go_wp2_with fail
        go_round
        case rel => exact ⟨j, by omega, by go_num, Hs.out⟩
        case measure => simp [intOf]
      · have hL := U8_ne0 _ hz
        have He := Lib.hid (done (.inr (by
          rcases Nat.lt_or_ge x (2 ^ (8 * j)) with h1 | h1
          · exact absurd ((bt_top hx).2 h1) hz
          · exact h1)))
        clear done hz hx
        go_wp2_with fail
        go_ret
        exact ⟨by rw [He.out]; rfl, rfl⟩
end Go.Proofs.Ytgdfpboccgfadaa
