/-
  The contract of number.trim.
-/
import Derived.Test.YtgdfpboccgfadaaNuLeaf
namespace Go.Proofs.Ytgdfpboccgfadaa
open Go.RowKit

theorem L_zero : L 0 = 0 := rfl
theorem L_eq0 (a : BitVec 64) (h : a = 0) : (L a == 0) = true := by subst h; rfl
theorem L_ne0 (a : BitVec 64) (h : a ≠ 0) : (L a == 0) = false := by
  rw [beq_eq_false_iff_ne]
  intro e
  exact h (L_inj.1 (e.trans L_zero.symm))
/-- What holds at trim's label. -/
def TrimAt (a : Option Addr) (n c x k : Nat) (act : Act) : Prop := k ≤ n ∧ x < 2 ^ (64 * k) ∧ ∃ u4 u5 u6 u7 u8 u9 u10 u11 u12 u13 u14 u15 u16 u17 u18 u19 u20 u21 : Value,
  act = { tmps := #[.slice a n c, undef, .slice none 0 0, .int .i64 (k : Int), u4, u5, u6, u7, u8, u9, u10, u11, u12, u13, u14, u15, u16, u17, u18, u19, u20, u21], defers := [] }
set_option maxRecDepth 100000 in
set_option maxHeartbeats 1000000 in
theorem trim_any (a : Option Addr) (n c x : Nat) (w : World) (hn : n ≤ 1000000) {B : Nat} (h : Sw w B a n c x) :
    Calls Try.prog 38 #[.slice a n c] w fun e w' => e = .returned (.slice a (dl 64 x) (dl 64 x)) ∧ w' = w := by
  have hle := h.le
  go_enter Try.func38, Try.ntmps38
  go_wp2
  refine wp_scope_jumps 0 (fun a' w' => w' = w ∧ ∃ k, TrimAt a n c x k a') (fun a' _ => (intOf (a'.tmps.getD 3 undef)).toNat) rfl ?_ ?_
  · have step : x < 2 ^ (64 * n) := h.fits
    have H := Lib.hid h
    clear h
    rcases Nat.eq_zero_or_pos n with h0 | h0
    · subst h0
      have e : dl 64 x = 0 := Nat.le_zero.1 ((dl_le 64 x 0 (by omega)).2 step)
      have He := Lib.hid e
      clear e step
      go_wp2
      go_step3
      go_wp2
      simp only [Exit.jump]
      go_ret
      exact ⟨by rw [He.out]; rfl, rfl⟩
    · obtain ⟨j, rfl⟩ : ∃ j, n = j + 1 := ⟨n - 1, by omega⟩
      obtain ⟨b, o, rfl, _, hc⟩ := H.out.get j (by omega)
      have hj : (j : Int) < (j : Int) + 1 := by omega
      by_cases hz : wd x j = 0
      · have hL := L_eq0 _ hz
        have hs := (wd_top step).1 hz
        have Hs := Lib.hid hs
        clear hs hz step
        go_wp2
        go_step3
        go_wp2
        go_step3
        exact ⟨rfl, rfl, j, by omega, Hs.out, _, _, _, _, _, _, _, _, _, _, _, _, _, _, _, _, _, _, rfl⟩
      · have hL := L_ne0 _ hz
        have e : dl 64 x = j + 1 := dl_eq (by omega) step (.inr (by
          rcases Nat.lt_or_ge x (2 ^ (64 * j)) with h1 | h1
          · exact absurd ((wd_top step).2 h1) hz
          · exact h1))
        have He := Lib.hid e
        clear e step hz
        go_wp2
        go_step3
        go_wp2
        simp only [Exit.jump]
        go_ret
        exact ⟨by rw [He.out]; rfl, rfl⟩
  · rintro a' w' ⟨rfl, k, hk, hx, u4, u5, u6, u7, u8, u9, u10, u11, u12, u13, u14, u15, u16, u17, u18, u19, u20, u21, rfl⟩
    have step : x < 2 ^ (64 * k) := hx
    have H := Lib.hid h
    clear h
    rcases Nat.eq_zero_or_pos k with h0 | h0
    · subst h0
      have e : dl 64 x = 0 := Nat.le_zero.1 ((dl_le 64 x 0 (by omega)).2 step)
      have He := Lib.hid e
      clear e step hx
      go_wp2
      simp only [Exit.jump]
      go_ret
      exact ⟨by rw [He.out]; rfl, rfl⟩
    · obtain ⟨j, rfl⟩ : ∃ j, k = j + 1 := ⟨k - 1, by omega⟩
      obtain ⟨b, o, rfl, _, hc⟩ := H.out.get j (by omega)
      have hj : (j : Int) < (n : Int) := by omega
      by_cases hz : wd x j = 0
      · have hL := L_eq0 _ hz
        have hs := (wd_top step).1 hz
        have Hs := Lib.hid hs
        clear hs hz step hx
        go_wp2
        go_step3
        refine ⟨rfl, ⟨rfl, j, by omega, Hs.out, _, _, _, _, _, _, _, _, _, _, _, _, _, _, _, _, _, _, rfl⟩, ?_⟩
        simp [intOf]
      · have hL := L_ne0 _ hz
        have e : dl 64 x = j + 1 := dl_eq (by omega) step (.inr (by
          rcases Nat.lt_or_ge x (2 ^ (64 * j)) with h1 | h1
          · exact absurd ((wd_top step).2 h1) hz
          · exact h1))
        have He := Lib.hid e
        clear e step hz hx
        go_wp2
        simp only [Exit.jump]
        go_ret
        exact ⟨by rw [He.out]; rfl, rfl⟩
end Go.Proofs.Ytgdfpboccgfadaa
