/-
  The contracts of number.Compare, Bit and Len.
-/
import Derived.Test.YtgdfpboccgfadaaBuN
import Derived.WalkLawsBesides
namespace Go.Proofs.Ytgdfpboccgfadaa
open Go.RowKit

theorem L_ltT {a b : BitVec 64} (h : a.toNat < b.toNat) : decide (L a < L b) = true := by
  unfold L; simp; omega
theorem L_ltF {a b : BitVec 64} (h : ¬ a.toNat < b.toNat) : decide (L a < L b) = false := by
  unfold L; simp; omega
set_option maxRecDepth 8000 in
set_option maxHeartbeats 1000000 in
theorem compare_any (a : Option Addr) (n c x : Nat) (a' : Option Addr) (m c' y : Nat) (w : World) (hn : n ≤ 1000000) (hm : m ≤ 1000000) {B B' : Nat} (h : Sw w B a n c x) (h' : Sw w B' a' m c' y) :
    Calls Try.prog 41 #[.slice a n c, .slice a' m c'] w fun e w' => e = .returned (.int .i64 (cmp x y)) ∧ w' = w := by
  obtain ⟨k, hk⟩ : ∃ k, k = max n m := ⟨_, rfl⟩
  have hx : x < 2 ^ (64 * k) := Nat.lt_of_lt_of_le h.fits (Nat.pow_le_pow_right (by omega) (by omega))
  have hy : y < 2 ^ (64 * k) := Nat.lt_of_lt_of_le h'.fits (Nat.pow_le_pow_right (by omega) (by omega))
  have H0 : Hid (x / 2 ^ (64 * k) = y / 2 ^ (64 * k)) := Lib.hid (by rw [Nat.div_eq_of_lt hx, Nat.div_eq_of_lt hy])
  have hk6 : k ≤ 1000000 := by omega
  have hmx : max (n : Int) (m : Int) = (k : Int) := by omega
  have H := Lib.hid h
  have H' := Lib.hid h'
  clear h h' hx hy hk
  go_enter Try.func41, Try.ntmps41
  go_wp2_with fail
  clear hmx
  go_loop [5] (fun v => ∃ j : Nat, j ≤ k ∧ v = .int .i64 ((j : Int) - 1) ∧ x / 2 ^ (64 * j) = y / 2 ^ (64 * j)) (fun v => (intOf v + 1).toNat)
  case atStart => exact ⟨k, Nat.le_refl _, rfl, H0.out⟩
  case round =>
    clear H0
    obtain ⟨j, hj, rfl, hq⟩ := hrel
    rcases Nat.eq_zero_or_pos j with h0 | h0
    · subst h0
      obtain rfl : x = y := by simpa using hq
      clear hq
      have He := Lib.hid (cmp_eq x)
      go_wp2_with fail
      go_ret
      exact ⟨by rw [He.out]; rfl, rfl⟩
    · obtain ⟨i, rfl⟩ : ∃ i, j = i + 1 := ⟨j - 1, by omega⟩
      have e : (((i + 1 : Nat) : Int) - 1) = (i : Int) := by omega
      rw [e]
      have hi0 : (0 : Int) ≤ (i : Int) := by omega
      clear e h0
      rcases Nat.lt_trichotomy (wd x i).toNat (wd y i).toNat with hd | hd | hd
      · have He := Lib.hid (cmp_lt (cmp_step_lt hq hd))
        have t1 := L_ltT hd
        clear hq hd
        go_wp2_with (first | ((with_reducible refine (word_any a n c x i _ (by omega) (by omega) H.out).mono ?_); rintro e w' ⟨rfl, rfl⟩) | ((with_reducible refine (word_any a' m c' y i _ (by omega) (by omega) H'.out).mono ?_); rintro e w' ⟨rfl, rfl⟩))
        go_ret
        exact ⟨by rw [He.out]; rfl, rfl⟩
      · have Hq := Lib.hid (cmp_step_eq hq hd)
        have t1 : decide (L (wd x i) < L (wd y i)) = false := L_ltF (by omega)
        have t2 : decide (L (wd y i) < L (wd x i)) = false := L_ltF (by omega)
        clear hq hd
        go_wp2_with (first | ((with_reducible refine (word_any a n c x i _ (by omega) (by omega) H.out).mono ?_); rintro e w' ⟨rfl, rfl⟩) | ((with_reducible refine (word_any a' m c' y i _ (by omega) (by omega) H'.out).mono ?_); rintro e w' ⟨rfl, rfl⟩))
        go_round
        case rel => exact ⟨i, by omega, rfl, Hq.out⟩
        case measure => (simp [intOf] <;> omega)
      · have He := Lib.hid (cmp_gt (cmp_step_lt hq.symm hd))
        have t1 : decide (L (wd x i) < L (wd y i)) = false := L_ltF (by omega)
        have t2 : decide (L (wd y i) < L (wd x i)) = true := L_ltT hd
        clear hq hd
        go_wp2_with (first | ((with_reducible refine (word_any a n c x i _ (by omega) (by omega) H.out).mono ?_); rintro e w' ⟨rfl, rfl⟩) | ((with_reducible refine (word_any a' m c' y i _ (by omega) (by omega) H'.out).mono ?_); rintro e w' ⟨rfl, rfl⟩))
        go_ret
        exact ⟨by rw [He.out]; rfl, rfl⟩
end Go.Proofs.Ytgdfpboccgfadaa
