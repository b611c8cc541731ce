/-
  The contracts of the reference's Compare, Bit and Len.
-/
import Derived.Test.YtmnokjapapheiaaRfLeaf
import Derived.WalkLawsBesides
import Derived.Lib.MinMax
namespace Go.Proofs.Ytmnokjapapheiaa
open Go.RowKit

set_option maxHeartbeats 1000000 in
theorem refCompare_any (a : Option Addr) (n c x : Nat) (a' : Option Addr) (m c' y : Nat) (w : World) (hn : n ≤ 1000000) (hm : m ≤ 1000000) {B B' : Nat} (h : Sb w B a n c x) (h' : Sb w B' a' m c' y) :
    Calls Try.prog 20 #[.slice a n c, .slice a' m c'] w fun e w' => e = .returned (.int .i64 (cmp x y)) ∧ w' = w := by
  obtain ⟨k, hk⟩ : ∃ k, k = max n m := ⟨_, rfl⟩
  have hx : x < 2 ^ (8 * k) := fits_more h.fits (by omega)
  have hy : y < 2 ^ (8 * k) := fits_more h'.fits (by omega)
  have H0 : Hid (x / 2 ^ (8 * k) = y / 2 ^ (8 * k)) := Lib.hid (by rw [Nat.div_eq_of_lt hx, Nat.div_eq_of_lt hy])
  have hk6 : k ≤ 1000000 := by omega
  have hmx : max (n : Int) (m : Int) = (k : Int) := by omega
  have H := Lib.hid h
  have H' := Lib.hid h'
  clear h h' hx hy hk
  go_enter Try.func20, Try.ntmps20
  go_wp2_with fail
  clear hmx
  go_loop [5] (fun v => ∃ j : Nat, j ≤ k ∧ v = .int .i64 ((j : Int) - 1) ∧ x / 2 ^ (8 * j) = y / 2 ^ (8 * j)) (fun v => (intOf v + 1).toNat)
  case atStart => exact ⟨k, Nat.le_refl _, rfl, H0.out⟩
  case round =>
    clear H0
    obtain ⟨j, hj, rfl, hq⟩ := hrel
    rcases Nat.eq_zero_or_pos j with h0 | h0
    · subst h0
      obtain rfl : x = y := by simpa using hq
      clear hq
      have He := Lib.hid (cmp_eq x)
      go_wp2_with fail
      go_ret
      exact ⟨by rw [He.out]; rfl, rfl⟩
    · obtain ⟨i, rfl⟩ : ∃ i, j = i + 1 := ⟨j - 1, by omega⟩
      have e : (((i + 1 : Nat) : Int) - 1) = (i : Int) := by omega
      rw [e]
      have hi0 : (0 : Int) ≤ (i : Int) := by omega
      have bx : (bt x i).toNat = dg x i := bt_nat x i
      have hby : (bt y i).toNat = dg y i := bt_nat y i
      have l1 : dg x i < dg y i → cmp x y = -1 := fun hd => cmp_lt (cmp8_step_lt hq (by rw [bx, hby]; exact hd))
      have l2 : dg y i < dg x i → cmp x y = 1 := fun hd => cmp_gt (cmp8_step_lt hq.symm (by rw [bx, hby]; exact hd))
      have l3 : dg x i = dg y i → x / 2 ^ (8 * i) = y / 2 ^ (8 * i) := fun hd => cmp8_step_eq hq (by rw [bx, hby]; exact hd)
      have dx := dg_lt x i
      have dy := dg_lt y i
      have HA : Hid (∀ w', Sb w' B a n c x → Calls Try.prog 40 #[.slice a n c, .int .i64 i] w' fun e w'' => e = .returned (.int .i64 ((dg x i : Nat) : Int)) ∧ w'' = w') := Lib.hid fun w' hw => at_any a n c x i w' (by omega) (by omega) hw
      have HA' : Hid (∀ w', Sb w' B' a' m c' y → Calls Try.prog 40 #[.slice a' m c', .int .i64 i] w' fun e w'' => e = .returned (.int .i64 ((dg y i : Nat) : Int)) ∧ w'' = w') := Lib.hid fun w' hw => at_any a' m c' y i w' (by omega) (by omega) hw
      clear e h0 hq bx hby
      generalize dg x i = p at *
      generalize dg y i = q at *
      rcases Nat.lt_trichotomy p q with hd | hd | hd
      · have He := Lib.hid (l1 hd)
        have t1 : decide (p < q) = true := by simp; omega
        clear l1 l2 l3 hd
        go_wp2_with (first | ((with_reducible refine (HA.out _ H.out).mono ?_); rintro e w' ⟨rfl, rfl⟩) | ((with_reducible refine (HA'.out _ H'.out).mono ?_); rintro e w' ⟨rfl, rfl⟩))
        go_ret
        exact ⟨by rw [He.out]; rfl, rfl⟩
      · have Hq := Lib.hid (l3 hd)
        have t1 : decide (p < q) = false := by simp; omega
        have t2 : decide (q < p) = false := by simp; omega
        clear l1 l2 l3 hd
        go_wp2_with (first | ((with_reducible refine (HA.out _ H.out).mono ?_); rintro e w' ⟨rfl, rfl⟩) | ((with_reducible refine (HA'.out _ H'.out).mono ?_); rintro e w' ⟨rfl, rfl⟩))
        go_round
        case rel => exact ⟨i, by omega, rfl, Hq.out⟩
        case measure => (simp [intOf] <;> omega)
      · have He := Lib.hid (l2 hd)
        have t1 : decide (p < q) = false := by simp; omega
        have t2 : decide (q < p) = true := by simp; omega
        clear l1 l2 l3 hd
        go_wp2_with (first | ((with_reducible refine (HA.out _ H.out).mono ?_); rintro e w' ⟨rfl, rfl⟩) | ((with_reducible refine (HA'.out _ H'.out).mono ?_); rintro e w' ⟨rfl, rfl⟩))
        go_ret
        exact ⟨by rw [He.out]; rfl, rfl⟩
end Go.Proofs.Ytmnokjapapheiaa
