/-
  The walk of NumberShifts.
-/
import Derived.Test.YtmnokjapapheiaaLaSums
import Derived.Test.YtmnokjapapheiaaRfShift
import Derived.Test.YtmnokjapapheiaaNuShift
namespace Go.Proofs.Ytmnokjapapheiaa
open Go.RowKit

theorem shf_bound {x n m : Nat} {z : Int} (hx : x < 2 ^ (64 * n)) (hz : z ≤ 64 * (m : Int)) : shf x z < 2 ^ (64 * (n + m)) := by
  unfold shf
  split
  · refine Nat.lt_of_le_of_lt (Nat.div_le_self _ _) (fits_more hx (by omega))
  · refine Nat.lt_of_lt_of_le (Nat.mul_lt_mul_of_pos_right hx (Nat.two_pow_pos _)) ?_
    rw [← Nat.pow_add]
    exact Nat.pow_le_pow_right (by omega) (by omega)
set_option maxRecDepth 4000 in
set_option maxHeartbeats 4000000 in
theorem shifts_far (a : Option Addr) (n c : Nat) (z : Int) (w : World) (h : 20 < n ∨ (-65536 ≤ z ∧ z < -3000) ∨ (3000 < z ∧ z ≤ 65536)) :
    Calls Try.prog 6 #[.slice a n c, .int .i64 z] w fun e w' => e = .returned (.bool true) ∧ Below w.heap.size w w' := by
  have L := Lib.hid (Lv.start w)
  by_cases hn : n ≤ 20
  · rcases (by omega : (-65536 ≤ z ∧ z < -3000) ∨ (3000 < z ∧ z ≤ 65536)) with ⟨h1, h2⟩ | ⟨h1, h2⟩
    · have d1 : decide (-65536 ≤ z) = true := by simpa using h1
      have d2 : decide (z < -3000) = true := by simpa using h2
      clear h
      go_enter Try.func6, Try.ntmps6
      go_wp2_with (first
        | ((with_reducible refine (few_yes a n c _ hn).mono ?_); rintro e w' ⟨rfl, rfl⟩)
        | ((with_reducible refine (awake_any _).mono ?_); rintro e w1 ⟨rfl, B1⟩; replace L := Lib.hid (L.out.call B1); clear B1))
      go_ret
      exact ⟨rfl, L.out.bel⟩
    · have d1 : decide (-65536 ≤ z) = true := by simp; omega
      have d2 : decide (z < -3000) = false := by simp; omega
      have d3 : decide (3000 < z) = true := by simpa using h1
      have d4 : decide (z ≤ 65536) = true := by simpa using h2
      clear h
      go_enter Try.func6, Try.ntmps6
      go_wp2_with (first
        | ((with_reducible refine (few_yes a n c _ hn).mono ?_); rintro e w' ⟨rfl, rfl⟩)
        | ((with_reducible refine (awake_any _).mono ?_); rintro e w1 ⟨rfl, B1⟩; replace L := Lib.hid (L.out.call B1); clear B1))
      go_ret
      exact ⟨rfl, L.out.bel⟩
  · clear h
    go_enter Try.func6, Try.ntmps6
    go_wp2_with (first
      | ((with_reducible refine (few_no a n c _ hn).mono ?_); rintro e w' ⟨rfl, rfl⟩)
      | ((with_reducible refine (awake_any _).mono ?_); rintro e w1 ⟨rfl, B1⟩; replace L := Lib.hid (L.out.call B1); clear B1))
    go_ret
    exact ⟨rfl, L.out.bel⟩
set_option maxRecDepth 4000 in
set_option maxHeartbeats 4000000 in
theorem shifts_wrong (a : Option Addr) (n c : Nat) (z : Int) (w : World) (hn : n ≤ 20) (h : z < -65536 ∨ 65536 < z) :
    Calls Try.prog 6 #[.slice a n c, .int .i64 z] w fun e w' => e = .returned (.bool true) ∧ Below w.heap.size w w' := by
  have L := Lib.hid (Lv.start w)
  have Hz := Lib.hid h
  rcases h with h | h
  · have d1 : decide (-65536 ≤ z) = false := by simp; omega
    have d3 : decide (3000 < z) = false := by simp; omega
    have d5 : decide (z < -65536) = true := by simpa using h
    go_enter Try.func6, Try.ntmps6
    go_wp2_with (first
      | ((with_reducible refine (few_yes a n c _ hn).mono ?_); rintro e w' ⟨rfl, rfl⟩)
      | ((with_reducible refine (shift_bad a n c z _ Hz.out).mono ?_); rintro e w' ⟨rfl, rfl⟩)
      | ((with_reducible refine (awake_any _).mono ?_); rintro e w1 ⟨rfl, B1⟩; replace L := Lib.hid (L.out.call B1); clear B1))
    go_ret
    exact ⟨rfl, L.out.bel⟩
  · have d1 : decide (-65536 ≤ z) = true := by simp; omega
    have d2 : decide (z < -3000) = false := by simp; omega
    have d3 : decide (3000 < z) = true := by simp; omega
    have d4 : decide (z ≤ 65536) = false := by simp; omega
    have d5 : decide (z < -65536) = false := by simp; omega
    have d6 : decide (65536 < z) = true := by simpa using h
    go_enter Try.func6, Try.ntmps6
    go_wp2_with (first
      | ((with_reducible refine (few_yes a n c _ hn).mono ?_); rintro e w' ⟨rfl, rfl⟩)
      | ((with_reducible refine (shift_bad a n c z _ Hz.out).mono ?_); rintro e w' ⟨rfl, rfl⟩)
      | ((with_reducible refine (awake_any _).mono ?_); rintro e w1 ⟨rfl, B1⟩; replace L := Lib.hid (L.out.call B1); clear B1))
    go_ret
    exact ⟨rfl, L.out.bel⟩
set_option maxRecDepth 4000 in
set_option maxHeartbeats 4000000 in
theorem shifts_near (a : Option Addr) (n c x : Nat) (z : Int) (w : World) (Hn : n ≤ 20) (h1 : -3000 ≤ z) (h2 : z ≤ 3000) (h : Sw w w.heap.size a n c x) :
    Calls Try.prog 6 #[.slice a n c, .int .i64 z] w fun e w' => e = .returned (.bool true) ∧ Below w.heap.size w w' := by
  have L := Lib.hid ((Lv.start w).addW h)
  obtain ⟨N, hN⟩ : ∃ N, N = 20 := ⟨_, rfl⟩
  have hx : x < 2 ^ (64 * N) := fits_more h.fits (by omega)
  have Kx : Hid (dl 8 x ≤ 1000) := Lib.hid (dl8_le hx (by omega))
  obtain ⟨s, hs⟩ : ∃ s, shf x z = s := ⟨_, rfl⟩
  obtain ⟨M, hM⟩ : ∃ M, M = 47 := ⟨_, rfl⟩
  have fs : s < 2 ^ (64 * (N + M)) := by rw [← hs]; exact shf_bound hx (by omega)
  have Es := Lib.hid hs
  have Ks : Hid (dl 64 s ≤ 10000) := Lib.hid (Nat.le_trans ((dl_le 64 s _ (by omega)).2 fs) (by omega))
  have Ks8 : Hid (dl 8 s ≤ 100000) := Lib.hid (dl8_le fs (by omega))
  have d1 : decide (-65536 ≤ z) = true := by simp; omega
  have d2 : decide (z < -3000) = false := by simp; omega
  have d3 : decide (3000 < z) = false := by simp; omega
  have d5 : decide (z < -65536) = false := by simp; omega
  have d6 : decide (65536 < z) = false := by simp; omega
  clear h hx hs fs hN hM
  go_enter Try.func6, Try.ntmps6
  go_wp2_with (first
    | ((with_reducible refine (few_yes a n c _ Hn).mono ?_); rintro e w' ⟨rfl, rfl⟩)
    | ((with_reducible refine (shift_any a n c x z _ (by omega) (by omega) (by omega) (L.out.gw 0 rfl)).mono ?_); rintro e w1 ⟨v, rfl, hv⟩; rw [Es.out] at hv; obtain ⟨a1, rfl, S1, B1⟩ := hv.open; replace L := Lib.hid ((L.out.call B1).addW S1); clear hv S1 B1)
    | ((with_reducible refine (refBytes_any a n c x _ (by omega) (L.out.gw 1 rfl)).mono ?_); rintro e w2 ⟨v, rfl, hv⟩; obtain ⟨a2, c2, rfl, S2, B2⟩ := hv; replace L := Lib.hid ((L.out.call B2).addB S2); clear S2 B2)
    | ((with_reducible refine (refShift_any a2 (dl 8 x) c2 x z _ Kx.out (by omega) (by omega) (L.out.gb 0 rfl)).mono ?_); rintro e w3 ⟨v, rfl, hv⟩; rw [Es.out] at hv; obtain ⟨a3, c3, rfl, S3, B3⟩ := hv; replace L := Lib.hid ((L.out.call B3).addB S3); clear S3 B3)
    | ((with_reducible refine (is_any a1 (dl 64 s) s a3 (dl 8 s) c3 _ Ks.out Ks8.out (L.out.gw 0 rfl) (L.out.gb 0 rfl)).mono ?_); rintro e w4 ⟨rfl, B4⟩; replace L := Lib.hid (L.out.call B4); clear B4)
    | ((with_reducible refine (awake_any _).mono ?_); rintro e w5 ⟨rfl, B5⟩; replace L := Lib.hid (L.out.call B5); clear B5))
  go_ret
  exact ⟨rfl, L.out.bel⟩
end Go.Proofs.Ytmnokjapapheiaa
