/-
  The walk of NumberDivides.
-/
import Derived.Test.YtmnokjapapheiaaLaSums
import Derived.Test.YtmnokjapapheiaaRfDiv
import Derived.Test.YtmnokjapapheiaaNuDiv
namespace Go.Proofs.Ytmnokjapapheiaa
open Go.RowKit

set_option maxRecDepth 4000 in
set_option maxHeartbeats 4000000 in
theorem divides_far (a : Option Addr) (n c : Nat) (a' : Option Addr) (m c' : Nat) (w : World) (h : 20 < n ∨ 20 < m) :
    Calls Try.prog 7 #[.slice a n c, .slice a' m c'] w fun e w' => e = .returned (.bool true) ∧ Below w.heap.size w w' := by
  have L := Lib.hid (Lv.start w)
  by_cases hn : n ≤ 20
  · have hm : ¬ m ≤ 20 := by omega
    clear h
    go_enter Try.func7, Try.ntmps7
    go_wp2_with (first
      | ((with_reducible refine (few_yes a n c _ hn).mono ?_); rintro e w' ⟨rfl, rfl⟩)
      | ((with_reducible refine (few_no a' m c' _ hm).mono ?_); rintro e w' ⟨rfl, rfl⟩)
      | ((with_reducible refine (awake_any _).mono ?_); rintro e w1 ⟨rfl, B1⟩; replace L := Lib.hid (L.out.call B1); clear B1))
    go_ret
    exact ⟨rfl, L.out.bel⟩
  · clear h
    go_enter Try.func7, Try.ntmps7
    go_wp2_with (first
      | ((with_reducible refine (few_no a n c _ hn).mono ?_); rintro e w' ⟨rfl, rfl⟩)
      | ((with_reducible refine (awake_any _).mono ?_); rintro e w1 ⟨rfl, B1⟩; replace L := Lib.hid (L.out.call B1); clear B1))
    go_ret
    exact ⟨rfl, L.out.bel⟩
set_option maxRecDepth 4000 in
set_option maxHeartbeats 4000000 in
theorem divides_zero (a : Option Addr) (n c x : Nat) (a' : Option Addr) (m c' : Nat) (w : World) (Hn : n ≤ 20) (Hm : m ≤ 20) (h : Sw w w.heap.size a n c x) (h' : Sw w w.heap.size a' m c' 0) :
    Calls Try.prog 7 #[.slice a n c, .slice a' m c'] w fun e w' => e = .returned (.bool true) ∧ Below w.heap.size w w' := by
  have L := Lib.hid (((Lv.start w).addW h).addW h')
  have E0 : Hid (dl 8 0 = 0) := Lib.hid (dl_zero 8 (by omega))
  clear h h'
  go_enter Try.func7, Try.ntmps7
  go_wp2_with (first
    | ((with_reducible refine (few_yes a n c _ Hn).mono ?_); rintro e w' ⟨rfl, rfl⟩)
    | ((with_reducible refine (few_yes a' m c' _ Hm).mono ?_); rintro e w' ⟨rfl, rfl⟩)
    | ((with_reducible refine (div_zero a n c x a' m c' _ (by omega) (by omega) (L.out.gw 1 rfl) (L.out.gw 0 rfl)).mono ?_); rintro e w' ⟨rfl, rfl⟩)
    | ((with_reducible refine (refBytes_any a' m c' 0 _ (by omega) (L.out.gw 0 rfl)).mono ?_); rintro e w1 ⟨v, rfl, hv⟩; obtain ⟨a1, c1, rfl, S1, B1⟩ := hv; rw [E0.out] at S1 ⊢; replace L := Lib.hid ((L.out.call B1).addB S1); clear S1 B1)
    | ((with_reducible refine (awake_any _).mono ?_); rintro e w1 ⟨rfl, B1⟩; replace L := Lib.hid (L.out.call B1); clear B1))
  go_ret
  exact ⟨rfl, L.out.bel⟩
set_option maxRecDepth 4000 in
set_option maxHeartbeats 4000000 in
theorem divides_near (a : Option Addr) (n c x : Nat) (a' : Option Addr) (m c' y : Nat) (w : World) (Hn : n ≤ 20) (Hm : m ≤ 20) (h : Sw w w.heap.size a n c x) (h' : Sw w w.heap.size a' m c' y) (hy0 : 0 < y) :
    Calls Try.prog 7 #[.slice a n c, .slice a' m c'] w fun e w' => e = .returned (.bool true) ∧ Below w.heap.size w w' := by
  have L := Lib.hid (((Lv.start w).addW h).addW h')
  obtain ⟨N, hN⟩ : ∃ N, N = 20 := ⟨_, rfl⟩
  have hx : x < 2 ^ (64 * N) := fits_more h.fits (by omega)
  have hy : y < 2 ^ (64 * N) := fits_more h'.fits (by omega)
  have Kx : Hid (dl 8 x ≤ 1000) := Lib.hid (dl8_le hx (by omega))
  have Ky : Hid (dl 8 y ≤ 1000) := Lib.hid (dl8_le hy (by omega))
  have Hy := Lib.hid hy0
  have hl := (dl_pos (b := 8) (x := y) (by omega)).2 hy0
  have hy8 : (((dl 8 y : Nat) : Int) == 0) = false := by simp; omega
  obtain ⟨q, hq⟩ : ∃ q, x / y = q := ⟨_, rfl⟩
  obtain ⟨r, hr⟩ : ∃ r, x % y = r := ⟨_, rfl⟩
  have fq : q < 2 ^ (64 * N) := by rw [← hq]; exact Nat.lt_of_le_of_lt (Nat.div_le_self _ _) hx
  have fr : r < 2 ^ (64 * N) := by rw [← hr]; exact Nat.lt_of_le_of_lt (Nat.mod_le _ _) hx
  have Eq := Lib.hid hq
  have Er := Lib.hid hr
  have Kq : Hid (dl 64 q ≤ 10000) := Lib.hid (Nat.le_trans ((dl_le 64 q _ (by omega)).2 fq) (by omega))
  have Kq8 : Hid (dl 8 q ≤ 100000) := Lib.hid (dl8_le fq (by omega))
  have Kr : Hid (dl 64 r ≤ 10000) := Lib.hid (Nat.le_trans ((dl_le 64 r _ (by omega)).2 fr) (by omega))
  have Kr8 : Hid (dl 8 r ≤ 100000) := Lib.hid (dl8_le fr (by omega))
  have hne : ¬ (dl 8 y = 0) := by omega
  clear h h' hx hy hy0 hl hq hr fq fr hN
  go_enter Try.func7, Try.ntmps7
  go_wp2_with (first
    | ((with_reducible refine (few_yes a n c _ Hn).mono ?_); rintro e w' ⟨rfl, rfl⟩)
    | ((with_reducible refine (few_yes a' m c' _ Hm).mono ?_); rintro e w' ⟨rfl, rfl⟩)
    | ((with_reducible refine (div_any a n c x a' m c' y _ (by omega) (by omega) (L.out.gw 1 rfl) (L.out.gw 0 rfl) Hy.out).mono ?_); rintro e w1 ⟨v, v', rfl, hv, hv'⟩; rw [Eq.out] at hv; rw [Er.out] at hv'; obtain ⟨a1, rfl, S1, B1⟩ := hv.open; obtain ⟨a2, rfl, S2, _⟩ := hv'.open; replace L := Lib.hid (((L.out.call B1).addW S1).addW S2); clear hv hv' S1 S2 B1)
    | ((with_reducible refine (refBytes_any a' m c' y _ (by omega) (L.out.gw 2 rfl)).mono ?_); rintro e w3 ⟨v, rfl, hv⟩; obtain ⟨a3, c3, rfl, S3, B3⟩ := hv; replace L := Lib.hid ((L.out.call B3).addB S3); clear S3 B3)
    | ((with_reducible refine (refBytes_any a n c x _ (by omega) (L.out.gw 3 rfl)).mono ?_); rintro e w4 ⟨v, rfl, hv⟩; obtain ⟨a4, c4, rfl, S4, B4⟩ := hv; replace L := Lib.hid ((L.out.call B4).addB S4); clear S4 B4)
    | ((with_reducible refine (refDiv_any a4 (dl 8 x) c4 x a3 (dl 8 y) c3 y _ Kx.out Ky.out (L.out.gb 0 rfl) (L.out.gb 1 rfl) Hy.out).mono ?_); rintro e w5 ⟨v, v', rfl, hv, hv'⟩; rw [Eq.out] at hv; rw [Er.out] at hv'; obtain ⟨a5, c5, rfl, S5, B5⟩ := hv; obtain ⟨a6, c6, rfl, S6, _⟩ := hv'; replace L := Lib.hid (((L.out.call B5).addB S5).addB S6); clear S5 S6 B5)
    | ((with_reducible refine (is_any a1 (dl 64 q) q a5 (dl 8 q) c5 _ Kq.out Kq8.out (L.out.gw 1 rfl) (L.out.gb 1 rfl)).mono ?_); rintro e w7 ⟨rfl, B7⟩; replace L := Lib.hid (L.out.call B7); clear B7)
    | ((with_reducible refine (is_any a2 (dl 64 r) r a6 (dl 8 r) c6 _ Kr.out Kr8.out (L.out.gw 0 rfl) (L.out.gb 0 rfl)).mono ?_); rintro e w8 ⟨rfl, B8⟩; replace L := Lib.hid (L.out.call B8); clear B8)
    | ((with_reducible refine (awake_any _).mono ?_); rintro e w9 ⟨rfl, B9⟩; replace L := Lib.hid (L.out.call B9); clear B9))
  go_ret
  exact ⟨rfl, L.out.bel⟩
end Go.Proofs.Ytmnokjapapheiaa
