/-
  The walk of NumberSums.
-/
import Derived.Test.YtmnokjapapheiaaLaCompares
import Derived.Test.YtmnokjapapheiaaRfAdd
import Derived.Test.YtmnokjapapheiaaRfSub
import Derived.Test.YtmnokjapapheiaaRfMul
import Derived.Test.YtmnokjapapheiaaNuAdd
import Derived.Test.YtmnokjapapheiaaNuSub
import Derived.Test.YtmnokjapapheiaaNuMul
namespace Go.Proofs.Ytmnokjapapheiaa
open Go.RowKit

theorem cmp_ge {x y : Nat} (h : y ≤ x) : ∃ z, cmp x y = z ∧ decide (z < 0) = false ∧ -1 ≤ z ∧ z ≤ 1 := by
  refine ⟨_, rfl, ?_, ?_, ?_⟩ <;> (unfold cmp; rw [if_neg (by omega)]; split <;> simp)
theorem prod_fits {x y n m : Nat} (hx : x < 2 ^ (64 * n)) (hy : y < 2 ^ (64 * m)) : x * y < 2 ^ (64 * (n + m)) := by
  rw [Nat.mul_add, Nat.pow_add]
  exact Nat.mul_lt_mul_of_lt_of_lt hx hy
set_option maxRecDepth 4000 in
set_option maxHeartbeats 4000000 in
theorem sums_far (a : Option Addr) (n c : Nat) (a' : Option Addr) (m c' : Nat) (w : World) (h : 20 < n ∨ 20 < m) :
    Calls Try.prog 5 #[.slice a n c, .slice a' m c'] w fun e w' => e = .returned (.bool true) ∧ Below w.heap.size w w' := by
  have L := Lib.hid (Lv.start w)
  by_cases hn : n ≤ 20
  · have hm : ¬ m ≤ 20 := by omega
    clear h
    go_enter Try.func5, Try.ntmps5
    go_wp2_with (first
      | ((with_reducible refine (few_yes a n c _ hn).mono ?_); rintro e w' ⟨rfl, rfl⟩)
      | ((with_reducible refine (few_no a' m c' _ hm).mono ?_); rintro e w' ⟨rfl, rfl⟩)
      | ((with_reducible refine (awake_any _).mono ?_); rintro e w1 ⟨rfl, B1⟩; replace L := Lib.hid (L.out.call B1); clear B1))
    go_ret
    exact ⟨rfl, L.out.bel⟩
  · clear h
    go_enter Try.func5, Try.ntmps5
    go_wp2_with (first
      | ((with_reducible refine (few_no a n c _ hn).mono ?_); rintro e w' ⟨rfl, rfl⟩)
      | ((with_reducible refine (awake_any _).mono ?_); rintro e w1 ⟨rfl, B1⟩; replace L := Lib.hid (L.out.call B1); clear B1))
    go_ret
    exact ⟨rfl, L.out.bel⟩
set_option maxRecDepth 4000 in
set_option maxHeartbeats 4000000 in
theorem sums_lt (a : Option Addr) (n c x : Nat) (a' : Option Addr) (m c' y : Nat) (w : World) (Hn : n ≤ 20) (Hm : m ≤ 20) (h : Sw w w.heap.size a n c x) (h' : Sw w w.heap.size a' m c' y) (hxy : x < y) :
    Calls Try.prog 5 #[.slice a n c, .slice a' m c'] w fun e w' => e = .returned (.bool true) ∧ Below w.heap.size w w' := by
  have L := Lib.hid (((Lv.start w).addW h).addW h')
  obtain ⟨N, hN⟩ : ∃ N, N = 20 := ⟨_, rfl⟩
  have hx : x < 2 ^ (64 * N) := fits_more h.fits (by omega)
  have hy : y < 2 ^ (64 * N) := fits_more h'.fits (by omega)
  have Kx : Hid (dl 8 x ≤ 10000) := Lib.hid (dl8_le hx (by omega))
  have Ky : Hid (dl 8 y ≤ 10000) := Lib.hid (dl8_le hy (by omega))
  obtain ⟨s, hs⟩ : ∃ s, x + y = s := ⟨_, rfl⟩
  obtain ⟨p, hp⟩ : ∃ p, x * y = p := ⟨_, rfl⟩
  have fs : s < 2 ^ (64 * (N + 1)) := by rw [← hs]; exact add_fits hx hy
  have fp : p < 2 ^ (64 * (N + N)) := by rw [← hp]; exact prod_fits hx hy
  have Es := Lib.hid hs
  have Ep := Lib.hid hp
  have Ks : Hid (dl 64 s ≤ 10000) := Lib.hid (Nat.le_trans ((dl_le 64 s _ (by omega)).2 fs) (by omega))
  have Ks8 : Hid (dl 8 s ≤ 100000) := Lib.hid (dl8_le fs (by omega))
  have Kp : Hid (dl 64 p ≤ 10000) := Lib.hid (Nat.le_trans ((dl_le 64 p _ (by omega)).2 fp) (by omega))
  have Kp8 : Hid (dl 8 p ≤ 100000) := Lib.hid (dl8_le fp (by omega))
  have Ec := Lib.hid (cmp_lt hxy)
  have Hxy := Lib.hid hxy
  clear h h' hx hy hs hp fs fp hN hxy
  go_enter Try.func5, Try.ntmps5
  go_wp2_with (first
    | ((with_reducible refine (few_yes a n c _ Hn).mono ?_); rintro e w' ⟨rfl, rfl⟩)
    | ((with_reducible refine (few_yes a' m c' _ Hm).mono ?_); rintro e w' ⟨rfl, rfl⟩)
    | ((with_reducible refine (refBytes_any a n c x _ (by omega) (L.out.gw 1 rfl)).mono ?_); rintro e w1 ⟨v, rfl, hv⟩; obtain ⟨a1, c1, rfl, S1, B1⟩ := hv; replace L := Lib.hid ((L.out.call B1).addB S1); clear S1 B1)
    | ((with_reducible refine (refBytes_any a' m c' y _ (by omega) (L.out.gw 0 rfl)).mono ?_); rintro e w2 ⟨v, rfl, hv⟩; obtain ⟨a2, c2, rfl, S2, B2⟩ := hv; replace L := Lib.hid ((L.out.call B2).addB S2); clear S2 B2)
    | ((with_reducible refine (add_any a n c x a' m c' y _ (by omega) (by omega) (L.out.gw 1 rfl) (L.out.gw 0 rfl)).mono ?_); rintro e w3 ⟨v, rfl, hv⟩; rw [Es.out] at hv; obtain ⟨a3, rfl, S3, B3⟩ := hv.open; replace L := Lib.hid ((L.out.call B3).addW S3); clear hv S3 B3)
    | ((with_reducible refine (refAdd_any a1 (dl 8 x) c1 x a2 (dl 8 y) c2 y _ Kx.out Ky.out (L.out.gb 1 rfl) (L.out.gb 0 rfl)).mono ?_); rintro e w4 ⟨v, rfl, hv⟩; rw [Es.out] at hv; obtain ⟨a4, c4, rfl, S4, B4⟩ := hv; replace L := Lib.hid ((L.out.call B4).addB S4); clear S4 B4)
    | ((with_reducible refine (is_any a3 (dl 64 s) s a4 (dl 8 s) c4 _ Ks.out Ks8.out (L.out.gw 0 rfl) (L.out.gb 0 rfl)).mono ?_); rintro e w5 ⟨rfl, B5⟩; replace L := Lib.hid (L.out.call B5); clear B5)
    | ((with_reducible refine (mul_any a n c x a' m c' y _ (by omega) (by omega) (L.out.gw 2 rfl) (L.out.gw 1 rfl)).mono ?_); rintro e w6 ⟨v, rfl, hv⟩; rw [Ep.out] at hv; obtain ⟨a6, rfl, S6, B6⟩ := hv.open; replace L := Lib.hid ((L.out.call B6).addW S6); clear hv S6 B6)
    | ((with_reducible refine (refMul_any a1 (dl 8 x) c1 x a2 (dl 8 y) c2 y _ Kx.out Ky.out (L.out.gb 2 rfl) (L.out.gb 1 rfl)).mono ?_); rintro e w7 ⟨v, rfl, hv⟩; rw [Ep.out] at hv; obtain ⟨a7, c7, rfl, S7, B7⟩ := hv; replace L := Lib.hid ((L.out.call B7).addB S7); clear S7 B7)
    | ((with_reducible refine (is_any a6 (dl 64 p) p a7 (dl 8 p) c7 _ Kp.out Kp8.out (L.out.gw 0 rfl) (L.out.gb 0 rfl)).mono ?_); rintro e w8 ⟨rfl, B8⟩; replace L := Lib.hid (L.out.call B8); clear B8)
    | ((with_reducible refine (sub_lt a n c x a' m c' y _ (by omega) (by omega) (L.out.gw 3 rfl) (L.out.gw 2 rfl) Hxy.out).mono ?_); rintro e w' ⟨rfl, rfl⟩)
    | ((with_reducible refine (refCompare_any a1 (dl 8 x) c1 x a2 (dl 8 y) c2 y _ (Nat.le_trans Kx.out (by omega)) (Nat.le_trans Ky.out (by omega)) (L.out.gb 3 rfl) (L.out.gb 2 rfl)).mono ?_); rintro e w' ⟨rfl, rfl⟩; rw [Ec.out])
    | ((with_reducible refine (awake_any _).mono ?_); rintro e w9 ⟨rfl, B9⟩; replace L := Lib.hid (L.out.call B9); clear B9))
  go_ret
  exact ⟨rfl, L.out.bel⟩
set_option maxRecDepth 4000 in
set_option maxHeartbeats 4000000 in
theorem sums_ge (a : Option Addr) (n c x : Nat) (a' : Option Addr) (m c' y : Nat) (w : World) (Hn : n ≤ 20) (Hm : m ≤ 20) (h : Sw w w.heap.size a n c x) (h' : Sw w w.heap.size a' m c' y) (hxy : y ≤ x) :
    Calls Try.prog 5 #[.slice a n c, .slice a' m c'] w fun e w' => e = .returned (.bool true) ∧ Below w.heap.size w w' := by
  have L := Lib.hid (((Lv.start w).addW h).addW h')
  obtain ⟨N, hN⟩ : ∃ N, N = 20 := ⟨_, rfl⟩
  have hx : x < 2 ^ (64 * N) := fits_more h.fits (by omega)
  have hy : y < 2 ^ (64 * N) := fits_more h'.fits (by omega)
  have Kx : Hid (dl 8 x ≤ 10000) := Lib.hid (dl8_le hx (by omega))
  have Ky : Hid (dl 8 y ≤ 10000) := Lib.hid (dl8_le hy (by omega))
  obtain ⟨s, hs⟩ : ∃ s, x + y = s := ⟨_, rfl⟩
  obtain ⟨p, hp⟩ : ∃ p, x * y = p := ⟨_, rfl⟩
  have fs : s < 2 ^ (64 * (N + 1)) := by rw [← hs]; exact add_fits hx hy
  have fp : p < 2 ^ (64 * (N + N)) := by rw [← hp]; exact prod_fits hx hy
  have Es := Lib.hid hs
  have Ep := Lib.hid hp
  have Ks : Hid (dl 64 s ≤ 10000) := Lib.hid (Nat.le_trans ((dl_le 64 s _ (by omega)).2 fs) (by omega))
  have Ks8 : Hid (dl 8 s ≤ 100000) := Lib.hid (dl8_le fs (by omega))
  have Kp : Hid (dl 64 p ≤ 10000) := Lib.hid (Nat.le_trans ((dl_le 64 p _ (by omega)).2 fp) (by omega))
  have Kp8 : Hid (dl 8 p ≤ 100000) := Lib.hid (dl8_le fp (by omega))
  obtain ⟨d, hd⟩ : ∃ d, x - y = d := ⟨_, rfl⟩
  have fd : d < 2 ^ (64 * N) := by rw [← hd]; omega
  have Ed := Lib.hid hd
  have Kd : Hid (dl 64 d ≤ 10000) := Lib.hid (Nat.le_trans ((dl_le 64 d _ (by omega)).2 fd) (by omega))
  have Kd8 : Hid (dl 8 d ≤ 100000) := Lib.hid (dl8_le fd (by omega))
  obtain ⟨z, hz, hz0, hz1, hz2⟩ := cmp_ge hxy
  have Ec := Lib.hid hz
  have Hxy := Lib.hid hxy
  clear h h' hx hy hs hp fs fp hN hxy hz hd fd
  go_enter Try.func5, Try.ntmps5
  go_wp2_with (first
    | ((with_reducible refine (few_yes a n c _ Hn).mono ?_); rintro e w' ⟨rfl, rfl⟩)
    | ((with_reducible refine (few_yes a' m c' _ Hm).mono ?_); rintro e w' ⟨rfl, rfl⟩)
    | ((with_reducible refine (refBytes_any a n c x _ (by omega) (L.out.gw 1 rfl)).mono ?_); rintro e w1 ⟨v, rfl, hv⟩; obtain ⟨a1, c1, rfl, S1, B1⟩ := hv; replace L := Lib.hid ((L.out.call B1).addB S1); clear S1 B1)
    | ((with_reducible refine (refBytes_any a' m c' y _ (by omega) (L.out.gw 0 rfl)).mono ?_); rintro e w2 ⟨v, rfl, hv⟩; obtain ⟨a2, c2, rfl, S2, B2⟩ := hv; replace L := Lib.hid ((L.out.call B2).addB S2); clear S2 B2)
    | ((with_reducible refine (add_any a n c x a' m c' y _ (by omega) (by omega) (L.out.gw 1 rfl) (L.out.gw 0 rfl)).mono ?_); rintro e w3 ⟨v, rfl, hv⟩; rw [Es.out] at hv; obtain ⟨a3, rfl, S3, B3⟩ := hv.open; replace L := Lib.hid ((L.out.call B3).addW S3); clear hv S3 B3)
    | ((with_reducible refine (refAdd_any a1 (dl 8 x) c1 x a2 (dl 8 y) c2 y _ Kx.out Ky.out (L.out.gb 1 rfl) (L.out.gb 0 rfl)).mono ?_); rintro e w4 ⟨v, rfl, hv⟩; rw [Es.out] at hv; obtain ⟨a4, c4, rfl, S4, B4⟩ := hv; replace L := Lib.hid ((L.out.call B4).addB S4); clear S4 B4)
    | ((with_reducible refine (is_any a3 (dl 64 s) s a4 (dl 8 s) c4 _ Ks.out Ks8.out (L.out.gw 0 rfl) (L.out.gb 0 rfl)).mono ?_); rintro e w5 ⟨rfl, B5⟩; replace L := Lib.hid (L.out.call B5); clear B5)
    | ((with_reducible refine (mul_any a n c x a' m c' y _ (by omega) (by omega) (L.out.gw 2 rfl) (L.out.gw 1 rfl)).mono ?_); rintro e w6 ⟨v, rfl, hv⟩; rw [Ep.out] at hv; obtain ⟨a6, rfl, S6, B6⟩ := hv.open; replace L := Lib.hid ((L.out.call B6).addW S6); clear hv S6 B6)
    | ((with_reducible refine (refMul_any a1 (dl 8 x) c1 x a2 (dl 8 y) c2 y _ Kx.out Ky.out (L.out.gb 2 rfl) (L.out.gb 1 rfl)).mono ?_); rintro e w7 ⟨v, rfl, hv⟩; rw [Ep.out] at hv; obtain ⟨a7, c7, rfl, S7, B7⟩ := hv; replace L := Lib.hid ((L.out.call B7).addB S7); clear S7 B7)
    | ((with_reducible refine (is_any a6 (dl 64 p) p a7 (dl 8 p) c7 _ Kp.out Kp8.out (L.out.gw 0 rfl) (L.out.gb 0 rfl)).mono ?_); rintro e w8 ⟨rfl, B8⟩; replace L := Lib.hid (L.out.call B8); clear B8)
    | ((with_reducible refine (sub_ge a n c x a' m c' y _ (by omega) (by omega) (L.out.gw 3 rfl) (L.out.gw 2 rfl) Hxy.out).mono ?_); rintro e w9 ⟨v, rfl, hv⟩; rw [Ed.out] at hv; obtain ⟨a9, rfl, S9, B9⟩ := hv.open; replace L := Lib.hid ((L.out.call B9).addW S9); clear hv S9 B9)
    | ((with_reducible refine (refCompare_any a1 (dl 8 x) c1 x a2 (dl 8 y) c2 y _ (Nat.le_trans Kx.out (by omega)) (Nat.le_trans Ky.out (by omega)) (L.out.gb 3 rfl) (L.out.gb 2 rfl)).mono ?_); rintro e w' ⟨rfl, rfl⟩; rw [Ec.out])
    | ((with_reducible refine (refSub_any a1 (dl 8 x) c1 x a2 (dl 8 y) c2 y _ Kx.out Ky.out (L.out.gb 3 rfl) (L.out.gb 2 rfl) Hxy.out).mono ?_); rintro e w10 ⟨v, rfl, hv⟩; rw [Ed.out] at hv; obtain ⟨a10, c10, rfl, S10, B10⟩ := hv; replace L := Lib.hid ((L.out.call B10).addB S10); clear S10 B10)
    | ((with_reducible refine (is_any a9 (dl 64 d) d a10 (dl 8 d) c10 _ Kd.out Kd8.out (L.out.gw 0 rfl) (L.out.gb 0 rfl)).mono ?_); rintro e w11 ⟨rfl, B11⟩; replace L := Lib.hid (L.out.call B11); clear B11)
    | ((with_reducible refine (awake_any _).mono ?_); rintro e w12 ⟨rfl, B12⟩; replace L := Lib.hid (L.out.call B12); clear B12))
  go_ret
  exact ⟨rfl, L.out.bel⟩
end Go.Proofs.Ytmnokjapapheiaa
