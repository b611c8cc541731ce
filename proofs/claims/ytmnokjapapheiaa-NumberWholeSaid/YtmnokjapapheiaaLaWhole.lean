/-
  The walk of NumberWhole.
-/
import Derived.Test.YtmnokjapapheiaaLaShifts
import Derived.Test.YtmnokjapapheiaaNuDiv
import Derived.Test.YtmnokjapapheiaaNuShift
import Derived.Test.YtmnokjapapheiaaNuCmp
namespace Go.Proofs.Ytmnokjapapheiaa
open Go.RowKit

theorem cmp_turn (x y : Nat) : cmp x y = - cmp y x := by
  unfold cmp
  rcases Nat.lt_trichotomy x y with h | h | h
  · rw [if_pos h, if_neg (by omega), if_pos h]
  · subst h
    simp
  · rw [if_neg (by omega), if_pos h, if_pos h]
    rfl
theorem cmp_bd (x y : Nat) : -1 ≤ cmp x y ∧ cmp x y ≤ 1 := by
  unfold cmp
  split
  · omega
  · split <;> omega
theorem up_down_at (x t : Nat) (s : Int) (hs : s = (t : Int)) : shf (shf x s) (-s) = x := by
  subst hs
  rcases Nat.eq_zero_or_pos t with h0 | h0
  · subst h0
    unfold shf
    simp
  · unfold shf
    rw [if_pos (by omega), if_neg (by omega), Int.neg_neg, Int.toNat_natCast]
    exact Nat.mul_div_cancel _ (Nat.two_pow_pos _)
theorem up_down (x : Nat) : shf (shf x 100) (-100) = x := up_down_at x 100 100 rfl
set_option maxRecDepth 4000 in
set_option maxHeartbeats 4000000 in
theorem whole_far (a : Option Addr) (n c : Nat) (a' : Option Addr) (m c' : Nat) (b : Option Addr) (k d : Nat) (w : World) (h : 20 < n ∨ 20 < m ∨ 20 < k) :
    Calls Try.prog 8 #[.slice a n c, .slice a' m c', .slice b k d] w fun e w' => e = .returned (.bool true) ∧ Below w.heap.size w w' := by
  have L := Lib.hid (Lv.start w)
  by_cases hn : n ≤ 20
  · by_cases hm : m ≤ 20
    · have hk : ¬ k ≤ 20 := by omega
      clear h
      go_enter Try.func8, Try.ntmps8
      go_wp2_with (first
        | ((with_reducible refine (few_yes a n c _ hn).mono ?_); rintro e w' ⟨rfl, rfl⟩)
        | ((with_reducible refine (few_yes a' m c' _ hm).mono ?_); rintro e w' ⟨rfl, rfl⟩)
        | ((with_reducible refine (few_no b k d _ hk).mono ?_); rintro e w' ⟨rfl, rfl⟩)
        | ((with_reducible refine (awake_any _).mono ?_); rintro e w1 ⟨rfl, B1⟩; replace L := Lib.hid (L.out.call B1); clear B1))
      go_ret
      exact ⟨rfl, L.out.bel⟩
    · clear h
      go_enter Try.func8, Try.ntmps8
      go_wp2_with (first
        | ((with_reducible refine (few_yes a n c _ hn).mono ?_); rintro e w' ⟨rfl, rfl⟩)
        | ((with_reducible refine (few_no a' m c' _ hm).mono ?_); rintro e w' ⟨rfl, rfl⟩)
        | ((with_reducible refine (awake_any _).mono ?_); rintro e w1 ⟨rfl, B1⟩; replace L := Lib.hid (L.out.call B1); clear B1))
      go_ret
      exact ⟨rfl, L.out.bel⟩
  · clear h
    go_enter Try.func8, Try.ntmps8
    go_wp2_with (first
      | ((with_reducible refine (few_no a n c _ hn).mono ?_); rintro e w' ⟨rfl, rfl⟩)
      | ((with_reducible refine (awake_any _).mono ?_); rintro e w1 ⟨rfl, B1⟩; replace L := Lib.hid (L.out.call B1); clear B1))
    go_ret
    exact ⟨rfl, L.out.bel⟩
set_option maxRecDepth 4000 in
set_option maxHeartbeats 4000000 in
theorem whole_zero (a : Option Addr) (n c x : Nat) (a' : Option Addr) (m c' : Nat) (b : Option Addr) (k d z : Nat) (w : World) (Hn : n ≤ 20) (Hm : m ≤ 20) (Hk : k ≤ 20) (h : Sw w w.heap.size a n c x) (h' : Sw w w.heap.size a' m c' 0) (h'' : Sw w w.heap.size b k d z) :
    Calls Try.prog 8 #[.slice a n c, .slice a' m c', .slice b k d] w fun e w' => e = .returned (.bool true) ∧ Below w.heap.size w w' := by
  have L := Lib.hid ((((Lv.start w).addW h).addW h').addW h'')
  obtain ⟨N, hN⟩ : ∃ N, N = 20 := ⟨_, rfl⟩
  have hx : x < 2 ^ (64 * N) := fits_more h.fits (by omega)
  have hy : 0 < 2 ^ (64 * N) := fits_more h'.fits (by omega)
  have hz : z < 2 ^ (64 * N) := fits_more h''.fits (by omega)
  have Kx : Hid (dl 64 x ≤ 1000) := Lib.hid (Nat.le_trans ((dl_le 64 x _ (by omega)).2 hx) (by omega))
  obtain ⟨s, hs⟩ : ∃ s, x + 0 = s := ⟨_, rfl⟩
  have fs : s < 2 ^ (64 * (N + 1)) := by rw [← hs]; exact add_fits hx hy
  have Es := Lib.hid hs
  have Ks : Hid (dl 64 s ≤ 1000) := Lib.hid (Nat.le_trans ((dl_le 64 s _ (by omega)).2 fs) (by omega))
  obtain ⟨p, hp⟩ : ∃ p, x * 0 = p := ⟨_, rfl⟩
  have fp : p < 2 ^ (64 * (N + N)) := by rw [← hp]; exact prod_fits hx hy
  have Ep := Lib.hid hp
  have Kp : Hid (dl 64 p ≤ 1000) := Lib.hid (Nat.le_trans ((dl_le 64 p _ (by omega)).2 fp) (by omega))
  obtain ⟨g, hg⟩ : ∃ g, s * z = g := ⟨_, rfl⟩
  have fg : g < 2 ^ (64 * (N + 1 + N)) := by rw [← hg]; exact prod_fits fs hz
  have Eg := Lib.hid hg
  have Kg : Hid (dl 64 g ≤ 1000) := Lib.hid (Nat.le_trans ((dl_le 64 g _ (by omega)).2 fg) (by omega))
  obtain ⟨j, hj⟩ : ∃ j, x * z = j := ⟨_, rfl⟩
  have fj : j < 2 ^ (64 * (N + N)) := by rw [← hj]; exact prod_fits hx hz
  have Ej := Lib.hid hj
  have Kj : Hid (dl 64 j ≤ 1000) := Lib.hid (Nat.le_trans ((dl_le 64 j _ (by omega)).2 fj) (by omega))
  obtain ⟨o, ho⟩ : ∃ o, 0 * z = o := ⟨_, rfl⟩
  have fo : o < 2 ^ (64 * (N + N)) := by rw [← ho]; exact prod_fits hy hz
  have Eo := Lib.hid ho
  have Ko : Hid (dl 64 o ≤ 1000) := Lib.hid (Nat.le_trans ((dl_le 64 o _ (by omega)).2 fo) (by omega))
  obtain ⟨M, hM⟩ : ∃ M, M = 2 := ⟨_, rfl⟩
  obtain ⟨u, hu⟩ : ∃ u, shf x 100 = u := ⟨_, rfl⟩
  have fu : u < 2 ^ (64 * (N + M)) := by rw [← hu]; exact shf_bound hx (by omega)
  have Eu := Lib.hid hu
  have Ku : Hid (dl 64 u ≤ 1000) := Lib.hid (Nat.le_trans ((dl_le 64 u _ (by omega)).2 fu) (by omega))
  have Es2 : Hid (0 + x = s) := Lib.hid (by rw [← hs, Nat.add_comm])
  have Ep2 : Hid (0 * x = p) := Lib.hid (by rw [← hp, Nat.mul_comm])
  have Eg2 : Hid (j + o = g) := Lib.hid (by rw [← hj, ← ho, ← hg, ← hs, Nat.add_mul])
  have Hsy : Hid (0 ≤ s) := Lib.hid (by omega)
  have Ed : Hid (s - 0 = x) := Lib.hid (by omega)
  have Ex3 : Hid (shf u (-100) = x) := Lib.hid (by rw [← hu]; exact up_down x)
  have Ecx := Lib.hid (cmp_eq x)
  obtain ⟨b1, b2⟩ := cmp_bd x 0
  obtain ⟨b3, b4⟩ := cmp_bd 0 x
  have ht0 := cmp_turn x 0
  obtain ⟨z1, hz1⟩ : ∃ z1, cmp x 0 = z1 := ⟨_, rfl⟩
  obtain ⟨z2, hz2⟩ : ∃ z2, cmp 0 x = z2 := ⟨_, rfl⟩
  have Ec1 := Lib.hid hz1
  have Ec2 := Lib.hid hz2
  rw [hz1, hz2] at ht0
  rw [hz1] at b1 b2
  rw [hz2] at b3 b4
  subst ht0
  clear h h' h'' hx hy hz hs hp fs fp hN hg fg hj fj ho fo hM hu fu hz1 hz2
  go_enter Try.func8, Try.ntmps8
  go_wp2_with (first
    | ((with_reducible refine (few_yes a n c _ Hn).mono ?_); rintro e w' ⟨rfl, rfl⟩)
    | ((with_reducible refine (few_yes a' m c' _ Hm).mono ?_); rintro e w' ⟨rfl, rfl⟩)
    | ((with_reducible refine (few_yes b k d _ Hk).mono ?_); rintro e w' ⟨rfl, rfl⟩)
    | ((with_reducible refine (div_zero a n c x a' m c' _ (by omega) (by omega) (L.out.gw 2 rfl) (L.out.gw 1 rfl)).mono ?_); rintro e w' ⟨rfl, rfl⟩)
    | ((with_reducible refine (add_any a n c x a' m c' 0 _ (by omega) (by omega) (L.out.gw 2 rfl) (L.out.gw 1 rfl)).mono ?_); rintro e w1 ⟨v, rfl, hv⟩; rw [Es.out] at hv; obtain ⟨a1, rfl, S1, B1⟩ := hv.open; replace L := Lib.hid ((L.out.call B1).addW S1); clear hv S1 B1)
    | ((with_reducible refine (sub_ge a1 (dl 64 s) (dl 64 s) s a' m c' 0 _ (Nat.le_trans Ks.out (by omega)) (by omega) (L.out.gw 0 rfl) (L.out.gw 2 rfl) Hsy.out).mono ?_); rintro e w2 ⟨v, rfl, hv⟩; rw [Ed.out] at hv; obtain ⟨a2, rfl, S2, B2⟩ := hv.open; replace L := Lib.hid ((L.out.call B2).addW S2); clear hv S2 B2)
    | ((with_reducible refine (compare_any a2 (dl 64 x) (dl 64 x) x a n c x _ (Nat.le_trans Kx.out (by omega)) (by omega) (L.out.gw 0 rfl) (L.out.gw 4 rfl)).mono ?_); rintro e w' ⟨rfl, rfl⟩; rw [Ecx.out])
    | ((with_reducible refine (add_any a' m c' 0 a n c x _ (by omega) (by omega) (L.out.gw 3 rfl) (L.out.gw 4 rfl)).mono ?_); rintro e w3 ⟨v, rfl, hv⟩; rw [Es2.out] at hv; obtain ⟨a3, rfl, S3, B3⟩ := hv.open; replace L := Lib.hid ((L.out.call B3).addW S3); clear hv S3 B3)
    | ((with_reducible refine (words_any a1 a3 (dl 64 s) (dl 64 s) (dl 64 s) s _ (Nat.le_trans Ks.out (by omega)) (L.out.gw 2 rfl) (L.out.gw 0 rfl)).mono ?_); rintro e w4 ⟨rfl, B4⟩; replace L := Lib.hid (L.out.call B4); clear B4)
    | ((with_reducible refine (mul_any a n c x a' m c' 0 _ (by omega) (by omega) (L.out.gw 5 rfl) (L.out.gw 4 rfl)).mono ?_); rintro e w5 ⟨v, rfl, hv⟩; rw [Ep.out] at hv; obtain ⟨a5, rfl, S5, B5⟩ := hv.open; replace L := Lib.hid ((L.out.call B5).addW S5); clear hv S5 B5)
    | ((with_reducible refine (mul_any a' m c' 0 a n c x _ (by omega) (by omega) (L.out.gw 5 rfl) (L.out.gw 6 rfl)).mono ?_); rintro e w6 ⟨v, rfl, hv⟩; rw [Ep2.out] at hv; obtain ⟨a6, rfl, S6, B6⟩ := hv.open; replace L := Lib.hid ((L.out.call B6).addW S6); clear hv S6 B6)
    | ((with_reducible refine (words_any a5 a6 (dl 64 p) (dl 64 p) (dl 64 p) p _ (Nat.le_trans Kp.out (by omega)) (L.out.gw 1 rfl) (L.out.gw 0 rfl)).mono ?_); rintro e w7 ⟨rfl, B7⟩; replace L := Lib.hid (L.out.call B7); clear B7)
    | ((with_reducible refine (mul_any a1 (dl 64 s) (dl 64 s) s b k d z _ (Nat.le_trans Ks.out (by omega)) (by omega) (L.out.gw 4 rfl) (L.out.gw 5 rfl)).mono ?_); rintro e w8 ⟨v, rfl, hv⟩; rw [Eg.out] at hv; obtain ⟨a8, rfl, S8, B8⟩ := hv.open; replace L := Lib.hid ((L.out.call B8).addW S8); clear hv S8 B8)
    | ((with_reducible refine (mul_any a n c x b k d z _ (by omega) (by omega) (L.out.gw 8 rfl) (L.out.gw 6 rfl)).mono ?_); rintro e w9 ⟨v, rfl, hv⟩; rw [Ej.out] at hv; obtain ⟨a9, rfl, S9, B9⟩ := hv.open; replace L := Lib.hid ((L.out.call B9).addW S9); clear hv S9 B9)
    | ((with_reducible refine (mul_any a' m c' 0 b k d z _ (by omega) (by omega) (L.out.gw 8 rfl) (L.out.gw 7 rfl)).mono ?_); rintro e w10 ⟨v, rfl, hv⟩; rw [Eo.out] at hv; obtain ⟨a10, rfl, S10, B10⟩ := hv.open; replace L := Lib.hid ((L.out.call B10).addW S10); clear hv S10 B10)
    | ((with_reducible refine (add_any a9 (dl 64 j) (dl 64 j) j a10 (dl 64 o) (dl 64 o) o _ (Nat.le_trans Kj.out (by omega)) (Nat.le_trans Ko.out (by omega)) (L.out.gw 1 rfl) (L.out.gw 0 rfl)).mono ?_); rintro e w11 ⟨v, rfl, hv⟩; rw [Eg2.out] at hv; obtain ⟨a11, rfl, S11, B11⟩ := hv.open; replace L := Lib.hid ((L.out.call B11).addW S11); clear hv S11 B11)
    | ((with_reducible refine (words_any a8 a11 (dl 64 g) (dl 64 g) (dl 64 g) g _ (Nat.le_trans Kg.out (by omega)) (L.out.gw 3 rfl) (L.out.gw 0 rfl)).mono ?_); rintro e w12 ⟨rfl, B12⟩; replace L := Lib.hid (L.out.call B12); clear B12)
    | ((with_reducible refine (shift_any a n c x 100 _ (by omega) (by omega) (by omega) (L.out.gw 11 rfl)).mono ?_); rintro e w13 ⟨v, rfl, hv⟩; rw [Eu.out] at hv; obtain ⟨a13, rfl, S13, B13⟩ := hv.open; replace L := Lib.hid ((L.out.call B13).addW S13); clear hv S13 B13)
    | ((with_reducible refine (shift_any a13 (dl 64 u) (dl 64 u) u (-100) _ (Nat.le_trans Ku.out (by omega)) (by omega) (by omega) (L.out.gw 0 rfl)).mono ?_); rintro e w14 ⟨v, rfl, hv⟩; rw [Ex3.out] at hv; obtain ⟨a14, rfl, S14, B14⟩ := hv.open; replace L := Lib.hid ((L.out.call B14).addW S14); clear hv S14 B14)
    | ((with_reducible refine (compare_any a14 (dl 64 x) (dl 64 x) x a n c x _ (Nat.le_trans Kx.out (by omega)) (by omega) (L.out.gw 0 rfl) (L.out.gw 13 rfl)).mono ?_); rintro e w' ⟨rfl, rfl⟩; rw [Ecx.out])
    | ((with_reducible refine (compare_any a n c x a' m c' 0 _ (by omega) (by omega) (L.out.gw 13 rfl) (L.out.gw 12 rfl)).mono ?_); rintro e w' ⟨rfl, rfl⟩; rw [Ec1.out])
    | ((with_reducible refine (compare_any a' m c' 0 a n c x _ (by omega) (by omega) (L.out.gw 12 rfl) (L.out.gw 13 rfl)).mono ?_); rintro e w' ⟨rfl, rfl⟩; rw [Ec2.out])
    | ((with_reducible refine (awake_any _).mono ?_); rintro e w15 ⟨rfl, B15⟩; replace L := Lib.hid (L.out.call B15); clear B15))
  go_ret
  exact ⟨rfl, L.out.bel⟩
set_option maxRecDepth 4000 in
set_option maxHeartbeats 4000000 in
theorem whole_near (a : Option Addr) (n c x : Nat) (a' : Option Addr) (m c' y : Nat) (b : Option Addr) (k d z : Nat) (w : World) (Hn : n ≤ 20) (Hm : m ≤ 20) (Hk : k ≤ 20) (h : Sw w w.heap.size a n c x) (h' : Sw w w.heap.size a' m c' y) (h'' : Sw w w.heap.size b k d z) (hy0 : 0 < y) :
    Calls Try.prog 8 #[.slice a n c, .slice a' m c', .slice b k d] w fun e w' => e = .returned (.bool true) ∧ Below w.heap.size w w' := by
  have L := Lib.hid ((((Lv.start w).addW h).addW h').addW h'')
  obtain ⟨N, hN⟩ : ∃ N, N = 20 := ⟨_, rfl⟩
  have hx : x < 2 ^ (64 * N) := fits_more h.fits (by omega)
  have hy : y < 2 ^ (64 * N) := fits_more h'.fits (by omega)
  have hz : z < 2 ^ (64 * N) := fits_more h''.fits (by omega)
  have Kx : Hid (dl 64 x ≤ 1000) := Lib.hid (Nat.le_trans ((dl_le 64 x _ (by omega)).2 hx) (by omega))
  have Hy := Lib.hid hy0
  obtain ⟨s, hs⟩ : ∃ s, x + y = s := ⟨_, rfl⟩
  have fs : s < 2 ^ (64 * (N + 1)) := by rw [← hs]; exact add_fits hx hy
  have Es := Lib.hid hs
  have Ks : Hid (dl 64 s ≤ 1000) := Lib.hid (Nat.le_trans ((dl_le 64 s _ (by omega)).2 fs) (by omega))
  obtain ⟨p, hp⟩ : ∃ p, x * y = p := ⟨_, rfl⟩
  have fp : p < 2 ^ (64 * (N + N)) := by rw [← hp]; exact prod_fits hx hy
  have Ep := Lib.hid hp
  have Kp : Hid (dl 64 p ≤ 1000) := Lib.hid (Nat.le_trans ((dl_le 64 p _ (by omega)).2 fp) (by omega))
  obtain ⟨g, hg⟩ : ∃ g, s * z = g := ⟨_, rfl⟩
  have fg : g < 2 ^ (64 * (N + 1 + N)) := by rw [← hg]; exact prod_fits fs hz
  have Eg := Lib.hid hg
  have Kg : Hid (dl 64 g ≤ 1000) := Lib.hid (Nat.le_trans ((dl_le 64 g _ (by omega)).2 fg) (by omega))
  obtain ⟨j, hj⟩ : ∃ j, x * z = j := ⟨_, rfl⟩
  have fj : j < 2 ^ (64 * (N + N)) := by rw [← hj]; exact prod_fits hx hz
  have Ej := Lib.hid hj
  have Kj : Hid (dl 64 j ≤ 1000) := Lib.hid (Nat.le_trans ((dl_le 64 j _ (by omega)).2 fj) (by omega))
  obtain ⟨o, ho⟩ : ∃ o, y * z = o := ⟨_, rfl⟩
  have fo : o < 2 ^ (64 * (N + N)) := by rw [← ho]; exact prod_fits hy hz
  have Eo := Lib.hid ho
  have Ko : Hid (dl 64 o ≤ 1000) := Lib.hid (Nat.le_trans ((dl_le 64 o _ (by omega)).2 fo) (by omega))
  obtain ⟨M, hM⟩ : ∃ M, M = 2 := ⟨_, rfl⟩
  obtain ⟨u, hu⟩ : ∃ u, shf x 100 = u := ⟨_, rfl⟩
  have fu : u < 2 ^ (64 * (N + M)) := by rw [← hu]; exact shf_bound hx (by omega)
  have Eu := Lib.hid hu
  have Ku : Hid (dl 64 u ≤ 1000) := Lib.hid (Nat.le_trans ((dl_le 64 u _ (by omega)).2 fu) (by omega))
  have Es2 : Hid (y + x = s) := Lib.hid (by rw [← hs, Nat.add_comm])
  have Ep2 : Hid (y * x = p) := Lib.hid (by rw [← hp, Nat.mul_comm])
  have Eg2 : Hid (j + o = g) := Lib.hid (by rw [← hj, ← ho, ← hg, ← hs, Nat.add_mul])
  have Hsy : Hid (y ≤ s) := Lib.hid (by omega)
  have Ed : Hid (s - y = x) := Lib.hid (by omega)
  have Ex3 : Hid (shf u (-100) = x) := Lib.hid (by rw [← hu]; exact up_down x)
  have Ecx := Lib.hid (cmp_eq x)
  obtain ⟨b1, b2⟩ := cmp_bd x y
  obtain ⟨b3, b4⟩ := cmp_bd y x
  have ht0 := cmp_turn x y
  obtain ⟨z1, hz1⟩ : ∃ z1, cmp x y = z1 := ⟨_, rfl⟩
  obtain ⟨z2, hz2⟩ : ∃ z2, cmp y x = z2 := ⟨_, rfl⟩
  have Ec1 := Lib.hid hz1
  have Ec2 := Lib.hid hz2
  rw [hz1, hz2] at ht0
  rw [hz1] at b1 b2
  rw [hz2] at b3 b4
  subst ht0
  obtain ⟨q, hq⟩ : ∃ q, x / y = q := ⟨_, rfl⟩
  have fq : q < 2 ^ (64 * (N)) := by rw [← hq]; exact Nat.lt_of_le_of_lt (Nat.div_le_self _ _) hx
  have Eq := Lib.hid hq
  have Kq : Hid (dl 64 q ≤ 1000) := Lib.hid (Nat.le_trans ((dl_le 64 q _ (by omega)).2 fq) (by omega))
  obtain ⟨r, hr⟩ : ∃ r, x % y = r := ⟨_, rfl⟩
  have fr : r < 2 ^ (64 * (N)) := by rw [← hr]; exact Nat.lt_of_le_of_lt (Nat.mod_le _ _) hx
  have Er := Lib.hid hr
  have Kr : Hid (dl 64 r ≤ 1000) := Lib.hid (Nat.le_trans ((dl_le 64 r _ (by omega)).2 fr) (by omega))
  obtain ⟨t, ht⟩ : ∃ t, q * y = t := ⟨_, rfl⟩
  have ft : t < 2 ^ (64 * (N + N)) := by rw [← ht]; exact prod_fits fq hy
  have Et := Lib.hid ht
  have Kt : Hid (dl 64 t ≤ 1000) := Lib.hid (Nat.le_trans ((dl_le 64 t _ (by omega)).2 ft) (by omega))
  have Ex : Hid (t + r = x) := Lib.hid (by rw [← ht, ← hq, ← hr, Nat.mul_comm]; exact Nat.div_add_mod x y)
  have Ecr := Lib.hid (cmp_lt (by rw [← hr]; exact Nat.mod_lt _ hy0 : r < y))
  clear h h' h'' hx hy hz hs hp fs fp hN hg fg hj fj ho fo hM hu fu hz1 hz2 hy0 hq fq hr fr ht ft
  go_enter Try.func8, Try.ntmps8
  go_wp2_with (first
    | ((with_reducible refine (few_yes a n c _ Hn).mono ?_); rintro e w' ⟨rfl, rfl⟩)
    | ((with_reducible refine (few_yes a' m c' _ Hm).mono ?_); rintro e w' ⟨rfl, rfl⟩)
    | ((with_reducible refine (few_yes b k d _ Hk).mono ?_); rintro e w' ⟨rfl, rfl⟩)
    | ((with_reducible refine (div_any a n c x a' m c' y _ (by omega) (by omega) (L.out.gw 2 rfl) (L.out.gw 1 rfl) Hy.out).mono ?_); rintro e w1 ⟨v, v', rfl, hv, hv'⟩; rw [Eq.out] at hv; rw [Er.out] at hv'; obtain ⟨a1, rfl, S1, B1⟩ := hv.open; obtain ⟨a2, rfl, S2, _⟩ := hv'.open; replace L := Lib.hid (((L.out.call B1).addW S1).addW S2); clear hv hv' S1 S2 B1)
    | ((with_reducible refine (mul_any a1 (dl 64 q) (dl 64 q) q a' m c' y _ (Nat.le_trans Kq.out (by omega)) (by omega) (L.out.gw 1 rfl) (L.out.gw 3 rfl)).mono ?_); rintro e w3 ⟨v, rfl, hv⟩; rw [Et.out] at hv; obtain ⟨a3, rfl, S3, B3⟩ := hv.open; replace L := Lib.hid ((L.out.call B3).addW S3); clear hv S3 B3)
    | ((with_reducible refine (add_any a3 (dl 64 t) (dl 64 t) t a2 (dl 64 r) (dl 64 r) r _ (Nat.le_trans Kt.out (by omega)) (Nat.le_trans Kr.out (by omega)) (L.out.gw 0 rfl) (L.out.gw 1 rfl)).mono ?_); rintro e w4 ⟨v, rfl, hv⟩; rw [Ex.out] at hv; obtain ⟨a4, rfl, S4, B4⟩ := hv.open; replace L := Lib.hid ((L.out.call B4).addW S4); clear hv S4 B4)
    | ((with_reducible refine (compare_any a4 (dl 64 x) (dl 64 x) x a n c x _ (Nat.le_trans Kx.out (by omega)) (by omega) (L.out.gw 0 rfl) (L.out.gw 6 rfl)).mono ?_); rintro e w' ⟨rfl, rfl⟩; rw [Ecx.out])
    | ((with_reducible refine (compare_any a2 (dl 64 r) (dl 64 r) r a' m c' y _ (Nat.le_trans Kr.out (by omega)) (by omega) (L.out.gw 2 rfl) (L.out.gw 5 rfl)).mono ?_); rintro e w' ⟨rfl, rfl⟩; rw [Ecr.out])
    | ((with_reducible refine (add_any a n c x a' m c' y _ (by omega) (by omega) (L.out.gw 6 rfl) (L.out.gw 5 rfl)).mono ?_); rintro e w5 ⟨v, rfl, hv⟩; rw [Es.out] at hv; obtain ⟨a5, rfl, S5, B5⟩ := hv.open; replace L := Lib.hid ((L.out.call B5).addW S5); clear hv S5 B5)
    | ((with_reducible refine (sub_ge a5 (dl 64 s) (dl 64 s) s a' m c' y _ (Nat.le_trans Ks.out (by omega)) (by omega) (L.out.gw 0 rfl) (L.out.gw 6 rfl) Hsy.out).mono ?_); rintro e w6 ⟨v, rfl, hv⟩; rw [Ed.out] at hv; obtain ⟨a6, rfl, S6, B6⟩ := hv.open; replace L := Lib.hid ((L.out.call B6).addW S6); clear hv S6 B6)
    | ((with_reducible refine (compare_any a6 (dl 64 x) (dl 64 x) x a n c x _ (Nat.le_trans Kx.out (by omega)) (by omega) (L.out.gw 0 rfl) (L.out.gw 8 rfl)).mono ?_); rintro e w' ⟨rfl, rfl⟩; rw [Ecx.out])
    | ((with_reducible refine (add_any a' m c' y a n c x _ (by omega) (by omega) (L.out.gw 7 rfl) (L.out.gw 8 rfl)).mono ?_); rintro e w7 ⟨v, rfl, hv⟩; rw [Es2.out] at hv; obtain ⟨a7, rfl, S7, B7⟩ := hv.open; replace L := Lib.hid ((L.out.call B7).addW S7); clear hv S7 B7)
    | ((with_reducible refine (words_any a5 a7 (dl 64 s) (dl 64 s) (dl 64 s) s _ (Nat.le_trans Ks.out (by omega)) (L.out.gw 2 rfl) (L.out.gw 0 rfl)).mono ?_); rintro e w8 ⟨rfl, B8⟩; replace L := Lib.hid (L.out.call B8); clear B8)
    | ((with_reducible refine (mul_any a n c x a' m c' y _ (by omega) (by omega) (L.out.gw 9 rfl) (L.out.gw 8 rfl)).mono ?_); rintro e w9 ⟨v, rfl, hv⟩; rw [Ep.out] at hv; obtain ⟨a9, rfl, S9, B9⟩ := hv.open; replace L := Lib.hid ((L.out.call B9).addW S9); clear hv S9 B9)
    | ((with_reducible refine (mul_any a' m c' y a n c x _ (by omega) (by omega) (L.out.gw 9 rfl) (L.out.gw 10 rfl)).mono ?_); rintro e w10 ⟨v, rfl, hv⟩; rw [Ep2.out] at hv; obtain ⟨a10, rfl, S10, B10⟩ := hv.open; replace L := Lib.hid ((L.out.call B10).addW S10); clear hv S10 B10)
    | ((with_reducible refine (words_any a9 a10 (dl 64 p) (dl 64 p) (dl 64 p) p _ (Nat.le_trans Kp.out (by omega)) (L.out.gw 1 rfl) (L.out.gw 0 rfl)).mono ?_); rintro e w11 ⟨rfl, B11⟩; replace L := Lib.hid (L.out.call B11); clear B11)
    | ((with_reducible refine (mul_any a5 (dl 64 s) (dl 64 s) s b k d z _ (Nat.le_trans Ks.out (by omega)) (by omega) (L.out.gw 4 rfl) (L.out.gw 9 rfl)).mono ?_); rintro e w12 ⟨v, rfl, hv⟩; rw [Eg.out] at hv; obtain ⟨a12, rfl, S12, B12⟩ := hv.open; replace L := Lib.hid ((L.out.call B12).addW S12); clear hv S12 B12)
    | ((with_reducible refine (mul_any a n c x b k d z _ (by omega) (by omega) (L.out.gw 12 rfl) (L.out.gw 10 rfl)).mono ?_); rintro e w13 ⟨v, rfl, hv⟩; rw [Ej.out] at hv; obtain ⟨a13, rfl, S13, B13⟩ := hv.open; replace L := Lib.hid ((L.out.call B13).addW S13); clear hv S13 B13)
    | ((with_reducible refine (mul_any a' m c' y b k d z _ (by omega) (by omega) (L.out.gw 12 rfl) (L.out.gw 11 rfl)).mono ?_); rintro e w14 ⟨v, rfl, hv⟩; rw [Eo.out] at hv; obtain ⟨a14, rfl, S14, B14⟩ := hv.open; replace L := Lib.hid ((L.out.call B14).addW S14); clear hv S14 B14)
    | ((with_reducible refine (add_any a13 (dl 64 j) (dl 64 j) j a14 (dl 64 o) (dl 64 o) o _ (Nat.le_trans Kj.out (by omega)) (Nat.le_trans Ko.out (by omega)) (L.out.gw 1 rfl) (L.out.gw 0 rfl)).mono ?_); rintro e w15 ⟨v, rfl, hv⟩; rw [Eg2.out] at hv; obtain ⟨a15, rfl, S15, B15⟩ := hv.open; replace L := Lib.hid ((L.out.call B15).addW S15); clear hv S15 B15)
    | ((with_reducible refine (words_any a12 a15 (dl 64 g) (dl 64 g) (dl 64 g) g _ (Nat.le_trans Kg.out (by omega)) (L.out.gw 3 rfl) (L.out.gw 0 rfl)).mono ?_); rintro e w16 ⟨rfl, B16⟩; replace L := Lib.hid (L.out.call B16); clear B16)
    | ((with_reducible refine (shift_any a n c x 100 _ (by omega) (by omega) (by omega) (L.out.gw 15 rfl)).mono ?_); rintro e w17 ⟨v, rfl, hv⟩; rw [Eu.out] at hv; obtain ⟨a17, rfl, S17, B17⟩ := hv.open; replace L := Lib.hid ((L.out.call B17).addW S17); clear hv S17 B17)
    | ((with_reducible refine (shift_any a17 (dl 64 u) (dl 64 u) u (-100) _ (Nat.le_trans Ku.out (by omega)) (by omega) (by omega) (L.out.gw 0 rfl)).mono ?_); rintro e w18 ⟨v, rfl, hv⟩; rw [Ex3.out] at hv; obtain ⟨a18, rfl, S18, B18⟩ := hv.open; replace L := Lib.hid ((L.out.call B18).addW S18); clear hv S18 B18)
    | ((with_reducible refine (compare_any a18 (dl 64 x) (dl 64 x) x a n c x _ (Nat.le_trans Kx.out (by omega)) (by omega) (L.out.gw 0 rfl) (L.out.gw 17 rfl)).mono ?_); rintro e w' ⟨rfl, rfl⟩; rw [Ecx.out])
    | ((with_reducible refine (compare_any a n c x a' m c' y _ (by omega) (by omega) (L.out.gw 17 rfl) (L.out.gw 16 rfl)).mono ?_); rintro e w' ⟨rfl, rfl⟩; rw [Ec1.out])
    | ((with_reducible refine (compare_any a' m c' y a n c x _ (by omega) (by omega) (L.out.gw 16 rfl) (L.out.gw 17 rfl)).mono ?_); rintro e w' ⟨rfl, rfl⟩; rw [Ec2.out])
    | ((with_reducible refine (awake_any _).mono ?_); rintro e w19 ⟨rfl, B19⟩; replace L := Lib.hid (L.out.call B19); clear B19))
  go_ret
  exact ⟨rfl, L.out.bel⟩
end Go.Proofs.Ytmnokjapapheiaa
