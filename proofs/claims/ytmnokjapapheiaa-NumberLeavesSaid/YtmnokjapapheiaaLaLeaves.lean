/-
  The walk of NumberLeaves.
-/
import Derived.Test.YtmnokjapapheiaaLaSums
import Derived.Test.YtmnokjapapheiaaNuDiv
namespace Go.Proofs.Ytmnokjapapheiaa
open Go.RowKit

set_option maxRecDepth 4000 in
set_option maxHeartbeats 4000000 in
theorem leaves_far (a : Option Addr) (n c : Nat) (a' : Option Addr) (m c' : Nat) (b : Option Addr) (k d : Nat) (w : World) (h : 20 < n ∨ 20 < m ∨ 20 < k) :
    Calls Try.prog 11 #[.slice a n c, .slice a' m c', .slice b k d] w fun e w' => e = .returned (.bool true) ∧ Below w.heap.size w w' := by
  have L := Lib.hid (Lv.start w)
  by_cases hn : n ≤ 20
  · by_cases hm : m ≤ 20
    · have hk : ¬ k ≤ 20 := by omega
      clear h
      go_enter Try.func11, Try.ntmps11
      go_wp2_with (first
        | ((with_reducible refine (few_yes a n c _ hn).mono ?_); rintro e w' ⟨rfl, rfl⟩)
        | ((with_reducible refine (few_yes a' m c' _ hm).mono ?_); rintro e w' ⟨rfl, rfl⟩)
        | ((with_reducible refine (few_no b k d _ hk).mono ?_); rintro e w' ⟨rfl, rfl⟩)
        | ((with_reducible refine (awake_any _).mono ?_); rintro e w1 ⟨rfl, B1⟩; replace L := Lib.hid (L.out.call B1); clear B1))
      go_ret
      exact ⟨rfl, L.out.bel⟩
    · clear h
      go_enter Try.func11, Try.ntmps11
      go_wp2_with (first
        | ((with_reducible refine (few_yes a n c _ hn).mono ?_); rintro e w' ⟨rfl, rfl⟩)
        | ((with_reducible refine (few_no a' m c' _ hm).mono ?_); rintro e w' ⟨rfl, rfl⟩)
        | ((with_reducible refine (awake_any _).mono ?_); rintro e w1 ⟨rfl, B1⟩; replace L := Lib.hid (L.out.call B1); clear B1))
      go_ret
      exact ⟨rfl, L.out.bel⟩
  · clear h
    go_enter Try.func11, Try.ntmps11
    go_wp2_with (first
      | ((with_reducible refine (few_no a n c _ hn).mono ?_); rintro e w' ⟨rfl, rfl⟩)
      | ((with_reducible refine (awake_any _).mono ?_); rintro e w1 ⟨rfl, B1⟩; replace L := Lib.hid (L.out.call B1); clear B1))
    go_ret
    exact ⟨rfl, L.out.bel⟩
set_option maxRecDepth 4000 in
set_option maxHeartbeats 4000000 in
theorem leaves_zero (a : Option Addr) (n c x : Nat) (a' : Option Addr) (m c' y : Nat) (b : Option Addr) (k d : Nat) (w : World) (Hn : n ≤ 20) (Hm : m ≤ 20) (Hk : k ≤ 20) (h : Sw w w.heap.size a n c x) (h' : Sw w w.heap.size a' m c' y) (h'' : Sw w w.heap.size b k d 0) :
    Calls Try.prog 11 #[.slice a n c, .slice a' m c', .slice b k d] w fun e w' => e = .returned (.bool true) ∧ Below w.heap.size w w' := by
  have L := Lib.hid ((((Lv.start w).addW h).addW h').addW h'')
  obtain ⟨N, hN⟩ : ∃ N, N = 20 := ⟨_, rfl⟩
  have hx : x < 2 ^ (64 * N) := fits_more h.fits (by omega)
  have hy : y < 2 ^ (64 * N) := fits_more h'.fits (by omega)
  obtain ⟨s, hs⟩ : ∃ s, x + y = s := ⟨_, rfl⟩
  have fs : s < 2 ^ (64 * (N + 1)) := by rw [← hs]; exact add_fits hx hy
  have Es := Lib.hid hs
  have Ks : Hid (dl 64 s ≤ 1000) := Lib.hid (Nat.le_trans ((dl_le 64 s _ (by omega)).2 fs) (by omega))
  obtain ⟨p, hp⟩ : ∃ p, x * y = p := ⟨_, rfl⟩
  have fp : p < 2 ^ (64 * (N + N)) := by rw [← hp]; exact prod_fits hx hy
  have Ep := Lib.hid hp
  have Kp : Hid (dl 64 p ≤ 1000) := Lib.hid (Nat.le_trans ((dl_le 64 p _ (by omega)).2 fp) (by omega))
  have El : Hid (bl 0 = 0) := Lib.hid bl_zero
  clear h h' h'' hx hy hs hp fs fp hN
  go_enter Try.func11, Try.ntmps11
  go_wp2_with (first
    | ((with_reducible refine (few_yes a n c _ Hn).mono ?_); rintro e w' ⟨rfl, rfl⟩)
    | ((with_reducible refine (few_yes a' m c' _ Hm).mono ?_); rintro e w' ⟨rfl, rfl⟩)
    | ((with_reducible refine (few_yes b k d _ Hk).mono ?_); rintro e w' ⟨rfl, rfl⟩)
    | ((with_reducible refine (div_zero a n c x b k d _ (by omega) (by omega) (L.out.gw 2 rfl) (L.out.gw 0 rfl)).mono ?_); rintro e w' ⟨rfl, rfl⟩)
    | ((with_reducible refine (div_zero a' m c' y b k d _ (by omega) (by omega) (L.out.gw 1 rfl) (L.out.gw 0 rfl)).mono ?_); rintro e w' ⟨rfl, rfl⟩)
    | ((with_reducible refine (add_any a n c x a' m c' y _ (by omega) (by omega) (L.out.gw 2 rfl) (L.out.gw 1 rfl)).mono ?_); rintro e w1 ⟨v, rfl, hv⟩; rw [Es.out] at hv; obtain ⟨a1, rfl, S1, B1⟩ := hv.open; replace L := Lib.hid ((L.out.call B1).addW S1); clear hv S1 B1)
    | ((with_reducible refine (div_zero a1 (dl 64 s) (dl 64 s) s b k d _ (Nat.le_trans Ks.out (by omega)) (by omega) (L.out.gw 0 rfl) (L.out.gw 1 rfl)).mono ?_); rintro e w' ⟨rfl, rfl⟩)
    | ((with_reducible refine (mul_any a n c x a' m c' y _ (by omega) (by omega) (L.out.gw 3 rfl) (L.out.gw 2 rfl)).mono ?_); rintro e w2 ⟨v, rfl, hv⟩; rw [Ep.out] at hv; obtain ⟨a2, rfl, S2, B2⟩ := hv.open; replace L := Lib.hid ((L.out.call B2).addW S2); clear hv S2 B2)
    | ((with_reducible refine (div_zero a2 (dl 64 p) (dl 64 p) p b k d _ (Nat.le_trans Kp.out (by omega)) (by omega) (L.out.gw 0 rfl) (L.out.gw 2 rfl)).mono ?_); rintro e w' ⟨rfl, rfl⟩)
    | ((with_reducible refine (len_any b k d 0 _ (by omega) (L.out.gw 2 rfl)).mono ?_); rintro e w' ⟨rfl, rfl⟩; rw [El.out])
    | ((with_reducible refine (awake_any _).mono ?_); rintro e w3 ⟨rfl, B3⟩; replace L := Lib.hid (L.out.call B3); clear B3))
  go_ret
  exact ⟨rfl, L.out.bel⟩
set_option maxRecDepth 4000 in
set_option maxHeartbeats 4000000 in
theorem leaves_near (a : Option Addr) (n c x : Nat) (a' : Option Addr) (m c' y : Nat) (b : Option Addr) (k d z : Nat) (w : World) (Hn : n ≤ 20) (Hm : m ≤ 20) (Hk : k ≤ 20) (h : Sw w w.heap.size a n c x) (h' : Sw w w.heap.size a' m c' y) (h'' : Sw w w.heap.size b k d z) (hz0 : 0 < z) :
    Calls Try.prog 11 #[.slice a n c, .slice a' m c', .slice b k d] w fun e w' => e = .returned (.bool true) ∧ Below w.heap.size w w' := by
  have L := Lib.hid ((((Lv.start w).addW h).addW h').addW h'')
  obtain ⟨N, hN⟩ : ∃ N, N = 20 := ⟨_, rfl⟩
  have hx : x < 2 ^ (64 * N) := fits_more h.fits (by omega)
  have hy : y < 2 ^ (64 * N) := fits_more h'.fits (by omega)
  have Hz := Lib.hid hz0
  have hbl := bl_pos hz0
  have hl : (((bl z : Nat) : Int) == 0) = false := by simp; omega
  have hl2 : ¬ (bl z = 0) := by omega
  obtain ⟨s, hs⟩ : ∃ s, x + y = s := ⟨_, rfl⟩
  have fs : s < 2 ^ (64 * (N + 1)) := by rw [← hs]; exact add_fits hx hy
  have Es := Lib.hid hs
  have Ks : Hid (dl 64 s ≤ 1000) := Lib.hid (Nat.le_trans ((dl_le 64 s _ (by omega)).2 fs) (by omega))
  obtain ⟨p, hp⟩ : ∃ p, x * y = p := ⟨_, rfl⟩
  have fp : p < 2 ^ (64 * (N + N)) := by rw [← hp]; exact prod_fits hx hy
  have Ep := Lib.hid hp
  have Kp : Hid (dl 64 p ≤ 1000) := Lib.hid (Nat.le_trans ((dl_le 64 p _ (by omega)).2 fp) (by omega))
  obtain ⟨q, hq⟩ : ∃ q, x / z = q := ⟨_, rfl⟩
  have fq : q < 2 ^ (64 * (N)) := by rw [← hq]; exact Nat.lt_of_le_of_lt (Nat.div_le_self _ _) hx
  have Eq := Lib.hid hq
  have Kq : Hid (dl 64 q ≤ 1000) := Lib.hid (Nat.le_trans ((dl_le 64 q _ (by omega)).2 fq) (by omega))
  obtain ⟨r, hr⟩ : ∃ r, x % z = r := ⟨_, rfl⟩
  have fr : r < 2 ^ (64 * (N)) := by rw [← hr]; exact Nat.lt_of_le_of_lt (Nat.mod_le _ _) hx
  have Er := Lib.hid hr
  have Kr : Hid (dl 64 r ≤ 1000) := Lib.hid (Nat.le_trans ((dl_le 64 r _ (by omega)).2 fr) (by omega))
  obtain ⟨t, ht⟩ : ∃ t, y / z = t := ⟨_, rfl⟩
  have ft : t < 2 ^ (64 * (N)) := by rw [← ht]; exact Nat.lt_of_le_of_lt (Nat.div_le_self _ _) hy
  have Et := Lib.hid ht
  have Kt : Hid (dl 64 t ≤ 1000) := Lib.hid (Nat.le_trans ((dl_le 64 t _ (by omega)).2 ft) (by omega))
  obtain ⟨u, hu⟩ : ∃ u, y % z = u := ⟨_, rfl⟩
  have fu : u < 2 ^ (64 * (N)) := by rw [← hu]; exact Nat.lt_of_le_of_lt (Nat.mod_le _ _) hy
  have Eu := Lib.hid hu
  have Ku : Hid (dl 64 u ≤ 1000) := Lib.hid (Nat.le_trans ((dl_le 64 u _ (by omega)).2 fu) (by omega))
  obtain ⟨e1, he1⟩ : ∃ e1, s / z = e1 := ⟨_, rfl⟩
  have fe1 : e1 < 2 ^ (64 * (N + 1)) := by rw [← he1]; exact Nat.lt_of_le_of_lt (Nat.div_le_self _ _) fs
  have Ee1 := Lib.hid he1
  have Ke1 : Hid (dl 64 e1 ≤ 1000) := Lib.hid (Nat.le_trans ((dl_le 64 e1 _ (by omega)).2 fe1) (by omega))
  obtain ⟨g, hg⟩ : ∃ g, s % z = g := ⟨_, rfl⟩
  have fg : g < 2 ^ (64 * (N + 1)) := by rw [← hg]; exact Nat.lt_of_le_of_lt (Nat.mod_le _ _) fs
  have Eg := Lib.hid hg
  have Kg : Hid (dl 64 g ≤ 1000) := Lib.hid (Nat.le_trans ((dl_le 64 g _ (by omega)).2 fg) (by omega))
  obtain ⟨e2, he2⟩ : ∃ e2, p / z = e2 := ⟨_, rfl⟩
  have fe2 : e2 < 2 ^ (64 * (N + N)) := by rw [← he2]; exact Nat.lt_of_le_of_lt (Nat.div_le_self _ _) fp
  have Ee2 := Lib.hid he2
  have Ke2 : Hid (dl 64 e2 ≤ 1000) := Lib.hid (Nat.le_trans ((dl_le 64 e2 _ (by omega)).2 fe2) (by omega))
  obtain ⟨j, hj⟩ : ∃ j, p % z = j := ⟨_, rfl⟩
  have fj : j < 2 ^ (64 * (N + N)) := by rw [← hj]; exact Nat.lt_of_le_of_lt (Nat.mod_le _ _) fp
  have Ej := Lib.hid hj
  have Kj : Hid (dl 64 j ≤ 1000) := Lib.hid (Nat.le_trans ((dl_le 64 j _ (by omega)).2 fj) (by omega))
  obtain ⟨v, hv⟩ : ∃ v, r + u = v := ⟨_, rfl⟩
  have fv : v < 2 ^ (64 * (N + 1)) := by rw [← hv]; exact add_fits fr fu
  have Ev := Lib.hid hv
  have Kv : Hid (dl 64 v ≤ 1000) := Lib.hid (Nat.le_trans ((dl_le 64 v _ (by omega)).2 fv) (by omega))
  obtain ⟨e3, he3⟩ : ∃ e3, v / z = e3 := ⟨_, rfl⟩
  have fe3 : e3 < 2 ^ (64 * (N + 1)) := by rw [← he3]; exact Nat.lt_of_le_of_lt (Nat.div_le_self _ _) fv
  have Ee3 := Lib.hid he3
  have Ke3 : Hid (dl 64 e3 ≤ 1000) := Lib.hid (Nat.le_trans ((dl_le 64 e3 _ (by omega)).2 fe3) (by omega))
  obtain ⟨o, ho⟩ : ∃ o, r * u = o := ⟨_, rfl⟩
  have fo : o < 2 ^ (64 * (N + N)) := by rw [← ho]; exact prod_fits fr fu
  have Eo := Lib.hid ho
  have Ko : Hid (dl 64 o ≤ 1000) := Lib.hid (Nat.le_trans ((dl_le 64 o _ (by omega)).2 fo) (by omega))
  obtain ⟨e4, he4⟩ : ∃ e4, o / z = e4 := ⟨_, rfl⟩
  have fe4 : e4 < 2 ^ (64 * (N + N)) := by rw [← he4]; exact Nat.lt_of_le_of_lt (Nat.div_le_self _ _) fo
  have Ee4 := Lib.hid he4
  have Ke4 : Hid (dl 64 e4 ≤ 1000) := Lib.hid (Nat.le_trans ((dl_le 64 e4 _ (by omega)).2 fe4) (by omega))
  have Ev2 : Hid (v % z = g) := Lib.hid (by rw [← hv, ← hg, ← hs, ← hr, ← hu, ← Nat.add_mod])
  have Eo2 : Hid (o % z = j) := Lib.hid (by rw [← ho, ← hj, ← hp, ← hr, ← hu, ← Nat.mul_mod])
  clear h h' h'' hx hy hs hp fs fp hN hz0 hbl hq fq hr fr ht ft hu fu he1 fe1 hg fg he2 fe2 hj fj hv fv he3 fe3 ho fo he4 fe4
  go_enter Try.func11, Try.ntmps11
  go_wp2_with (first
    | ((with_reducible refine (few_yes a n c _ Hn).mono ?_); rintro e w' ⟨rfl, rfl⟩)
    | ((with_reducible refine (few_yes a' m c' _ Hm).mono ?_); rintro e w' ⟨rfl, rfl⟩)
    | ((with_reducible refine (few_yes b k d _ Hk).mono ?_); rintro e w' ⟨rfl, rfl⟩)
    | ((with_reducible refine (div_any a n c x b k d z _ (by omega) (by omega) (L.out.gw 2 rfl) (L.out.gw 0 rfl) Hz.out).mono ?_); rintro e w1 ⟨v, v', rfl, hv, hv'⟩; rw [Eq.out] at hv; rw [Er.out] at hv'; obtain ⟨a1, rfl, S1, B1⟩ := hv.open; obtain ⟨a2, rfl, S2, _⟩ := hv'.open; replace L := Lib.hid (((L.out.call B1).addW S1).addW S2); clear hv hv' S1 S2 B1)
    | ((with_reducible refine (div_any a' m c' y b k d z _ (by omega) (by omega) (L.out.gw 3 rfl) (L.out.gw 2 rfl) Hz.out).mono ?_); rintro e w3 ⟨v, v', rfl, hv, hv'⟩; rw [Et.out] at hv; rw [Eu.out] at hv'; obtain ⟨a3, rfl, S3, B3⟩ := hv.open; obtain ⟨a4, rfl, S4, _⟩ := hv'.open; replace L := Lib.hid (((L.out.call B3).addW S3).addW S4); clear hv hv' S3 S4 B3)
    | ((with_reducible refine (add_any a n c x a' m c' y _ (by omega) (by omega) (L.out.gw 6 rfl) (L.out.gw 5 rfl)).mono ?_); rintro e w5 ⟨v, rfl, hv⟩; rw [Es.out] at hv; obtain ⟨a5, rfl, S5, B5⟩ := hv.open; replace L := Lib.hid ((L.out.call B5).addW S5); clear hv S5 B5)
    | ((with_reducible refine (div_any a5 (dl 64 s) (dl 64 s) s b k d z _ (Nat.le_trans Ks.out (by omega)) (by omega) (L.out.gw 0 rfl) (L.out.gw 5 rfl) Hz.out).mono ?_); rintro e w6 ⟨v, v', rfl, hv, hv'⟩; rw [Ee1.out] at hv; rw [Eg.out] at hv'; obtain ⟨a6, rfl, S6, B6⟩ := hv.open; obtain ⟨a7, rfl, S7, _⟩ := hv'.open; replace L := Lib.hid (((L.out.call B6).addW S6).addW S7); clear hv hv' S6 S7 B6)
    | ((with_reducible refine (mul_any a n c x a' m c' y _ (by omega) (by omega) (L.out.gw 9 rfl) (L.out.gw 8 rfl)).mono ?_); rintro e w8 ⟨v, rfl, hv⟩; rw [Ep.out] at hv; obtain ⟨a8, rfl, S8, B8⟩ := hv.open; replace L := Lib.hid ((L.out.call B8).addW S8); clear hv S8 B8)
    | ((with_reducible refine (div_any a8 (dl 64 p) (dl 64 p) p b k d z _ (Nat.le_trans Kp.out (by omega)) (by omega) (L.out.gw 0 rfl) (L.out.gw 8 rfl) Hz.out).mono ?_); rintro e w9 ⟨v, v', rfl, hv, hv'⟩; rw [Ee2.out] at hv; rw [Ej.out] at hv'; obtain ⟨a9, rfl, S9, B9⟩ := hv.open; obtain ⟨a10, rfl, S10, _⟩ := hv'.open; replace L := Lib.hid (((L.out.call B9).addW S9).addW S10); clear hv hv' S9 S10 B9)
    | ((with_reducible refine (len_any b k d z _ (by omega) (L.out.gw 10 rfl)).mono ?_); rintro e w' ⟨rfl, rfl⟩)
    | ((with_reducible refine (add_any a2 (dl 64 r) (dl 64 r) r a4 (dl 64 u) (dl 64 u) u _ (Nat.le_trans Kr.out (by omega)) (Nat.le_trans Ku.out (by omega)) (L.out.gw 8 rfl) (L.out.gw 6 rfl)).mono ?_); rintro e w11 ⟨v, rfl, hv⟩; rw [Ev.out] at hv; obtain ⟨a11, rfl, S11, B11⟩ := hv.open; replace L := Lib.hid ((L.out.call B11).addW S11); clear hv S11 B11)
    | ((with_reducible refine (div_any a11 (dl 64 v) (dl 64 v) v b k d z _ (Nat.le_trans Kv.out (by omega)) (by omega) (L.out.gw 0 rfl) (L.out.gw 11 rfl) Hz.out).mono ?_); rintro e w12 ⟨v, v', rfl, hv, hv'⟩; rw [Ee3.out] at hv; rw [Ev2.out] at hv'; obtain ⟨a12, rfl, S12, B12⟩ := hv.open; obtain ⟨a13, rfl, S13, _⟩ := hv'.open; replace L := Lib.hid (((L.out.call B12).addW S12).addW S13); clear hv hv' S12 S13 B12)
    | ((with_reducible refine (mul_any a2 (dl 64 r) (dl 64 r) r a4 (dl 64 u) (dl 64 u) u _ (Nat.le_trans Kr.out (by omega)) (Nat.le_trans Ku.out (by omega)) (L.out.gw 11 rfl) (L.out.gw 9 rfl)).mono ?_); rintro e w14 ⟨v, rfl, hv⟩; rw [Eo.out] at hv; obtain ⟨a14, rfl, S14, B14⟩ := hv.open; replace L := Lib.hid ((L.out.call B14).addW S14); clear hv S14 B14)
    | ((with_reducible refine (div_any a14 (dl 64 o) (dl 64 o) o b k d z _ (Nat.le_trans Ko.out (by omega)) (by omega) (L.out.gw 0 rfl) (L.out.gw 14 rfl) Hz.out).mono ?_); rintro e w15 ⟨v, v', rfl, hv, hv'⟩; rw [Ee4.out] at hv; rw [Eo2.out] at hv'; obtain ⟨a15, rfl, S15, B15⟩ := hv.open; obtain ⟨a16, rfl, S16, _⟩ := hv'.open; replace L := Lib.hid (((L.out.call B15).addW S15).addW S16); clear hv hv' S15 S16 B15)
    | ((with_reducible refine (words_any a7 a13 (dl 64 g) (dl 64 g) (dl 64 g) g _ (Nat.le_trans Kg.out (by omega)) (L.out.gw 9 rfl) (L.out.gw 3 rfl)).mono ?_); rintro e w17 ⟨rfl, B17⟩; replace L := Lib.hid (L.out.call B17); clear B17)
    | ((with_reducible refine (words_any a10 a16 (dl 64 j) (dl 64 j) (dl 64 j) j _ (Nat.le_trans Kj.out (by omega)) (L.out.gw 6 rfl) (L.out.gw 0 rfl)).mono ?_); rintro e w18 ⟨rfl, B18⟩; replace L := Lib.hid (L.out.call B18); clear B18)
    | ((with_reducible refine (awake_any _).mono ?_); rintro e w19 ⟨rfl, B19⟩; replace L := Lib.hid (L.out.call B19); clear B19))
  go_ret
  exact ⟨rfl, L.out.bel⟩
end Go.Proofs.Ytmnokjapapheiaa
