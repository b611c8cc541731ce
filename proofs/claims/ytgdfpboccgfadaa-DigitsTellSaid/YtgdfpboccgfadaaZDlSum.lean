/-
  The walk of DigitsSum. No statement is proved here: lemmas for the card.
-/
import Derived.Test.YtgdfpboccgfadaaZDlBytes
import Derived.Test.YtgdfpboccgfadaaZDlTold
import Derived.Test.YtgdfpboccgfadaaZNuOf
namespace Go.Proofs.Ytgdfpboccgfadaa
open Go.RowKit

theorem dl_fit {x e K : Nat} (h : x < 2 ^ e) (he : e ≤ 64 * K) : dl 64 x ≤ K := (dl_le 64 x K (by omega)).2 (Nat.lt_of_lt_of_le h (Nat.pow_le_pow_right (by omega) he))
theorem pow_256 {k : Nat} (h : k ≤ 8) : 2 ^ k ≤ 256 := Nat.le_trans (Nat.pow_le_pow_right (by omega) h) (by decide)
theorem pl_small (x i : Nat) {k : Nat} (h : k ≤ 8) : -256 ≤ ((pl x k i : Nat) : Int) ∧ ((pl x k i : Nat) : Int) ≤ 256 := by
  have h1 := pl_lt x k i
  have h2 := pow_256 h
  omega
theorem sdg_small (x i : Nat) {k : Nat} (h0 : 1 ≤ k) (h : k ≤ 8) : -256 ≤ sdg x k i ∧ sdg x k i ≤ 256 := by
  have h1 := sdg_bd x h0 i
  have h2 := pow_256 (show k - 1 ≤ 8 by omega)
  rw [← nat_pow] at h1
  omega
set_option maxRecDepth 20000 in
set_option maxHeartbeats 3200000 in
theorem dsum_far (a : Option Addr) (n c : Nat) (z : Int) (w : World) (h : 64 < n ∨ z < 2 ∨ 8 < z) :
    Calls Try.prog 4 #[.slice a n c, .int .i64 z] w fun e w' => e = .returned (.bool true) ∧ Below w.heap.size w w' := by
  by_cases h1 : 64 < n
  · have d1 : decide ((64 : Int) < (n : Int)) = true := by simp; omega
    clear h h1
    go_enter Try.func4, Try.ntmps4
    go_wp2_with ((with_reducible refine (dawake_v _).mono ?_); rintro e w1 ⟨rfl, hb⟩; have HB := Lib.hid hb; clear hb)
    go_ret
    exact ⟨rfl, HB.out⟩
  · have d1 : decide ((64 : Int) < (n : Int)) = false := by simp; omega
    by_cases h2 : z < 2
    · have d2 : decide (z < 2) = true := by simpa using h2
      clear h h1 h2
      go_enter Try.func4, Try.ntmps4
      go_wp2_with ((with_reducible refine (dawake_v _).mono ?_); rintro e w1 ⟨rfl, hb⟩; have HB := Lib.hid hb; clear hb)
      go_ret
      exact ⟨rfl, HB.out⟩
    · have d2 : decide (z < 2) = false := by simpa using h2
      have d3 : decide (8 < z) = true := by
        have : 8 < z := by omega
        simpa using this
      clear h h1 h2
      go_enter Try.func4, Try.ntmps4
      go_wp2_with ((with_reducible refine (dawake_v _).mono ?_); rintro e w1 ⟨rfl, hb⟩; have HB := Lib.hid hb; clear hb)
      go_ret
      exact ⟨rfl, HB.out⟩
set_option maxRecDepth 20000 in
set_option maxHeartbeats 6400000 in
theorem dsum_near (a : Option Addr) (n c x k : Nat) (w : World) (hn : n ≤ 64) (hk : 2 ≤ k) (hk8 : k ≤ 8) (hs : Sb w w.heap.size a n c x) :
    Calls Try.prog 4 #[.slice a n c, .int .i64 (k : Int)] w fun e w' => e = .returned (.bool true) ∧ Below w.heap.size w w' := by
  have d0 : decide ((64 : Int) < (n : Int)) = false := by simp; omega
  have d1 : decide ((k : Int) < 2) = false := by simp; omega
  have d2 : decide ((8 : Int) < (k : Int)) = false := by simp; omega
  have HS := Lib.hid hs
  obtain ⟨m, hm⟩ : ∃ m, (8 * n + k - 1) / k = m := ⟨_, rfl⟩
  obtain ⟨m1, hm1⟩ : ∃ m1, m + 1 = m1 := ⟨_, rfl⟩
  have hmb : m ≤ 600 := by
    have := Nat.div_le_self (8 * n + k - 1) k
    omega
  have hkm : 8 * n ≤ m * k := by
    have h1 := Nat.div_add_mod (8 * n + k - 1) k
    have h2 := Nat.mod_lt (8 * n + k - 1) (show 0 < k by omega)
    rw [hm, Nat.mul_comm] at h1
    omega
  have hkm2 : k * m ≤ 600 := by
    have := Nat.div_mul_le_self (8 * n + k - 1) k
    rw [hm, Nat.mul_comm] at this
    omega
  have HM := Lib.hid hm
  have HM1 := Lib.hid hm1
  have HK1 : Hid (k * m ≤ 10000) := Lib.hid (by omega)
  have HK2 : Hid (k * m1 ≤ 10000) := Lib.hid (by rw [← hm1, Nat.mul_succ]; omega)
  have V1 : Hid (vl (fun i => ((pl x k i : Nat) : Int)) k m = (x : Int)) := Lib.hid (pl_all hs.fits (by rw [Nat.mul_comm k m]; exact hkm))
  have V2 : Hid (vl (sdg x k) k m1 = (x : Int)) := Lib.hid (by rw [← hm1]; exact sdg_all hs.fits hkm hk)
  have HLAST := Lib.hid (sdg_last hs.fits hkm hk)
  have z1 : (m : Int) + 1 = (m1 : Int) := by omega
  have hne : ((m1 : Int) != (m1 : Int)) = false := by simp
  have hmm : (m : Int) < (m1 : Int) := by omega
  have hm1b : m1 ≤ 10000 := by omega
  have HDX : Hid (dl 64 x ≤ 1000) := Lib.hid (dl_fit hs.fits (by omega))
  have hkb : (k : Int) ≤ 8 := by omega
  clear hs hm hm1 hkm hkm2
  go_enter Try.func4, Try.ntmps4
  go_wp2_with ((with_reducible refine (nof_any a n c x _ (by omega) HS.out).mono ?_); rintro e w1 ⟨v, rfl, hv⟩; obtain ⟨an, rfl, S1, B1⟩ := hv.open; have LN := Lib.hid (((Lv.start w).call B1).addW S1); clear hv S1 B1)
  go_loop [6, 7] (fun v6 v7 => ∃ j p : Nat, j + 1 ≤ k ∧ v7 = .int .i64 ((j : Int) + 1) ∧ v6 = .int .i64 (p : Int) ∧ p = 2 ^ j) (fun _ v7 => k - (intOf v7).toNat)
  case atStart => exact ⟨0, 1, by omega, rfl, rfl, rfl⟩
  case round =>
    obtain ⟨j, p, hj, rfl, rfl, hp⟩ := hrel
    have hpb : p ≤ 256 := by
      rw [hp]
      exact pow_256 (by omega)
    by_cases hlt : j + 1 < k
    · have hid : decide ((j : Int) + 1 < (k : Int)) = true := by simp; omega
      have HP := Lib.hid hp
      clear hp
      go_wp2_with fail
      go_round
      case rel => exact ⟨j + 1, 2 * p, by omega, by go_num, by go_num, by rw [HP.out, Nat.pow_succ, Nat.mul_comm]⟩
      case measure => (simp [intOf] <;> omega)
    · have ej : j = k - 1 := by omega
      have ezj : (j : Int) + 1 = (k : Int) := by omega
      have hid : decide ((k : Int) < (k : Int)) = false := by simp
      rw [ej] at hp
      have hpk := half_pow (k := k) (by omega)
      rw [← hp] at hpk
      obtain ⟨R, eR⟩ : ∃ R, 2 * p = R := ⟨_, rfl⟩
      have zR : 2 * (p : Int) = (R : Int) := by omega
      have HPL : Hid (∀ i, pl x k i < R) := Lib.hid fun i => by rw [← eR, ← hpk]; exact pl_lt x k i
      have HSD : Hid (∀ i, -(p : Int) ≤ sdg x k i ∧ sdg x k i < (p : Int)) := Lib.hid fun i => by
        have := sdg_bd x (k := k) (by omega) i
        rw [← nat_pow, ← hp] at this
        exact this
      have HOV : Hid (∀ i, sov x k i ≤ 1) := Lib.hid (sov_le x (by omega))
      rw [ezj]
      have hR5 : R ≤ 600 := by omega
      clear hlt ej ezj hp hpk eR hj
      go_wp2_with (first
        | ((with_reducible refine (plain_z a n c x k m (k : Int) _ rfl hn (by omega) hk8 HM.out (HS.out.call LN.out.bel)).mono ?_); rintro e w2 ⟨g1, rfl, hr, hb⟩; replace LN := Lib.hid (LN.out.call hb); have L := Lib.hid ((Lz.start w2).add hr); clear hr hb)
        | ((with_reducible refine (signed_z a n c x k m m1 (k : Int) _ rfl hn hk hk8 HM.out HM1.out (HS.out.call LN.out.bel)).mono ?_); rintro e w3 ⟨g2, rfl, hr, hb⟩; replace LN := Lib.hid (LN.out.call hb); replace L := Lib.hid ((L.out.call hb).add hr); clear hr hb)
        | ((with_reducible refine (told_v (some ⟨g1, 0, none⟩) m m k _ an (dl 64 x) (dl 64 x) x _ (by omega) hk8 (by omega) HK1.out (fun i _ => pl_small x i hk8) V1.out (L.out.gz 1 rfl) (LN.out.gw 0 rfl) HDX.out).mono ?_); rintro e w4 ⟨rfl, hb⟩; replace LN := Lib.hid (LN.out.call hb); replace L := Lib.hid (L.out.call hb); clear hb)
        | ((with_reducible refine (told_v (some ⟨g2, 0, none⟩) m1 m1 k _ an (dl 64 x) (dl 64 x) x _ (by omega) hk8 (by omega) HK2.out (fun i _ => sdg_small x i (by omega) hk8) V2.out (L.out.gz 0 rfl) (LN.out.gw 0 rfl) HDX.out).mono ?_); rintro e w5 ⟨rfl, hb⟩; replace LN := Lib.hid (LN.out.call hb); replace L := Lib.hid (L.out.call hb); clear hb))
      go_loop [12] (fun v => ∃ i : Nat, i ≤ m ∧ v = .int .i64 i) (fun v => m - (intOf v).toNat)
      case atStart => exact ⟨0, by omega, rfl⟩
      case round =>
        obtain ⟨i, hi, rfl⟩ := hrel
        by_cases hlt : i < m
        · have hid : decide ((i : Int) < (m : Int)) = true := by simp; omega
          have hlt' : (i : Int) < (m : Int) := by omega
          have hlt2 : (i : Int) < (m1 : Int) := by omega
          have c1 := (L.out.gz 1 rfl).at0 i hlt
          have c2 := (L.out.gz 0 rfl).at0 i (by omega)
          have b1 := HPL.out i
          have b2 := HSD.out i
          generalize pl x k i = y at *
          generalize sdg x k i = d at *
          obtain ⟨b3, b4⟩ := b2
          have q1 : decide ((y : Int) < 0) = false := by simp
          have q2 : decide (R ≤ y) = false := by simp; omega
          have q3 : decide ((R : Int) ≤ (y : Int)) = false := by simp; omega
          have q4 : decide (d < -(p : Int)) = false := by simp; omega
          have q5 : decide ((p : Int) ≤ d) = false := by simp; omega
          clear b1
          go_wp2_with fail
          go_round
          case rel => exact ⟨i + 1, by omega, by go_num⟩
          case measure => (simp [intOf] <;> omega)
        · obtain rfl : m = i := by omega
          have hid : decide ((m : Int) < (m : Int)) = false := by simp
          have c2 := (L.out.gz 0 rfl).at0 m (by omega)
          rw [HLAST.out] at c2
          have hov := HOV.out m
          generalize sov x k m = u at *
          clear hlt hi
          rcases (by omega : u = 0 ∨ u = 1) with rfl | rfl
          · have c3 : w5.cell? ⟨g2, m, none⟩ = some (.int .i64 0) := c2
            clear c2
            go_wp2_with ((with_reducible refine (dawake_v _).mono ?_); rintro e w6 ⟨rfl, hb⟩; replace LN := Lib.hid (LN.out.call hb); clear hb)
            go_ret
            exact ⟨rfl, LN.out.bel⟩
          · have c3 : w5.cell? ⟨g2, m, none⟩ = some (.int .i64 1) := c2
            clear c2
            go_wp2_with ((with_reducible refine (dawake_v _).mono ?_); rintro e w6 ⟨rfl, hb⟩; replace LN := Lib.hid (LN.out.call hb); clear hb)
            go_ret
            exact ⟨rfl, LN.out.bel⟩
end Go.Proofs.Ytgdfpboccgfadaa
