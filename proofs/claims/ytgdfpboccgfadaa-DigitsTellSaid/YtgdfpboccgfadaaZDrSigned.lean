/-
  The contracts of the reference's power and Signed. No statement is proved here: lemmas for the walks.
-/
import Derived.Test.YtgdfpboccgfadaaZDrPlain
namespace Go.Proofs.Ytgdfpboccgfadaa
open Go.RowKit

set_option maxRecDepth 8000 in
theorem power_v (k : Nat) (w : World) (hk8 : k ≤ 8) (z : Int) (hz : z = (k : Int)) :
    Calls Try.prog 32 #[.int .i64 z] w fun e w' => e = .returned (.int .i64 ((2 ^ k : Nat) : Int)) ∧ w' = w := by
  subst hz
  go_enter Try.func32, Try.ntmps32
  go_wp2_with fail
  go_loop [3, 4] (fun v3 v4 => ∃ i p : Nat, i ≤ k ∧ v4 = .int .i64 i ∧ v3 = .int .i64 (p : Int) ∧ p = 2 ^ i) (fun _ v4 => k - (intOf v4).toNat)
  case atStart => exact ⟨0, 1, by omega, rfl, rfl, rfl⟩
  case round =>
    obtain ⟨i, p, hi, rfl, rfl, hp⟩ := hrel
    have HP := Lib.hid hp
    have hpb : p ≤ 256 := by
      have : 2 ^ i ≤ 2 ^ 8 := Nat.pow_le_pow_right (by omega) (by omega)
      omega
    clear hp
    by_cases hlt : i < k
    · have hid : decide ((i : Int) < (k : Int)) = true := by simp; omega
      go_wp2_with fail
      go_round
      case rel => exact ⟨i + 1, 2 * p, by omega, by go_num, by go_num, by rw [HP.out, Nat.pow_succ, Nat.mul_comm]⟩
      case measure => (simp [intOf] <;> omega)
    · obtain rfl : k = i := by omega
      have hid : decide ((k : Int) < (k : Int)) = false := by simp
      clear hlt hi
      go_wp2_with fail
      go_ret
      exact ⟨by rw [HP.out]; rfl, rfl⟩
/-- The reference's way to a digit that may be below 0. -/
theorem ref_digit {x k i s : Nat} (hk : 1 ≤ k) (hs : pl x k i + sov x k i = s) (hsb : s ≤ 2 ^ k) : (2 ^ (k - 1) ≤ s → sov x k (i + 1) = 1 ∧ sdg x k i = (s : Int) - ((2 ^ k : Nat) : Int)) ∧ (¬ 2 ^ (k - 1) ≤ s → sov x k (i + 1) = 0 ∧ sdg x k i = (s : Int)) := by
  have e := over_if hk hsb
  unfold sdg
  rw [sov, hs, e]
  constructor
  · intro h
    rw [if_pos h, ← nat_pow]
    exact ⟨rfl, by omega⟩
  · intro h
    rw [if_neg h]
    exact ⟨rfl, by simp⟩
set_option maxRecDepth 8000 in
set_option maxHeartbeats 1600000 in
theorem refSigned_v (a : Option Addr) (n c x k m : Nat) (w : World) (hn : n ≤ 64) (hk : 2 ≤ k) (hk8 : k ≤ 8) (hm : (8 * n + k - 1) / k = m) (hx : x < 2 ^ (8 * n)) (hs : Sb w w.heap.size a n c x) :
    Calls Try.prog 17 #[.slice a n c, .int .i64 (k : Int)] w fun e w' => ∃ v, e = .returned v ∧ OwnZ w' w.heap.size v (m + 1) (sdg x k) ∧ Below w.heap.size w w' := by
  have HS := Lib.hid hs
  have HM := Lib.hid hm
  have hmb : m ≤ 600 := by
    have := Nat.div_le_self (8 * n + k - 1) k
    omega
  have hmk : 8 * n ≤ m * k := by
    have h1 := Nat.div_add_mod (8 * n + k - 1) k
    have h2 := Nat.mod_lt (8 * n + k - 1) (show 0 < k by omega)
    rw [hm, Nat.mul_comm] at h1
    omega
  have HL := Lib.hid (sdg_last hx hmk hk)
  have HOV : Hid (∀ i, sov x k i ≤ 1) := Lib.hid (sov_le x (by omega))
  obtain ⟨j, hj⟩ : ∃ j, k = j + 1 := ⟨k - 1, by omega⟩
  have hkj : (k : Int) - 1 = (j : Int) := by omega
  have HJ := Lib.hid hj
  have j8 : j ≤ 8 := by omega
  clear hs hm hx hmk hj
  go_enter Try.func17, Try.ntmps17
  go_wp2_with ((with_reducible refine (refPlain_v a n c x k m _ hn (by omega) hk8 HM.out HS.out).mono ?_); rintro e wc ⟨v, rfl, hO, hb⟩; obtain ⟨al, cl, rfl, hsl⟩ := hO.sl; have HB0 := Lib.hid hb; have HSL := Lib.hid hsl; clear hO hb hsl)
  go_loopw [6, 7, 8] (fun v6 v7 v8 wr => ∃ i : Nat, i ≤ m ∧ v8 = .int .i64 i ∧ v7 = .int .i64 ((sov x k i : Nat) : Int) ∧ OwnZ wr wc.heap.size v6 i (sdg x k) ∧ Below wc.heap.size wc wr) (fun _ _ v8 _ => m - (intOf v8).toNat)
  case atStart => exact ⟨0, by omega, rfl, rfl, OwnZ.nil _ _ _, Below.refl _ _⟩
  case round =>
    obtain ⟨i, hi, rfl, rfl, HO, HB⟩ := hrel
    have hz := HB.size
    have HO1 := Lib.hid HO
    have HB1 := Lib.hid HB
    clear HO HB
    by_cases hlt : i < m
    · have hid : decide ((i : Int) < (m : Int)) = true := by simp; omega
      have hlt' : (i : Int) < (m : Int) := by omega
      obtain ⟨b, o, rfl, _, hcell⟩ := (HSL.out.below HB1.out).get i hlt
      have hpl := pl_lt x k i
      have hp8 : 2 ^ k ≤ 2 ^ 8 := Nat.pow_le_pow_right (by omega) hk8
      have hov := HOV.out i
      obtain ⟨s, es⟩ : ∃ s, pl x k i + sov x k i = s := ⟨_, rfl⟩
      have hsb : s ≤ 2 ^ k := by omega
      have HD := Lib.hid (ref_digit (by omega) es hsb)
      obtain ⟨y, ey⟩ : ∃ y, pl x k i = y := ⟨_, rfl⟩
      obtain ⟨u, eu⟩ : ∃ u, sov x k i = u := ⟨_, rfl⟩
      rw [ey] at hcell es hpl
      rw [eu] at es hov ⊢
      have es' : (y : Int) + (u : Int) = (s : Int) := by omega
      obtain ⟨P, eP⟩ : ∃ P, 2 ^ j = P := ⟨_, rfl⟩
      obtain ⟨R, eR⟩ : ∃ R, 2 ^ k = R := ⟨_, rfl⟩
      have hR : R ≤ 256 := by omega
      have hs5 : s ≤ 256 := by omega
      have HP := Lib.hid eP
      have HR := Lib.hid eR
      have EJ : k - 1 = j := by have := HJ.out; omega
      rw [EJ, eP, eR] at HD
      clear hpl hp8 es ey eu hsb eP eR EJ
      by_cases hh : P ≤ s
      · obtain ⟨S1, S2⟩ := HD.out.1 hh
        have HS1 := Lib.hid S1
        obtain ⟨d, ed⟩ : ∃ d : Int, (s : Int) - (R : Int) = d := ⟨_, rfl⟩
        have HS2 : Hid (sdg x k i = d) := Lib.hid (S2.trans ed)
        have d1 : decide (P ≤ s) = true := by simpa using hh
        have d2 : decide ((P : Int) ≤ (s : Int)) = true := by simp; omega
        have hd1 : -300 ≤ d := by omega
        have hd2 : d ≤ 300 := by omega
        clear S1 S2 HD hh
        go_wp2_with (first
          | ((with_reducible refine (power_v j _ j8 (j : Int) rfl).mono ?_); rintro e w' ⟨rfl, rfl⟩; rw [HP.out])
          | ((with_reducible refine (power_v k _ hk8 (k : Int) rfl).mono ?_); rintro e w' ⟨rfl, rfl⟩; rw [HR.out])
          | ((with_reducible apply lay_append_z (f := sdg x k) (n := i)); (case hgd => exact rfl); (case ho => exact rfl); (case hs => exact rfl); (case hx => exact rfl); (case hown => exact HO1.out.alloc _); (case hc => rw [HS2.out]; simp); (case hn => omega); (case hbase => simp; omega); intro v' w' ho' hb' _ _; go_simp))
        go_roundw
        case rel => exact ⟨i + 1, by omega, by go_num, by rw [HS1.out]; rfl, ho', (HB1.out.alloc hz _).trans hb'⟩
        case measure => simp [intOf]; omega
      · obtain ⟨S1, S2⟩ := HD.out.2 hh
        have HS1 := Lib.hid S1
        have HS2 := Lib.hid S2
        have d1 : decide (P ≤ s) = false := by simpa using hh
        have d2 : decide ((P : Int) ≤ (s : Int)) = false := by simp; omega
        clear S1 S2 HD hh
        go_wp2_with (first
          | ((with_reducible refine (power_v j _ j8 (j : Int) rfl).mono ?_); rintro e w' ⟨rfl, rfl⟩; rw [HP.out])
          | ((with_reducible apply lay_append_z (f := sdg x k) (n := i)); (case hgd => exact rfl); (case ho => exact rfl); (case hs => exact rfl); (case hx => exact rfl); (case hown => exact HO1.out.alloc _); (case hc => rw [HS2.out]; simp); (case hn => omega); (case hbase => simp; omega); intro v' w' ho' hb' _ _; go_simp))
        go_roundw
        case rel => exact ⟨i + 1, by omega, by go_num, by rw [HS1.out]; rfl, ho', (HB1.out.alloc hz _).trans hb'⟩
        case measure => simp [intOf]; omega
    · obtain rfl : m = i := by omega
      have hid : decide ((m : Int) < (m : Int)) = false := by simp
      obtain ⟨u, eu⟩ : ∃ u, sov x k m = u := ⟨_, rfl⟩
      rw [eu] at HL ⊢
      clear hlt hi eu
      go_wp2_with ((with_reducible apply lay_append_z (f := sdg x k) (n := m)); (case hgd => exact rfl); (case ho => exact rfl); (case hs => exact rfl); (case hx => exact rfl); (case hown => exact HO1.out.alloc _); (case hc => rw [HL.out]; simp); (case hn => omega); (case hbase => simp; omega); intro v' w' ho' hb' _ _; go_simp)
      go_ret
      refine ⟨_, rfl, ?_, HB0.out.trans (((HB1.out.alloc hz _).trans hb').mono HB0.out.size)⟩
      exact ho'.lower HB0.out.size
end Go.Proofs.Ytgdfpboccgfadaa
