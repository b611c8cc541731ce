/-
  The contract of the reference's Naf. No statement is proved here: lemmas for the walks.
-/
import Derived.Test.YtgdfpboccgfadaaZDrSigned
import Derived.Test.YtgdfpboccgfadaaZOwnZB
import Derived.Test.YtgdfpboccgfadaaBuR
namespace Go.Proofs.Ytgdfpboccgfadaa
open Go.RowKit

theorem shf_half (x : Nat) : shf x (-1) = x / 2 := by
  unfold shf
  rw [if_pos (by omega)]
  rfl
theorem tog_low (n k : Nat) : togD n 0 1 k k = n % 2 ^ k := by rw [togD_all, tog_one, Nat.pow_zero, Nat.div_one]
/-- One place of the reference's way. -/
theorem naf_even {k n : Nat} (h : n % 2 = 0) : cutN k n = n / 2 ∧ lowD k n = 0 := by
  unfold cutN lowD
  rw [if_neg (by omega), if_neg (by omega)]
  exact ⟨rfl, rfl⟩
theorem naf_high {k n P R r : Nat} (h : n % 2 = 1) (hP : 2 ^ (k - 1) = P) (hR : 2 ^ k = R) (hr : n % 2 ^ k = r) (hPr : P ≤ r) : cutN k n = (n + (R - r)) / 2 ∧ lowD k n = (r : Int) - (R : Int) := by
  unfold cutN lowD
  rw [hr, hP, if_pos h, if_pos h, if_pos hPr, if_pos hPr, ← nat_pow, hR]
  exact ⟨rfl, rfl⟩
theorem naf_low {k n P r : Nat} (h : n % 2 = 1) (hP : 2 ^ (k - 1) = P) (hr : n % 2 ^ k = r) (hPr : ¬ P ≤ r) : cutN k n = (n - r) / 2 ∧ lowD k n = (r : Int) := by
  unfold cutN lowD
  rw [hr, hP, if_pos h, if_pos h, if_neg hPr, if_neg hPr]
  exact ⟨rfl, rfl⟩
set_option maxRecDepth 8000 in
set_option maxHeartbeats 3200000 in
theorem refNaf_v (a : Option Addr) (n c x k : Nat) (w : World) (hn : n ≤ 64) (hk : 2 ≤ k) (hk8 : k ≤ 8) (hs : Sb w w.heap.size a n c x) :
    Calls Try.prog 18 #[.slice a n c, .int .i64 (k : Int)] w fun e w' => ∃ v, e = .returned v ∧ OwnZ w' w.heap.size v (8 * n + 1) (ndg x k) ∧ Below w.heap.size w w' := by
  have HS := Lib.hid hs
  have HC := Lib.hid hs.cut
  have HLE : Hid (∀ i, i ≤ 8 * n → dl 8 (left x k i) ≤ 70) := Lib.hid fun i hi => by
    have h1 := left_le hk hs.fits i hi
    have h2 : left x k i < 2 ^ (8 * (n + 1)) := Nat.lt_of_le_of_lt h1 (Nat.pow_lt_pow_right (by omega) (by omega))
    exact Nat.le_trans ((dl_le 8 _ (n + 1) (by omega)).2 h2) (by omega)
  have HDG := Lib.hid (ndg_left x hk)
  obtain ⟨m, hm⟩ : ∃ m, 8 * n = m := ⟨_, rfl⟩
  have hmz : 8 * (n : Int) = (m : Int) := by omega
  have hm6 : m ≤ 512 := by omega
  obtain ⟨j, hj⟩ : ∃ j, k = j + 1 := ⟨k - 1, by omega⟩
  have hkj : (k : Int) - 1 = (j : Int) := by omega
  have HJ := Lib.hid hj
  have j8 : j ≤ 8 := by omega
  have jn1 : (j : Int) - -1 = (k : Int) := by omega
  rw [hm] at HLE ⊢
  clear hs hj hm jn1
  go_enter Try.func18, Try.ntmps18
  go_wp2_with ((with_reducible refine (cut_any a n c x _ (by omega) HS.out).mono ?_); rintro e wc ⟨rfl, hw⟩; have hw' := hw.symm; subst hw')
  go_loopw [5, 6, 7] (fun v5 v6 v7 wr => ∃ (i : Nat) (av : Option Addr) (cv : Nat), i ≤ m + 1 ∧ v7 = .int .i64 i ∧ v5 = .slice av (dl 8 (left x k i)) cv ∧ Sb wr wr.heap.size av (dl 8 (left x k i)) cv (left x k i) ∧ OwnZB wr w.heap.size v6 i (ndg x k) ∧ Below w.heap.size w wr) (fun _ _ v7 _ => m + 1 - (intOf v7).toNat)
  case atStart => exact ⟨0, a, c, by omega, rfl, rfl, HC.out, OwnZB.nil _ _ _, Below.refl _ _⟩
  case round =>
    obtain ⟨i, av, cv, hi, rfl, rfl, HN, HO, HB⟩ := hrel
    have hz := HB.size
    have HO1 := Lib.hid HO
    have HB1 := Lib.hid HB
    have HN1 := Lib.hid HN
    clear HO HB HN
    by_cases hlt : i ≤ m
    · have hid : decide ((i : Int) ≤ (m : Int)) = true := by simp; omega
      have hid2 : decide (i ≤ m) = true := by simpa using hlt
      have hdl := HLE.out i hlt
      have HD := HDG.out i
      have hsucc : left x k (i + 1) = cutN k (left x k i) := rfl
      obtain ⟨N, eN⟩ : ∃ N, left x k i = N := ⟨_, rfl⟩
      rw [eN] at HN1 hdl HD hsucc ⊢
      obtain ⟨z, ez⟩ : ∃ z, dl 8 N = z := ⟨_, rfl⟩
      rw [ez] at HN1 hdl ⊢
      have HSU := Lib.hid hsucc
      have HB0 : Hid (bitI N 0 = ((tb N 0 : Nat) : Int)) := Lib.hid (bitI_tb N 0 0 rfl)
      have ht0 : tb N 0 = N % 2 := by unfold tb; rw [Nat.pow_zero, Nat.div_one]
      clear eN ez hsucc
      by_cases hodd : N % 2 = 1
      · have HB0' : Hid (bitI N 0 = 1) := Lib.hid (by rw [HB0.out, ht0, hodd]; rfl)
        obtain ⟨P, eP⟩ : ∃ P, 2 ^ j = P := ⟨_, rfl⟩
        obtain ⟨R, eR⟩ : ∃ R, 2 ^ k = R := ⟨_, rfl⟩
        obtain ⟨r, er⟩ : ∃ r, N % 2 ^ k = r := ⟨_, rfl⟩
        have hrN : r ≤ N := by rw [← er]; exact Nat.mod_le _ _
        have hrR : r < R := by rw [← er, ← eR]; exact Nat.mod_lt _ (Nat.two_pow_pos k)
        have hR8 : R ≤ 256 := by
          rw [← eR]
          have : 2 ^ k ≤ 2 ^ 8 := Nat.pow_le_pow_right (by omega) hk8
          omega
        have eRP : R = 2 * P := by
          rw [← eR, ← eP, HJ.out, Nat.pow_succ]
          omega
        have EP1 : 2 ^ (k - 1) = P := by rw [← eP, HJ.out, Nat.add_sub_cancel]
        have EQ : Hid (togD N 0 1 k k = r) := Lib.hid ((tog_low N k).trans er)
        have HH := Lib.hid (fun h => naf_high hodd EP1 eR er h)
        have HL := Lib.hid (fun h => naf_low hodd EP1 er h)
        have HRN := Lib.hid hrN
        have HP := Lib.hid eP
        have HR := Lib.hid eR
        clear HB0 ht0 hodd eP eR er EP1 hrN
        go_wp2_with ((with_reducible refine (refBit_any av z cv N 0 _ (by omega) (by omega) HN1.out).mono ?_); rintro e w' ⟨rfl, hww⟩; have hww' := hww.symm; subst hww'; rw [HB0'.out])
        go_loop [8, 9] (fun v8 v9 => ∃ t u : Nat, t + u = k ∧ v9 = .int .i64 ((u : Int) - 1) ∧ v8 = .int .i64 ((togD N 0 1 k t : Nat) : Int)) (fun _ v9 => (intOf v9 + 1).toNat)
        case atStart => exact ⟨0, k, by omega, by go_num, rfl⟩
        case round =>
          obtain ⟨t, u, htu, rfl, rfl⟩ := hrel
          have htl := togD_lt N 0 1 k t
          have htp : 2 ^ t ≤ 2 ^ 8 := Nat.pow_le_pow_right (by omega) (by omega)
          have hT : togD N 0 1 k t ≤ 256 := by omega
          cases u with
          | zero =>
            obtain rfl : k = t := by omega
            have e0 : ((0 : Nat) : Int) - 1 = -1 := rfl
            rw [e0, EQ.out]
            clear htl htp hT htu
            by_cases hh : P ≤ r
            · have hh1 : decide (P ≤ r) = true := by simpa using hh
              have hh2 : decide ((P : Int) ≤ (r : Int)) = true := by simp; omega
              obtain ⟨S1, S2⟩ := HH.out hh
              obtain ⟨q, eq⟩ : ∃ q, R - r = q := ⟨_, rfl⟩
              obtain ⟨d, ed⟩ : ∃ d : Int, (r : Int) - (R : Int) = d := ⟨_, rfl⟩
              have edq : -d = (q : Int) := by omega
              have hq : q < 256 := by omega
              have ewq : IntKind.u8.wrap (q : Int) = (q : Int) := by rw [IntKind.wrap_u8]; omega
              have hd1 : -300 ≤ d := by omega
              have hd2 : d ≤ 300 := by omega
              rw [eq] at S1
              have HSS : Hid (shf (N + q) (-1) = left x k (i + 1)) := Lib.hid (by rw [shf_half, HSU.out, S1])
              have HSD : Hid (ndg x k i = d) := Lib.hid (by rw [HD, S2, ed])
              have HDL : Hid (dl 8 (N + q) ≤ 100) := Lib.hid (by
                have h1 := (dl_le 8 N z (by omega)).1 (by have := HN1.out.fits; exact (dl_le 8 N z (by omega)).2 this)
                refine Nat.le_trans ((dl_le 8 (N + q) (z + 1) (by omega)).2 ?_) (by omega)
                rw [Nat.mul_succ, Nat.pow_add]
                have h0 := Nat.two_pow_pos (8 * z)
                omega)
              clear S1 S2 hh HH HL HD eRP eq
              go_wp2_with (first
                | ((with_reducible refine (power_v j _ j8 (j : Int) rfl).mono ?_); rintro e w' ⟨rfl, hww⟩; have hww' := hww.symm; subst hww'; rw [HP.out])
                | ((with_reducible refine (power_v k _ hk8 (k : Int) rfl).mono ?_); rintro e w' ⟨rfl, hww⟩; have hww' := hww.symm; subst hww'; rw [HR.out])
                | ((with_reducible refine (nrefAdd_any av z cv N (some ⟨wr.heap.size, 0, none⟩) 1 1 q _ (by omega) (by omega) (HN1.out.call (below_alloc _ _)) (sb_one wr q hq)).mono ?_); rintro e wa ⟨va, rfl, hv⟩; obtain ⟨aa, ca, rfl, SA, BA⟩ := hv; have HO2 := Lib.hid ((HO1.out.alloc _).call BA); have HB2 := Lib.hid ((HB1.out.alloc hz (.cells #[.int .u8 (q : Int)] 5)).trans (BA.mono (by simp; omega))); have HA := Lib.hid SA; have hz2 := HB2.out.size; clear SA BA)
                | ((with_reducible apply lay_append_zb (f := ndg x k) (n := i)); (case hgd => exact rfl); (case ho => exact rfl); (case hs => exact rfl); (case hx => exact rfl); (case hown => exact HO2.out.alloc _); (case hc => rw [HSD.out]; simp); (case hn => omega); (case hbase => simp; omega); intro v' w' ho' hb' hkeep hsz _ _; have HO3 := Lib.hid ho'; have HB3 := Lib.hid ((HB2.out.alloc hz2 _).trans hb'); have HA3 := Lib.hid ((hkeep _ _ _ _ _ (HA.out.call (below_alloc _ _))).more hsz); have hz3 := HB3.out.size; clear ho' hb' hkeep hsz; go_simp)
                | ((with_reducible refine (refShift_any aa (dl 8 (N + q)) ca (N + q) (-1) _ (Nat.le_trans HDL.out (by omega)) (by omega) (by omega) HA3.out).mono ?_); rintro e ws ⟨vs, rfl, hv⟩; rw [HSS.out] at hv; obtain ⟨a4, c4, rfl, SS, BS⟩ := hv; have HO4 := Lib.hid (HO3.out.call BS); have HB4 := Lib.hid (HB3.out.trans (BS.mono hz3)); have HS4 := Lib.hid SS; clear SS BS))
              go_roundw
              case rel => exact ⟨i + 1, a4, c4, by omega, by go_num, rfl, HS4.out, HO4.out, HB4.out⟩
              case measure => simp [intOf]; omega
            · have hh1 : decide (P ≤ r) = false := by simpa using hh
              have hh2 : decide ((P : Int) ≤ (r : Int)) = false := by simp; omega
              obtain ⟨S1, S2⟩ := HL.out hh
              have hr8 : r < 256 := by omega
              have ewq : IntKind.u8.wrap (r : Int) = (r : Int) := by rw [IntKind.wrap_u8]; omega
              have HSS : Hid (shf (N - r) (-1) = left x k (i + 1)) := Lib.hid (by rw [shf_half, HSU.out, S1])
              have HSD : Hid (ndg x k i = (r : Int)) := Lib.hid (by rw [HD, S2])
              have HDL : Hid (dl 8 (N - r) ≤ 100) := Lib.hid (Nat.le_trans ((dl_le 8 (N - r) z (by omega)).2 (Nat.lt_of_le_of_lt (Nat.sub_le _ _) HN1.out.fits)) (by omega))
              clear S1 S2 hh HH HL HD eRP
              go_wp2_with (first
                | ((with_reducible refine (power_v j _ j8 (j : Int) rfl).mono ?_); rintro e w' ⟨rfl, hww⟩; have hww' := hww.symm; subst hww'; rw [HP.out])
                | ((with_reducible refine (nrefSub_any av z cv N (some ⟨wr.heap.size, 0, none⟩) 1 1 r _ (by omega) (by omega) (HN1.out.call (below_alloc _ _)) (sb_one wr r hr8) HRN.out).mono ?_); rintro e wa ⟨va, rfl, hv⟩; obtain ⟨aa, ca, rfl, SA, BA⟩ := hv; have HO2 := Lib.hid ((HO1.out.alloc _).call BA); have HB2 := Lib.hid ((HB1.out.alloc hz (.cells #[.int .u8 (r : Int)] 5)).trans (BA.mono (by simp; omega))); have HA := Lib.hid SA; have hz2 := HB2.out.size; clear SA BA)
                | ((with_reducible apply lay_append_zb (f := ndg x k) (n := i)); (case hgd => exact rfl); (case ho => exact rfl); (case hs => exact rfl); (case hx => exact rfl); (case hown => exact HO2.out.alloc _); (case hc => rw [HSD.out]; simp); (case hn => omega); (case hbase => simp; omega); intro v' w' ho' hb' hkeep hsz _ _; have HO3 := Lib.hid ho'; have HB3 := Lib.hid ((HB2.out.alloc hz2 _).trans hb'); have HA3 := Lib.hid ((hkeep _ _ _ _ _ (HA.out.call (below_alloc _ _))).more hsz); have hz3 := HB3.out.size; clear ho' hb' hkeep hsz; go_simp)
                | ((with_reducible refine (refShift_any aa (dl 8 (N - r)) ca (N - r) (-1) _ (Nat.le_trans HDL.out (by omega)) (by omega) (by omega) HA3.out).mono ?_); rintro e ws ⟨vs, rfl, hv⟩; rw [HSS.out] at hv; obtain ⟨a4, c4, rfl, SS, BS⟩ := hv; have HO4 := Lib.hid (HO3.out.call BS); have HB4 := Lib.hid (HB3.out.trans (BS.mono hz3)); have HS4 := Lib.hid SS; clear SS BS))
              go_roundw
              case rel => exact ⟨i + 1, a4, c4, by omega, by go_num, rfl, HS4.out, HO4.out, HB4.out⟩
              case measure => simp [intOf]; omega
          | succ u =>
            have e0 : ((u + 1 : Nat) : Int) - 1 = (u : Int) := by omega
            have ES : Hid (togD N 0 1 k (t + 1) = 2 * togD N 0 1 k t + tb N u) := Lib.hid (by rw [togD, show 0 + (k - 1 - t) * 1 = u by omega])
            have EB := Lib.hid (bitI_tb N u (u : Int) rfl)
            have htb := tb_lt N u
            obtain ⟨b, hb⟩ : ∃ b, tb N u = b := ⟨_, rfl⟩
            rw [hb] at EB ES htb
            rw [e0]
            clear htl htp hb
            go_wp2_with ((with_reducible refine (refBit_any av z cv N (u : Int) _ (by omega) (by omega) HN1.out).mono ?_); rintro e w' ⟨rfl, hww⟩; have hww' := hww.symm; subst hww'; rw [EB.out])
            go_round
            case rel => exact ⟨t + 1, u, by omega, rfl, by rw [ES.out]; go_num⟩
            case measure => simp [intOf]
      · have h0 : N % 2 = 0 := by omega
        obtain ⟨S1, S2⟩ := naf_even (k := k) h0
        have HB0' : Hid (bitI N 0 = 0) := Lib.hid (by rw [HB0.out, ht0, h0]; rfl)
        have HSS : Hid (shf N (-1) = left x k (i + 1)) := Lib.hid (by rw [shf_half, HSU.out, S1])
        have HSD : Hid (ndg x k i = 0) := Lib.hid (by rw [HD, S2])
        clear S1 S2 h0 hodd HB0 ht0 HD
        go_wp2_with (first
          | ((with_reducible refine (refBit_any av z cv N 0 _ (by omega) (by omega) HN1.out).mono ?_); rintro e w' ⟨rfl, hww⟩; have hww' := hww.symm; subst hww'; rw [HB0'.out])
          | ((with_reducible apply lay_append_zb (f := ndg x k) (n := i)); (case hgd => exact rfl); (case ho => exact rfl); (case hs => exact rfl); (case hx => exact rfl); (case hown => exact HO1.out.alloc _); (case hc => rw [HSD.out]; simp); (case hn => omega); (case hbase => simp; omega); intro v' w' ho' hb' hkeep hsz _ _; have HO3 := Lib.hid ho'; have HB3 := Lib.hid ((HB1.out.alloc hz _).trans hb'); have HA3 := Lib.hid ((hkeep _ _ _ _ _ (HN1.out.call (below_alloc _ _))).more hsz); have hz3 := HB3.out.size; clear ho' hb' hkeep hsz; go_simp)
          | ((with_reducible refine (refShift_any av z cv N (-1) _ (by omega) (by omega) (by omega) HA3.out).mono ?_); rintro e ws ⟨vs, rfl, hv⟩; rw [HSS.out] at hv; obtain ⟨a4, c4, rfl, SS, BS⟩ := hv; have HO4 := Lib.hid (HO3.out.call BS); have HB4 := Lib.hid (HB3.out.trans (BS.mono hz3)); have HS4 := Lib.hid SS; clear SS BS))
        go_roundw
        case rel => exact ⟨i + 1, a4, c4, by omega, by go_num, rfl, HS4.out, HO4.out, HB4.out⟩
        case measure => simp [intOf]; omega
    · obtain rfl : i = m + 1 := by omega
      have hid : decide (((m : Int) + 1) ≤ (m : Int)) = false := by simp; omega
      generalize dl 8 (left x k (m + 1)) = z at *
      clear hlt hi HN1
      go_wp2_with fail
      go_ret
      exact ⟨_, rfl, HO1.out.own, HB1.out⟩
end Go.Proofs.Ytgdfpboccgfadaa
