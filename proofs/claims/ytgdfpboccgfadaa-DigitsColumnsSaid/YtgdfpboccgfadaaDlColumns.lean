/-
  The walk of DigitsColumns. No statement is proved here: lemmas for the card.
-/
import Derived.Test.YtgdfpboccgfadaaDlSum
import Derived.Test.YtgdfpboccgfadaaNuLen
import Derived.Test.YtgdfpboccgfadaaDrPlain
namespace Go.Proofs.Ytgdfpboccgfadaa
open Go.RowKit

theorem tog_digit (x f a : Nat) : ∀ k t, t < k → tog x f a k / 2 ^ t % 2 = tb x (f + t * a)
  | 0, _, h => by omega
  | k + 1, t, h => by
    have hl := tog_lt x f a k
    have hb := tb_lt x (f + k * a)
    unfold tog
    rcases (by omega : t < k ∨ t = k) with ht | rfl
    · rw [← tog_digit x f a k t ht]
      obtain ⟨e, rfl⟩ : ∃ e, k = t + (e + 1) := ⟨k - t - 1, by omega⟩
      rw [Nat.pow_add, Nat.pow_succ, Nat.mul_comm (tb x _), Nat.mul_assoc, Nat.add_mul_div_left _ _ (Nat.two_pow_pos t), Nat.mul_assoc, Nat.mul_left_comm]
      omega
    · rw [Nat.mul_comm (tb x _), Nat.add_mul_div_left _ _ (Nat.two_pow_pos t), Nat.div_eq_of_lt hl]
      omega
set_option maxRecDepth 20000 in
set_option maxHeartbeats 3200000 in
theorem dcolumns_far (a : Option Addr) (n c : Nat) (z : Int) (w : World) (h : 64 < n ∨ z < 1 ∨ 8 < z) :
    Calls Try.prog 6 #[.slice a n c, .int .i64 z] w fun e w' => e = .returned (.bool true) ∧ Below w.heap.size w w' := by
  by_cases h1 : 64 < n
  · have d1 : decide ((64 : Int) < (n : Int)) = true := by simp; omega
    clear h h1
    go_enter Try.func6, Try.ntmps6
    go_wp2_with ((with_reducible refine (dawake_v _).mono ?_); rintro e w1 ⟨rfl, hb⟩; have HB := Lib.hid hb; clear hb)
    go_ret
    exact ⟨rfl, HB.out⟩
  · have d1 : decide ((64 : Int) < (n : Int)) = false := by simp; omega
    by_cases h2 : z < 1
    · have d2 : decide (z < 1) = true := by simpa using h2
      clear h h1 h2
      go_enter Try.func6, Try.ntmps6
      go_wp2_with ((with_reducible refine (dawake_v _).mono ?_); rintro e w1 ⟨rfl, hb⟩; have HB := Lib.hid hb; clear hb)
      go_ret
      exact ⟨rfl, HB.out⟩
    · have d2 : decide (z < 1) = false := by simpa using h2
      have d3 : decide (8 < z) = true := by
        have : 8 < z := by omega
        simpa using this
      clear h h1 h2
      go_enter Try.func6, Try.ntmps6
      go_wp2_with ((with_reducible refine (dawake_v _).mono ?_); rintro e w1 ⟨rfl, hb⟩; have HB := Lib.hid hb; clear hb)
      go_ret
      exact ⟨rfl, HB.out⟩
set_option maxRecDepth 20000 in
set_option maxHeartbeats 6400000 in
theorem dcolumns_near (a : Option Addr) (n c x k : Nat) (w : World) (hn : n ≤ 64) (hk : 1 ≤ k) (hk8 : k ≤ 8) (hs : Sb w w.heap.size a n c x) :
    Calls Try.prog 6 #[.slice a n c, .int .i64 (k : Int)] w fun e w' => e = .returned (.bool true) ∧ Below w.heap.size w w' := by
  have d0 : decide ((64 : Int) < (n : Int)) = false := by simp; omega
  have d1 : decide ((k : Int) < 1) = false := by simp; omega
  have d2 : decide ((8 : Int) < (k : Int)) = false := by simp; omega
  have HS := Lib.hid hs
  obtain ⟨m, hm⟩ : ∃ m, (8 * n + k - 1) / k = m := ⟨_, rfl⟩
  have hmb : m ≤ 600 := by
    have := Nat.div_le_self (8 * n + k - 1) k
    omega
  obtain ⟨s, es⟩ : ∃ s, m * k = s := ⟨_, rfl⟩
  have h1 := Nat.div_add_mod (8 * n + k - 1) k
  have h2 := Nat.mod_lt (8 * n + k - 1) (show 0 < k by omega)
  rw [hm, Nat.mul_comm, es] at h1
  have zs : (m : Int) * (k : Int) = (s : Int) := by rw [← es]; push_cast; rfl
  obtain ⟨t8, e8⟩ : ∃ t, 8 * n = t := ⟨_, rfl⟩
  have z8 : 8 * (n : Int) = (t8 : Int) := by omega
  obtain ⟨u8, eu8⟩ : ∃ u, t8 + k = u := ⟨_, rfl⟩
  have zu : (t8 : Int) + (k : Int) = (u8 : Int) := by omega
  have q1 : decide (s < t8) = false := by simp; omega
  have q2 : decide (u8 ≤ s) = false := by simp; omega
  have q3 : decide ((u8 : Int) ≤ (s : Int)) = false := by simp; omega
  have hsb : s ≤ 600 := by omega
  have hub : u8 ≤ 600 := by omega
  have HM := Lib.hid hm
  have HDX : Hid (dl 64 x ≤ 1000) := Lib.hid (dl_fit hs.fits (by omega))
  have HT := Lib.hid (fun i => tog_digit x i m k)
  have HTL := Lib.hid (fun i => tog_lt x i m k)
  have H2K := Lib.hid (pow_256 hk8)
  have hkb : (k : Int) ≤ 8 := by omega
  clear hs hm es h1 h2 e8 eu8
  go_enter Try.func6, Try.ntmps6
  go_wp2_with (first
    | ((with_reducible refine (columns_z a n c x k m (k : Int) _ rfl hn hk hk8 HM.out HS.out).mono ?_); rintro e w2 ⟨g1, rfl, hr, hb⟩; have LN := Lib.hid ((Lv.start w).call hb); have L := Lib.hid ((Lz.start w2).add hr); clear hr hb)
    | ((with_reducible refine (nof_any a n c x _ (by omega) (HS.out.call LN.out.bel)).mono ?_); rintro e w3 ⟨v, rfl, hv⟩; obtain ⟨an, rfl, S1, B1⟩ := hv.open; replace LN := Lib.hid ((LN.out.call B1).addW S1); replace L := Lib.hid (L.out.call B1); clear hv S1 B1))
  go_loop [8] (fun v => ∃ i : Nat, i ≤ m ∧ v = .int .i64 i) (fun v => m - (intOf v).toNat)
  case atStart => exact ⟨0, by omega, rfl⟩
  case round =>
    obtain ⟨i, hi, rfl⟩ := hrel
    by_cases hlt : i < m
    · have hid : decide ((i : Int) < (m : Int)) = true := by simp; omega
      have hlt' : (i : Int) < (m : Int) := by omega
      have c1 := (L.out.gz 0 rfl).at0 i hlt
      have hl := HTL.out i
      have h2k := H2K.out
      have HTI := Lib.hid (HT.out i)
      obtain ⟨y, ey⟩ : ∃ y, tog x i m k = y := ⟨_, rfl⟩
      rw [ey] at hl HTI
      simp only [ey] at c1
      have HYL := Lib.hid hl
      have hyb : y ≤ 256 := by omega
      have qy : decide ((y : Int) < 0) = false := by simp
      clear hl h2k ey
      go_wp2_with fail
      go_loop [9, 10] (fun v9 v10 => ∃ t : Nat, t ≤ k ∧ v10 = .int .i64 t ∧ v9 = .int .i64 ((y / 2 ^ t : Nat) : Int)) (fun _ v10 => k - (intOf v10).toNat)
      case atStart => exact ⟨0, by omega, rfl, by rw [Nat.pow_zero, Nat.div_one]⟩
      case round =>
        obtain ⟨t, ht, rfl, rfl⟩ := hrel
        have hyd : y / 2 ^ t ≤ y := Nat.div_le_self _ _
        have hh := half_once y t
        by_cases htk : t < k
        · have hid2 : decide ((t : Int) < (k : Int)) = true := by simp; omega
          have hb := HTI.out t htk
          obtain ⟨z, ez⟩ : ∃ z, y / 2 ^ t = z := ⟨_, rfl⟩
          rw [ez] at hyd hh hb ⊢
          have htb := tb_lt x (i + t * m)
          have hmul : (t : Int) * (m : Int) = ((t * m : Nat) : Int) := by push_cast; rfl
          have htm : t * m ≤ 8 * 600 := Nat.mul_le_mul (by omega) hmb
          obtain ⟨q, eq⟩ : ∃ q, t * m = q := ⟨_, rfl⟩
          rw [eq] at hb htb hmul htm
          have EB := Lib.hid (bitI_tb x (i + q) ((q : Int) + (i : Int)) (by omega))
          obtain ⟨b, eb⟩ : ∃ b, tb x (i + q) = b := ⟨_, rfl⟩
          rw [eb] at hb htb EB
          have e4 : (z : Int).tmod 2 = (b : Int) := by rw [Int.tmod_eq_emod_of_nonneg (by omega)]; omega
          have e5 : (z : Int) % 2 = (b : Int) := by omega
          have hbb : ((b : Int) != (b : Int)) = false := by simp
          have hz6 : (z : Int) ≤ 256 := by omega
          have Hh := Lib.hid hh
          clear hh hb ez eq eb
          go_wp2_with ((with_reducible refine (bit_any an (dl 64 x) (dl 64 x) x ((q : Int) + (i : Int)) _ (Nat.le_trans HDX.out (by omega)) (by omega) (LN.out.gw 0 rfl)).mono ?_); rintro e w' ⟨rfl, hww⟩; have hww' := hww.symm; subst hww'; rw [EB.out])
          go_round
          case rel => exact ⟨t + 1, by omega, by go_num, by rw [← Hh.out]; go_num⟩
          case measure => (simp [intOf] <;> omega)
        · obtain rfl : k = t := by omega
          have hid2 : decide ((k : Int) < (k : Int)) = false := by simp
          have e0 : y / 2 ^ k = 0 := Nat.div_eq_of_lt HYL.out
          rw [e0]
          clear hyd hh htk ht
          go_wp2_with fail
          go_round
          case rel => exact ⟨i + 1, by omega, by go_num⟩
          case measure => (simp [intOf] <;> omega)
    · obtain rfl : m = i := by omega
      have hid : decide ((m : Int) < (m : Int)) = false := by simp
      clear hlt hi
      go_wp2_with ((with_reducible refine (dawake_v _).mono ?_); rintro e w6 ⟨rfl, hb⟩; replace LN := Lib.hid (LN.out.call hb); clear hb)
      go_ret
      exact ⟨rfl, LN.out.bel⟩
end Go.Proofs.Ytgdfpboccgfadaa
