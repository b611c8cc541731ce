/-
  The walk of DigitsNaf. No statement is proved here: lemmas for the card.
-/
import Derived.Test.YtgdfpboccgfadaaZDlSum
import Derived.Test.YtgdfpboccgfadaaZDgNafV
namespace Go.Proofs.Ytgdfpboccgfadaa
open Go.RowKit

theorem told_z (a : Option Addr) (m c b : Nat) (z : Int) (hz : z = (b : Int)) (f : Nat → Int) (a' : Option Addr) (n' c' x : Nat) (w : World) (hb1 : 1 ≤ b) (hb8 : b ≤ 8) (hm : m ≤ 10000) (hbm : b * m ≤ 10000) (hf : ∀ i, i < m → -256 ≤ f i ∧ f i ≤ 256) (hv : vl f b m = (x : Int))
    (hl : SlZ w w.heap.size a m c f) (hx : Sw w w.heap.size a' n' c' x) (hn : n' ≤ 1000) :
    Calls Try.prog 20 #[.slice a m c, .int .i64 z, .slice a' n' c'] w fun e w' => e = .returned (.bool true) ∧ Below w.heap.size w w' := by
  subst hz
  exact told_v a m c b f a' n' c' x w hb1 hb8 hm hbm hf hv hl hx hn
theorem naf_z (a : Option Addr) (n c x k m : Nat) (z : Int) (w : World) (hz : z = (k : Int)) (hn : n ≤ 64) (hk : 2 ≤ k) (hk8 : k ≤ 8) (hm : 8 * n + 1 = m) (hs : Sb w w.heap.size a n c x) :
    Calls Try.prog 12 #[.slice a n c, .int .i64 z] w fun e w' => ∃ g, e = .returned (.tuple #[.slice (some ⟨g, 0, none⟩) m m, .int .i64 0]) ∧ SlZ w' w'.heap.size (some ⟨g, 0, none⟩) m m (ndg x k) ∧ Below w.heap.size w w' := by
  subst hz hm
  exact (naf_v a n c x k w hn hk hk8 hs).mono fun _ _ ⟨g, he, _, hr, hb⟩ => ⟨g, he, SlZ.row hr, hb⟩
theorem ndg_small (x i : Nat) {k : Nat} (h0 : 2 ≤ k) (h : k ≤ 8) : -256 ≤ ndg x k i ∧ ndg x k i ≤ 256 := by
  have h2 := pow_256 (show k - 1 ≤ 8 by omega)
  rcases ndg_odd x h0 i with e | ⟨_, h3, h4, _, _⟩
  · omega
  · rw [← nat_pow] at h3 h4
    omega
theorem odd_rem {d : Int} (h : d % 2 = 1) : ∃ r, d.tmod 2 = r ∧ (r == 0) = false ∧ -1 ≤ r ∧ r ≤ 1 := by
  refine ⟨_, rfl, ?_⟩
  rcases Int.le_total 0 d with h0 | h0
  · rw [Int.tmod_eq_emod_of_nonneg h0, h]
    decide
  · obtain ⟨e, rfl⟩ : ∃ e, d = -e := ⟨-d, by omega⟩
    rw [Int.neg_tmod, Int.tmod_eq_emod_of_nonneg (by omega), show e % 2 = 1 by omega]
    decide
set_option maxRecDepth 20000 in
set_option maxHeartbeats 3200000 in
theorem dnaf_far (a : Option Addr) (n c : Nat) (z : Int) (w : World) (h : 64 < n ∨ z < 2 ∨ 8 < z) :
    Calls Try.prog 5 #[.slice a n c, .int .i64 z] w fun e w' => e = .returned (.bool true) ∧ Below w.heap.size w w' := by
  by_cases h1 : 64 < n
  · have d1 : decide ((64 : Int) < (n : Int)) = true := by simp; omega
    clear h h1
    go_enter Try.func5, Try.ntmps5
    go_wp2_with ((with_reducible refine (dawake_v _).mono ?_); rintro e w1 ⟨rfl, hb⟩; have HB := Lib.hid hb; clear hb)
    go_ret
    exact ⟨rfl, HB.out⟩
  · have d1 : decide ((64 : Int) < (n : Int)) = false := by simp; omega
    by_cases h2 : z < 2
    · have d2 : decide (z < 2) = true := by simpa using h2
      clear h h1 h2
      go_enter Try.func5, Try.ntmps5
      go_wp2_with ((with_reducible refine (dawake_v _).mono ?_); rintro e w1 ⟨rfl, hb⟩; have HB := Lib.hid hb; clear hb)
      go_ret
      exact ⟨rfl, HB.out⟩
    · have d2 : decide (z < 2) = false := by simpa using h2
      have d3 : decide (8 < z) = true := by
        have : 8 < z := by omega
        simpa using this
      clear h h1 h2
      go_enter Try.func5, Try.ntmps5
      go_wp2_with ((with_reducible refine (dawake_v _).mono ?_); rintro e w1 ⟨rfl, hb⟩; have HB := Lib.hid hb; clear hb)
      go_ret
      exact ⟨rfl, HB.out⟩
set_option maxRecDepth 20000 in
set_option maxHeartbeats 6400000 in
theorem dnaf_near (a : Option Addr) (n c x k : Nat) (w : World) (hn : n ≤ 64) (hk : 2 ≤ k) (hk8 : k ≤ 8) (hs : Sb w w.heap.size a n c x) :
    Calls Try.prog 5 #[.slice a n c, .int .i64 (k : Int)] w fun e w' => e = .returned (.bool true) ∧ Below w.heap.size w w' := by
  have d0 : decide ((64 : Int) < (n : Int)) = false := by simp; omega
  have d1 : decide ((k : Int) < 2) = false := by simp; omega
  have d2 : decide ((8 : Int) < (k : Int)) = false := by simp; omega
  have HS := Lib.hid hs
  obtain ⟨s, es⟩ : ∃ s, 8 * n = s := ⟨_, rfl⟩
  obtain ⟨m, hm⟩ : ∃ m, 8 * n + 1 = m := ⟨_, rfl⟩
  have hmb : m ≤ 600 := by omega
  have HM := Lib.hid hm
  have zs : 8 * (n : Int) = (s : Int) := by omega
  have zm : (s : Int) + 1 = (m : Int) := by omega
  have hne : ((m : Int) != (m : Int)) = false := by simp
  have HK1 : Hid (1 * m ≤ 10000) := Lib.hid (by omega)
  have V1 : Hid (vl (ndg x k) 1 m = (x : Int)) := Lib.hid (by rw [← hm]; exact ndg_all hk hs.fits)
  have HDX : Hid (dl 64 x ≤ 1000) := Lib.hid (dl_fit hs.fits (by omega))
  have HODD := Lib.hid (ndg_odd x hk)
  have HSKIP := Lib.hid (fun i h => @ndg_skip x k i h hk)
  have hkb : (k : Int) ≤ 8 := by omega
  clear hs hm es
  go_enter Try.func5, Try.ntmps5
  go_wp2_with fail
  go_loop [5, 6] (fun v6 v7 => ∃ j p : Nat, j + 1 ≤ k ∧ v7 = .int .i64 ((j : Int) + 1) ∧ v6 = .int .i64 (p : Int) ∧ p = 2 ^ j) (fun _ v7 => k - (intOf v7).toNat)
  case atStart => exact ⟨0, 1, by omega, rfl, rfl, rfl⟩
  case round =>
    obtain ⟨j, p, hj, rfl, rfl, hp⟩ := hrel
    have hpb : p ≤ 256 := by
      rw [hp]
      exact pow_256 (by omega)
    by_cases hlt : j + 1 < k
    · have hid : decide ((j : Int) + 1 < (k : Int)) = true := by simp; omega
      have HP := Lib.hid hp
      clear hp
      go_wp2_with fail
      go_round
      case rel => exact ⟨j + 1, 2 * p, by omega, by go_num, by go_num, by rw [HP.out, Nat.pow_succ, Nat.mul_comm]⟩
      case measure => (simp [intOf] <;> omega)
    · have ej : j = k - 1 := by omega
      have ezj : (j : Int) + 1 = (k : Int) := by omega
      have hid : decide ((k : Int) < (k : Int)) = false := by simp
      rw [ej] at hp
      have HPB : Hid ((2 : Int) ^ (k - 1) = (p : Int)) := Lib.hid (by rw [hp, nat_pow])
      rw [ezj]
      clear hlt ej ezj hp hj
      go_wp2_with (first
        | ((with_reducible refine (naf_z a n c x k m (k : Int) _ rfl hn hk hk8 HM.out HS.out).mono ?_); rintro e w2 ⟨g1, rfl, hr, hb⟩; have LN := Lib.hid ((Lv.start w).call hb); have L := Lib.hid ((Lz.start w2).add hr); clear hr hb)
        | ((with_reducible refine (nof_any a n c x _ (by omega) (HS.out.call LN.out.bel)).mono ?_); rintro e w3 ⟨v, rfl, hv⟩; obtain ⟨an, rfl, S1, B1⟩ := hv.open; replace LN := Lib.hid ((LN.out.call B1).addW S1); replace L := Lib.hid (L.out.call B1); clear hv S1 B1)
        | ((with_reducible refine (told_z (some ⟨g1, 0, none⟩) m m 1 1 rfl _ an (dl 64 x) (dl 64 x) x _ (by omega) (by omega) (by omega) HK1.out (fun i _ => ndg_small x i hk hk8) V1.out (L.out.gz 0 rfl) (LN.out.gw 0 rfl) HDX.out).mono ?_); rintro e w4 ⟨rfl, hb⟩; replace LN := Lib.hid (LN.out.call hb); replace L := Lib.hid (L.out.call hb); clear hb))
      go_loop [9, 10] (fun v9 v => ∃ i : Nat, i ≤ m ∧ v = .int .i64 i ∧ v9 = .int .i64 (((nfr x k i : Nat) : Int) - (k : Int)) ∧ nfr x k i ≤ i + k) (fun _ v => m - (intOf v).toNat)
      case atStart => exact ⟨0, by omega, rfl, by rw [nfr_zero]; simp, by rw [nfr_zero]; omega⟩
      case round =>
        obtain ⟨i, hi, rfl, rfl, hfr⟩ := hrel
        by_cases hlt : i < m
        · have hid : decide ((i : Int) < (m : Int)) = true := by simp; omega
          have hlt' : (i : Int) < (m : Int) := by omega
          have c1 := (L.out.gz 0 rfl).at0 i hlt
          have ho := HODD.out i
          have hsk := HSKIP.out i
          obtain ⟨l, el⟩ : ∃ l : Int, ((nfr x k i : Nat) : Int) - (k : Int) = l := ⟨_, rfl⟩
          have hl1 : -10 ≤ l := by omega
          have hl2 : l ≤ 700 := by omega
          obtain ⟨d, ed⟩ : ∃ d, ndg x k i = d := ⟨_, rfl⟩
          rw [ed] at c1 ho hsk
          rw [el]
          by_cases hz : d = 0
          · subst hz
            have HN := Lib.hid (hsk rfl)
            have HEL := Lib.hid el
            clear ho hsk el ed
            go_wp2_with fail
            go_round
            case rel => exact ⟨i + 1, by omega, by go_num, by rw [HN.out, HEL.out], by rw [HN.out]; omega⟩
            case measure => (simp [intOf] <;> omega)
          · obtain ⟨o1, o2, o3, o4, o5⟩ := ho.resolve_left hz
            rw [HPB.out] at o2 o3
            obtain ⟨r, er, hr0, hr1, hr2⟩ := odd_rem o1
            have hdz : (d == 0) = false := by rw [beq_eq_false_iff_ne]; exact hz
            have q1 : decide (d < -(p : Int)) = false := by simp; omega
            have q2 : decide ((p : Int) < d) = false := by simp; omega
            obtain ⟨u, eu⟩ : ∃ u : Int, (i : Int) - l = u := ⟨_, rfl⟩
            have q3 : decide (u < (k : Int)) = false := by simp; omega
            have hu1 : -700 ≤ u := by omega
            have hu2 : u ≤ 700 := by omega
            have HN := Lib.hid o5
            clear hsk ho o1 o4 o5 el ed hz
            go_wp2_with fail
            go_round
            case rel => exact ⟨i + 1, by omega, by go_num, by rw [HN.out]; go_num, by rw [HN.out]; omega⟩
            case measure => (simp [intOf] <;> omega)
        · obtain rfl : m = i := by omega
          have hid : decide ((m : Int) < (m : Int)) = false := by simp
          generalize ((nfr x k m : Nat) : Int) - (k : Int) = l at *
          clear hlt hi
          go_wp2_with ((with_reducible refine (dawake_v _).mono ?_); rintro e w6 ⟨rfl, hb⟩; replace LN := Lib.hid (LN.out.call hb); clear hb)
          go_ret
          exact ⟨rfl, LN.out.bel⟩
end Go.Proofs.Ytgdfpboccgfadaa
