/-
  The contract of the reference's Div.
-/
import Derived.Test.YtmnokjapapheiaaRfDouble
import Derived.Test.YtmnokjapapheiaaRfSub
import Derived.Test.YtmnokjapapheiaaRfCmp
import Derived.Test.YtmnokjapapheiaaRfBit
import Derived.Test.YtmnokjapapheiaaNuDivM
namespace Go.Proofs.Ytmnokjapapheiaa
open Go.RowKit

theorem GotB.open {w W : World} {v : Value} {x : Nat} (h : GotB w W v x) : ∃ a c, v = .slice a (dl 8 x) c ∧ Sb W W.heap.size a (dl 8 x) c x ∧ Below w.heap.size w W := h
theorem dl_mono {b x y : Nat} (hb : 0 < b) (h : x ≤ y) : dl b x ≤ dl b y := (dl_le b x _ hb).2 (Nat.lt_of_le_of_lt h (fits_dl b y hb))
theorem dl8_two {r b y m : Nat} (hr : r < y) (hb : b ≤ 1) (hy : y < 2 ^ (8 * m)) : dl 8 (2 * r + b) ≤ m + 1 := (dl_le 8 _ _ (by omega)).2 (by rw [pow8]; omega)
set_option maxHeartbeats 2000000 in
theorem refDiv_any (a : Option Addr) (n c x : Nat) (a' : Option Addr) (m c' y : Nat) (w : World) (hn : n ≤ 1000) (hm : m ≤ 1000) (h : Sb w w.heap.size a n c x) (h' : Sb w w.heap.size a' m c' y) (hy : 0 < y) :
    Calls Try.prog 34 #[.slice a n c, .slice a' m c'] w fun e w' => ∃ v v', e = .returned (.tuple #[v, v']) ∧ GotB w w' v (x / y) ∧ GotB w w' v' (x % y) := by
  have H := Lib.hid h
  have H' := Lib.hid h'
  have Hy := Lib.hid hy
  have Hf := Lib.hid h.fits
  have Hf' := Lib.hid h'.fits
  have hbl : bl x ≤ 8000 := Nat.le_trans ((bl_le x _).2 h.fits) (by omega)
  have LX : Hid (∀ w', Sb w' w.heap.size a n c x → Calls Try.prog 22 #[.slice a n c] w' fun e w'' => e = .returned (.int .i64 ((bl x : Nat) : Int)) ∧ w'' = w') := Lib.hid fun w' hw => refLen_any a n c x w' (by omega) hw
  have HB0 := Lib.hid (bl_fits x)
  generalize bl x = l at *
  clear h h' hy
  go_enter Try.func34, Try.ntmps34
  go_wp2_with ((with_reducible refine (LX.out _ H.out).mono ?_); rintro e w1 ⟨rfl, rfl⟩)
  go_loopw [6, 7, 8] (fun v6 v7 v8 wr => ∃ T aq cq ar cr, T ≤ l ∧ v8 = .int .i64 ((T : Int) - 1) ∧ v6 = .slice aq (dl 8 (x / 2 ^ T / y)) cq ∧ Sb wr wr.heap.size aq (dl 8 (x / 2 ^ T / y)) cq (x / 2 ^ T / y) ∧ v7 = .slice ar (dl 8 (x / 2 ^ T % y)) cr ∧ Sb wr wr.heap.size ar (dl 8 (x / 2 ^ T % y)) cr (x / 2 ^ T % y) ∧ Below w1.heap.size w1 wr) (fun _ _ v8 _ => (intOf v8 + 1).toNat)
  case atStart =>
    have e0 : dl 8 0 = 0 := dl_zero 8 (by omega)
    refine ⟨l, none, 0, none, 0, Nat.le_refl _, rfl, ?_, ?_, ?_, ?_, Below.refl _ _⟩
    · rw [Nat.div_eq_of_lt HB0.out, Nat.zero_div, e0]
    · rw [Nat.div_eq_of_lt HB0.out, Nat.zero_div, e0]
      exact ⟨⟨Nat.le_refl _, fun _ => rfl, fun _ e _ => by cases e⟩, by simp⟩
    · rw [Nat.div_eq_of_lt HB0.out, Nat.zero_mod, e0]
    · rw [Nat.div_eq_of_lt HB0.out, Nat.zero_mod, e0]
      exact ⟨⟨Nat.le_refl _, fun _ => rfl, fun _ e _ => by cases e⟩, by simp⟩
  case round =>
    obtain ⟨T, aq, cq, ar, cr, hT, rfl, rfl, HQ, rfl, HR, HB⟩ := hrel
    have hq1 : dl 8 (x / 2 ^ T / y) ≤ n := Nat.le_trans (dl_mono (by omega) (Nat.le_trans (Nat.div_le_self _ _) (Nat.div_le_self _ _))) ((dl_le 8 x n (by omega)).2 Hf.out)
    have hr1 : dl 8 (x / 2 ^ T % y) ≤ m := Nat.le_trans (dl_mono (by omega) (Nat.le_of_lt (Nat.mod_lt _ Hy.out))) ((dl_le 8 y m (by omega)).2 Hf'.out)
    rcases Nat.eq_zero_or_pos T with h0 | h0
    · subst h0
      rw [Nat.pow_zero, Nat.div_one] at HQ HR hq1 hr1 ⊢
      have hi0 : decide ((0 : Int) ≤ ((0 : Nat) : Int) - 1) = false := by simp
      have em : (((0 : Nat) : Int) - 1) = -1 := rfl
      rw [em]
      have H1 := Lib.hid HQ
      have H2 := Lib.hid HR
      have H3 := Lib.hid HB
      have K1 : Hid (dl 8 (x / y) ≤ 1000000) := Lib.hid (by omega)
      have K2 : Hid (dl 8 (x % y) ≤ 1000000) := Lib.hid (by omega)
      clear HQ HR HB em hi0
      go_wp2_with (first
        | ((with_reducible refine (cut_any aq _ cq (x / y) _ K1.out H1.out).mono ?_); rintro e w' ⟨rfl, rfl⟩)
        | ((with_reducible refine (cut_any ar _ cr (x % y) _ K2.out H2.out).mono ?_); rintro e w' ⟨rfl, rfl⟩))
      go_ret2
      exact ⟨_, _, rfl, ⟨aq, cq, rfl, H1.out, H3.out⟩, ⟨ar, cr, rfl, H2.out, H3.out⟩⟩
    · obtain ⟨t, rfl⟩ : ∃ t, T = t + 1 := ⟨T - 1, by omega⟩
      have e : (((t + 1 : Nat) : Int) - 1) = (t : Int) := by omega
      rw [e]
      have hi0 : decide ((0 : Int) ≤ (t : Int)) = true := by simp
      have hb1 : x / 2 ^ t % 2 ≤ 1 := by have := Nat.mod_lt (x / 2 ^ t) (by omega : 0 < 2); omega
      have HBit : Hid (bitI x (t : Int) = ((x / 2 ^ t % 2 : Nat) : Int)) := Lib.hid (by unfold bitI; rw [if_neg (by omega)]; rfl)
      have LT : Hid (2 * (x / 2 ^ (t + 1) % y) + x / 2 ^ t % 2 < y → x / 2 ^ t % y = 2 * (x / 2 ^ (t + 1) % y) + x / 2 ^ t % 2 ∧ x / 2 ^ t / y = 2 * (x / 2 ^ (t + 1) / y) + 0) := Lib.hid fun h => div_bit_lt h
      have GE : Hid (y ≤ 2 * (x / 2 ^ (t + 1) % y) + x / 2 ^ t % 2 → x / 2 ^ t % y = 2 * (x / 2 ^ (t + 1) % y) + x / 2 ^ t % 2 - y ∧ x / 2 ^ t / y = 2 * (x / 2 ^ (t + 1) / y) + 1) := Lib.hid fun h => div_bit_ge Hy.out h
      have hry : x / 2 ^ (t + 1) % y < y := Nat.mod_lt _ Hy.out
      generalize x / 2 ^ t % 2 = b at *
      generalize x / 2 ^ (t + 1) % y = r at *
      generalize x / 2 ^ (t + 1) / y = q at *
      have Kd := Lib.hid (dl8_two hry hb1 Hf'.out)
      have Kr := Lib.hid (Nat.le_trans hr1 (by omega : m ≤ 10000))
      have Kq := Lib.hid (Nat.le_trans hq1 (by omega : n ≤ 10000))
      have Hb1 := Lib.hid hb1
      have G := Lib.hid (H.out.below HB)
      have G' := Lib.hid ((H'.out.below HB).more HB.size)
      have HQ0 := Lib.hid HQ
      have HR0 := Lib.hid HR
      have H3 := Lib.hid HB
      have ht6 : (t : Int) ≤ 8000 := by omega
      clear HQ HR HB hry hb1 hq1 hr1 e h0
      by_cases hD : 2 * r + b < y
      · have Hc := Lib.hid (cmp_lt hD)
        obtain ⟨L1, L2⟩ := LT.out hD
        have L1 := Lib.hid L1
        have L2 := Lib.hid L2
        clear hD LT GE
        have DQ : Hid (∀ w', Sb w' w'.heap.size aq (dl 8 q) cq q → Calls Try.prog 48 #[.slice aq (dl 8 q) cq, .int .i64 0] w' fun e w'' => ∃ v, e = .returned v ∧ GotB w' w'' v (2 * q + 0)) := Lib.hid fun w' hw => refDouble_any aq _ cq q 0 w' Kq.out (by omega) hw rfl
        go_wp2_with (first
          | ((with_reducible refine (refBit_any a n c x (t : Int) _ (by omega) (by omega) G.out).mono ?_); rintro e w5 ⟨rfl, rfl⟩; rw [HBit.out])
          | ((with_reducible refine (refDouble_any ar _ cr r b _ Kr.out Hb1.out HR0.out rfl).mono ?_); rintro e w6 ⟨v, rfl, hv⟩; obtain ⟨a6, c6, rfl, S6, B6⟩ := hv; have S6 := Lib.hid S6; have B6 := Lib.hid B6; have G6 := Lib.hid (G'.out.call B6.out); have Q6 := Lib.hid (HQ0.out.call B6.out))
          | ((with_reducible refine (refCompare_any a6 _ c6 (2 * r + b) a' m c' y _ (Nat.le_trans Kd.out (by omega)) (by omega) S6.out G6.out).mono ?_); rintro e w7 ⟨rfl, rfl⟩; rw [Hc.out])
          | ((with_reducible refine (DQ.out _ Q6.out).mono ?_); rintro e w8 ⟨v, rfl, hv⟩; obtain ⟨a8, c8, rfl, S8, B8⟩ := hv; have S8 := Lib.hid S8; have B8 := Lib.hid B8; have S6 := Lib.hid (S6.out.call B8.out)))
        go_roundw
        case rel => exact ⟨t, a8, c8, a6, c6, by omega, by go_num, by rw [L2.out]; rfl, by rw [L2.out]; exact S8.out, by rw [L1.out], by rw [L1.out]; exact S6.out, H3.out.trans ((B6.out.mono H3.out.size).trans (B8.out.mono (Nat.le_trans H3.out.size B6.out.size)))⟩
        case measure => (simp [intOf] <;> omega)
      · obtain ⟨z, hz⟩ : ∃ z, cmp (2 * r + b) y = z := ⟨_, rfl⟩
        have hz0 : decide (0 ≤ z) = true := by
          subst hz; unfold cmp
          rw [if_neg hD]
          split <;> simp
        have hz1 : -1 ≤ z ∧ z ≤ 1 := by
          subst hz; unfold cmp
          split
          · omega
          · split <;> omega
        have Hc := Lib.hid hz
        have HD : Hid (y ≤ 2 * r + b) := Lib.hid (by omega)
        obtain ⟨hz2, hz3⟩ := hz1
        obtain ⟨L1, L2⟩ := GE.out HD.out
        have L1 := Lib.hid L1
        have L2 := Lib.hid L2
        clear hD hz LT GE
        have DQ : Hid (∀ w', Sb w' w'.heap.size aq (dl 8 q) cq q → Calls Try.prog 48 #[.slice aq (dl 8 q) cq, .int .i64 1] w' fun e w'' => ∃ v, e = .returned v ∧ GotB w' w'' v (2 * q + 1)) := Lib.hid fun w' hw => refDouble_any aq _ cq q 1 w' Kq.out (by omega) hw rfl
        go_wp2_with (first
          | ((with_reducible refine (refBit_any a n c x (t : Int) _ (by omega) (by omega) G.out).mono ?_); rintro e w5 ⟨rfl, rfl⟩; rw [HBit.out])
          | ((with_reducible refine (refDouble_any ar _ cr r b _ Kr.out Hb1.out HR0.out rfl).mono ?_); rintro e w6 ⟨v, rfl, hv⟩; obtain ⟨a6, c6, rfl, S6, B6⟩ := hv; have S6 := Lib.hid S6; have B6 := Lib.hid B6; have G6 := Lib.hid (G'.out.call B6.out); have Q6 := Lib.hid (HQ0.out.call B6.out))
          | ((with_reducible refine (refCompare_any a6 _ c6 (2 * r + b) a' m c' y _ (Nat.le_trans Kd.out (by omega)) (by omega) S6.out G6.out).mono ?_); rintro e w7 ⟨rfl, rfl⟩; rw [Hc.out])
          | ((with_reducible refine (refSub_any a6 _ c6 (2 * r + b) a' m c' y _ (Nat.le_trans Kd.out (by omega)) (by omega) S6.out G6.out HD.out).mono ?_); rintro e w9 ⟨v, rfl, hv⟩; obtain ⟨a9, c9, rfl, S9, B9⟩ := hv; have S9 := Lib.hid S9; have B9 := Lib.hid B9; have Q6 := Lib.hid (Q6.out.call B9.out))
          | ((with_reducible refine (DQ.out _ Q6.out).mono ?_); rintro e w8 ⟨v, rfl, hv⟩; obtain ⟨a8, c8, rfl, S8, B8⟩ := hv; have S8 := Lib.hid S8; have B8 := Lib.hid B8; have S9 := Lib.hid (S9.out.call B8.out)))
        go_roundw
        case rel => exact ⟨t, a8, c8, a9, c9, by omega, by go_num, by rw [L2.out], by rw [L2.out]; exact S8.out, by rw [L1.out], by rw [L1.out]; exact S9.out, H3.out.trans ((B6.out.mono H3.out.size).trans ((B9.out.mono (Nat.le_trans H3.out.size B6.out.size)).trans (B8.out.mono (Nat.le_trans H3.out.size (Nat.le_trans B6.out.size B9.out.size)))))⟩
        case measure => (simp [intOf] <;> omega)
end Go.Proofs.Ytmnokjapapheiaa
