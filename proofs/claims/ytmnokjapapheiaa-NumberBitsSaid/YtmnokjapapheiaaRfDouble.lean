/-
  The contract of the reference's Double: just as many bytes as the double wants, if there were just as many.
-/
import Derived.Test.YtmnokjapapheiaaRfBytes
namespace Go.Proofs.Ytmnokjapapheiaa
open Go.RowKit

set_option maxHeartbeats 1000000 in
theorem refDouble_any (a : Option Addr) (n c x b : Nat) (w : World) (hn : n ≤ 10000) (hb1 : b ≤ 1) (h : Sb w w.heap.size a n c x) (hnx : n = dl 8 x) :
    Calls Try.prog 48 #[.slice a n c, .int .i64 b] w fun e w' => ∃ v, e = .returned v ∧ GotB w w' v (2 * x + b) := by
  have H := Lib.hid h
  have HX := Lib.hid h.fits
  have HL : Hid (n = 0 ∨ 2 ^ (8 * (n - 1)) ≤ x) := Lib.hid (by
    rcases Nat.eq_zero_or_pos n with h0 | h0
    · exact .inl h0
    · right; rw [hnx]; exact dl_low (by omega) (by omega))
  clear h hnx
  go_enter Try.func48, Try.ntmps48
  go_wp2_with fail
  go_loopw [1, 5, 6] (fun v1 v5 v6 wr => ∃ i : Nat, i ≤ n + 1 ∧ v6 = .int .i64 i ∧ v1 = .int .i64 ((dbc x b i : Nat) : Int) ∧ (i = n + 1 → 2 ^ (8 * n) ≤ 2 * x + b) ∧ OwnB wr w.heap.size v5 i (bt (2 * x + b)) ∧ Below w.heap.size w wr) (fun _ _ v6 _ => n + 1 - (intOf v6).toNat)
  case atStart => exact ⟨0, by omega, rfl, by rw [dbc_zero], by omega, OwnB.nil _ _ _, Below.refl _ _⟩
  case round =>
    obtain ⟨i, hi, rfl, rfl, HP, HO, HB⟩ := hrel
    have S := Lib.hid (dbl8_step x b i)
    have ho := dbc_le x b i hb1
    have D : Hid (n ≤ i → (dbc x b i = 0 ↔ 2 * x + b < 2 ^ (8 * i))) := Lib.hid fun h => dbl8_done HX.out h
    have Z : Hid (i = n + 1 → dbc x b i = 0) := Lib.hid fun h => by rw [h]; exact dbl8_last HX.out hb1
    have go : (i < n ∨ 0 < dbc x b i) ∨ (n ≤ i ∧ dbc x b i = 0) := by omega
    have hxl := dg_lt x i
    have HA : Hid (∀ w', Sb w' w.heap.size a n c x → Calls Try.prog 40 #[.slice a n c, .int .i64 i] w' fun e w'' => e = .returned (.int .i64 ((dg x i : Nat) : Int)) ∧ w'' = w') := Lib.hid fun w' hw => at_any a n c x i w' (by omega) (by omega) hw
    have G := Lib.hid (H.out.below HB)
    have H1 := Lib.hid HO
    have H2 := Lib.hid HB
    have HP1 := Lib.hid HP
    clear HO HB HP
    generalize dg x i = p at *
    generalize dbc x b i = o at *
    have hz : w.heap.size ≤ wr.heap.size := H2.out.size
    have EB := Lib.hid (U8_bt (2 * x + b) i)
    rcases go with go | ⟨hk1, ho0⟩
    · have hik : i ≤ n := by
        rcases go with h | h
        · omega
        · rcases Nat.lt_or_ge n i with h2 | h2
          · have := Z.out (by omega); omega
          · exact h2
      obtain ⟨s, hs⟩ : ∃ s, s = 2 * p + o := ⟨_, rfl⟩
      obtain ⟨r, hr⟩ : ∃ r, s % 256 = r := ⟨_, rfl⟩
      obtain ⟨u, hu⟩ : ∃ u, s / 256 = u := ⟨_, rfl⟩
      have es : 2 * (p : Int) + (o : Int) = (s : Int) := by omega
      have e1 : (s : Int).tmod 256 = (r : Int) := by rw [Int.tmod_eq_emod_of_nonneg (by omega)]; omega
      have e2 : (s : Int) % 256 = (r : Int) := by omega
      have e3 : (s : Int) / 256 = (u : Int) := by omega
      have r6 : (r : Int) < 256 := by omega
      have hb : Hid (U8 (bt (2 * x + b) i) = (r : Int)) := Lib.hid (by rw [EB.out, S.out.1, ← hr, hs])
      have hu2 : Hid (dbc x b (i + 1) = u) := Lib.hid (by rw [S.out.2, ← hu, hs])
      have hb2 : IntKind.u8.wrap (r : Int) = (r : Int) := by rw [IntKind.wrap_u8]; omega
      have HN : Hid (i + 1 = n + 1 → 2 ^ (8 * n) ≤ 2 * x + b) := Lib.hid fun h => by
        obtain rfl : i = n := by omega
        rcases go with h1 | h1
        · omega
        · rcases Nat.lt_or_ge (2 * x + b) (2 ^ (8 * i)) with h2 | h2
          · have := (D.out (Nat.le_refl _)).2 h2; omega
          · exact h2
      clear hr hu hs
      rcases Nat.lt_or_ge i n with hik2 | hik2
      · have d1 : decide ((i : Int) < (n : Int)) = true := by simp; omega
        clear go
        go_wp2_with (first
          | ((with_reducible refine (HA.out _ G.out).mono ?_); rintro e w' ⟨rfl, rfl⟩)
          | ((with_reducible apply lay_append_byte); (case hgd => exact rfl); (case ho => exact rfl); (case hs => exact rfl); (case hx => exact rfl); (case hown => exact H1.out.alloc _); (case hc => exact new_byte _ _ _ hb.out); (case hn => omega); (case hbase => simp; omega); intro v' w' ho' hb' _ _; go_simp))
        go_roundw
        case rel => exact ⟨i + 1, by omega, by go_num, by rw [hu2.out], HN.out, ho', (H2.out.alloc hz _).trans hb'⟩
        case measure => simp [intOf]; omega
      · have d1 : decide ((i : Int) < (n : Int)) = false := by simp; omega
        have d2 : decide (0 < o) = true := by simp; omega
        clear go
        go_wp2_with (first
          | ((with_reducible refine (HA.out _ G.out).mono ?_); rintro e w' ⟨rfl, rfl⟩)
          | ((with_reducible apply lay_append_byte); (case hgd => exact rfl); (case ho => exact rfl); (case hs => exact rfl); (case hx => exact rfl); (case hown => exact H1.out.alloc _); (case hc => exact new_byte _ _ _ hb.out); (case hn => omega); (case hbase => simp; omega); intro v' w' ho' hb' _ _; go_simp))
        go_roundw
        case rel => exact ⟨i + 1, by omega, by go_num, by rw [hu2.out], HN.out, ho', (H2.out.alloc hz _).trans hb'⟩
        case measure => simp [intOf]; omega
    · have d1 : decide ((i : Int) < (n : Int)) = false := by simp; omega
      have hf := (D.out hk1).1 ho0
      have hlen : dl 8 (2 * x + b) = i := dl_eq (by omega) hf (by
        rcases Nat.lt_or_ge n i with h1 | h1
        · right
          obtain rfl : i = n + 1 := by omega
          exact HP1.out rfl
        · obtain rfl : i = n := by omega
          rcases HL.out with h2 | h2
          · exact .inl h2
          · right; omega)
      subst ho0
      obtain ⟨g, cb, rfl, hs⟩ := H1.out.any
      have S1 : Hid (Sb wr wr.heap.size g i cb (2 * x + b)) := Lib.hid ⟨hs, hf⟩
      have HE := Lib.hid hlen
      clear hs hf hlen
      go_wp2_with fail
      go_ret
      exact ⟨_, rfl, g, cb, by rw [HE.out]; rfl, by rw [HE.out]; exact S1.out, H2.out⟩
end Go.Proofs.Ytmnokjapapheiaa
