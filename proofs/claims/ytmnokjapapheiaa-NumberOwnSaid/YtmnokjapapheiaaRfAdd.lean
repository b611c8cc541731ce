/-
  The contract of the reference's Add.
-/
import Derived.Test.YtmnokjapapheiaaRfBytes
namespace Go.Proofs.Ytmnokjapapheiaa
open Go.RowKit

set_option maxHeartbeats 1000000 in
theorem refAdd_any (a : Option Addr) (n c x : Nat) (a' : Option Addr) (m c' y : Nat) (w : World) (hn : n ≤ 10000) (hm : m ≤ 10000) (h : Sb w w.heap.size a n c x) (h' : Sb w w.heap.size a' m c' y) :
    Calls Try.prog 26 #[.slice a n c, .slice a' m c'] w fun e w' => ∃ v, e = .returned v ∧ GotB w w' v (x + y) := by
  obtain ⟨k, hk⟩ : ∃ k, k = max n m := ⟨_, rfl⟩
  have hx : x < 2 ^ (8 * k) := fits_more h.fits (by omega)
  have hy : y < 2 ^ (8 * k) := fits_more h'.fits (by omega)
  have hk6 : k ≤ 10000 := by omega
  have hmx : max (n : Int) (m : Int) = (k : Int) := by omega
  have H := Lib.hid h
  have H' := Lib.hid h'
  have HX := Lib.hid hx
  have HY := Lib.hid hy
  clear h h' hk hx hy
  go_enter Try.func26, Try.ntmps26
  go_wp2_with fail
  go_loopw [5, 6, 7] (fun v5 v6 v7 wr => ∃ i : Nat, i ≤ k + 1 ∧ v7 = .int .i64 i ∧ v6 = .int .i64 ((car8 x y i : Nat) : Int) ∧ OwnB wr w.heap.size v5 i (bt (x + y)) ∧ Below w.heap.size w wr) (fun _ _ v7 _ => k + 1 - (intOf v7).toNat)
  case atStart => exact ⟨0, by omega, rfl, by rw [car8_zero]; rfl, OwnB.nil _ _ _, Below.refl _ _⟩
  case round =>
    obtain ⟨i, hi, rfl, rfl, HO, HB⟩ := hrel
    have S := Lib.hid (add8_step x y i)
    have ho := car8_le x y i
    have D : Hid (k ≤ i → (car8 x y i = 0 ↔ x + y < 2 ^ (8 * i))) := Lib.hid fun h => add8_done HX.out HY.out h
    have Z : Hid (i = k + 1 → car8 x y i = 0) := Lib.hid fun h => by rw [h]; exact add8_last HX.out HY.out
    have go : (i < k ∨ 0 < car8 x y i) ∨ (k ≤ i ∧ car8 x y i = 0) := by omega
    have hxl := dg_lt x i
    have hyl := dg_lt y i
    have HA : Hid (∀ w', Sb w' w.heap.size a n c x → Calls Try.prog 40 #[.slice a n c, .int .i64 i] w' fun e w'' => e = .returned (.int .i64 ((dg x i : Nat) : Int)) ∧ w'' = w') := Lib.hid fun w' hw => at_any a n c x i w' (by omega) (by omega) hw
    have HA' : Hid (∀ w', Sb w' w.heap.size a' m c' y → Calls Try.prog 40 #[.slice a' m c', .int .i64 i] w' fun e w'' => e = .returned (.int .i64 ((dg y i : Nat) : Int)) ∧ w'' = w') := Lib.hid fun w' hw => at_any a' m c' y i w' (by omega) (by omega) hw
    have G := Lib.hid (H.out.below HB)
    have G' := Lib.hid (H'.out.below HB)
    have H1 := Lib.hid HO
    have H2 := Lib.hid HB
    clear HO HB
    generalize hp : dg x i = p at *
    generalize hq : dg y i = q at *
    generalize hc0 : car8 x y i = o at *
    have hz : w.heap.size ≤ wr.heap.size := H2.out.size
    have EB := Lib.hid (U8_bt (x + y) i)
    clear hp hq
    have hc1 := Lib.hid hc0
    clear hc0
    rcases go with go | ⟨hk1, ho0⟩
    · have hik : i ≤ k := by
        rcases go with h | h
        · omega
        · rcases Nat.lt_or_ge k i with h2 | h2
          · have := Z.out (by omega); omega
          · exact h2
      obtain ⟨s, hs⟩ : ∃ s, s = o + p + q := ⟨_, rfl⟩
      obtain ⟨r, hr⟩ : ∃ r, s % 256 = r := ⟨_, rfl⟩
      obtain ⟨u, hu⟩ : ∃ u, s / 256 = u := ⟨_, rfl⟩
      have es : (o : Int) + (p : Int) + (q : Int) = (s : Int) := by omega
      have e1 : (s : Int).tmod 256 = (r : Int) := by rw [Int.tmod_eq_emod_of_nonneg (by omega)]; omega
      have e2 : (s : Int) % 256 = (r : Int) := by omega
      have e3 : (s : Int) / 256 = (u : Int) := by omega
      have r6 : (r : Int) < 256 := by omega
      have hb : Hid (U8 (bt (x + y) i) = (r : Int)) := Lib.hid (by rw [EB.out, S.out.1, ← hr, hs])
      have hu2 : Hid (car8 x y (i + 1) = u) := Lib.hid (by rw [S.out.2, ← hu, hs])
      have hb2 : IntKind.u8.wrap (r : Int) = (r : Int) := by rw [IntKind.wrap_u8]; omega
      clear hr hu hs
      rcases Nat.lt_or_ge i k with hik2 | hik2
      · have d1 : decide ((i : Int) < (k : Int)) = true := by simp; omega
        clear go
        go_wp2_with (first
          | ((with_reducible refine (HA.out _ G.out).mono ?_); rintro e w' ⟨rfl, rfl⟩)
          | ((with_reducible refine (HA'.out _ G'.out).mono ?_); rintro e w' ⟨rfl, rfl⟩)
          | ((with_reducible apply lay_append_byte); (case hgd => exact rfl); (case ho => exact rfl); (case hs => exact rfl); (case hx => exact rfl); (case hown => exact H1.out.alloc _); (case hc => exact new_byte _ _ _ hb.out); (case hn => omega); (case hbase => simp; omega); intro v' w' ho' hb' _ _; go_simp))
        go_roundw
        case rel => exact ⟨i + 1, by omega, by go_num, by rw [hu2.out], ho', (H2.out.alloc hz _).trans hb'⟩
        case measure => simp [intOf]; omega
      · have d1 : decide ((i : Int) < (k : Int)) = false := by simp; omega
        have d2 : decide (0 < o) = true := by simp; omega
        clear go
        go_wp2_with (first
          | ((with_reducible refine (HA.out _ G.out).mono ?_); rintro e w' ⟨rfl, rfl⟩)
          | ((with_reducible refine (HA'.out _ G'.out).mono ?_); rintro e w' ⟨rfl, rfl⟩)
          | ((with_reducible apply lay_append_byte); (case hgd => exact rfl); (case ho => exact rfl); (case hs => exact rfl); (case hx => exact rfl); (case hown => exact H1.out.alloc _); (case hc => exact new_byte _ _ _ hb.out); (case hn => omega); (case hbase => simp; omega); intro v' w' ho' hb' _ _; go_simp))
        go_roundw
        case rel => exact ⟨i + 1, by omega, by go_num, by rw [hu2.out], ho', (H2.out.alloc hz _).trans hb'⟩
        case measure => simp [intOf]; omega
    · have d1 : decide ((i : Int) < (k : Int)) = false := by simp; omega
      have hf := (D.out hk1).1 ho0
      subst ho0
      obtain ⟨b, cb, rfl, hs⟩ := H1.out.any
      have S1 : Hid (Sb wr wr.heap.size b i cb (x + y)) := Lib.hid ⟨hs, hf⟩
      clear hs hf
      go_wp2_with ((with_reducible refine (cut_any b i cb (x + y) _ (by omega) S1.out).mono ?_); rintro e w' ⟨rfl, rfl⟩)
      go_ret
      exact ⟨_, rfl, b, cb, rfl, S1.out.cut, H2.out⟩
end Go.Proofs.Ytmnokjapapheiaa
