/-
  The contract of the reference's Sub.
-/
import Derived.Test.YtmnokjapapheiaaRfBytes
namespace Go.Proofs.Ytmnokjapapheiaa
open Go.RowKit

set_option maxHeartbeats 1000000 in
theorem refSub_any (a : Option Addr) (n c x : Nat) (a' : Option Addr) (m c' y : Nat) (w : World) (hn : n ≤ 10000) (hm : m ≤ 10000) (h : Sb w w.heap.size a n c x) (h' : Sb w w.heap.size a' m c' y) (hxy : y ≤ x) :
    Calls Try.prog 30 #[.slice a n c, .slice a' m c'] w fun e w' => ∃ v, e = .returned v ∧ GotB w w' v (x - y) := by
  have hf : x - y < 2 ^ (8 * n) := by have := h.fits; omega
  have H := Lib.hid h
  have H' := Lib.hid h'
  have Hf := Lib.hid hf
  have Hxy := Lib.hid hxy
  clear h h' hf hxy
  go_enter Try.func30, Try.ntmps30
  go_wp2_with fail
  go_loopw [5, 6, 7] (fun v5 v6 v7 wr => ∃ i : Nat, i ≤ n ∧ v7 = .int .i64 i ∧ v6 = .int .i64 ((bor8 x y i : Nat) : Int) ∧ OwnB wr w.heap.size v5 i (bt (x - y)) ∧ Below w.heap.size w wr) (fun _ _ v7 _ => n - (intOf v7).toNat)
  case atStart => exact ⟨0, by omega, rfl, by rw [bor8_zero]; rfl, OwnB.nil _ _ _, Below.refl _ _⟩
  case round =>
    obtain ⟨i, hi, rfl, rfl, HO, HB⟩ := hrel
    by_cases hlt : i < n
    · have d1 : decide ((i : Int) < (n : Int)) = true := by simp; omega
      have S := Lib.hid (sub8_step Hxy.out i)
      have ho := bor8_le x y i
      have hxl := dg_lt x i
      have hyl := dg_lt y i
      have HA : Hid (∀ w', Sb w' w.heap.size a n c x → Calls Try.prog 40 #[.slice a n c, .int .i64 i] w' fun e w'' => e = .returned (.int .i64 ((dg x i : Nat) : Int)) ∧ w'' = w') := Lib.hid fun w' hw => at_any a n c x i w' (by omega) (by omega) hw
      have HA' : Hid (∀ w', Sb w' w.heap.size a' m c' y → Calls Try.prog 40 #[.slice a' m c', .int .i64 i] w' fun e w'' => e = .returned (.int .i64 ((dg y i : Nat) : Int)) ∧ w'' = w') := Lib.hid fun w' hw => at_any a' m c' y i w' (by omega) (by omega) hw
      have G := Lib.hid (H.out.below HB)
      have G' := Lib.hid (H'.out.below HB)
      have H1 := Lib.hid HO
      have H2 := Lib.hid HB
      clear HO HB
      generalize dg x i = p at *
      generalize dg y i = q at *
      generalize bor8 x y i = o at *
      have hz : w.heap.size ≤ wr.heap.size := H2.out.size
      have EB := Lib.hid (U8_bt (x - y) i)
      obtain ⟨z, hz0⟩ : ∃ z : Int, (p : Int) - (q : Int) - (o : Int) = z := ⟨_, rfl⟩
      obtain ⟨r, hr⟩ : ∃ r, (p + 256 - q - o) % 256 = r := ⟨_, rfl⟩
      have r6 : (r : Int) < 256 := by omega
      have hb2 : IntKind.u8.wrap (r : Int) = (r : Int) := by rw [IntKind.wrap_u8]; omega
      have hb : Hid (U8 (bt (x - y) i) = (r : Int)) := Lib.hid (by rw [EB.out, S.out.1, ← hr])
      by_cases hneg : p < q + o
      · have z0 : decide (z < 0) = true := by simp; omega
        have e2 : z + 256 = (r : Int) := by omega
        have z1 : -256 ≤ z := by omega
        have z2 : z ≤ 0 := by omega
        have hu : Hid (bor8 x y (i + 1) = 1) := Lib.hid (by rw [S.out.2, if_pos hneg])
        clear hneg hr
        go_wp2_with (first
          | ((with_reducible refine (HA.out _ G.out).mono ?_); rintro e w' ⟨rfl, rfl⟩)
          | ((with_reducible refine (HA'.out _ G'.out).mono ?_); rintro e w' ⟨rfl, rfl⟩)
          | ((with_reducible apply lay_append_byte); (case hgd => exact rfl); (case ho => exact rfl); (case hs => exact rfl); (case hx => exact rfl); (case hown => exact H1.out.alloc _); (case hc => exact new_byte _ _ _ hb.out); (case hn => omega); (case hbase => simp; omega); intro v' w' ho' hb' _ _; go_simp))
        go_roundw
        case rel => exact ⟨i + 1, by omega, by go_num, by rw [hu.out]; rfl, ho', (H2.out.alloc hz _).trans hb'⟩
        case measure => simp [intOf]; omega
      · obtain rfl : z = (r : Int) := by omega
        have z0 : decide ((r : Int) < 0) = false := by simp
        have hu : Hid (bor8 x y (i + 1) = 0) := Lib.hid (by rw [S.out.2, if_neg hneg])
        clear hneg hr
        go_wp2_with (first
          | ((with_reducible refine (HA.out _ G.out).mono ?_); rintro e w' ⟨rfl, rfl⟩)
          | ((with_reducible refine (HA'.out _ G'.out).mono ?_); rintro e w' ⟨rfl, rfl⟩)
          | ((with_reducible apply lay_append_byte); (case hgd => exact rfl); (case ho => exact rfl); (case hs => exact rfl); (case hx => exact rfl); (case hown => exact H1.out.alloc _); (case hc => exact new_byte _ _ _ hb.out); (case hn => omega); (case hbase => simp; omega); intro v' w' ho' hb' _ _; go_simp))
        go_roundw
        case rel => exact ⟨i + 1, by omega, by go_num, by rw [hu.out]; rfl, ho', (H2.out.alloc hz _).trans hb'⟩
        case measure => simp [intOf]; omega
    · obtain rfl : i = n := by omega
      have H1 := Lib.hid HO
      have H2 := Lib.hid HB
      obtain ⟨b, cb, rfl, hs⟩ := H1.out.any
      have S1 : Hid (Sb wr wr.heap.size b i cb (x - y)) := Lib.hid ⟨hs, Hf.out⟩
      have d1 : decide ((i : Int) < (i : Int)) = false := by simp
      generalize bor8 x y i = o at *
      clear hs HO HB
      go_wp2_with ((with_reducible refine (cut_any b i cb (x - y) _ (by omega) S1.out).mono ?_); rintro e w' ⟨rfl, rfl⟩)
      go_ret
      exact ⟨_, rfl, b, cb, rfl, S1.out.cut, H2.out⟩
end Go.Proofs.Ytmnokjapapheiaa
