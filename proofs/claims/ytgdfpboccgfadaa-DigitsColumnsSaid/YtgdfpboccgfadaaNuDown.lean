/-
  The contract of number.down.
-/
import Derived.Test.YtgdfpboccgfadaaNuTrim
import Derived.Test.YtgdfpboccgfadaaNuBitM
import Derived.WalkLawsBesides
import Derived.Lib.MinMax
namespace Go.Proofs.Ytgdfpboccgfadaa
open Go.RowKit

theorem down_fits {x n s K : Nat} (hx : x < 2 ^ (64 * n)) (hK : n ≤ K + s / 64) : x / 2 ^ s < 2 ^ (64 * K) := by
  rw [Nat.div_lt_iff_lt_mul (Nat.two_pow_pos _), ← Nat.pow_add]
  exact Nat.lt_of_lt_of_le hx (Nat.pow_le_pow_right (by omega) (by omega))
set_option maxRecDepth 8000 in
set_option maxHeartbeats 1000000 in
theorem down_any (a : Option Addr) (n c x s : Nat) (w : World) (hn : n ≤ 400000) (hs : s ≤ 10000000) (h : Sw w w.heap.size a n c x) :
    Calls Try.prog 47 #[.slice a n c, .int .i64 s] w fun e w' => ∃ v, e = .returned v ∧ Got w w' v (x / 2 ^ s) := by
  obtain ⟨q, hq⟩ : ∃ q, s / 64 = q := ⟨_, rfl⟩
  obtain ⟨r, hr⟩ : ∃ r, s % 64 = r := ⟨_, rfl⟩
  obtain ⟨t, ht⟩ : ∃ t, 64 - r = t := ⟨_, rfl⟩
  obtain ⟨K, hK⟩ : ∃ K, n - q = K := ⟨_, rfl⟩
  have Hf := Lib.hid (down_fits (K := K) (s := s) h.fits (by omega))
  have HW := Lib.hid (fun i => wd_down x s i)
  rw [hq, hr, ht] at HW
  have H := Lib.hid h
  have e1 : (s : Int) / 64 = (q : Int) := by omega
  have e2 : (s : Int) % 64 = (r : Int) := by omega
  have e3 : (64 : Int) - (r : Int) = (t : Int) := by omega
  have hmx : max 0 ((n : Int) - (q : Int)) = (K : Int) := by omega
  have q6 : (q : Int) ≤ 400000 := by omega
  have r64 : (r : Int) < 64 := by omega
  have t64 : (t : Int) ≤ 64 := by omega
  have K6 : K ≤ 400000 := by omega
  have q6' : q ≤ 400000 := by omega
  clear h hq hr ht hK
  go_enter Try.func47, Try.ntmps47
  go_wp2_with (first
    | ((with_reducible apply lay_makeW); (case hgd => exact rfl); (case ho => exact rfl); (case hx => exact rfl); (case hy => exact rfl); (case hc => omega); intro _ _; go_simp))
  clear hmx
  go_loopw [21] (fun v wr => ∃ i : Nat, i ≤ K ∧ v = .int .i64 i ∧ RowW wr w.heap.size K (mix i (wd (x / 2 ^ s)) fun _ => 0) ∧ Below w.heap.size w wr) (fun v _ => K - (intOf v).toNat)
  case atStart => exact ⟨0, by omega, rfl, by rw [mix_zero]; exact RowW.new _ _ _, (Below.refl _ _).alloc (Nat.le_refl _) _⟩
  case round =>
    obtain ⟨i, hi, rfl, HR, HB⟩ := hrel
    by_cases hlt : i < K
    · have hid : decide ((i : Int) < (K : Int)) = true := by simp; omega
      have iK : (i : Int) < (K : Int) := by omega
      have H1 := Lib.hid HR
      have H2 := Lib.hid HB
      clear HR HB
      go_wp2_with fail
      refine wp_region_still_tail 20 (by kernel_rfl) (by kernel_rfl) ?_
      change wpStill _ _ wr.drew (fun a' => wpList _ _ _ _ a' wr.drew) _ _
      have D1 := Lib.hid H1.out.drew
      have D2 := Lib.hid (Below.drew H2.out)
      clear H1 H2
      generalize wr.drew = w2 at *
      have G := Lib.hid (H.out.below D2.out)
      have hc := D1.out.cell i hlt
      have hz := D1.out.thaw i
      obtain ⟨p, hp⟩ : ∃ p, i + q = p := ⟨_, rfl⟩
      have f1 : IntKind.i64.wrap ((i : Int) + (q : Int)) = (p : Int) := (IntWalk.i64_in _ (by omega)).trans (by omega)
      have f2 : IntKind.i64.wrap ((p : Int) + 1) = ((p + 1 : Nat) : Int) := (IntWalk.i64_in _ (by omega)).trans (by omega)
      have f3 : IntKind.i64.wrap (t : Int) = (t : Int) := IntWalk.i64_in _ (by omega)
      have Hp := Lib.hid hp
      have p6 : p ≤ 1000000 := by omega
      clear hp
      simp only [List.take_succ_cons, List.take_zero, List.drop_succ_cons, List.drop_zero]
      iterate 6 still_step
      still_call (word_any a n c x p _ (by omega) (by omega) G.out)
      iterate 7 still_step
      still_call (word_any a n c x (p + 1) _ (by omega) (by omega) G.out)
      iterate 5 still_step
      refine wpStill_nil ?_
      clear f1 f2 f3
      go_wp2_with fail
      go_roundw
      case rel =>
        refine ⟨i + 1, by omega, by go_num, ?_, D2.out.setCell (Nat.le_refl _) _⟩
        have h := D1.out.setCell i (wd (x / 2 ^ s) i)
        rw [mix_upd, HW.out, Hp.out] at h
        exact h
      case measure => simp [intOf]; omega
    · obtain rfl : i = K := by omega
      have H1 := Lib.hid (HR.congr fun j hj => mix_all _ _ _ j hj)
      have H2 := Lib.hid HB
      clear HR HB
      go_wp2_with ((with_reducible refine (trim_any _ _ _ (x / 2 ^ s) _ (by omega) (H1.out.sw (Nat.le_refl _) Hf.out H1.out.lt)).mono ?_); rintro e w' ⟨rfl, rfl⟩)
      go_ret
      exact ⟨_, rfl, w.heap.size, i, rfl, Nat.le_refl _, H1.out, (dl_le 64 _ _ (by omega)).2 Hf.out, H2.out⟩
end Go.Proofs.Ytgdfpboccgfadaa
