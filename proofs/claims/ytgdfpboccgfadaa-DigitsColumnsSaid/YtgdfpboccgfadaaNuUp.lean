/-
  The contract of number.up.
-/
import Derived.Test.YtgdfpboccgfadaaNuTrim
import Derived.Test.YtgdfpboccgfadaaNuBitM
namespace Go.Proofs.Ytgdfpboccgfadaa
open Go.RowKit

theorem up_fits {x n s : Nat} (hx : x < 2 ^ (64 * n)) : x * 2 ^ s < 2 ^ (64 * (n + s / 64 + 1)) := by
  refine Nat.lt_of_lt_of_le (Nat.mul_lt_mul_of_pos_right hx (Nat.two_pow_pos s)) ?_
  rw [← Nat.pow_add]
  exact Nat.pow_le_pow_right (by omega) (by omega)
set_option maxRecDepth 8000 in
set_option maxHeartbeats 1000000 in
theorem nup_any (a : Option Addr) (n c x s : Nat) (w : World) (hn : n ≤ 400000) (hs : s ≤ 10000000) (h : Sw w w.heap.size a n c x) :
    Calls Try.prog 48 #[.slice a n c, .int .i64 s] w fun e w' => ∃ v, e = .returned v ∧ Got w w' v (x * 2 ^ s) := by
  obtain ⟨q, hq⟩ : ∃ q, s / 64 = q := ⟨_, rfl⟩
  obtain ⟨r, hr⟩ : ∃ r, s % 64 = r := ⟨_, rfl⟩
  obtain ⟨t, ht⟩ : ∃ t, 64 - r = t := ⟨_, rfl⟩
  have Hf := Lib.hid (up_fits (s := s) h.fits)
  have HW := Lib.hid (fun i => wd_up x i s)
  rw [hq] at Hf
  rw [hq, hr, ht] at HW
  have Hx := Lib.hid (Nat.mod_eq_of_lt h.fits)
  have H := Lib.hid h
  have e1 : (s : Int) / 64 = (q : Int) := by omega
  have e2 : (s : Int) % 64 = (r : Int) := by omega
  have e3 : (64 : Int) - (r : Int) = (t : Int) := by omega
  have q6 : (q : Int) ≤ 400000 := by omega
  have r64 : (r : Int) < 64 := by omega
  have t64 : (t : Int) ≤ 64 := by omega
  have q6' : q ≤ 400000 := by omega
  have eN : Hid ((n : Int) + (q : Int) + 1 = ((n + q + 1 : Nat) : Int)) := Lib.hid (by omega)
  clear h hq hr ht
  go_enter Try.func48, Try.ntmps48
  go_wp2_with (first
    | ((with_reducible apply lay_makeW); (case hgd => exact rfl); (case ho => exact rfl); (case hx => exact congrArg (Value.int .i64) eN.out); (case hy => exact congrArg (Value.int .i64) eN.out); (case hc => omega); intro _ _; go_simp))
  clear eN
  go_loopw [22] (fun v wr => ∃ i : Nat, i ≤ n ∧ v = .int .i64 i ∧ RowW wr w.heap.size (n + q + 1) (wd (x % 2 ^ (64 * i) * 2 ^ s)) ∧ Below w.heap.size w wr) (fun v _ => n - (intOf v).toNat)
  case atStart => exact ⟨0, by omega, rfl, (RowW.new _ _ _).congr fun k _ => by rw [Nat.mul_zero, Nat.pow_zero, Nat.mod_one, Nat.zero_mul, wd_zero]; rfl, (Below.refl _ _).alloc (Nat.le_refl _) _⟩
  case round =>
    obtain ⟨i, hi, rfl, HR, HB⟩ := hrel
    by_cases hlt : i < n
    · have hid : decide ((i : Int) < (n : Int)) = true := by simp; omega
      obtain ⟨b, o, rfl, hbB, hcell⟩ := (H.out.below HB).get i hlt
      have H1 := Lib.hid HR
      have H2 := Lib.hid HB
      clear HR HB
      go_wp2_with fail
      refine wp_region_still_tail 11 (by kernel_rfl) (by kernel_rfl) ?_
      change wpStill _ _ wr.drew (fun a' => wpList _ _ _ _ a' wr.drew) _ _
      have D1 := Lib.hid H1.out.drew
      have D2 := Lib.hid (Below.drew H2.out)
      clear H1 H2 hcell
      generalize wr.drew = w2 at *
      obtain ⟨p, hp⟩ : ∃ p, i + q = p := ⟨_, rfl⟩
      have pN : (p : Int) < (n : Int) + (q : Int) + 1 := by omega
      have pN1 : (p : Int) + 1 < (n : Int) + (q : Int) + 1 := by omega
      have f1 : IntKind.i64.wrap (p : Int) = (p : Int) := IntWalk.i64_in _ (by omega)
      have f2 : (i : Int) + (q : Int) = (p : Int) := by omega
      have hc := D1.out.cell p (by omega)
      have hz := D1.out.thaw p
      have hz1 := D1.out.thaw (p + 1)
      have D3 := Lib.hid (D1.out.setCell p (wd (x % 2 ^ (64 * i) * 2 ^ s) p ||| shl (wd x i) r))
      have hz2 := D3.out.thaw (p + 1)
      have hc2 := D3.out.cell (p + 1) (by omega)
      have Hp := Lib.hid hp
      clear hp
      simp only [List.take_succ_cons, List.take_zero, List.drop_succ_cons, List.drop_zero]
      iterate 11 still_step
      refine wpStill_nil ?_
      go_wp2_with fail
      go_roundw
      case rel =>
        refine ⟨i + 1, by omega, by go_num, ?_, (D2.out.setCell (Nat.le_refl _) _).setCell (Nat.le_refl _) _⟩
        have h := D3.out.setCell (p + 1) (shr (wd x i) t)
        have e := HW.out i
        rw [Hp.out] at e
        rw [← e]
        exact h
      case measure => simp [intOf]; omega
    · obtain rfl : i = n := by omega
      rw [Hx.out] at HR
      have H1 := Lib.hid HR
      have H2 := Lib.hid HB
      clear HR HB
      go_wp2_with ((with_reducible refine (trim_any _ _ _ (x * 2 ^ s) _ (by omega) (H1.out.sw (Nat.le_refl _) Hf.out H1.out.lt)).mono ?_); rintro e w' ⟨rfl, rfl⟩)
      go_ret
      exact ⟨_, rfl, w.heap.size, i + q + 1, rfl, Nat.le_refl _, H1.out, (dl_le 64 _ _ (by omega)).2 Hf.out, H2.out⟩
end Go.Proofs.Ytgdfpboccgfadaa
