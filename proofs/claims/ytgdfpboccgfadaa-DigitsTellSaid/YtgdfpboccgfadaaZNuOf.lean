/-
  The contract of number.Of.
-/
import Derived.Test.YtgdfpboccgfadaaBuN
namespace Go.Proofs.Ytgdfpboccgfadaa
open Go.RowKit

theorem mod_fits (x i n : Nat) (hx : x < 2 ^ (8 * n)) (hi : n ≤ i) : x % 2 ^ (8 * i) = x :=
  Nat.mod_eq_of_lt (Nat.lt_of_lt_of_le hx (Nat.pow_le_pow_right (by omega) (by omega)))
set_option maxRecDepth 8000 in
set_option maxHeartbeats 1000000 in
theorem nof_any (a : Option Addr) (n c x : Nat) (w : World) (hn : n ≤ 100000) (h : Sb w w.heap.size a n c x) :
    Calls Try.prog 19 #[.slice a n c] w fun e w' => ∃ v, e = .returned v ∧ Got w w' v x := by
  obtain ⟨N, hN⟩ : ∃ N, N = (n + 7) / 8 := ⟨_, rfl⟩
  have hfit : x < 2 ^ (64 * N) := Nat.lt_of_lt_of_le h.fits (Nat.pow_le_pow_right (by omega) (by omega))
  have Hf := Lib.hid hfit
  have Hx := Lib.hid (mod_fits x n n h.fits (Nat.le_refl _))
  have HS := Lib.hid h.sl
  have hd : (n : Int) ≤ 100000 := by omega
  have e7 : ((n : Int) + 7) / 8 = (N : Int) := by omega
  have e8 : ((n : Int) + 8 - 1) / 8 = (N : Int) := by omega
  have HN := Lib.hid hN
  have hN6 : N ≤ 100000 := by omega
  clear h hfit hN
  go_enter Try.func19, Try.ntmps19
  go_wp2_with (first
    | ((with_reducible apply lay_makeW); (case hgd => exact rfl); (case ho => exact rfl); (case hx => exact congrArg (Value.int .i64) e8); (case hy => exact congrArg (Value.int .i64) e8); (case hc => omega); intro _ _; go_simp))
  clear e7 e8
  go_loopw [14] (fun v wr => ∃ i : Nat, i ≤ n ∧ v = .int .i64 i ∧ RowW wr w.heap.size N (wd (x % 2 ^ (8 * i))) ∧ Below w.heap.size w wr) (fun v _ => n - (intOf v).toNat)
  case atStart => exact ⟨0, by omega, rfl, (RowW.new _ _ _).congr fun k _ => by rw [Nat.mul_zero, Nat.pow_zero, Nat.mod_one, wd_zero]; rfl, (Below.refl _ _).alloc (Nat.le_refl _) _⟩
  case round =>
    obtain ⟨i, hi, rfl, HW, HB⟩ := hrel
    by_cases hlt : i < n
    · have hid : decide ((i : Int) < (n : Int)) = true := by simp; omega
      have HS2 := HS.out.below HB
      obtain ⟨b, o, rfl, hbB, hcell⟩ := HS2.get i hlt
      clear HS2
      have H1 := Lib.hid HW
      have H2 := Lib.hid HB
      clear HW HB
      go_wp2_with fail
      refine wp_region_still_tail 12 (by kernel_rfl) (by kernel_rfl) ?_
      change wpStill _ _ wr.drew (fun a' => wpList _ _ _ _ a' wr.drew) _ _
      have D1 := Lib.hid H1.out.drew
      have D2 := Lib.hid (Below.drew H2.out)
      clear H1 H2 hcell
      generalize wr.drew = w2 at *
      obtain ⟨q, hq⟩ : ∃ q, i / 8 = q := ⟨_, rfl⟩
      obtain ⟨k, hk⟩ : ∃ k, i % 8 * 8 = k := ⟨_, rfl⟩
      have qN : q < N := by have := HN.out; omega
      have qN' : (q : Int) < (N : Int) := by omega
      have k64 : (k : Int) ≤ 64 := by omega
      have hc := D1.out.cell q qN
      have hz := D1.out.thaw q
      have e1 : IntKind.i64.wrap ((i : Int) / 8) = (q : Int) := (IntWalk.i64_in _ (by omega)).trans (by omega)
      have Hq := Lib.hid hq
      have Hk := Lib.hid hk
      clear hq hk
      simp only [List.take_succ_cons, List.take_zero, List.drop_succ_cons, List.drop_zero]
      iterate 8 still_step
      still_call (nplace_any i _ (by omega) k Hk.out)
      iterate 3 still_step
      refine wpStill_nil ?_
      clear e1
      go_wp2_with fail
      go_roundw
      case rel =>
        refine ⟨i + 1, by omega, by go_num, ?_, D2.out.setCell (Nat.le_refl _) _⟩
        have h := D1.out.setCell q (wd (x % 2 ^ (8 * i)) q ||| shl (zx (bt x i)) k)
        rw [← Hq.out, ← Hk.out, wd_of, Hq.out, Hk.out] at h
        exact h
      case measure => simp [intOf]; omega
    · obtain rfl : i = n := by omega
      rw [Hx.out] at HW
      have H1 := Lib.hid HW
      have H2 := Lib.hid HB
      clear HW HB
      go_wp2_with ((with_reducible refine (trim_any _ _ _ x _ (by omega) (H1.out.sw (Nat.le_refl _) Hf.out H1.out.lt)).mono ?_); rintro e w' ⟨rfl, rfl⟩)
      go_ret
      exact ⟨_, rfl, w.heap.size, N, rfl, Nat.le_refl _, H1.out, (dl_le 64 _ _ (by omega)).2 Hf.out, H2.out⟩
end Go.Proofs.Ytgdfpboccgfadaa
