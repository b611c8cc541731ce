/-
  The contract of number.Add.
-/
import Derived.Test.YtgdfpboccgfadaaBuN
import Derived.WalkLawsBesides
import Derived.Lib.MinMax
namespace Go.Proofs.Ytgdfpboccgfadaa
open Go.RowKit

theorem adc_word (x y i : Nat) : adc (wd x i) (wd y i) (car x y i) = wd (x + y) i := by
  apply BitVec.eq_of_toNat_eq
  rw [wd_add]
  unfold adc
  rw [BitVec.toNat_ofNat, cy_of (car_le x y i)]
theorem adk_word (x y i : Nat) : adk (wd x i) (wd y i) (car x y i) = car x y (i + 1) := by
  rw [car_succ]
  unfold adk
  rw [cy_of (car_le x y i)]
set_option maxRecDepth 8000 in
set_option maxHeartbeats 1000000 in
theorem nadd_any (a : Option Addr) (n c x : Nat) (a' : Option Addr) (m c' y : Nat) (w : World) (hn : n ≤ 900000) (hm : m ≤ 900000) (h : Sw w w.heap.size a n c x) (h' : Sw w w.heap.size a' m c' y) :
    Calls Try.prog 40 #[.slice a n c, .slice a' m c'] w fun e w' => ∃ v, e = .returned v ∧ Got w w' v (x + y) := by
  obtain ⟨k, hk⟩ : ∃ k, k = max n m := ⟨_, rfl⟩
  have hx : x < 2 ^ (64 * k) := Nat.lt_of_lt_of_le h.fits (Nat.pow_le_pow_right (by omega) (by omega))
  have hy : y < 2 ^ (64 * k) := Nat.lt_of_lt_of_le h'.fits (Nat.pow_le_pow_right (by omega) (by omega))
  have hk6 : k ≤ 900000 := by omega
  have hmx : max (n : Int) (m : Int) = (k : Int) := by omega
  have H := Lib.hid h
  have H' := Lib.hid h'
  clear h h' hk
  have hmk : ∀ w, (Instr.makeSlice 33 (.int .i64 ((k : Int) + 1)) (.int .i64 ((k : Int) + 1))).run Try.prog w = .ok (.slice (some ⟨w.heap.size, 0, none⟩) (k + 1) (k + 1)) (w.alloc (.cells (A (k + 1) fun _ => 0) 48)) := fun w => run_make_u64 w (k + 1) (by omega)
  go_enter Try.func40, Try.ntmps40
  go_wp2_with fail
  clear hmx hmk
  go_loopw [7, 18] (fun v7 v18 wr => ∃ i : Nat, i ≤ k ∧ v18 = .int .i64 i ∧ v7 = V (cy (car x y i)) ∧ RowW wr w.heap.size (k + 1) (mix i (wd (x + y)) fun _ => 0) ∧ Below w.heap.size w wr) (fun _ v18 _ => k - (intOf v18).toNat)
  case atStart => exact ⟨0, by omega, rfl, by rw [car_zero]; rfl, by rw [mix_zero]; exact RowW.new _ _ _, (Below.refl _ _).alloc (Nat.le_refl _) _⟩
  case round =>
    obtain ⟨i, hi, rfl, rfl, HW, HB⟩ := hrel
    by_cases hlt : i < k
    · have hid : decide ((i : Int) < (k : Int)) = true := by simp; omega
      have iN : (i : Int) < (k : Int) + 1 := by omega
      have hc : wr.cell? ⟨w.heap.size, i, none⟩ = some (V 0) := by rw [HW.cell i (by omega), mix_at]
      have hz := HW.thaw i
      have G := Lib.hid (H.out.below HB)
      have G' := Lib.hid (H'.out.below HB)
      have H1 := Lib.hid HW
      have H2 := Lib.hid HB
      clear HW HB
      go_wp2_with (first | ((with_reducible refine (word_any a n c x i _ (by omega) (by omega) G.out).mono ?_); rintro e w' ⟨rfl, rfl⟩) | ((with_reducible refine (word_any a' m c' y i _ (by omega) (by omega) G'.out).mono ?_); rintro e w' ⟨rfl, rfl⟩))
      go_roundw
      case rel => exact ⟨i + 1, by omega, by go_num, by rw [adk_word], by rw [← mix_upd, ← adc_word]; exact H1.out.setCell i _, H2.out.setCell (Nat.le_refl _) _⟩
      case measure => simp [intOf]; omega
    · obtain rfl : i = k := by omega
      have hc : wr.cell? ⟨w.heap.size, i, none⟩ = some (V 0) := by rw [HW.cell i (by omega), mix_at]
      have hz := HW.thaw i
      have hlast : cy (car x y i) = wd (x + y) i := by
        apply BitVec.eq_of_toNat_eq
        rw [wd_last hx hy, cy_of (car_le x y i)]
      have R1 : RowW (wr.setCell ⟨w.heap.size, i, none⟩ (V (cy (car x y i)))) w.heap.size (i + 1) (wd (x + y)) := by
        have := HW.setCell i (cy (car x y i))
        rw [hlast, mix_upd] at this
        rw [hlast]
        exact this.congr fun j hj => mix_all _ _ _ j hj
      have R2 : Below w.heap.size w (wr.setCell ⟨w.heap.size, i, none⟩ (V (cy (car x y i)))) := HB.setCell (Nat.le_refl _) _
      have hf := add_fits hx hy
      have H1 := Lib.hid R1
      have H2 := Lib.hid R2
      have Hf := Lib.hid hf
      have iN : (i : Int) < (i : Int) + 1 := by omega
      clear HW HB R1 R2 hlast hf hx hy
      go_wp2_with ((with_reducible refine (trim_any _ _ _ (x + y) _ (by omega) (H1.out.sw (Nat.le_refl _) Hf.out H1.out.lt)).mono ?_); rintro e w' ⟨rfl, rfl⟩)
      go_ret
      exact ⟨_, rfl, w.heap.size, i + 1, rfl, Nat.le_refl _, H1.out, (dl_le 64 _ _ (by omega)).2 Hf.out, H2.out⟩
end Go.Proofs.Ytgdfpboccgfadaa
