/-
  The contracts of number.addTimes and Mul.
-/
import Derived.Test.YtmnokjapapheiaaNuTimes
namespace Go.Proofs.Ytmnokjapapheiaa
open Go.RowKit

theorem mix_upd_at (p : Nat) (f g : Nat → BitVec 64) (v : BitVec 64) (h : v = f p) : upd (mix p f g) p v = mix (p + 1) f g := by rw [h, mix_upd]
set_option maxHeartbeats 1000000 in
theorem times_any (g N i R Z : Nat) (a : Option Addr) (m c y : Nat) (x : BitVec 64) (w : World) (hR : i + R = N) (hN : N ≤ 1000000) (hm : m < R) (hr : RowW w g N (wd Z)) (hZ : Z < 2 ^ (64 * (i + m))) (h : Sw w g a m c y) :
    Calls Try.prog 43 #[.slice (some ⟨g, i, none⟩) R R, .slice a m c, V x] w fun e w' => e = .returned (.tuple #[]) ∧ RowW w' g N (wd (tim i y x Z)) ∧ Below g w w' := by
  obtain ⟨hl1, hl2⟩ := tim_last (x := x) h.fits hZ
  have Hl := Lib.hid hl1
  have Hf := Lib.hid hl2
  have HZ := Lib.hid hZ
  have H := Lib.hid h
  have HR := Lib.hid hr
  have hN' : (R : Int) ≤ 1000000 := by omega
  have hm' : (m : Int) < (R : Int) := by omega
  have HE := Lib.hid hR
  have H0 := Lib.hid (ov_zero (Z / 2 ^ (64 * i)) y x.toNat)
  have HT := Lib.hid (fun k => times_step (Z / 2 ^ (64 * i)) y k x)
  clear hl1 hl2 h hr hR hZ
  go_enter Try.func43, Try.ntmps43
  go_wp2_with fail
  go_loopw [6, 15] (fun v6 v15 wr => ∃ k : Nat, k ≤ m ∧ v15 = .int .i64 k ∧ v6 = V (ov (Z / 2 ^ (64 * i)) y x.toNat k) ∧ RowW wr g N (mix (i + k) (wd (tim i y x Z)) (wd Z)) ∧ Below g w wr) (fun _ v15 _ => m - (intOf v15).toNat)
  case atStart => exact ⟨0, by omega, rfl, by rw [H0.out]; rfl, HR.out.congr fun k _ => by
    unfold mix
    by_cases hk : k < i + 0
    · rw [if_pos hk, tim_low _ _ _ _ _ (by omega)]
    · rw [if_neg hk], Below.refl _ _⟩
  case round =>
    clear HR H0
    obtain ⟨k, hk, rfl, rfl, HW, HB⟩ := hrel
    by_cases hlt : k < m
    · have hid : decide ((k : Int) < (m : Int)) = true := by simp; omega
      have kR : (k : Int) < (R : Int) := by omega
      obtain ⟨b, o, rfl, hbB, hcell⟩ := (H.out.below HB).get k hlt
      have hc : wr.cell? ⟨g, i + k, none⟩ = some (V (wd (Z / 2 ^ (64 * i)) k)) := by rw [HW.cell (i + k) (by have := HE.out; omega), mix_at, (tim_wd i y x Z k).2]
      have hz := HW.thaw (i + k)
      have H1 := Lib.hid HW
      have H2 := Lib.hid HB
      obtain ⟨s1, s2⟩ := HT.out k
      have S1 := Lib.hid s1
      have S2 := Lib.hid s2
      clear HW HB s1 s2
      go_wp2_with (first | ((with_reducible refine (mul64_any x (wd y k) _).mono ?_); rintro e w' ⟨rfl, rfl⟩))
      go_roundw
      case rel =>
        refine ⟨k + 1, by omega, by go_num, by rw [S2.out], ?_, H2.out.setCell (Nat.le_refl _) _⟩
        have h := H1.out.setCell (i + k) (wd (tim i y x Z) (i + k))
        rw [mix_upd] at h
        rw [S1.out, ← (tim_wd i y x Z k).1]
        exact h
      case measure => simp [intOf]; omega
    · obtain rfl : k = m := by omega
      have hc : wr.cell? ⟨g, i + k, none⟩ = some (V (wd Z (i + k))) := by rw [HW.cell (i + k) (by have := HE.out; omega), mix_at]
      have hz := HW.thaw (i + k)
      have H1 := Lib.hid HW
      have H2 := Lib.hid HB
      clear HW HB
      go_wp2_with fail
      go_end0
      refine ⟨rfl, ?_, H2.out.setCell (Nat.le_refl _) _⟩
      have h := H1.out.setCell (i + k) (wd (tim i y x Z) (i + k))
      rw [mix_upd, Hl.out] at h
      refine h.congr fun j hj => ?_
      unfold mix
      by_cases e : j < i + k + 1
      · rw [if_pos e]
      · rw [if_neg e, wd_over Hf.out (by omega), wd_over HZ.out (by omega)]
theorem mul_step (x y i : Nat) : tim i y (wd x i) (x % 2 ^ (64 * i) * y) = x % 2 ^ (64 * (i + 1)) * y := by
  unfold tim
  rw [wd_nat, pow64, Nat.mod_mul, Nat.add_mul]
  generalize x / 2 ^ (64 * i) % 18446744073709551616 = d
  rw [Nat.mul_assoc, Nat.mul_comm d y]
theorem mul_fits {x y i m : Nat} (hy : y < 2 ^ (64 * m)) : x % 2 ^ (64 * i) * y < 2 ^ (64 * (i + m)) := by
  have h1 := Nat.mod_lt x (Nat.two_pow_pos (64 * i))
  rw [Nat.mul_add, Nat.pow_add]
  generalize 2 ^ (64 * i) = P at *
  generalize 2 ^ (64 * m) = R at *
  have h2 : x % P * y ≤ x % P * R := Nat.mul_le_mul_left _ (by omega)
  have h3 : (x % P + 1) * R ≤ P * R := Nat.mul_le_mul_right _ h1
  rw [Nat.add_mul, Nat.one_mul] at h3
  omega
set_option maxHeartbeats 1000000 in
theorem mul_any (a : Option Addr) (n c x : Nat) (a' : Option Addr) (m c' y : Nat) (w : World) (hn : n ≤ 400000) (hm : m ≤ 400000) (h : Sw w w.heap.size a n c x) (h' : Sw w w.heap.size a' m c' y) :
    Calls Try.prog 27 #[.slice a n c, .slice a' m c'] w fun e w' => ∃ v, e = .returned v ∧ Got w w' v (x * y) := by
  have hn1 := (dl_le 64 x n (by omega)).2 h.fits
  have hm1 := (dl_le 64 y m (by omega)).2 h'.fits
  have Hx := Lib.hid (fits_dl 64 x (by omega))
  have Hy := Lib.hid (fits_dl 64 y (by omega))
  have T := Lib.hid (fun w' (hw : Sw w' w.heap.size a n c x) => trim_any a n c x w' (by omega) hw)
  have T' := Lib.hid (fun w' (hw : Sw w' w.heap.size a' m c' y) => trim_any a' m c' y w' (by omega) hw)
  have H := Lib.hid h
  have H' := Lib.hid h'
  have C := Lib.hid h.cut
  have C' := Lib.hid h'.cut
  generalize dl 64 x = p at *
  generalize dl 64 y = q at *
  have hp : p ≤ 400000 := by omega
  have hq : q ≤ 400000 := by omega
  clear h h' hn1 hm1
  go_enter Try.func27, Try.ntmps27
  go_wp2_with (first
    | ((with_reducible refine (T.out _ H.out).mono ?_); rintro e w' ⟨rfl, rfl⟩)
    | ((with_reducible refine (T'.out _ H'.out).mono ?_); rintro e w' ⟨rfl, rfl⟩)
    | ((with_reducible apply lay_makeW); (case hgd => exact rfl); (case ho => exact rfl); (case hx => exact congrArg (Value.int .i64) (Int.natCast_add p q).symm); (case hy => exact congrArg (Value.int .i64) (Int.natCast_add p q).symm); (case hc => omega); intro _ _; go_simp))
  go_loopw [20] (fun v wr => ∃ i : Nat, i ≤ p ∧ v = .int .i64 i ∧ RowW wr w'.heap.size (p + q) (wd (x % 2 ^ (64 * i) * y)) ∧ Below w'.heap.size w' wr) (fun v _ => p - (intOf v).toNat)
  case atStart => exact ⟨0, by omega, rfl, (RowW.new _ _ _).congr fun k _ => by rw [Nat.mul_zero, Nat.pow_zero, Nat.mod_one, Nat.zero_mul, wd_zero]; rfl, (Below.refl _ _).alloc (Nat.le_refl _) _⟩
  case round =>
    obtain ⟨i, hi, rfl, HW, HB⟩ := hrel
    by_cases hlt : i < p
    · have hid : decide ((i : Int) < (p : Int)) = true := by simp; omega
      obtain ⟨R, hR⟩ : ∃ R, i + R = p + q := ⟨p + q - i, by omega⟩
      have eR : p + q - i = R := by omega
      have iN : (i : Int) ≤ (p : Int) + (q : Int) := by omega
      have iN2 : (i : Int) < (p : Int) + (q : Int) := by omega
      have hqR : q < R := by omega
      have C2 := Lib.hid (C.out.below HB)
      obtain ⟨b, o, rfl, hbB, hcell⟩ := C2.out.get i hlt
      have H1 := Lib.hid HW
      have H2 := Lib.hid HB
      have HR := Lib.hid hR
      clear HW HB hR
      go_wp2_with ((with_reducible refine (times_any _ _ _ _ _ _ _ _ y (wd x i) _ HR.out (by omega) hqR H1.out (mul_fits Hy.out) (C'.out.below H2.out)).mono ?_); rintro e w3 ⟨rfl, R3, B3⟩)
      go_roundw
      case rel =>
        rw [mul_step] at R3
        exact ⟨i + 1, by omega, by go_num, R3, H2.out.trans B3⟩
      case measure => simp [intOf]; omega
    · obtain rfl : i = p := by omega
      rw [Nat.mod_eq_of_lt Hx.out] at HW
      have hf : x * y < 2 ^ (64 * (i + q)) := by
        have := mul_fits (x := x) (i := i) Hy.out
        rwa [Nat.mod_eq_of_lt Hx.out] at this
      have Hf := Lib.hid hf
      have H1 := Lib.hid HW
      have H2 := Lib.hid HB
      clear HW HB hf
      go_wp2_with ((with_reducible refine (trim_any _ _ _ (x * y) _ (by omega) (H1.out.sw (Nat.le_refl _) Hf.out H1.out.lt)).mono ?_); rintro e w' ⟨rfl, rfl⟩)
      go_ret
      exact ⟨_, rfl, _, i + q, rfl, Nat.le_refl _, H1.out, (dl_le 64 _ _ (by omega)).2 Hf.out, H2.out⟩
end Go.Proofs.Ytmnokjapapheiaa
