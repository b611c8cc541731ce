/-
  Lemmas for the walks, several texts in one. No statement is proved here.
-/
import Derived.Test.YtieoapcakdaelaaDoorBuN
import Derived.WalkLawsBesides
import Derived.Lib.MinMax
/-
  The contract of number.Bytes.
-/
namespace Go.Proofs.YtieoapcakdaelaaDoor
open Go.RowKit

theorem mixb_upd (i : Nat) (f g : Nat → BitVec 8) : upd8 (mix i f g) i (f i) = mix (i + 1) f g := by
  funext k
  unfold upd8 mix
  by_cases e : k = i
  · subst e; simp
  · by_cases h : k < i
    · rw [if_neg e, if_pos h, if_pos (by omega)]
    · rw [if_neg e, if_neg h, if_neg (by omega)]
theorem bytes_bad (a : Option Addr) (n c : Nat) (s : Int) (w : World) (hs : s < 0 ∨ 65536 < s) :
    Calls Tryd.prog 44 #[.slice a n c, .int .i64 s] w fun e w' => e = .returned (.tuple #[.slice none 0 0, .int .i64 10]) ∧ w' = w := by
  rcases hs with hs | hs
  · have h1 : decide (s < 0) = true := by simpa using hs
    go_enter Tryd.func44, Tryd.ntmps44
    go_wp2
    go_ret2
    exact ⟨rfl, rfl⟩
  · have h1 : decide (s < 0) = false := by simp; omega
    have h2 : decide (65536 < s) = true := by simpa using hs
    go_enter Tryd.func44, Tryd.ntmps44
    go_wp2
    go_ret2
    exact ⟨rfl, rfl⟩
set_option maxRecDepth 8000 in
set_option maxHeartbeats 1000000 in
theorem bytes_small (a : Option Addr) (n c x s : Nat) (w : World) (hn : n ≤ 1000000) (hs : s ≤ 65536) (h : Sw w w.heap.size a n c x) (hx : ¬ x < 2 ^ (8 * s)) :
    Calls Tryd.prog 44 #[.slice a n c, .int .i64 s] w fun e w' => e = .returned (.tuple #[.slice none 0 0, .int .i64 11]) ∧ w' = w := by
  have h1 : decide ((s : Int) < 0) = false := by simp
  have h2 : decide (65536 < (s : Int)) = false := by simp; omega
  have hb : ¬ bl x ≤ 8 * s := fun h => hx ((bl_le x _).1 h)
  have hbn : bl x ≤ 64 * n := (bl_le x _).2 h.fits
  have h3 : decide (8 * (s : Int) < ((bl x : Nat) : Int)) = true := by simp; omega
  have H := Lib.hid h
  generalize hl : bl x = l at *
  have Hl := Lib.hid hl
  clear h hl hx
  go_enter Tryd.func44, Tryd.ntmps44
  go_wp2_with ((with_reducible refine (len_any a n c x _ (by omega) H.out).mono ?_); rintro e w' ⟨rfl, rfl⟩; rw [Hl.out])
  go_ret2
  exact ⟨rfl, rfl⟩
set_option maxRecDepth 8000 in
set_option maxHeartbeats 1000000 in
theorem nbytes_any (a : Option Addr) (n c x s : Nat) (w : World) (hn : n ≤ 1000000) (hs : s ≤ 65536) (h : Sw w w.heap.size a n c x) (hx : x < 2 ^ (8 * s)) :
    Calls Tryd.prog 44 #[.slice a n c, .int .i64 s] w fun e w' => e = .returned (.tuple #[.slice (some ⟨w.heap.size, 0, none⟩) s s, .int .i64 0]) ∧ RowB w' w.heap.size s (bt x) ∧ Below w.heap.size w w' := by
  have h1 : decide ((s : Int) < 0) = false := by simp
  have h2 : decide (65536 < (s : Int)) = false := by simp; omega
  have hb : bl x ≤ 8 * s := (bl_le x _).2 hx
  have h3 : decide (8 * (s : Int) < ((bl x : Nat) : Int)) = false := by simp; omega
  have H := Lib.hid h
  generalize hl : bl x = l at *
  have Hl := Lib.hid hl
  have hs' : (s : Int) ≤ 65536 := by omega
  clear h hl hx
  go_enter Tryd.func44, Tryd.ntmps44
  go_wp2_with (first
    | ((with_reducible refine (len_any a n c x _ (by omega) H.out).mono ?_); rintro e w' ⟨rfl, rfl⟩; rw [Hl.out])
    | ((with_reducible apply lay_make); (case hgd => exact rfl); (case ho => exact rfl); (case hx => exact rfl); (case hy => exact rfl); (case hl => exact Nat.le_refl _); (case hc => omega); intro _ _; go_simp))
  go_loopw [23] (fun v wr => ∃ i : Nat, i ≤ s ∧ v = .int .i64 i ∧ RowB wr w'.heap.size s (mix i (bt x) fun _ => 0) ∧ Below w'.heap.size w' wr) (fun v _ => s - (intOf v).toNat)
  case atStart => exact ⟨0, by omega, rfl, by rw [mix_zero]; exact heap_alloc_last _ _, (Below.refl _ _).alloc (Nat.le_refl _) _⟩
  case round =>
    clear h1 h2 h3 hb
    obtain ⟨i, hi, rfl, HW, HB⟩ := hrel
    by_cases hlt : i < s
    · have hid : decide ((i : Int) < (s : Int)) = true := by simp; omega
      have iN : (i : Int) < (s : Int) := by omega
      have hc := HW.cell i hlt
      have hz := HW.thaw i
      obtain ⟨q, hq⟩ : ∃ q, i / 8 = q := ⟨_, rfl⟩
      obtain ⟨k, hk⟩ : ∃ k, i % 8 * 8 = k := ⟨_, rfl⟩
      have e1 : (i : Int) / 8 = (q : Int) := by omega
      have hq6 : q ≤ 1000000 := by omega
      have k64 : (k : Int) ≤ 64 := by omega
      have Hq := Lib.hid hq
      have Hk := Lib.hid hk
      have G := Lib.hid (H.out.below HB)
      have H1 := Lib.hid HW
      have H2 := Lib.hid HB
      clear HW HB hq hk
      go_wp2_with (first
        | ((with_reducible refine (word_any a n c x q _ (by omega) (by omega) G.out).mono ?_); rintro e w' ⟨rfl, rfl⟩)
        | ((with_reducible refine (nplace_any i _ (by omega) k Hk.out).mono ?_); rintro e w' ⟨rfl, rfl⟩))
      go_roundw
      case rel =>
        refine ⟨i + 1, by omega, by go_num, ?_, H2.out.setCell (Nat.le_refl _) _⟩
        have h := H1.out.setCell i (low8 (shr (wd x q) k))
        have e : low8 (shr (wd x q) k) = bt x i := by rw [← Hq.out, ← Hk.out]; exact bt_word x i
        rw [e, mixb_upd, ← e] at h
        exact h
      case measure => simp [intOf]; omega
    · obtain rfl : i = s := by omega
      have H1 := Lib.hid (HW.congr fun j hj => mix_all _ _ _ j hj)
      have H2 := Lib.hid HB
      clear HW HB
      go_wp2_with fail
      go_ret2
      exact ⟨rfl, H1.out, H2.out⟩
end Go.Proofs.YtieoapcakdaelaaDoor

/-
  The contracts of number.addTimes and Mul.
-/
namespace Go.Proofs.YtieoapcakdaelaaDoor
open Go.RowKit

@[go_sem] theorem u64_add (a b : BitVec 64) : IntKind.u64.wrap (L a + L b) = L (a + b) := by
  rw [IntKind.wrap_u64]
  unfold L
  rw [BitVec.toNat_add]
  show _ = (((a.toNat + b.toNat) % 18446744073709551616 : Nat) : Int)
  omega
/-- What goes over, as a word. -/
def ov (z y x k : Nat) : BitVec 64 := BitVec.ofNat 64 (ovr z y x k)
theorem ov_nat {z y x k : Nat} (hx : x < 18446744073709551616) : (ov z y x k).toNat = ovr z y x k := by
  unfold ov; rw [BitVec.toNat_ofNat]; exact Nat.mod_eq_of_lt (ovr_lt z y x k hx)
theorem ov_zero (z y x : Nat) : ov z y x 0 = 0 := by unfold ov; rw [ovr_zero]; rfl
/-- One step of a product: the word, and what goes over. -/
theorem times_step (z y k : Nat) (x : BitVec 64) :
    adc (adc (mlo x (wd y k)) (wd z k) 0) (ov z y x.toNat k) 0 = wd (z + y * x.toNat) k ∧
    mhi x (wd y k) + cy (adk (mlo x (wd y k)) (wd z k) 0) + cy (adk (adc (mlo x (wd y k)) (wd z k) 0) (ov z y x.toNat k) 0) = ov z y x.toNat (k + 1) := by
  have hx := x.isLt
  have hs := ovr_step z y x.toNat k
  have ho := ovr_lt z y x.toNat k hx
  have ho' := ovr_lt z y x.toNat (k + 1) hx
  have c0 : (cy 0).toNat = 0 := rfl
  have hz := (wd z k).isLt
  have hr := (wd (z + y * x.toNat) k).isLt
  have hl := mlo_nat x (wd y k)
  have hh := mhi_nat x (wd y k)
  have hlb := (mlo x (wd y k)).isLt
  have hhb := (mhi x (wd y k)).isLt
  have hd := Nat.div_add_mod (x.toNat * (wd y k).toNat) 18446744073709551616
  rw [← hl, ← hh] at hd
  rw [Nat.mul_comm (wd y k).toNat] at hs
  generalize x.toNat * (wd y k).toNat = P at *
  have h1 : (adc (mlo x (wd y k)) (wd z k) 0).toNat = ((mlo x (wd y k)).toNat + (wd z k).toNat) % 18446744073709551616 := by
    unfold adc; rw [BitVec.toNat_ofNat, c0, Nat.add_zero]
  have h2 : (cy (adk (mlo x (wd y k)) (wd z k) 0)).toNat = ((mlo x (wd y k)).toNat + (wd z k).toNat) / 18446744073709551616 := by
    rw [cy_of (adk_le _ _ _)]; unfold adk; rw [c0, Nat.add_zero]
  generalize mlo x (wd y k) = lo at *
  generalize mhi x (wd y k) = hi at *
  generalize adk lo (wd z k) 0 = c1 at *
  generalize adc lo (wd z k) 0 = s1 at *
  have h3 : (adc s1 (ov z y x.toNat k) 0).toNat = (s1.toNat + ovr z y x.toNat k) % 18446744073709551616 := by
    unfold adc; rw [BitVec.toNat_ofNat, c0, Nat.add_zero, ov_nat hx]
  have h4 : (cy (adk s1 (ov z y x.toNat k) 0)).toNat = (s1.toNat + ovr z y x.toNat k) / 18446744073709551616 := by
    rw [cy_of (adk_le _ _ _)]; unfold adk; rw [c0, Nat.add_zero, ov_nat hx]
  have hc1 := cy_le c1
  have hc2 := cy_le (adk s1 (ov z y x.toNat k) 0)
  constructor
  · apply BitVec.eq_of_toNat_eq
    rw [h3]
    omega
  · apply BitVec.eq_of_toNat_eq
    rw [BitVec.toNat_add, BitVec.toNat_add, ov_nat hx, h4, h2]
    omega
/-- A row whose words from i on become those of z and y times x. -/
def tim (i : Nat) (y : Nat) (x : BitVec 64) (Z : Nat) : Nat := Z + 2 ^ (64 * i) * (y * x.toNat)
theorem tim_wd (i y : Nat) (x : BitVec 64) (Z k : Nat) : wd (tim i y x Z) (i + k) = wd (Z / 2 ^ (64 * i) + y * x.toNat) k ∧ wd Z (i + k) = wd (Z / 2 ^ (64 * i)) k := by
  have e : Z = 2 ^ (64 * i) * (Z / 2 ^ (64 * i)) + Z % 2 ^ (64 * i) := (Nat.div_add_mod _ _).symm
  have hm := Nat.mod_lt Z (Nat.two_pow_pos (64 * i))
  constructor
  · have e2 : tim i y x Z = 2 ^ (64 * i) * (Z / 2 ^ (64 * i) + y * x.toNat) + Z % 2 ^ (64 * i) := by
      unfold tim
      rw [Nat.mul_add]
      omega
    rw [e2, wd_shift _ _ _ _ hm]
  · conv => lhs; rw [e]
    rw [wd_shift _ _ _ _ hm]
theorem tim_low (i y : Nat) (x : BitVec 64) (Z k : Nat) (hk : k < i) : wd (tim i y x Z) k = wd Z k := by
  have e : Z = 2 ^ (64 * i) * (Z / 2 ^ (64 * i)) + Z % 2 ^ (64 * i) := (Nat.div_add_mod _ _).symm
  have e2 : tim i y x Z = 2 ^ (64 * i) * (Z / 2 ^ (64 * i) + y * x.toNat) + Z % 2 ^ (64 * i) := by
    unfold tim
    rw [Nat.mul_add]
    omega
  rw [e2, wd_low _ _ _ _ hk]
  conv => rhs; rw [e]
  rw [wd_low _ _ _ _ hk]
/-- Behind the last word of b. -/
theorem tim_last {i y m Z : Nat} {x : BitVec 64} (hy : y < 2 ^ (64 * m)) (hZ : Z < 2 ^ (64 * (i + m))) : wd (tim i y x Z) (i + m) = ov (Z / 2 ^ (64 * i)) y x.toNat m ∧ tim i y x Z < 2 ^ (64 * (i + m + 1)) := by
  have hz : Z / 2 ^ (64 * i) < 2 ^ (64 * m) := by
    rw [Nat.div_lt_iff_lt_mul (Nat.two_pow_pos _), ← Nat.pow_add]
    rwa [show 64 * m + 64 * i = 64 * (i + m) by omega]
  obtain ⟨h1, h2⟩ := ovr_last hz hy x.isLt
  constructor
  · rw [(tim_wd i y x Z m).1]
    apply BitVec.eq_of_toNat_eq
    rw [h1, ov_nat x.isLt]
  · have e2 : tim i y x Z = 2 ^ (64 * i) * (Z / 2 ^ (64 * i) + y * x.toNat) + Z % 2 ^ (64 * i) := by
      unfold tim
      have := Nat.div_add_mod Z (2 ^ (64 * i))
      rw [Nat.mul_add]
      omega
    have hm := Nat.mod_lt Z (Nat.two_pow_pos (64 * i))
    have h3 := Nat.mul_le_mul_left (2 ^ (64 * i)) (Nat.succ_le_of_lt h2)
    rw [← Nat.pow_add, show 64 * i + 64 * (m + 1) = 64 * (i + m + 1) by omega, Nat.mul_succ] at h3
    rw [e2]
    omega
end Go.Proofs.YtieoapcakdaelaaDoor

/-
  The contracts of number.addTimes and Mul.
-/
namespace Go.Proofs.YtieoapcakdaelaaDoor
open Go.RowKit

theorem mix_upd_at (p : Nat) (f g : Nat → BitVec 64) (v : BitVec 64) (h : v = f p) : upd (mix p f g) p v = mix (p + 1) f g := by rw [h, mix_upd]
set_option maxRecDepth 8000 in
set_option maxHeartbeats 1000000 in
theorem ntimes_any (g N i R Z : Nat) (a : Option Addr) (m c y : Nat) (x : BitVec 64) (w : World) (hR : i + R = N) (hN : N ≤ 1000000) (hm : m < R) (hr : RowW w g N (wd Z)) (hZ : Z < 2 ^ (64 * (i + m))) (h : Sw w g a m c y) :
    Calls Tryd.prog 84 #[.slice (some ⟨g, i, none⟩) R R, .slice a m c, V x] w fun e w' => e = .returned (.tuple #[]) ∧ RowW w' g N (wd (tim i y x Z)) ∧ Below g w w' := by
  obtain ⟨hl1, hl2⟩ := tim_last (x := x) h.fits hZ
  have Hl := Lib.hid hl1
  have Hf := Lib.hid hl2
  have HZ := Lib.hid hZ
  have H := Lib.hid h
  have HR := Lib.hid hr
  have hN' : (R : Int) ≤ 1000000 := by omega
  have hm' : (m : Int) < (R : Int) := by omega
  have HE := Lib.hid hR
  have H0 := Lib.hid (ov_zero (Z / 2 ^ (64 * i)) y x.toNat)
  have HT := Lib.hid (fun k => times_step (Z / 2 ^ (64 * i)) y k x)
  clear hl1 hl2 h hr hR hZ
  go_enter Tryd.func84, Tryd.ntmps84
  go_wp2_with fail
  go_loopw [6, 15] (fun v6 v15 wr => ∃ k : Nat, k ≤ m ∧ v15 = .int .i64 k ∧ v6 = V (ov (Z / 2 ^ (64 * i)) y x.toNat k) ∧ RowW wr g N (mix (i + k) (wd (tim i y x Z)) (wd Z)) ∧ Below g w wr) (fun _ v15 _ => m - (intOf v15).toNat)
  case atStart => exact ⟨0, by omega, rfl, by rw [H0.out]; rfl, HR.out.congr fun k _ => by
    unfold mix
    by_cases hk : k < i + 0
    · rw [if_pos hk, tim_low _ _ _ _ _ (by omega)]
    · rw [if_neg hk], Below.refl _ _⟩
  case round =>
    clear HR H0
    obtain ⟨k, hk, rfl, rfl, HW, HB⟩ := hrel
    by_cases hlt : k < m
    · have hid : decide ((k : Int) < (m : Int)) = true := by simp; omega
      have kR : (k : Int) < (R : Int) := by omega
      obtain ⟨b, o, rfl, hbB, hcell⟩ := (H.out.below HB).get k hlt
      have hc : wr.cell? ⟨g, i + k, none⟩ = some (V (wd (Z / 2 ^ (64 * i)) k)) := by rw [HW.cell (i + k) (by have := HE.out; omega), mix_at, (tim_wd i y x Z k).2]
      have hz := HW.thaw (i + k)
      have H1 := Lib.hid HW
      have H2 := Lib.hid HB
      obtain ⟨s1, s2⟩ := HT.out k
      have S1 := Lib.hid s1
      have S2 := Lib.hid s2
      clear HW HB s1 s2
      go_wp2_with (first | ((with_reducible refine (mul64_any x (wd y k) _).mono ?_); rintro e w' ⟨rfl, rfl⟩))
      go_roundw
      case rel =>
        refine ⟨k + 1, by omega, by go_num, by rw [S2.out], ?_, H2.out.setCell (Nat.le_refl _) _⟩
        have h := H1.out.setCell (i + k) (wd (tim i y x Z) (i + k))
        rw [mix_upd] at h
        rw [S1.out, ← (tim_wd i y x Z k).1]
        exact h
      case measure => simp [intOf]; omega
    · obtain rfl : k = m := by omega
      have hc : wr.cell? ⟨g, i + k, none⟩ = some (V (wd Z (i + k))) := by rw [HW.cell (i + k) (by have := HE.out; omega), mix_at]
      have hz := HW.thaw (i + k)
      have H1 := Lib.hid HW
      have H2 := Lib.hid HB
      clear HW HB
      go_wp2_with fail
      go_end0
      refine ⟨rfl, ?_, H2.out.setCell (Nat.le_refl _) _⟩
      have h := H1.out.setCell (i + k) (wd (tim i y x Z) (i + k))
      rw [mix_upd, Hl.out] at h
      refine h.congr fun j hj => ?_
      unfold mix
      by_cases e : j < i + k + 1
      · rw [if_pos e]
      · rw [if_neg e, wd_over Hf.out (by omega), wd_over HZ.out (by omega)]
theorem mul_step (x y i : Nat) : tim i y (wd x i) (x % 2 ^ (64 * i) * y) = x % 2 ^ (64 * (i + 1)) * y := by
  unfold tim
  rw [wd_nat, pow64, Nat.mod_mul, Nat.add_mul]
  generalize x / 2 ^ (64 * i) % 18446744073709551616 = d
  rw [Nat.mul_assoc, Nat.mul_comm d y]
theorem mul_fits {x y i m : Nat} (hy : y < 2 ^ (64 * m)) : x % 2 ^ (64 * i) * y < 2 ^ (64 * (i + m)) := by
  have h1 := Nat.mod_lt x (Nat.two_pow_pos (64 * i))
  rw [Nat.mul_add, Nat.pow_add]
  generalize 2 ^ (64 * i) = P at *
  generalize 2 ^ (64 * m) = R at *
  have h2 : x % P * y ≤ x % P * R := Nat.mul_le_mul_left _ (by omega)
  have h3 : (x % P + 1) * R ≤ P * R := Nat.mul_le_mul_right _ h1
  rw [Nat.add_mul, Nat.one_mul] at h3
  omega
set_option maxRecDepth 8000 in
set_option maxHeartbeats 1000000 in
theorem nmul_any (a : Option Addr) (n c x : Nat) (a' : Option Addr) (m c' y : Nat) (w : World) (hn : n ≤ 400000) (hm : m ≤ 400000) (h : Sw w w.heap.size a n c x) (h' : Sw w w.heap.size a' m c' y) :
    Calls Tryd.prog 46 #[.slice a n c, .slice a' m c'] w fun e w' => ∃ v, e = .returned v ∧ Got w w' v (x * y) := by
  have hn1 := (dl_le 64 x n (by omega)).2 h.fits
  have hm1 := (dl_le 64 y m (by omega)).2 h'.fits
  have Hx := Lib.hid (fits_dl 64 x (by omega))
  have Hy := Lib.hid (fits_dl 64 y (by omega))
  have T := Lib.hid (fun w' (hw : Sw w' w.heap.size a n c x) => trim_any a n c x w' (by omega) hw)
  have T' := Lib.hid (fun w' (hw : Sw w' w.heap.size a' m c' y) => trim_any a' m c' y w' (by omega) hw)
  have H := Lib.hid h
  have H' := Lib.hid h'
  have C := Lib.hid h.cut
  have C' := Lib.hid h'.cut
  generalize dl 64 x = p at *
  generalize dl 64 y = q at *
  have hp : p ≤ 400000 := by omega
  have hq : q ≤ 400000 := by omega
  clear h h' hn1 hm1
  go_enter Tryd.func46, Tryd.ntmps46
  go_wp2_with (first
    | ((with_reducible refine (T.out _ H.out).mono ?_); rintro e w' ⟨rfl, rfl⟩)
    | ((with_reducible refine (T'.out _ H'.out).mono ?_); rintro e w' ⟨rfl, rfl⟩)
    | ((with_reducible apply lay_makeW); (case hgd => exact rfl); (case ho => exact rfl); (case hx => exact congrArg (Value.int .i64) (Int.natCast_add p q).symm); (case hy => exact congrArg (Value.int .i64) (Int.natCast_add p q).symm); (case hc => omega); intro _ _; go_simp))
  go_loopw [20] (fun v wr => ∃ i : Nat, i ≤ p ∧ v = .int .i64 i ∧ RowW wr w'.heap.size (p + q) (wd (x % 2 ^ (64 * i) * y)) ∧ Below w'.heap.size w' wr) (fun v _ => p - (intOf v).toNat)
  case atStart => exact ⟨0, by omega, rfl, (RowW.new _ _ _).congr fun k _ => by rw [Nat.mul_zero, Nat.pow_zero, Nat.mod_one, Nat.zero_mul, wd_zero]; rfl, (Below.refl _ _).alloc (Nat.le_refl _) _⟩
  case round =>
    obtain ⟨i, hi, rfl, HW, HB⟩ := hrel
    by_cases hlt : i < p
    · have hid : decide ((i : Int) < (p : Int)) = true := by simp; omega
      obtain ⟨R, hR⟩ : ∃ R, i + R = p + q := ⟨p + q - i, by omega⟩
      have eR : p + q - i = R := by omega
      have iN : (i : Int) ≤ (p : Int) + (q : Int) := by omega
      have iN2 : (i : Int) < (p : Int) + (q : Int) := by omega
      have hqR : q < R := by omega
      have C2 := Lib.hid (C.out.below HB)
      obtain ⟨b, o, rfl, hbB, hcell⟩ := C2.out.get i hlt
      have H1 := Lib.hid HW
      have H2 := Lib.hid HB
      have HR := Lib.hid hR
      clear HW HB hR
      go_wp2_with ((with_reducible refine (ntimes_any _ _ _ _ _ _ _ _ y (wd x i) _ HR.out (by omega) hqR H1.out (mul_fits Hy.out) (C'.out.below H2.out)).mono ?_); rintro e w3 ⟨rfl, R3, B3⟩)
      go_roundw
      case rel =>
        rw [mul_step] at R3
        exact ⟨i + 1, by omega, by go_num, R3, H2.out.trans B3⟩
      case measure => simp [intOf]; omega
    · obtain rfl : i = p := by omega
      rw [Nat.mod_eq_of_lt Hx.out] at HW
      have hf : x * y < 2 ^ (64 * (i + q)) := by
        have := mul_fits (x := x) (i := i) Hy.out
        rwa [Nat.mod_eq_of_lt Hx.out] at this
      have Hf := Lib.hid hf
      have H1 := Lib.hid HW
      have H2 := Lib.hid HB
      clear HW HB hf
      go_wp2_with ((with_reducible refine (trim_any _ _ _ (x * y) _ (by omega) (H1.out.sw (Nat.le_refl _) Hf.out H1.out.lt)).mono ?_); rintro e w' ⟨rfl, rfl⟩)
      go_ret
      exact ⟨_, rfl, _, i + q, rfl, Nat.le_refl _, H1.out, (dl_le 64 _ _ (by omega)).2 Hf.out, H2.out⟩
end Go.Proofs.YtieoapcakdaelaaDoor

/-
  The contract of number.Of.
-/
namespace Go.Proofs.YtieoapcakdaelaaDoor
open Go.RowKit

theorem mod_fits (x i n : Nat) (hx : x < 2 ^ (8 * n)) (hi : n ≤ i) : x % 2 ^ (8 * i) = x :=
  Nat.mod_eq_of_lt (Nat.lt_of_lt_of_le hx (Nat.pow_le_pow_right (by omega) (by omega)))
set_option maxRecDepth 8000 in
set_option maxHeartbeats 1000000 in
theorem nof_any (a : Option Addr) (n c x : Nat) (w : World) (hn : n ≤ 100000) (h : Sb w w.heap.size a n c x) :
    Calls Tryd.prog 48 #[.slice a n c] w fun e w' => ∃ v, e = .returned v ∧ Got w w' v x := by
  obtain ⟨N, hN⟩ : ∃ N, N = (n + 7) / 8 := ⟨_, rfl⟩
  have hfit : x < 2 ^ (64 * N) := Nat.lt_of_lt_of_le h.fits (Nat.pow_le_pow_right (by omega) (by omega))
  have Hf := Lib.hid hfit
  have Hx := Lib.hid (mod_fits x n n h.fits (Nat.le_refl _))
  have HS := Lib.hid h.sl
  have hd : (n : Int) ≤ 100000 := by omega
  have e7 : ((n : Int) + 7) / 8 = (N : Int) := by omega
  have e8 : ((n : Int) + 8 - 1) / 8 = (N : Int) := by omega
  have HN := Lib.hid hN
  have hN6 : N ≤ 100000 := by omega
  clear h hfit hN
  go_enter Tryd.func48, Tryd.ntmps48
  go_wp2_with (first
    | ((with_reducible apply lay_makeW); (case hgd => exact rfl); (case ho => exact rfl); (case hx => exact congrArg (Value.int .i64) e8); (case hy => exact congrArg (Value.int .i64) e8); (case hc => omega); intro _ _; go_simp))
  clear e7 e8
  go_loopw [14] (fun v wr => ∃ i : Nat, i ≤ n ∧ v = .int .i64 i ∧ RowW wr w.heap.size N (wd (x % 2 ^ (8 * i))) ∧ Below w.heap.size w wr) (fun v _ => n - (intOf v).toNat)
  case atStart => exact ⟨0, by omega, rfl, (RowW.new _ _ _).congr fun k _ => by rw [Nat.mul_zero, Nat.pow_zero, Nat.mod_one, wd_zero]; rfl, (Below.refl _ _).alloc (Nat.le_refl _) _⟩
  case round =>
    obtain ⟨i, hi, rfl, HW, HB⟩ := hrel
    by_cases hlt : i < n
    · have hid : decide ((i : Int) < (n : Int)) = true := by simp; omega
      have HS2 := HS.out.below HB
      obtain ⟨b, o, rfl, hbB, hcell⟩ := HS2.get i hlt
      clear HS2
      have H1 := Lib.hid HW
      have H2 := Lib.hid HB
      clear HW HB
      go_wp2_with fail
      refine wp_region_still_tail 12 (by kernel_rfl) (by kernel_rfl) ?_
      change wpStill _ _ wr.drew (fun a' => wpList _ _ _ _ a' wr.drew) _ _
      have D1 := Lib.hid H1.out.drew
      have D2 := Lib.hid (Below.drew H2.out)
      clear H1 H2 hcell
      generalize wr.drew = w2 at *
      obtain ⟨q, hq⟩ : ∃ q, i / 8 = q := ⟨_, rfl⟩
      obtain ⟨k, hk⟩ : ∃ k, i % 8 * 8 = k := ⟨_, rfl⟩
      have qN : q < N := by have := HN.out; omega
      have qN' : (q : Int) < (N : Int) := by omega
      have k64 : (k : Int) ≤ 64 := by omega
      have hc := D1.out.cell q qN
      have hz := D1.out.thaw q
      have e1 : IntKind.i64.wrap ((i : Int) / 8) = (q : Int) := (IntWalk.i64_in _ (by omega)).trans (by omega)
      have Hq := Lib.hid hq
      have Hk := Lib.hid hk
      clear hq hk
      simp only [List.take_succ_cons, List.take_zero, List.drop_succ_cons, List.drop_zero]
      iterate 8 still_step
      still_call (nplace_any i _ (by omega) k Hk.out)
      iterate 3 still_step
      refine wpStill_nil ?_
      clear e1
      go_wp2_with fail
      go_roundw
      case rel =>
        refine ⟨i + 1, by omega, by go_num, ?_, D2.out.setCell (Nat.le_refl _) _⟩
        have h := D1.out.setCell q (wd (x % 2 ^ (8 * i)) q ||| shl (zx (bt x i)) k)
        rw [← Hq.out, ← Hk.out, wd_of, Hq.out, Hk.out] at h
        exact h
      case measure => simp [intOf]; omega
    · obtain rfl : i = n := by omega
      rw [Hx.out] at HW
      have H1 := Lib.hid HW
      have H2 := Lib.hid HB
      clear HW HB
      go_wp2_with ((with_reducible refine (trim_any _ _ _ x _ (by omega) (H1.out.sw (Nat.le_refl _) Hf.out H1.out.lt)).mono ?_); rintro e w' ⟨rfl, rfl⟩)
      go_ret
      exact ⟨_, rfl, w.heap.size, N, rfl, Nat.le_refl _, H1.out, (dl_le 64 _ _ (by omega)).2 Hf.out, H2.out⟩
end Go.Proofs.YtieoapcakdaelaaDoor

/-
  The contract of number.Add.
-/
namespace Go.Proofs.YtieoapcakdaelaaDoor
open Go.RowKit

theorem adc_word (x y i : Nat) : adc (wd x i) (wd y i) (car x y i) = wd (x + y) i := by
  apply BitVec.eq_of_toNat_eq
  rw [wd_add]
  unfold adc
  rw [BitVec.toNat_ofNat, cy_of (car_le x y i)]
theorem adk_word (x y i : Nat) : adk (wd x i) (wd y i) (car x y i) = car x y (i + 1) := by
  rw [car_succ]
  unfold adk
  rw [cy_of (car_le x y i)]
set_option maxRecDepth 8000 in
set_option maxHeartbeats 1000000 in
theorem nadd_any (a : Option Addr) (n c x : Nat) (a' : Option Addr) (m c' y : Nat) (w : World) (hn : n ≤ 900000) (hm : m ≤ 900000) (h : Sw w w.heap.size a n c x) (h' : Sw w w.heap.size a' m c' y) :
    Calls Tryd.prog 45 #[.slice a n c, .slice a' m c'] w fun e w' => ∃ v, e = .returned v ∧ Got w w' v (x + y) := by
  obtain ⟨k, hk⟩ : ∃ k, k = max n m := ⟨_, rfl⟩
  have hx : x < 2 ^ (64 * k) := Nat.lt_of_lt_of_le h.fits (Nat.pow_le_pow_right (by omega) (by omega))
  have hy : y < 2 ^ (64 * k) := Nat.lt_of_lt_of_le h'.fits (Nat.pow_le_pow_right (by omega) (by omega))
  have hk6 : k ≤ 900000 := by omega
  have hmx : max (n : Int) (m : Int) = (k : Int) := by omega
  have H := Lib.hid h
  have H' := Lib.hid h'
  clear h h' hk
  have hmk : ∀ w, (Instr.makeSlice 66 (.int .i64 ((k : Int) + 1)) (.int .i64 ((k : Int) + 1))).run Tryd.prog w = .ok (.slice (some ⟨w.heap.size, 0, none⟩) (k + 1) (k + 1)) (w.alloc (.cells (A (k + 1) fun _ => 0) 25)) := fun w => run_make_u64 w (k + 1) (by omega)
  go_enter Tryd.func45, Tryd.ntmps45
  go_wp2_with fail
  clear hmx hmk
  go_loopw [7, 18] (fun v7 v18 wr => ∃ i : Nat, i ≤ k ∧ v18 = .int .i64 i ∧ v7 = V (cy (car x y i)) ∧ RowW wr w.heap.size (k + 1) (mix i (wd (x + y)) fun _ => 0) ∧ Below w.heap.size w wr) (fun _ v18 _ => k - (intOf v18).toNat)
  case atStart => exact ⟨0, by omega, rfl, by rw [car_zero]; rfl, by rw [mix_zero]; exact RowW.new _ _ _, (Below.refl _ _).alloc (Nat.le_refl _) _⟩
  case round =>
    obtain ⟨i, hi, rfl, rfl, HW, HB⟩ := hrel
    by_cases hlt : i < k
    · have hid : decide ((i : Int) < (k : Int)) = true := by simp; omega
      have iN : (i : Int) < (k : Int) + 1 := by omega
      have hc : wr.cell? ⟨w.heap.size, i, none⟩ = some (V 0) := by rw [HW.cell i (by omega), mix_at]
      have hz := HW.thaw i
      have G := Lib.hid (H.out.below HB)
      have G' := Lib.hid (H'.out.below HB)
      have H1 := Lib.hid HW
      have H2 := Lib.hid HB
      clear HW HB
      go_wp2_with (first | ((with_reducible refine (word_any a n c x i _ (by omega) (by omega) G.out).mono ?_); rintro e w' ⟨rfl, rfl⟩) | ((with_reducible refine (word_any a' m c' y i _ (by omega) (by omega) G'.out).mono ?_); rintro e w' ⟨rfl, rfl⟩))
      go_roundw
      case rel => exact ⟨i + 1, by omega, by go_num, by rw [adk_word], by rw [← mix_upd, ← adc_word]; exact H1.out.setCell i _, H2.out.setCell (Nat.le_refl _) _⟩
      case measure => simp [intOf]; omega
    · obtain rfl : i = k := by omega
      have hc : wr.cell? ⟨w.heap.size, i, none⟩ = some (V 0) := by rw [HW.cell i (by omega), mix_at]
      have hz := HW.thaw i
      have hlast : cy (car x y i) = wd (x + y) i := by
        apply BitVec.eq_of_toNat_eq
        rw [wd_last hx hy, cy_of (car_le x y i)]
      have R1 : RowW (wr.setCell ⟨w.heap.size, i, none⟩ (V (cy (car x y i)))) w.heap.size (i + 1) (wd (x + y)) := by
        have := HW.setCell i (cy (car x y i))
        rw [hlast, mix_upd] at this
        rw [hlast]
        exact this.congr fun j hj => mix_all _ _ _ j hj
      have R2 : Below w.heap.size w (wr.setCell ⟨w.heap.size, i, none⟩ (V (cy (car x y i)))) := HB.setCell (Nat.le_refl _) _
      have hf := add_fits hx hy
      have H1 := Lib.hid R1
      have H2 := Lib.hid R2
      have Hf := Lib.hid hf
      have iN : (i : Int) < (i : Int) + 1 := by omega
      clear HW HB R1 R2 hlast hf hx hy
      go_wp2_with ((with_reducible refine (trim_any _ _ _ (x + y) _ (by omega) (H1.out.sw (Nat.le_refl _) Hf.out H1.out.lt)).mono ?_); rintro e w' ⟨rfl, rfl⟩)
      go_ret
      exact ⟨_, rfl, w.heap.size, i + 1, rfl, Nat.le_refl _, H1.out, (dl_le 64 _ _ (by omega)).2 Hf.out, H2.out⟩
end Go.Proofs.YtieoapcakdaelaaDoor
