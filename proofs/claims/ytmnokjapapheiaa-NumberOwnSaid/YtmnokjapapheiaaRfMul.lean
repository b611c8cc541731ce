/-
  The contract of the reference's Mul.
-/
import Derived.Test.YtmnokjapapheiaaRfBytes
import Derived.Test.YtmnokjapapheiaaNuBytes
namespace Go.Proofs.Ytmnokjapapheiaa
open Go.RowKit

theorem mul8_all {i k m y d Z : Nat} (hZ : Z < 2 ^ (8 * (i + m))) (hk : m ≤ k) (h : Z / 2 ^ (8 * i) + y * d < 2 ^ (8 * k)) (j : Nat) : mix (i + k) (bt (tim8 i y d Z)) (bt Z) j = bt (tim8 i y d Z) j := by
  unfold mix
  by_cases e : j < i + k
  · rw [if_pos e]
  · rw [if_neg e, bt_over hZ (by omega), bt_over (tim8_fits h) (by omega)]
theorem byte_prod {d q : Nat} (hd : d < 256) (hq : q < 256) : d * q ≤ 65025 := Nat.mul_le_mul (by omega : d ≤ 255) (by omega : q ≤ 255)
set_option maxHeartbeats 2000000 in
theorem refMul_any (a : Option Addr) (n c x : Nat) (a' : Option Addr) (m c' y : Nat) (w : World) (hn : n ≤ 10000) (hm : m ≤ 10000) (h : Sb w w.heap.size a n c x) (h' : Sb w w.heap.size a' m c' y) :
    Calls Try.prog 28 #[.slice a n c, .slice a' m c'] w fun e w' => ∃ v, e = .returned v ∧ GotB w w' v (x * y) := by
  have H := Lib.hid h
  have H' := Lib.hid h'
  have eN : Hid ((n : Int) + (m : Int) + 1 = ((n + m + 1 : Nat) : Int)) := Lib.hid (by omega)
  have Hx := Lib.hid h.fits
  have Hy := Lib.hid h'.fits
  clear h h'
  go_enter Try.func28, Try.ntmps28
  go_wp2_with (first
    | ((with_reducible apply lay_make); (case hgd => exact rfl); (case ho => exact rfl); (case hx => exact congrArg (Value.int .i64) eN.out); (case hy => exact congrArg (Value.int .i64) eN.out); (case hl => exact Nat.le_refl _); (case hc => omega); intro _ _; go_simp))
  go_loopw [6] (fun v6 wr => ∃ i : Nat, i ≤ n ∧ v6 = .int .i64 i ∧ RowB wr w.heap.size (n + m + 1) (bt (x % 2 ^ (8 * i) * y)) ∧ Below w.heap.size w wr) (fun v6 _ => n - (intOf v6).toNat)
  case atStart => exact ⟨0, by omega, rfl, RowB.congr (heap_alloc_last _ _ : RowB _ _ _ fun _ => 0) fun k _ => by rw [Nat.mul_zero, Nat.pow_zero, Nat.mod_one, Nat.zero_mul, bt_zero], (Below.refl _ _).alloc (Nat.le_refl _) _⟩
  case round =>
    obtain ⟨i, hi, rfl, HW, HB⟩ := hrel
    by_cases hlt : i < n
    · have hid : decide ((i : Int) < (n : Int)) = true := by simp; omega
      have iN : (i : Int) < (n : Int) := by omega
      obtain ⟨Z, hZ⟩ : ∃ Z, x % 2 ^ (8 * i) * y = Z := ⟨_, rfl⟩
      have HZ : Hid (Z < 2 ^ (8 * (i + m))) := Lib.hid (by rw [← hZ]; exact mul8_fits Hy.out)
      have HM : Hid (tim8 i y (dg x i) Z = x % 2 ^ (8 * (i + 1)) * y) := Lib.hid (by rw [← hZ]; exact mul8_row x y i)
      have hd6 := dg_lt x i
      have HDG := Lib.hid (U8_bt x i)
      rw [hZ] at HW
      have H1 := Lib.hid HW
      have H2 := Lib.hid HB
      clear HW HB hZ
      generalize dg x i = d at *
      have Hz : Hid (Z / 2 ^ (8 * i) < 2 ^ (8 * m)) := Lib.hid (quo8_fits HZ.out)
      go_wp2_with fail
      go_loopw [7, 8] (fun v7 v8 wr' => ∃ k : Nat, k ≤ m + 1 ∧ v8 = .int .i64 k ∧ v7 = .int .i64 ((ovr8 (Z / 2 ^ (8 * i)) y d k : Nat) : Int) ∧ RowB wr' w.heap.size (n + m + 1) (mix (i + k) (bt (tim8 i y d Z)) (bt Z)) ∧ Below w.heap.size w wr') (fun _ v8 _ => m + 1 - (intOf v8).toNat)
      case atStart => exact ⟨0, by omega, rfl, by rw [ovr8_zero]; rfl, H1.out.congr fun k _ => by
        unfold mix
        by_cases hk : k < i + 0
        · rw [if_pos hk, tim8_low _ _ _ _ _ (by omega)]
        · rw [if_neg hk], H2.out⟩
      case round =>
        clear H1 H2
        obtain ⟨k, hk, rfl, rfl, HW, HB⟩ := hrel
        have S := Lib.hid (mul8_step (Z / 2 ^ (8 * i)) y d k)
        have ho := ovr8_lt (Z / 2 ^ (8 * i)) y d k hd6
        have D : Hid (m ≤ k → (ovr8 (Z / 2 ^ (8 * i)) y d k = 0 ↔ Z / 2 ^ (8 * i) + y * d < 2 ^ (8 * k))) := Lib.hid fun h => mul8_done Hz.out Hy.out h
        have L : Hid (k = m + 1 → ovr8 (Z / 2 ^ (8 * i)) y d k = 0) := Lib.hid fun h => by rw [h]; exact mul8_last Hz.out Hy.out hd6
        have go : (k < m ∨ 0 < ovr8 (Z / 2 ^ (8 * i)) y d k) ∨ (m ≤ k ∧ ovr8 (Z / 2 ^ (8 * i)) y d k = 0) := by omega
        have hyl := dg_lt y k
        have hzl := dg_lt (Z / 2 ^ (8 * i)) k
        have HA' : Hid (∀ w', Sb w' w.heap.size a' m c' y → Calls Try.prog 40 #[.slice a' m c', .int .i64 k] w' fun e w'' => e = .returned (.int .i64 ((dg y k : Nat) : Int)) ∧ w'' = w') := Lib.hid fun w' hw => at_any a' m c' y k w' (by omega) (by omega) hw
        have G := Lib.hid (H.out.below HB)
        have G' := Lib.hid (H'.out.below HB)
        have H1 := Lib.hid HW
        have H2 := Lib.hid HB
        have T := Lib.hid (tim8_bt i y d Z k)
        have Ez := Lib.hid (U8_bt (Z / 2 ^ (8 * i)) k)
        have Et := Lib.hid (U8_bt (Z / 2 ^ (8 * i) + y * d) k)
        clear HW HB
        generalize ho' : ovr8 (Z / 2 ^ (8 * i)) y d k = o at *
        generalize dg y k = q at *
        generalize dg (Z / 2 ^ (8 * i)) k = zd at *
        have HO := Lib.hid ho'
        clear ho'
        rcases go with go | ⟨hk1, ho0⟩
        · have hkm : k ≤ m := by
            rcases go with h | h
            · omega
            · rcases Nat.lt_or_ge m k with h2 | h2
              · have := L.out (by omega); omega
              · exact h2
          have hpr := byte_prod hd6 hyl
          obtain ⟨t, ht⟩ : ∃ t, d * q = t := ⟨_, rfl⟩
          rw [ht] at hpr S
          obtain ⟨s, hs⟩ : ∃ s, s = o + zd + t := ⟨_, rfl⟩
          obtain ⟨s1, hs1⟩ : ∃ s1, s1 = o + zd := ⟨_, rfl⟩
          obtain ⟨r, hr⟩ : ∃ r, s % 256 = r := ⟨_, rfl⟩
          obtain ⟨u, hu⟩ : ∃ u, s / 256 = u := ⟨_, rfl⟩
          obtain ⟨j, hj⟩ : ∃ j, i + k = j := ⟨_, rfl⟩
          have hb : Hid (U8 (bt (tim8 i y d Z) j) = (r : Int)) := Lib.hid (by rw [← hj, T.out.1, Et.out, S.out.1, ← hr, hs])
          have hu2 : Hid (ovr8 (Z / 2 ^ (8 * i)) y d (k + 1) = u) := Lib.hid (by rw [S.out.2, ← hu, hs])
          have f1 : IntKind.i64.wrap ((i : Int) + (k : Int)) = (j : Int) := (IntWalk.i64_in _ (by omega)).trans (by omega)
          have f2 : IntKind.i64.wrap (zd : Int) = (zd : Int) := IntWalk.i64_in _ (by omega)
          have f3 : IntKind.i64.wrap ((o : Int) + (zd : Int)) = (s1 : Int) := (IntWalk.i64_in _ (by omega)).trans (by omega)
          have f4 : IntKind.i64.wrap (d : Int) = (d : Int) := IntWalk.i64_in _ (by omega)
          have f5 : IntKind.i64.wrap ((d : Int) * (q : Int)) = (t : Int) := by
            have e : (d : Int) * (q : Int) = (t : Int) := by rw [← Int.natCast_mul, ht]
            rw [e]
            exact IntWalk.i64_in _ (by omega)
          have f6 : IntKind.i64.wrap ((s1 : Int) + (t : Int)) = (s : Int) := (IntWalk.i64_in _ (by omega)).trans (by omega)
          have e1 : (s : Int).tmod 256 = (r : Int) := by rw [Int.tmod_eq_emod_of_nonneg (by omega)]; omega
          have e2 : (s : Int) % 256 = (r : Int) := by omega
          have e3 : (s : Int) / 256 = (u : Int) := by omega
          have e4 : (i : Int) + (k : Int) = (j : Int) := by omega
          have r6 : (r : Int) < 256 := by omega
          have hb2 : IntKind.u8.wrap (r : Int) = (r : Int) := by rw [IntKind.wrap_u8]; omega
          have jN : (j : Int) < (n : Int) + (m : Int) + 1 := by omega
          have hjN : j < n + m + 1 := by omega
          have s6 : (s : Int) ≤ 100000 := by omega
          have HJ := Lib.hid hj
          clear hr hu hs hs1 ht hj
          have E1 := Lib.hid e1
          have E2 := Lib.hid e2
          have E3 := Lib.hid e3
          have E4 := Lib.hid e4
          clear e1 e2 e3 e4
          rcases Nat.lt_or_ge k m with hik2 | hik2
          · have d1 : decide ((k : Int) < (m : Int)) = true := by simp; omega
            clear go
            go_wp2_with fail
            refine wp_region_still_lit (by kernel_rfl) (by kernel_rfl) ?_
            change wpStill _ _ wr.drew (fun a' => Exit.then _ _ Exit.normal a' wr.drew) _ _
            have D1 := Lib.hid H1.out.drew
            have D2 := Lib.hid (Below.drew H2.out)
            have F := Lib.hid ((H.out.below D2.out).sl.get i hlt)
            have F' := Lib.hid (H'.out.below D2.out)
            clear H1 H2 G G'
            generalize wr.drew = w2 at *
            obtain ⟨b, off, rfl, _, hcell⟩ := F.out
            replace hcell := hcell.trans (congrArg (fun v => some (Value.int .u8 v)) HDG.out)
            have hcz : w2.cell? ⟨w.heap.size, j, none⟩ = some (.int .u8 (zd : Int)) := by
              rw [D1.out.cell j hjN, ← HJ.out, mix_at]
              exact congrArg (fun v => some (Value.int .u8 v)) (by rw [T.out.2, Ez.out])
            clear F
            iterate 16 still_step
            still_call (HA'.out _ F'.out)
            iterate 3 still_step
            refine wpStill_nil ?_
            clear f1 f2 f3 f4 f5 f6 hcell hcz
            have e1 := E1.out
            have e2 := E2.out
            have e3 := E3.out
            have e4 := E4.out
            have hzz := D1.out.thaw j
            have hcc := D1.out.cell j hjN
            go_wp2_with fail
            go_roundw
            case rel =>
              refine ⟨k + 1, by omega, by go_num, by rw [hu2.out], ?_, D2.out.setCell (Nat.le_refl _) _⟩
              have h := D1.out.setCell (i + k) (bt (tim8 i y d Z) (i + k))
              rw [mixb_upd (i + k) (bt (tim8 i y d Z)) (bt Z), HJ.out] at h
              have hU : U (bt (tim8 i y d Z) j) = Value.int .u8 (r : Int) := congrArg (Value.int .u8) hb.out
              rw [hU] at h
              rw [show i + (k + 1) = j + 1 by have := HJ.out; omega]
              exact h
            case measure => simp [intOf]; omega
          · have d1 : decide ((k : Int) < (m : Int)) = false := by simp; omega
            have d2 : decide (0 < o) = true := by simp; omega
            clear go
            go_wp2_with fail
            refine wp_region_still_lit (by kernel_rfl) (by kernel_rfl) ?_
            change wpStill _ _ wr.drew (fun a' => Exit.then _ _ Exit.normal a' wr.drew) _ _
            have D1 := Lib.hid H1.out.drew
            have D2 := Lib.hid (Below.drew H2.out)
            have F := Lib.hid ((H.out.below D2.out).sl.get i hlt)
            have F' := Lib.hid (H'.out.below D2.out)
            clear H1 H2 G G'
            generalize wr.drew = w2 at *
            obtain ⟨b, off, rfl, _, hcell⟩ := F.out
            replace hcell := hcell.trans (congrArg (fun v => some (Value.int .u8 v)) HDG.out)
            have hcz : w2.cell? ⟨w.heap.size, j, none⟩ = some (.int .u8 (zd : Int)) := by
              rw [D1.out.cell j hjN, ← HJ.out, mix_at]
              exact congrArg (fun v => some (Value.int .u8 v)) (by rw [T.out.2, Ez.out])
            clear F
            iterate 16 still_step
            still_call (HA'.out _ F'.out)
            iterate 3 still_step
            refine wpStill_nil ?_
            clear f1 f2 f3 f4 f5 f6 hcell hcz
            have e1 := E1.out
            have e2 := E2.out
            have e3 := E3.out
            have e4 := E4.out
            have hzz := D1.out.thaw j
            have hcc := D1.out.cell j hjN
            go_wp2_with fail
            go_roundw
            case rel =>
              refine ⟨k + 1, by omega, by go_num, by rw [hu2.out], ?_, D2.out.setCell (Nat.le_refl _) _⟩
              have h := D1.out.setCell (i + k) (bt (tim8 i y d Z) (i + k))
              rw [mixb_upd (i + k) (bt (tim8 i y d Z)) (bt Z), HJ.out] at h
              have hU : U (bt (tim8 i y d Z) j) = Value.int .u8 (r : Int) := congrArg (Value.int .u8) hb.out
              rw [hU] at h
              rw [show i + (k + 1) = j + 1 by have := HJ.out; omega]
              exact h
            case measure => simp [intOf]; omega
        · have d1 : decide ((k : Int) < (m : Int)) = false := by simp; omega
          have hf := (D.out hk1).1 ho0
          subst ho0
          have R := Lib.hid (H1.out.congr fun j _ => mul8_all HZ.out hk1 hf j)
          clear hf H1
          rw [HM.out] at R
          go_wp2_with fail
          go_roundw
          case rel => exact ⟨i + 1, by omega, by go_num, R.out, H2.out⟩
          case measure => simp [intOf]; omega
    · obtain rfl : i = n := by omega
      rw [Nat.mod_eq_of_lt Hx.out] at HW
      have hf : x * y < 2 ^ (8 * (i + m)) := by
        have := mul8_fits (x := x) (i := i) Hy.out
        rwa [Nat.mod_eq_of_lt Hx.out] at this
      have S1 : Hid (Sb wr wr.heap.size (some ⟨w.heap.size, 0, none⟩) (i + m + 1) (i + m + 1) (x * y)) := Lib.hid ⟨HW.sl, fits_more hf (by omega)⟩
      have H2 := Lib.hid HB
      clear HW HB hf
      go_wp2_with ((with_reducible refine (cut_any _ _ _ (x * y) _ (by omega) S1.out).mono ?_); rintro e w' ⟨rfl, rfl⟩)
      go_ret
      exact ⟨_, rfl, _, _, rfl, S1.out.cut, H2.out⟩
end Go.Proofs.Ytmnokjapapheiaa
