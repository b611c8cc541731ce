/-
  The contracts of the reference's Bytes, Compare, Bit and Len.
-/
import Derived.Test.YtmnokjapapheiaaRfLeaf
import Derived.WalkLawsBesides
import Derived.Lib.MinMax
namespace Go.Proofs.Ytmnokjapapheiaa
open Go.RowKit

theorem OwnB.any {w : World} {base : Nat} {v : Value} {n : Nat} {f : Nat → BitVec 8} (h : OwnB w base v n f) : ∃ a c, v = .slice a n c ∧ Sl w w.heap.size a n c f := by
  rcases Nat.eq_zero_or_pos n with h0 | h0
  · subst h0
    obtain ⟨_, hv⟩ := h
    rcases hv with ⟨rfl, _⟩ | ⟨g, cap, cur, rfl, hg, hrow, hle, _⟩
    · exact ⟨none, 0, rfl, Nat.le_refl _, fun _ => rfl, fun _ e _ => by cases e⟩
    · exact ⟨_, cap, rfl, hle, (fun e => by cases e), fun ad e h0 => by omega⟩
  · obtain ⟨g, c, cur, rfl, _, _, hs⟩ := h.sl h0
    exact ⟨_, c, rfl, hs⟩
theorem new_byte (w : World) (v : Int) (b : BitVec 8) (h : U8 b = v) : (w.alloc (.cells #[.int .u8 v] 5)).cell? ⟨w.heap.size, 0, none⟩ = some (U b) := by
  rw [← h]
  simp
theorem bt_of_word (x i k : Nat) (hk : k < 8) : bt x (8 * i + k) = low8 (shr (wd x i) (8 * k)) := by
  have h := bt_word x (8 * i + k)
  rw [← h, show (8 * i + k) / 8 = i by omega, show (8 * i + k) % 8 * 8 = 8 * k by omega]
set_option maxHeartbeats 1600000 in
theorem refBytes_any (a : Option Addr) (n c x : Nat) (w : World) (hn : n ≤ 10000) (h : Sw w w.heap.size a n c x) :
    Calls Try.prog 18 #[.slice a n c] w fun e w' => ∃ v, e = .returned v ∧ GotB w w' v x := by
  have H := Lib.hid h
  have Hf := Lib.hid h.fits
  have hn' : (n : Int) ≤ 10000 := by omega
  clear h
  go_enter Try.func18, Try.ntmps18
  go_wp2_with fail
  go_loopw [3, 4] (fun v3 v4 wr => ∃ i : Nat, i ≤ n ∧ v4 = .int .i64 i ∧ OwnB wr w.heap.size v3 (8 * i) (bt x) ∧ Below w.heap.size w wr) (fun _ v4 _ => n - (intOf v4).toNat)
  case atStart => exact ⟨0, by omega, rfl, OwnB.nil _ _ _, Below.refl _ _⟩
  case round =>
    obtain ⟨i, hi, rfl, HO, HB⟩ := hrel
    by_cases hlt : i < n
    · have hid : decide ((i : Int) < (n : Int)) = true := by simp; omega
      have i25 : (i : Int) < (n : Int) := by omega
      obtain ⟨b, o, rfl, _, hc⟩ := (H.out.below HB).get i hlt
      have HO1 := Lib.hid HO
      have HB1 := Lib.hid HB
      clear HO HB
      go_wp2_with fail
      clear hc
      go_loopw [3, 5, 6] (fun v3 v5 v6 wr' => ∃ k : Nat, k ≤ 8 ∧ v6 = .int .i64 k ∧ v5 = V (shr (wd x i) (8 * k)) ∧ OwnB wr' w.heap.size v3 (8 * i + k) (bt x) ∧ Below w.heap.size w wr') (fun _ _ v6 _ => 8 - (intOf v6).toNat)
      case atStart => exact ⟨0, by omega, rfl, by rw [Nat.mul_zero, shr_zero], HO1.out, HB1.out⟩
      case round =>
        clear HO1 HB1
        obtain ⟨k, hk, rfl, rfl, HO, HB⟩ := hrel
        by_cases hlk : k < 8
        · have hkd : decide ((k : Int) < 8) = true := by simp; omega
          have hL := L_bd (shr (wd x i) (8 * k))
          have hb := bt_of_word x i k hlk
          obtain ⟨z, hx⟩ : ∃ z, shr (wd x i) (8 * k) = z := ⟨_, rfl⟩
          rw [hx] at hL hb ⊢
          have Hx := Lib.hid hx
          have Hb := Lib.hid hb
          have HO2 := Lib.hid HO
          have HB2 := Lib.hid HB
          clear HO HB hx hb
          have hz : w.heap.size ≤ wr.heap.size := HB2.out.size
          go_wp2_with ((with_reducible apply lay_append_byte); (case hgd => exact rfl); (case ho => exact rfl); (case hs => exact rfl); (case hx => exact rfl); (case hown => exact HO2.out.alloc _); (case hc => rw [Hb.out]; simp); (case hn => omega); (case hbase => simp; omega); intro v' w' ho' hb' _ _; go_simp)
          go_roundw
          case rel => exact ⟨k + 1, by omega, by go_num, by rw [← Hx.out, u64_div256, shr_shr, show 8 * (k + 1) = 8 * k + 8 by omega], ho', (HB2.out.alloc hz _).trans hb'⟩
          case measure => simp [intOf]; omega
        · obtain rfl : k = 8 := by omega
          clear hlk hk
          rw [show ((8 : Nat) : Int) = 8 from rfl]
          have HO2 := Lib.hid HO
          have HB2 := Lib.hid HB
          clear HO HB
          go_wp2_with fail
          go_roundw
          case rel => exact ⟨i + 1, by omega, by go_num, by rw [show 8 * (i + 1) = 8 * i + 8 by omega]; exact HO2.out, HB2.out⟩
          case measure => simp [intOf]; omega
    · obtain rfl : i = n := by omega
      obtain ⟨a', c', rfl, hs⟩ := HO.any
      have S1 : Hid (Sb wr wr.heap.size a' (8 * i) c' x) := Lib.hid ⟨hs, by have := Hf.out; rwa [show 8 * (8 * i) = 64 * i by omega]⟩
      have H2 := Lib.hid HB
      clear HO HB hs
      go_wp2_with ((with_reducible refine (cut_any a' (8 * i) c' x _ (by omega) S1.out).mono ?_); rintro e w' ⟨rfl, rfl⟩)
      go_ret
      exact ⟨_, rfl, a', c', rfl, S1.out.cut, H2.out⟩
end Go.Proofs.Ytmnokjapapheiaa
