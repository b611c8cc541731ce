/-
  The contract of the reference's Shift.
-/
import Derived.Test.YtmnokjapapheiaaRfBytes
import Derived.Test.YtmnokjapapheiaaRfBit
namespace Go.Proofs.Ytmnokjapapheiaa
open Go.RowKit

set_option maxHeartbeats 2000000 in
theorem refShift_any (a : Option Addr) (n c x : Nat) (s : Int) (w : World) (hn : n ≤ 1000) (hs1 : -65536 ≤ s) (hs2 : s ≤ 65536) (h : Sb w w.heap.size a n c x) :
    Calls Try.prog 32 #[.slice a n c, .int .i64 s] w fun e w' => ∃ v, e = .returned v ∧ GotB w w' v (shf x s) := by
  have H := Lib.hid h
  have hbl : bl x ≤ 8000 := Nat.le_trans ((bl_le x _).2 h.fits) (by omega)
  have LX : Hid (∀ w', Sb w' w.heap.size a n c x → Calls Try.prog 22 #[.slice a n c] w' fun e w'' => e = .returned (.int .i64 ((bl x : Nat) : Int)) ∧ w'' = w') := Lib.hid fun w' hw => refLen_any a n c x w' (by omega) hw
  have HF : Hid (∀ j : Nat, ((bl x : Nat) : Int) + s ≤ 8 * (j : Int) → shf x s < 2 ^ (8 * j)) := Lib.hid fun j h => shf_fits h
  have HS : Hid (∀ t : Nat, bitI x ((t : Int) - s) = ((shf x s / 2 ^ t % 2 : Nat) : Int)) := Lib.hid fun t => shf_bit x t s
  generalize bl x = l at *
  generalize shf x s = z at *
  obtain ⟨N, hN⟩ : ∃ N, (l : Int) + s = N := ⟨_, rfl⟩
  have N1 : -65536 ≤ N := by omega
  have N2 : N ≤ 73536 := by omega
  rw [hN] at HF
  clear h
  go_enter Try.func32, Try.ntmps32
  go_wp2_with ((with_reducible refine (LX.out _ H.out).mono ?_); rintro e w1 ⟨rfl, rfl⟩)
  clear hN
  go_loopw [5, 7] (fun v5 v7 wr => ∃ i j : Nat, i = 8 * j ∧ v7 = .int .i64 i ∧ (i : Int) < 73600 ∧ OwnB wr w1.heap.size v5 j (bt z) ∧ Below w1.heap.size w1 wr) (fun _ v7 _ => (N + 8 - intOf v7).toNat)
  case atStart => exact ⟨0, 0, rfl, rfl, by omega, OwnB.nil _ _ _, Below.refl _ _⟩
  case round =>
    obtain ⟨i, j, hij, rfl, hi, HO, HB⟩ := hrel
    have Hij := Lib.hid hij
    have hj : j ≤ 10000 := by omega
    have HB1 := Lib.hid HB
    have HO1 := Lib.hid HO
    have hz : w1.heap.size ≤ wr.heap.size := HB.size
    clear HO HB hij
    by_cases hlt : (i : Int) < N
    · have d1 : decide ((i : Int) < N) = true := by simpa using hlt
      go_wp2_with fail
      go_loop [8, 9] (fun v8 v9 => ∃ K : Nat, K ≤ 8 ∧ v9 = .int .i64 ((K : Int) - 1) ∧ v8 = .int .i64 ((win z (i + K) (8 - K) : Nat) : Int)) (fun _ v9 => (intOf v9 + 1).toNat)
      case atStart => exact ⟨8, by omega, rfl, by rw [Nat.sub_self, win_zero]; rfl⟩
      case round =>
        obtain ⟨K, hK, rfl, rfl⟩ := hrel
        rcases Nat.eq_zero_or_pos K with h0 | h0
        · subst h0
          have em : (((0 : Nat) : Int) - 1) = -1 := rfl
          rw [em]
          have hw : win z (i + 0) (8 - 0) = dg z j := by rw [Nat.add_zero, Nat.sub_zero, Hij.out, win_all]
          rw [hw]
          have hdl := dg_lt z j
          have hb : Hid (U8 (bt z j) = ((dg z j : Nat) : Int)) := Lib.hid (U8_bt z j)
          generalize dg z j = r at *
          have r6 : (r : Int) < 256 := by omega
          have hb2 : IntKind.u8.wrap (r : Int) = (r : Int) := by rw [IntKind.wrap_u8]; omega
          clear em hw
          go_wp2_with ((with_reducible apply lay_append_byte); (case hgd => exact rfl); (case ho => exact rfl); (case hs => exact rfl); (case hx => exact rfl); (case hown => exact HO1.out.alloc _); (case hc => exact new_byte _ _ _ hb.out); (case hn => omega); (case hbase => simp; omega); intro v' w' ho' hb' _ _; go_simp)
          go_roundw
          case rel => exact ⟨i + 8, j + 1, by have := Hij.out; omega, by go_num, by omega, ho', (HB1.out.alloc hz _).trans hb'⟩
          case measure => simp [intOf]; omega
        · obtain ⟨k, rfl⟩ : ∃ k, K = k + 1 := ⟨K - 1, by omega⟩
          have e : (((k + 1 : Nat) : Int) - 1) = (k : Int) := by omega
          rw [e]
          have hw := win_step z (i + k) (8 - (k + 1))
          rw [show 8 - (k + 1) + 1 = 8 - k by omega] at hw
          rw [show i + (k + 1) = i + k + 1 by omega]
          have hwl : win z (i + k + 1) (8 - (k + 1)) < 256 := Nat.lt_of_lt_of_le (win_lt _ _ _) (Nat.pow_le_pow_right (by omega) (by omega : 8 - (k + 1) ≤ 8))
          have hbl1 : z / 2 ^ (i + k) % 2 < 2 := Nat.mod_lt _ (by omega)
          have hbit : bitI x ((i : Int) + (k : Int) - s) = ((z / 2 ^ (i + k) % 2 : Nat) : Int) := by
            have := HS.out (i + k)
            rwa [Int.natCast_add] at this
          have Hbit := Lib.hid hbit
          have Hw := Lib.hid hw
          have G := Lib.hid (H.out.below HB1.out)
          clear hbit hw h0 e
          generalize z / 2 ^ (i + k) % 2 = b at *
          generalize win z (i + k + 1) (8 - (k + 1)) = u at *
          have hk8 : (k : Int) < 8 := by omega
          have u6 : (u : Int) < 256 := by omega
          have b6 : (b : Int) < 2 := by omega
          have i6 : (i : Int) < 73600 := hi
          go_wp2_with ((with_reducible refine (refBit_any a n c x ((i : Int) + (k : Int) - s) _ (by omega) (by omega) G.out).mono ?_); rintro e w5 ⟨rfl, rfl⟩; rw [Hbit.out])
          go_round
          case rel => exact ⟨k, by omega, by go_num, by rw [Hw.out]; go_num⟩
          case measure => (simp [intOf] <;> omega)
    · have d1 : decide ((i : Int) < N) = false := by simp; omega
      have hf : z < 2 ^ (8 * j) := HF.out j (by have := Hij.out; omega)
      obtain ⟨b, cb, rfl, hs⟩ := HO1.out.any
      have S1 : Hid (Sb wr wr.heap.size b j cb z) := Lib.hid ⟨hs, hf⟩
      clear hs hf
      go_wp2_with ((with_reducible refine (cut_any b j cb z _ (by omega) S1.out).mono ?_); rintro e w' ⟨rfl, rfl⟩)
      go_ret
      exact ⟨_, rfl, b, cb, rfl, S1.out.cut, HB1.out⟩
end Go.Proofs.Ytmnokjapapheiaa
