/-
  The contracts of the reference's Columns. No statement is proved here: lemmas for the walks.
-/
import Derived.Test.YtgdfpboccgfadaaZDgMath
import Derived.Test.YtgdfpboccgfadaaZOwnZ
import Derived.Test.YtgdfpboccgfadaaZDrPlain
namespace Go.Proofs.Ytgdfpboccgfadaa
open Go.RowKit

set_option maxRecDepth 8000 in
set_option maxHeartbeats 1600000 in
theorem refColumns_v (a : Option Addr) (n c x k m : Nat) (w : World) (hn : n ≤ 64) (hk : 1 ≤ k) (hk8 : k ≤ 8) (hm : (8 * n + k - 1) / k = m) (hs : Sb w w.heap.size a n c x) :
    Calls Try.prog 16 #[.slice a n c, .int .i64 (k : Int)] w fun e w' => ∃ v, e = .returned v ∧ OwnZ w' w.heap.size v m (fun i => ((tog x i m k : Nat) : Int)) ∧ Below w.heap.size w w' := by
  have HS := Lib.hid hs
  have HM := Lib.hid hm
  have hmb : m ≤ 600 := by
    have := Nat.div_le_self (8 * n + k - 1) k
    omega
  have hmk : m * k ≤ 600 := by
    have := Nat.div_mul_le_self (8 * n + k - 1) k
    rw [hm] at this
    omega
  have HK : Hid (∀ i, i < m → i * k ≤ 600) := Lib.hid fun i hi => Nat.le_trans (Nat.mul_le_mul_right k (by omega)) hmk
  clear hs hm hmk
  go_enter Try.func16, Try.ntmps16
  go_wp2_with ((with_reducible refine (many_v a n c k _ (by omega) (by omega) hk8 m HM.out).mono ?_); rintro e wc ⟨rfl, hw⟩; have hw' := hw.symm; subst hw')
  go_loopw [6, 7] (fun v5 v6 wr => ∃ i : Nat, i ≤ m ∧ v6 = .int .i64 i ∧ OwnZ wr w.heap.size v5 i (fun i => ((tog x i m k : Nat) : Int)) ∧ Below w.heap.size w wr) (fun _ v6 _ => m - (intOf v6).toNat)
  case atStart => exact ⟨0, by omega, rfl, OwnZ.nil _ _ _, Below.refl _ _⟩
  case round =>
    obtain ⟨i, hi, rfl, HO, HB⟩ := hrel
    have hz := HB.size
    have HO1 := Lib.hid HO
    have HB1 := Lib.hid HB
    clear HO HB
    by_cases hlt : i < m
    · have hid : decide ((i : Int) < (m : Int)) = true := by simp; omega
      have hik := HK.out i hlt
      have EQ : Hid (togD x i m k k = tog x i m k) := Lib.hid ((togD_all _ _ _ _).trans rfl)
      go_wp2_with ((with_reducible refine (many_v a n c k _ (by omega) (by omega) hk8 m HM.out).mono ?_); rintro e wc ⟨rfl, rfl⟩)
      go_loop [8, 9] (fun v7 v8 => ∃ t u : Nat, t + u = k ∧ v8 = .int .i64 ((u : Int) - 1) ∧ v7 = .int .i64 ((togD x i m k t : Nat) : Int)) (fun _ v8 => (intOf v8 + 1).toNat)
      case atStart => exact ⟨0, k, by omega, rfl, rfl⟩
      case round =>
        obtain ⟨t, u, htu, rfl, rfl⟩ := hrel
        have htl := togD_lt x i m k t
        have htp : 2 ^ t ≤ 2 ^ 8 := Nat.pow_le_pow_right (by omega) (by omega)
        have hT : togD x i m k t ≤ 256 := by omega
        cases u with
        | zero =>
          obtain rfl : t = k := by omega
          have e0 : ((0 : Nat) : Int) - 1 = -1 := rfl
          rw [e0]
          clear htl htp
          have EQ' : Hid (((togD x i m t t : Nat) : Int) = ((tog x i m t : Nat) : Int)) := Lib.hid (by rw [EQ.out])
          go_wp2_with ((with_reducible apply lay_append_z (f := fun i => ((tog x i m t : Nat) : Int)) (n := i)); (case hgd => exact rfl); (case ho => exact rfl); (case hs => exact rfl); (case hx => exact rfl); (case hown => exact HO1.out.alloc _); (case hc => rw [EQ'.out]; simp); (case hn => omega); (case hbase => simp; omega); intro v' w' ho' hb' _ _; go_simp)
          go_roundw
          case rel => exact ⟨i + 1, by omega, by go_num, ho', (HB1.out.alloc hz _).trans hb'⟩
          case measure => simp [intOf]; omega
        | succ u =>
          have e0 : ((u + 1 : Nat) : Int) - 1 = (u : Int) := by omega
          have ES : Hid (togD x i m k (t + 1) = 2 * togD x i m k t + tb x (i + u * m)) := Lib.hid (by rw [togD, show k - 1 - t = u by omega])
          have hum : (u : Int) * (m : Int) = ((u * m : Nat) : Int) := by push_cast; rfl
          have hub : u * m ≤ 10000 := Nat.le_trans (Nat.mul_le_mul (by omega : u ≤ 8) hmb) (by omega)
          obtain ⟨q, hq⟩ : ∃ q, u * m = q := ⟨_, rfl⟩
          rw [hq] at hum hub ES
          have EB := Lib.hid (bitI_tb x (i + q) ((q : Int) + (i : Int)) (by omega))
          have htb := tb_lt x (i + q)
          obtain ⟨b, hb⟩ : ∃ b, tb x (i + q) = b := ⟨_, rfl⟩
          rw [hb] at EB ES htb
          rw [e0]
          clear htl htp hq
          go_wp2_with ((with_reducible refine (refBit_any a n c x ((q : Int) + (i : Int)) _ (by omega) (by omega) (HS.out.call HB1.out)).mono ?_); rintro e w' ⟨rfl, rfl⟩; rw [EB.out])
          go_round
          case rel => exact ⟨t + 1, u, by omega, rfl, by rw [ES.out]; go_num⟩
          case measure => simp [intOf]
    · obtain rfl : m = i := by omega
      have hid : decide ((m : Int) < (m : Int)) = false := by simp
      clear hlt hi
      go_wp2_with ((with_reducible refine (many_v a n c k _ (by omega) (by omega) hk8 m HM.out).mono ?_); rintro e wc ⟨rfl, rfl⟩)
      go_ret
      exact ⟨_, rfl, HO1.out, HB1.out⟩
end Go.Proofs.Ytgdfpboccgfadaa
