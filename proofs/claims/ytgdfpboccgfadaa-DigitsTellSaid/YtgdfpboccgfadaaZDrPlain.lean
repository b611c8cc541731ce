/-
  The contracts of the reference's Many and Plain. No statement is proved here: lemmas for the walks.
-/
import Derived.Test.YtgdfpboccgfadaaZDgMath
import Derived.Test.YtgdfpboccgfadaaZOwnZ
import Derived.Test.YtgdfpboccgfadaaBuR
namespace Go.Proofs.Ytgdfpboccgfadaa
open Go.RowKit

theorem many_v (a : Option Addr) (n c k : Nat) (w : World) (hn : n ≤ 1000000) (hk : 0 < k) (hk8 : k ≤ 8) (m : Nat) (hm : (8 * n + k - 1) / k = m) :
    Calls Try.prog 30 #[.slice a n c, .int .i64 (k : Int)] w fun e w' => e = .returned (.int .i64 (m : Int)) ∧ w' = w := by
  have e1 : (8 * (n : Int) + (k : Int) - 1) / (k : Int) = (m : Int) := by
    subst hm
    rw [← Int.ofNat_ediv_ofNat]
    congr 1
    omega
  have e2 : (8 * (n : Int) + (k : Int) - 1).tdiv (k : Int) = (m : Int) := by rw [Int.tdiv_eq_ediv_of_nonneg (by omega)]; exact e1
  have hk' : ((k : Int) == 0) = false := by simp; omega
  have hk0 : (k : Int) ≠ 0 := by omega
  have hmb : m ≤ 10000000 := by
    have := Nat.div_le_self (8 * n + k - 1) k
    omega
  clear hm
  go_enter Try.func30, Try.ntmps30
  go_wp2
  go_ret
  exact ⟨rfl, rfl⟩
theorem bitI_tb (x i : Nat) (z : Int) (hz : z = (i : Int)) : bitI x z = ((tb x i : Nat) : Int) := by
  subst hz
  unfold bitI
  rw [if_neg (by omega)]
  rfl
set_option maxRecDepth 8000 in
set_option maxHeartbeats 1600000 in
theorem refPlain_v (a : Option Addr) (n c x k m : Nat) (w : World) (hn : n ≤ 64) (hk : 1 ≤ k) (hk8 : k ≤ 8) (hm : (8 * n + k - 1) / k = m) (hs : Sb w w.heap.size a n c x) :
    Calls Try.prog 15 #[.slice a n c, .int .i64 (k : Int)] w fun e w' => ∃ v, e = .returned v ∧ OwnZ w' w.heap.size v m (fun i => ((pl x k i : Nat) : Int)) ∧ Below w.heap.size w w' := by
  have HS := Lib.hid hs
  have HM := Lib.hid hm
  have hmb : m ≤ 600 := by
    have := Nat.div_le_self (8 * n + k - 1) k
    omega
  have hmk : m * k ≤ 600 := by
    have := Nat.div_mul_le_self (8 * n + k - 1) k
    rw [hm] at this
    omega
  have HK : Hid (∀ i, i < m → i * k ≤ 600) := Lib.hid fun i hi => Nat.le_trans (Nat.mul_le_mul_right k (by omega)) hmk
  clear hs hm hmk
  go_enter Try.func15, Try.ntmps15
  go_wp2_with ((with_reducible refine (many_v a n c k _ (by omega) (by omega) hk8 m HM.out).mono ?_); rintro e wc ⟨rfl, hw⟩; have hw' := hw.symm; subst hw')
  go_loopw [5, 6] (fun v5 v6 wr => ∃ i : Nat, i ≤ m ∧ v6 = .int .i64 i ∧ OwnZ wr w.heap.size v5 i (fun i => ((pl x k i : Nat) : Int)) ∧ Below w.heap.size w wr) (fun _ v6 _ => m - (intOf v6).toNat)
  case atStart => exact ⟨0, by omega, rfl, OwnZ.nil _ _ _, Below.refl _ _⟩
  case round =>
    obtain ⟨i, hi, rfl, HO, HB⟩ := hrel
    have hz := HB.size
    have HO1 := Lib.hid HO
    have HB1 := Lib.hid HB
    clear HO HB
    by_cases hlt : i < m
    · have hid : decide ((i : Int) < (m : Int)) = true := by simp; omega
      have hik := HK.out i hlt
      have EQ : Hid (togD x (i * k) 1 k k = pl x k i) := Lib.hid ((togD_all _ _ _ _).trans (pl_tog x k i))
      have hmul : (i : Int) * (k : Int) = ((i * k : Nat) : Int) := by push_cast; rfl
      obtain ⟨q, hq⟩ : ∃ q, i * k = q := ⟨_, rfl⟩
      rw [hq] at hik hmul EQ
      clear hq
      go_wp2_with ((with_reducible refine (many_v a n c k _ (by omega) (by omega) hk8 m HM.out).mono ?_); rintro e wc ⟨rfl, rfl⟩)
      go_loop [7, 8] (fun v7 v8 => ∃ t u : Nat, t + u = k ∧ v8 = .int .i64 ((u : Int) - 1) ∧ v7 = .int .i64 ((togD x q 1 k t : Nat) : Int)) (fun _ v8 => (intOf v8 + 1).toNat)
      case atStart => exact ⟨0, k, by omega, rfl, rfl⟩
      case round =>
        obtain ⟨t, u, htu, rfl, rfl⟩ := hrel
        have htl := togD_lt x q 1 k t
        have htp : 2 ^ t ≤ 2 ^ 8 := Nat.pow_le_pow_right (by omega) (by omega)
        have hT : togD x q 1 k t ≤ 256 := by omega
        cases u with
        | zero =>
          obtain rfl : t = k := by omega
          have e0 : ((0 : Nat) : Int) - 1 = -1 := rfl
          rw [e0]
          clear htl htp
          have EQ' : Hid (((togD x q 1 t t : Nat) : Int) = ((pl x t i : Nat) : Int)) := Lib.hid (by rw [EQ.out])
          go_wp2_with ((with_reducible apply lay_append_z (f := fun i => ((pl x t i : Nat) : Int)) (n := i)); (case hgd => exact rfl); (case ho => exact rfl); (case hs => exact rfl); (case hx => exact rfl); (case hown => exact HO1.out.alloc _); (case hc => rw [EQ'.out]; simp); (case hn => omega); (case hbase => simp; omega); intro v' w' ho' hb' _ _; go_simp)
          go_roundw
          case rel => exact ⟨i + 1, by omega, by go_num, ho', (HB1.out.alloc hz _).trans hb'⟩
          case measure => simp [intOf]; omega
        | succ u =>
          have e0 : ((u + 1 : Nat) : Int) - 1 = (u : Int) := by omega
          have ES : Hid (togD x q 1 k (t + 1) = 2 * togD x q 1 k t + tb x (q + u)) := Lib.hid (by rw [togD, show k - 1 - t = u by omega, Nat.mul_one])
          have EB := Lib.hid (bitI_tb x (q + u) ((q : Int) + (u : Int)) (by omega))
          have htb := tb_lt x (q + u)
          obtain ⟨b, hb⟩ : ∃ b, tb x (q + u) = b := ⟨_, rfl⟩
          rw [hb] at EB ES htb
          rw [e0]
          clear htl htp 
          go_wp2_with ((with_reducible refine (refBit_any a n c x ((q : Int) + (u : Int)) _ (by omega) (by omega) (HS.out.call HB1.out)).mono ?_); rintro e w' ⟨rfl, rfl⟩; rw [EB.out])
          go_round
          case rel => exact ⟨t + 1, u, by omega, rfl, by rw [ES.out]; go_num⟩
          case measure => simp [intOf]
    · obtain rfl : m = i := by omega
      have hid : decide ((m : Int) < (m : Int)) = false := by simp
      clear hlt hi
      go_wp2_with ((with_reducible refine (many_v a n c k _ (by omega) (by omega) hk8 m HM.out).mono ?_); rintro e wc ⟨rfl, rfl⟩)
      go_ret
      exact ⟨_, rfl, HO1.out, HB1.out⟩
end Go.Proofs.Ytgdfpboccgfadaa
