/-
  The contracts of digits.Columns. No statement is proved here: lemmas for the walks.
-/
import Derived.Test.YtgdfpboccgfadaaZDgAsk
namespace Go.Proofs.Ytgdfpboccgfadaa
open Go.RowKit

set_option maxRecDepth 8000 in
set_option maxHeartbeats 800000 in
theorem columns_bad (a : Option Addr) (n c : Nat) (k r : Int) (w : World) (hr : ask n k 1 = r) (h0 : r ≠ 0) :
    Calls Try.prog 13 #[.slice a n c, .int .i64 k] w fun e w' => e = .returned (.tuple #[.slice none 0 0, .int .i64 r]) ∧ Below w.heap.size w w' := by
  have E := Lib.hid hr
  have hne : (r != 0) = true := by simpa using h0
  clear hr h0
  go_enter Try.func13, Try.ntmps13
  go_wp2_with ((with_reducible refine (asked_v a n c k 1 _).mono ?_); rintro e w' ⟨rfl, hb⟩; rw [E.out]; have HB := Lib.hid hb; clear hb)
  go_ret2
  exact ⟨rfl, HB.out⟩
set_option maxRecDepth 8000 in
set_option maxHeartbeats 1600000 in
theorem columns_v (a : Option Addr) (n c x k m : Nat) (w : World) (hn : n ≤ 64) (hk : 1 ≤ k) (hk8 : k ≤ 8) (hm : (8 * n + k - 1) / k = m) (hs : Sb w w.heap.size a n c x) :
    Calls Try.prog 13 #[.slice a n c, .int .i64 (k : Int)] w fun e w' => ∃ g, e = .returned (.tuple #[.slice (some ⟨g, 0, none⟩) m m, .int .i64 0]) ∧ w.heap.size ≤ g ∧ w'.heap[g]? = some (Blk 3 .i64 m fun i => ((tog x i m k : Nat) : Int)) ∧ Below w.heap.size w w' := by
  have E : Hid (ask n (k : Int) 1 = 0) := Lib.hid (by unfold ask; rw [if_neg (by omega), if_neg (by omega)])
  have HS := Lib.hid hs
  have HM := Lib.hid hm
  have hmb : m ≤ 600 := by
    have := Nat.div_le_self (8 * n + k - 1) k
    omega
  have hmk : m * k ≤ 600 := by
    have := Nat.div_mul_le_self (8 * n + k - 1) k
    rw [hm] at this
    omega
  have HK : Hid (∀ i, i < m → i * k ≤ 600) := Lib.hid fun i hi => Nat.le_trans (Nat.mul_le_mul_right k (by omega)) hmk
  clear hs hm hmk
  have H := Lib.hid (Ow.start w)
  go_enter Try.func13, Try.ntmps13
  go_wp2_with (first
    | ((with_reducible refine (asked_v a n c (k : Int) 1 _).mono ?_); rintro e wa ⟨rfl, hb⟩; rw [E.out]; replace H := Lib.hid (H.out.call hb); clear hb)
    | ((with_reducible refine (reader_v a n c x w _ _ H.out (HS.out.call H.out.bel)).mono ?_); rintro e wb ⟨g1, rfl, hO, _⟩; replace H := Lib.hid hO; clear hO)
    | ((with_reducible refine (parts_v a n c k _ (by omega) (by omega) hk8 m HM.out).mono ?_); rintro e wc ⟨rfl, rfl⟩)
    | ((with_reducible apply own_make (n := m) H); (case hgd => exact rfl); (case ho => exact rfl); (case hx => exact rfl); (case hy => exact rfl); (case hc => omega); intro wd g2 H' _ _; replace H := H'; clear H'; go_simp))
  go_loopw [25] (fun v wr => ∃ i : Nat, i ≤ m ∧ v = .int .i64 i ∧ Ow w wr [(g2, Blk 3 .i64 m (mix i (fun i => ((tog x i m k : Nat) : Int)) fun _ => 0)), (g1, Oc 22 (.slice a n c))]) (fun v _ => m - (intOf v).toNat)
  case atStart => exact ⟨0, by omega, rfl, by rw [mix_zero]; exact H.out⟩
  case round =>
    clear H
    obtain ⟨i, hi, rfl, HO⟩ := hrel
    have H := Lib.hid HO
    clear HO
    by_cases hlt : i < m
    · have hid : decide ((i : Int) < (m : Int)) = true := by simp; omega
      have hik := HK.out i hlt
      have EQ : Hid (tog x i m k = tog x i m k) := Lib.hid (rfl)
      have EM := mixZ_upd i (fun i => ((tog x i m k : Nat) : Int)) (fun _ => 0)
      have HE := Lib.hid EM
      have hlt' : (i : Int) < (m : Int) := by omega
      clear EM hi
      go_wp2_with (first
        | ((with_reducible refine (together_v i m k (i : Int) (m : Int) rfl (by omega) ⟨H.out.oc 1 rfl, HS.out.call H.out.bel⟩ (by omega) (by omega) (by omega) hk8).mono ?_); rintro e wc ⟨rfl, rfl⟩; rw [EQ.out])
        | ((with_reducible apply own_put oneI H); (case hgd => exact rfl); (case ho => exact rfl); (case hx => exact rfl); (case hy => exact rfl); (case hi => exact at0); (case hj => omega); intro ws H' _ _; replace H := H'; clear H'; simp only [List.set_cons_zero] at H; rw [HE.out] at H; go_simp))
      go_roundw
      case rel => exact ⟨i + 1, by omega, by go_num, H.out⟩
      case measure => simp [intOf]; omega
    · obtain rfl : m = i := by omega
      have hid : decide ((m : Int) < (m : Int)) = false := by simp
      clear hlt hi HM
      go_wp2_with fail
      go_ret2
      have H2 := H.out.like 0 (g := fun i => ((tog x i m k : Nat) : Int)) rfl fun j hj => mix_all _ _ _ _ hj
      simp only [List.set_cons_zero] at H2
      exact ⟨_, rfl, H2.ge 0 rfl, H2.row 0 rfl, H2.bel⟩
end Go.Proofs.Ytgdfpboccgfadaa
