/-
  The contract of the reference's Filled.
-/
import Derived.Test.YtjppmeihobcenaaDoorShWn
import Derived.Deep.Cut
namespace Go.Proofs.YtjppmeihobcenaaDoor
open Go.RowKit

set_option maxHeartbeats 1600000 in
theorem filled_any (a : Option Addr) (n c : Nat) (f : Nat → BitVec 8) (w : World) (hn : n ≤ 50000) (hs : Sl w w.heap.size a n c f) :
    Calls Tryd.prog 21 #[.slice a n c] w fun e w' => ∃ g cc, e = .returned (.slice (some ⟨g, 0, none⟩) (filledN n) cc) ∧ w.heap.size ≤ g ∧ filledN n ≤ cc ∧ Wn w' g (filledN n) (filledF f n) ∧ Below w.heap.size w w' := by
  have HS := Lib.hid hs
  clear hs
  obtain ⟨N, hN⟩ : ∃ N, filledN n = N := ⟨_, rfl⟩
  have hN1 : N = 136 * (n / 136 + 1) := hN.symm
  have hN2 : N ≤ 60000 := by omega
  have HN := Lib.hid hN
  have HN1 := Lib.hid hN1
  clear hN hN1
  have O0 := Lib.hid (OwnB.nil w w.heap.size (padsF f n))
  go_enter Tryd.func21, Tryd.ntmps21
  go_upto_region 3 with (((with_reducible apply lay_append_many); (case hgd => exact rfl); (case ho => exact rfl); (case hs => exact rfl); (case hx => exact rfl); (case hown => exact O0.out); (case hS => exact HS.out); (case hn => omega); (case hbase => exact Nat.le_refl _); intro _ _ _ _ _ _; go_simp))
  rename_i v1 w1 hown1 hb1 _ _
  have O1 := Lib.hid ((hown1.congr (g := padsF f n) fun i hi => by unfold cat padsF; rw [if_neg (by omega), if_pos (by omega), Nat.sub_zero]).alloc (.cells #[U 31] 5))
  have S1 := Lib.hid (sl_one w1 31)
  have B1 := Lib.hid (hb1.alloc hb1.size (.cells #[U 31] 5))
  clear hown1 hb1 O0
  rw [show 0 + n = n by omega] at O1
  go_wp2_with (((with_reducible apply lay_append_many); (case hgd => exact rfl); (case ho => exact rfl); (case hs => exact rfl); (case hx => exact rfl); (case hown => exact O1.out); (case hS => exact S1.out); (case hn => omega); (case hbase => exact B1.out.size); intro _ _ _ _ _ _; go_simp))
  rename_i v2 w2 hown2 hb2 _ _
  have hO2 := hown2.congr (g := padsF f n) fun i hi => by
    unfold cat padsF
    by_cases h1 : i < n
    · rw [if_pos h1, if_pos h1]
    · rw [if_neg h1, if_neg h1, if_pos (by omega)]
  have hB2 := B1.out.trans hb2
  clear hown2 hb2 O1 S1 B1
  go_loopg [3] (N - (n + 1)) (fun gk v3 wr => ∃ T : Nat, T + gk = N ∧ n + 1 ≤ T ∧ OwnB wr w.heap.size v3 T (padsF f n) ∧ Below w.heap.size w wr)
  case atStart => exact ⟨n + 1, by have := HN1.out; omega, by omega, hO2, hB2⟩
  case round =>
    clear hO2 hB2
    obtain ⟨T, hT, hT1, hown, hbel⟩ := hrel
    obtain ⟨g, cc, rfl, hg, hcc, hwn⟩ := hown.wn (by omega)
    obtain ⟨q, hq⟩ : ∃ q, T % 136 = q := ⟨_, rfl⟩
    have e1 : IntKind.i64.wrap ((T : Int).tmod 136) = (q : Int) := by rw [Int.tmod_eq_emod_of_nonneg (by omega)]; exact (IntWalk.i64_in _ (by omega)).trans (by omega)
    have e2 : (T : Int).tmod 136 = (q : Int) := by rw [Int.tmod_eq_emod_of_nonneg (by omega)]; omega
    have e3 : (T : Int) % 136 = (q : Int) := by omega
    have HO := Lib.hid hown
    have HW := Lib.hid hwn
    have HB0 := Lib.hid hbel
    clear hown hwn hbel
    cases gk with
    | succ go =>
      have hq0 : q ≠ 0 := by have := HN1.out; omega
      have hq1 : ((q : Int) != 0) = true := by simp; omega
      have hq2 : ¬ ((q : Int) = 0) := by omega
      have O3 := Lib.hid (HO.out.alloc (.cells #[U 0] 5))
      have S3 := Lib.hid (sl_one wr 0)
      have B3 := Lib.hid (HB0.out.alloc HB0.out.size (.cells #[U 0] 5))
      clear hq
      go_wp2_with (((with_reducible apply lay_append_many); (case hgd => exact rfl); (case ho => exact rfl); (case hs => exact rfl); (case hx => exact rfl); (case hown => exact O3.out); (case hS => exact S3.out); (case hn => omega); (case hbase => exact B3.out.size); intro _ _ _ _ _ _; go_simp))
      rename_i v4 w4 hown4 hb4
      go_roundg go
      case measure => omega
      case rel =>
        refine ⟨T + 1, by omega, by omega, hown4.congr fun i hi => ?_, B3.out.trans hb4⟩
        unfold cat
        by_cases h1 : i < T
        · rw [if_pos h1]
        · rw [if_neg h1]
          unfold padsF
          rw [if_neg (by omega), if_neg (by omega)]
    | zero =>
      obtain rfl : T = N := by omega
      have hq0 : q = 0 := by have := HN1.out; omega
      subst hq0
      obtain ⟨z, hz⟩ : ∃ z, T = z + 1 := ⟨T - 1, by omega⟩
      have hz1 : (T : Int) - 1 = (z : Int) := by omega
      have hz2 : (z : Int) < (T : Int) := by omega
      have hcz := HW.out.cell z (by omega)
      have hfz := HW.out.thaw z
      have ex : bits .xor .u8 (U8 (padsF f n z)) 128 = U8 (padsF f n z ^^^ 128) := xor_u8 _ 128
      have HZ := Lib.hid hz
      clear hz hq
      go_wp2_with fail
      go_ret
      refine ⟨g, cc, by rw [HN.out]; rfl, hg, by rw [HN.out]; exact hcc, ?_, HB0.out.setCell hg _⟩
      rw [HN.out]
      refine (HW.out.set z (padsF f n z ^^^ 128)).congr fun j _ => ?_
      unfold filledF
      rw [HN.out, show T - 1 = z by have := HZ.out; omega]
end Go.Proofs.YtjppmeihobcenaaDoor
