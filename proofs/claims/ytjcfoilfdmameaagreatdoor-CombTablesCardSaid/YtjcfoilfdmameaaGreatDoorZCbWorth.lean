/-
  The contracts of chicoryref11's Rows and Worth. No statement is proved here: lemmas for the walks.
-/
import Derived.Test.YtjcfoilfdmameaaGreatDoorBuM
import Derived.Test.YtjcfoilfdmameaaGreatDoorBuJ
import Derived.StillTailTactics
namespace Go.Proofs.YtjcfoilfdmameaaGreatDoor
open Go.RowKit

theorem bt_plus {x e : Nat} (h : x < 2 ^ e) (j : Nat) : bt (x + 2 ^ e) j = if j = e / 8 then bt x j + BitVec.ofNat 8 (2 ^ (e % 8)) else bt x j := by
  unfold bt
  rcases (by omega : j < e / 8 ∨ j = e / 8 ∨ e / 8 < j) with hj | hj | hj
  · rw [if_neg (by omega)]
    obtain ⟨r, hr⟩ : ∃ r, e = 8 * j + (8 + r) := ⟨e - 8 * j - 8, by omega⟩
    rw [hr, Nat.pow_add, Nat.mul_comm (2 ^ (8 * j)), Nat.add_mul_div_right _ _ (Nat.two_pow_pos _), Nat.pow_add, BitVec.ofNat_add]
    have : BitVec.ofNat 8 (2 ^ 8 * 2 ^ r) = 0 := by
      apply BitVec.eq_of_toNat_eq
      rw [BitVec.toNat_ofNat, Nat.mul_mod_right]
      rfl
    rw [this]
    simp
  · rw [if_pos hj]
    have he : e = 8 * j + e % 8 := by omega
    obtain ⟨r, hr⟩ : ∃ r, e % 8 = r := ⟨_, rfl⟩
    rw [hr] at he ⊢
    rw [he, Nat.pow_add, Nat.mul_comm (2 ^ (8 * j)), Nat.add_mul_div_right _ _ (Nat.two_pow_pos _), BitVec.ofNat_add]
  · rw [if_neg (by omega)]
    have h1 : 2 ^ (e + 1) ≤ 2 ^ (8 * j) := Nat.pow_le_pow_right (by omega) (by omega)
    rw [Nat.pow_succ] at h1
    rw [Nat.div_eq_of_lt (show x < 2 ^ (8 * j) by omega), Nat.div_eq_of_lt (show x + 2 ^ e < 2 ^ (8 * j) by omega)]
theorem worth_row {x e : Nat} (h : x < 2 ^ e) : upd8 (bt x) (e / 8) (bt x (e / 8) + bt (2 ^ e) (e / 8)) = bt (x + 2 ^ e) := by
  funext j
  rw [bt_plus h, bt_pow, if_pos rfl]
  unfold upd8
  by_cases hj : j = e / 8
  · rw [if_pos hj, if_pos hj, hj]
  · rw [if_neg hj, if_neg hj]
theorem cw_lt {m : Nat} (hm : 1 ≤ m) (p : Nat) : ∀ k, cw m p k < 2 ^ (m * k)
  | 0 => by simp [cw]
  | k + 1 => by
    have h1 := cw_lt hm p k
    have h2 := tb_lt p k
    have h3 : 2 ^ (m * k + 1) ≤ 2 ^ (m * (k + 1)) := Nat.pow_le_pow_right (by omega) (by rw [Nat.mul_succ]; omega)
    rw [Nat.pow_succ] at h3
    unfold cw
    rcases (by omega : tb p k = 0 ∨ tb p k = 1) with e | e <;> rw [e] <;> omega
set_option maxRecDepth 8000 in
set_option maxHeartbeats 3200000 in
theorem refRows_k (k s m : Nat) (w : World) (h1 : 1 ≤ k) (h2 : k ≤ 7) (hs : s ≤ 64) (hm : (8 * s + k - 1) / k = m) :
    Calls Tryz.prog 50 #[.int .i64 (k : Int), .int .i64 (s : Int)] w fun e w' => e = .returned (.int .i64 (m : Int)) ∧ w' = w := by
  obtain ⟨t, ht⟩ : ∃ t, 8 * s = t := ⟨_, rfl⟩
  obtain ⟨q, hq⟩ : ∃ q, t / k = q := ⟨_, rfl⟩
  obtain ⟨u, hu⟩ : ∃ u, q * k = u := ⟨_, rfl⟩
  have hdm := Nat.div_add_mod t k
  have hml := Nat.mod_lt t (show 0 < k by omega)
  rw [hq, Nat.mul_comm, hu] at hdm
  have e1 : (8 : Int) * (s : Int) = (t : Int) := by omega
  have e2 : (t : Int).tdiv (k : Int) = (q : Int) := by rw [Int.tdiv_eq_ediv_of_nonneg (by omega), ← hq]; rfl
  have e2' : (t : Int) / (k : Int) = (q : Int) := by rw [← hq]; rfl
  have e3 : (q : Int) * (k : Int) = (u : Int) := by rw [← hu]; exact (Int.natCast_mul _ _).symm
  have ht5 : t ≤ 512 := by omega
  have hq5 : q ≤ 512 := by rw [← hq]; exact Nat.le_trans (Nat.div_le_self _ _) ht5
  have hu5 : u ≤ 512 := by omega
  have f1 : IntKind.i64.wrap (t : Int) = (t : Int) := IntWalk.i64_in _ (by omega)
  have f2 : IntKind.i64.wrap (q : Int) = (q : Int) := IntWalk.i64_in _ (by omega)
  have f3 : IntKind.i64.wrap (u : Int) = (u : Int) := IntWalk.i64_in _ (by omega)
  have k0 : (k : Int) ≠ 0 := by omega
  have k0' : ¬ (k : Int) = 0 := k0
  by_cases hlt : u < t
  · have d1 : decide ((u : Int) < (t : Int)) = true := by simp; omega
    have HM : Hid ((q : Int) + 1 = (m : Int)) := Lib.hid (by
      have : m = q + 1 := by
        rw [← hm, ht, show t + k - 1 = (t % k - 1) + k * (q + 1) by rw [Nat.mul_succ, Nat.mul_comm, hu]; omega, Nat.add_mul_div_left _ _ (by omega), Nat.div_eq_of_lt (by omega), Nat.zero_add]
      omega)
    have f4 : IntKind.i64.wrap ((q : Int) + 1) = (q : Int) + 1 := IntWalk.i64_in _ (by omega)
    clear hm hq hu hdm hml ht
    go_enter Tryz.func50, Tryz.ntmps50
    go_wp2_with fail
    go_ret
    exact ⟨by rw [HM.out]; rfl, rfl⟩
  · have d1 : decide ((u : Int) < (t : Int)) = false := by simp; omega
    have HM : Hid ((q : Int) = (m : Int)) := Lib.hid (by
      have : m = q := by
        rw [← hm, ht, show t + k - 1 = (k - 1) + k * q by rw [Nat.mul_comm, hu]; omega, Nat.add_mul_div_left _ _ (by omega), Nat.div_eq_of_lt (by omega), Nat.zero_add]
      omega)
    clear hm hq hu hdm hml ht
    go_enter Tryz.func50, Tryz.ntmps50
    go_wp2_with fail
    go_ret
    exact ⟨by rw [HM.out]; rfl, rfl⟩
theorem u8_plus (a b : BitVec 8) : (U8 a + U8 b) % 256 = U8 (a + b) := by
  unfold U8
  rw [BitVec.toNat_add]
  omega
theorem refPower_t (p N : Nat) (hN : p / 8 + 1 = N) (w : World) (hp : p ≤ 10000) :
    Calls Tryz.prog 17 #[.int .i64 (p : Int)] w fun e w' => ∃ g, e = .returned (.slice (some ⟨g, 0, none⟩) N N) ∧ w.heap.size ≤ g ∧ w'.heap[g]? = some (YB N (bt (2 ^ p))) ∧ Below w.heap.size w w' := by
  subst hN
  exact (refPower_x p w hp).mono fun _ _ ⟨g, he, hg, hr, hb⟩ => ⟨g, he, hg, hr, hb⟩
set_option maxRecDepth 8000 in
set_option maxHeartbeats 3200000 in
theorem refWorth_x (p k s m : Nat) (w : World) (hp : p ≤ 1000) (h1 : 1 ≤ k) (h2 : k ≤ 7) (h3 : 1 ≤ s) (hs : s ≤ 64) (hm : (8 * s + k - 1) / k = m) :
    Calls Tryz.prog 21 #[.int .i64 (p : Int), .int .i64 (k : Int), .int .i64 (s : Int)] w fun e w' => ∃ g N, e = .returned (.slice (some ⟨g, 0, none⟩) N N) ∧ N ≤ 100 ∧ Sb w' w'.heap.size (some ⟨g, 0, none⟩) N N (cw m p k) ∧ Below w.heap.size w w' := by
  have m1 : 1 ≤ m := by rw [← hm]; exact (Nat.le_div_iff_mul_le (by omega)).2 (by omega)
  have mk : m * k ≤ 8 * s + k - 1 := by rw [← hm]; exact Nat.div_mul_le_self _ _
  obtain ⟨b, hb⟩ : ∃ b, m * k = b := ⟨_, rfl⟩
  obtain ⟨q, hq⟩ : ∃ q, b / 8 = q := ⟨_, rfl⟩
  obtain ⟨N, hN⟩ : ∃ N, q + 1 = N := ⟨_, rfl⟩
  rw [hb] at mk
  have b1 : (m : Int) * (k : Int) = (b : Int) := by rw [← hb]; exact (Int.natCast_mul _ _).symm
  have b2 : (b : Int).tdiv 8 = (q : Int) := by rw [Int.tdiv_eq_ediv_of_nonneg (by omega)]; omega
  have b3 : (b : Int) / 8 = (q : Int) := by omega
  have b4 : (q : Int) + 1 = (N : Int) := by omega
  have f1 : IntKind.i64.wrap (b : Int) = (b : Int) := IntWalk.i64_in _ (by omega)
  have f2 : IntKind.i64.wrap (q : Int) = (q : Int) := IntWalk.i64_in _ (by omega)
  have f3 : IntKind.i64.wrap (N : Int) = (N : Int) := IntWalk.i64_in _ (by omega)
  have N6 : N ≤ 1000000 := by omega
  have HR := Lib.hid (fun w => refRows_k k s m w h1 h2 hs hm)
  have HB := Lib.hid (show m * k = b ∧ b / 8 + 1 = N ∧ b ≤ 600 ∧ k ≤ 7 ∧ 1 ≤ m from ⟨hb, by omega, by omega, h2, m1⟩)
  have hmm : m ≤ 600 := by
    have := Nat.le_mul_of_pos_right m (show 0 < k by omega)
    omega
  have HMM := Lib.hid hmm
  have HP := Lib.hid hp
  have k7 : (k : Int) ≤ 7 := by omega
  have m7 : (m : Int) ≤ 600 := by omega
  clear hm m1 mk hb hq hN h1 h2 h3 hs hmm hp
  have H := Lib.hid (Ow.start w)
  go_enter Tryz.func21, Tryz.ntmps21
  go_wp2_with (first
    | ((with_reducible refine (HR.out _).mono ?_); rintro e wc ⟨rfl, hww⟩; have hww' := hww.symm; subst hww')
    | ((with_reducible apply own_makeY (c := N) H); (case hgd => exact rfl); (case ho => exact rfl); (case hx => exact rfl); (case hy => exact rfl); (case hc => exact N6); intro w8 g8 H' _ _; replace H := H'; clear H'; go_simp))
  replace H := Lib.hid (H.out.like 0 (g := UB (bt (cw m p 0))) rfl fun j _ => by
    show U8 0 = U8 (bt (cw m p 0) j)
    rw [show cw m p 0 = 0 from rfl, bt_zero])
  simp only [List.set_cons_zero] at H
  clear b1 b2 b3 b4 f1 f2 f3
  go_loopw [0, 9] (fun v0 v9 wr => ∃ i : Nat, i ≤ k ∧ v9 = .int .i64 i ∧ v0 = .int .i64 ((p / 2 ^ i : Nat) : Int) ∧ Ow w wr [(g8, YB N (bt (cw m p i)))]) (fun _ v9 _ => k - (intOf v9).toNat)
  case atStart => exact ⟨0, Nat.zero_le _, rfl, by rw [Nat.pow_zero, Nat.div_one], H.out⟩
  case round =>
    clear H
    obtain ⟨i, hi, rfl, rfl, HO⟩ := hrel
    have H := Lib.hid HO
    clear HO
    by_cases hlt : i < k
    · have hid : decide ((i : Int) < (k : Int)) = true := by simp; omega
      obtain ⟨z, hz⟩ : ∃ z, p / 2 ^ i = z := ⟨_, rfl⟩
      obtain ⟨y, hy⟩ : ∃ y, z / 2 = y := ⟨_, rfl⟩
      have hzp : z ≤ 1000 := by
        rw [← hz]
        exact Nat.le_trans (Nat.div_le_self _ _) HP.out
      have y1 : (z : Int).tdiv 2 = (y : Int) := by rw [Int.tdiv_eq_ediv_of_nonneg (by omega)]; omega
      have y2 : (z : Int) / 2 = (y : Int) := by omega
      have fy : IntKind.i64.wrap (y : Int) = (y : Int) := IntWalk.i64_in _ (by omega)
      have HY : Hid (y = p / 2 ^ (i + 1)) := Lib.hid (by rw [← hy, ← hz, Nat.div_div_eq_div_mul, ← Nat.pow_succ])
      have hk7 := HB.out.2.2.2.1
      have fi : IntKind.i64.wrap ((i : Int) + 1) = (i : Int) + 1 := IntWalk.i64_in _ (by omega)
      have HL := Lib.hid hlt
      have HT2 : Hid (tb p i = z % 2) := Lib.hid (by rw [← hz]; rfl)
      rw [hz]
      rcases Nat.mod_two_eq_zero_or_one z with hz2 | hz2
      · have r1 : (z : Int).tmod 2 = 0 := by rw [Int.tmod_eq_emod_of_nonneg (by omega)]; omega
        have r2 : (z : Int) % 2 = 0 := by omega
        have HC : Hid (cw m p (i + 1) = cw m p i) := Lib.hid (by
          show cw m p i + tb p i * 2 ^ (m * i) = _
          rw [HT2.out, hz2, Nat.zero_mul, Nat.add_zero])
        clear hz hy hz2 hlt hi hzp
        go_wp2_with fail
        go_roundw
        case rel => exact ⟨i + 1, by have := HL.out; omega, by go_num, by rw [HY.out], by rw [HC.out]; exact H.out⟩
        case measure => have := HL.out; (simp [intOf] <;> omega)
      · have r1 : (z : Int).tmod 2 = 1 := by rw [Int.tmod_eq_emod_of_nonneg (by omega)]; omega
        have r2 : (z : Int) % 2 = 1 := by omega
        obtain ⟨e, he⟩ : ∃ e, m * i = e := ⟨_, rfl⟩
        have he2 : e + m ≤ m * k := by
          rw [← he, ← Nat.mul_succ]
          exact Nat.mul_le_mul_left m hlt
        have HC : Hid (cw m p (i + 1) = cw m p i + 2 ^ e) := Lib.hid (by
          show cw m p i + tb p i * 2 ^ (m * i) = _
          rw [HT2.out, hz2, Nat.one_mul, he])
        have HW : Hid (upd8 (bt (cw m p i)) (e / 8) (bt (cw m p i) (e / 8) + bt (2 ^ e) (e / 8)) = bt (cw m p i + 2 ^ e)) := Lib.hid (worth_row (by rw [← he]; exact cw_lt HB.out.2.2.2.2 p i))
        obtain ⟨j, hj⟩ : ∃ j, e / 8 = j := ⟨_, rfl⟩
        obtain ⟨M, hM⟩ : ∃ M, e / 8 + 1 = M := ⟨_, rfl⟩
        have hb0 := HB.out
        have HE := Lib.hid (show e / 8 + 1 = M ∧ e ≤ 10000 from ⟨hM, by omega⟩)
        have HJ := Lib.hid (show j < N ∧ j < M by omega)
        have jN : (j : Int) < (N : Int) := by omega
        have jM : (j : Int) < (M : Int) := by omega
        have b5 : (m : Int) * (i : Int) = (e : Int) := by rw [← he]; exact (Int.natCast_mul _ _).symm
        have f5 : IntKind.i64.wrap (e : Int) = (e : Int) := IntWalk.i64_in _ (by omega)
        have b6 : (M : Int) - 1 = (j : Int) := by omega
        have f6 : IntKind.i64.wrap (j : Int) = (j : Int) := IntWalk.i64_in _ (by omega)
        rw [hj] at HW
        obtain ⟨x, hx⟩ : ∃ x, cw m p i = x := ⟨_, rfl⟩
        rw [hx] at HW HC H
        clear hz hy hz2 hlt hi hzp he he2 hj hM hb0 hx
        go_wp2_with (first
          | ((with_reducible refine (refPower_t e M HE.out.1 _ HE.out.2).mono ?_); rintro e wc ⟨gp, rfl, hg, hr, hb⟩; replace H := Lib.hid (H.out.add hb hg hr); clear hb hg hr))
        refine wp_region_still_tail 18 (by kernel_rfl) (by kernel_rfl) ?_
        change wpStill _ _ wc.drew (fun a' => wpList _ _ _ _ a' wc.drew) _ _
        have D := Lib.hid H.out.drew
        clear H
        generalize wc.drew = w9 at *
        have hc1 : w9.cell? ⟨gp, j, none⟩ = some (U (bt (2 ^ e) j)) := D.out.cell 0 rfl j HJ.out.2
        have hc2 : w9.cell? ⟨g8, j, none⟩ = some (U (bt x j)) := D.out.cell 1 rfl j HJ.out.1
        iterate 18 still_step
        refine wpStill_nil ?_
        clear hc1 hc2
        have H := D
        clear D
        change wpList _ _ _ [_] _ _
        go_wp2_with (first
          | ((with_reducible apply own_putb (v := bt x j + bt (2 ^ e) j) H); (case hgd => exact rfl); (case ho => exact rfl); (case hx => exact rfl); (case hy => exact congrArg (Value.int .u8) (u8_plus _ _)); (case hi => exact at1); (case hj => exact HJ.out.1); intro ws H' _ _; replace H := H'; clear H'; simp only [List.set_cons_zero, List.set_cons_succ] at H; rw [HW.out] at H; go_simp))
        go_roundw
        case rel => exact ⟨i + 1, by have := HL.out; omega, by go_num, by rw [HY.out], by rw [HC.out]; exact H.out.pop⟩
        case measure => have := HL.out; (simp [intOf] <;> omega)
    · obtain rfl : i = k := by omega
      have hid : decide ((i : Int) < (i : Int)) = false := by simp
      clear hi hlt
      go_wp2_with fail
      go_ret
      have hb0 := HB.out
      refine ⟨g8, N, rfl, by omega, ⟨(blk_rowB (H.out.row 0 rfl)).sl, Nat.lt_of_lt_of_le (cw_lt hb0.2.2.2.2 p i) (Nat.pow_le_pow_right (by omega) (by rw [hb0.1]; omega))⟩, H.out.bel⟩
end Go.Proofs.YtjcfoilfdmameaaGreatDoor
