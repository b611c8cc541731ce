/-
  The reference's rounds and the program's are the same.
-/
import Derived.Test.YtjppmeihobcenaaDoorKecRefW
namespace Go.Proofs.YtjppmeihobcenaaDoor

theorem refb_at (f s : Nat → BitVec 64) : ∀ i, i < 25 → bTo f s 5 i = rotl (lFor f s ((i % 5 + 3 * (i / 5)) % 5) (i % 5)) (offs (src i)) :=
  below25 rfl rfl rfl rfl rfl rfl rfl rfl rfl rfl rfl rfl rfl rfl rfl rfl rfl rfl rfl rfl rfl rfl rfl rfl rfl 
theorem refa_at (h a : Nat → BitVec 64) : ∀ i, i < 25 → aTo h a 5 i = h i ^^^ (h ((i % 5 + 2) % 5 + 5 * (i / 5)) - (h ((i % 5 + 2) % 5 + 5 * (i / 5)) &&& h ((i % 5 + 1) % 5 + 5 * (i / 5)))) :=
  below25 rfl rfl rfl rfl rfl rfl rfl rfl rfl rfl rfl rfl rfl rfl rfl rfl rfl rfl rfl rfl rfl rfl rfl rfl rfl 
theorem sub_and (x y : BitVec 64) : x - (x &&& y) = x &&& ~~~y := by
  have hz : (x &&& y) &&& (x &&& ~~~y) = 0#64 := by
    apply BitVec.eq_of_getLsbD_eq
    intro i hi
    simp only [BitVec.getLsbD_and, BitVec.getLsbD_not, BitVec.getLsbD_zero, hi, decide_true, Bool.true_and]
    cases x.getLsbD i <;> cases y.getLsbD i <;> rfl
  have hs : (x &&& y) + (x &&& ~~~y) = x := by
    rw [BitVec.add_eq_or_of_and_eq_zero _ _ hz]
    apply BitVec.eq_of_getLsbD_eq
    intro i hi
    simp only [BitVec.getLsbD_or, BitVec.getLsbD_and, BitVec.getLsbD_not, hi, decide_true, Bool.true_and]
    cases x.getLsbD i <;> cases y.getLsbD i <;> rfl
  have : x - (x &&& y) = ((x &&& y) + (x &&& ~~~y)) - (x &&& y) := by rw [hs]
  rw [this, BitVec.add_comm, BitVec.add_sub_cancel]
theorem b_same (f : Nat → BitVec 64) : ∀ i, i < 25 → bTo f (sumsTo f 25) 5 i = turnF (spreadF f) i := fun i hi => by
  rw [refb_at _ _ i hi, turn_at _ i hi, spread_at f _ (src_lt i hi), colD_at, rotl_zero, lFor]
  have e : src i % 5 = (i % 5 + 3 * (i / 5)) % 5 := by unfold src; omega
  rw [e, ← BitVec.xor_assoc]
  rfl
theorem a_same (f : Nat → BitVec 64) : ∀ i, i < 25 → aTo (bTo f (sumsTo f 25) 5) f 5 i = bendF (turnF (spreadF f)) i := fun i hi => by
  rw [refa_at _ _ i hi, bend_at _ i hi, sub_and, b_same f i hi, b_same f _ (show (i % 5 + 2) % 5 + 5 * (i / 5) < 25 by omega), b_same f _ (show (i % 5 + 1) % 5 + 5 * (i / 5) < 25 by omega)]

/-- The byte that tells the row, step by step. -/
def rrTab (t : Nat) : Nat := [1, 2, 4, 8, 16, 32, 64, 128, 113, 226, 181, 27, 54, 108, 216, 193, 243, 151, 95, 190, 13, 26, 52, 104, 208, 209, 211, 215, 223, 207, 239, 175, 47, 94, 188, 9, 18, 36, 72, 144, 81, 162, 53, 106, 212, 217, 195, 247, 159, 79, 158, 77, 154, 69, 138, 101, 202, 229, 187, 7, 14, 28, 56, 112, 224, 177, 19, 38, 76, 152, 65, 130, 117, 234, 165, 59, 118, 236, 169, 35, 70, 140, 105, 210, 213, 219, 199, 255, 143, 111, 222, 205, 235, 167, 63, 126, 252, 137, 99, 198, 253, 139, 103, 206, 237, 171, 39, 78, 156, 73, 146, 85, 170, 37, 74, 148, 89, 178, 21, 42, 84, 168, 33, 66, 132, 121, 242, 149, 91, 182, 29, 58, 116, 232, 161, 51, 102, 204, 233, 163, 55, 110, 220, 201, 227, 183, 31, 62, 124, 248, 129, 115, 230, 189, 11, 22, 44, 88, 176, 17, 34, 68, 136, 97, 194, 245, 155, 71].getD t 0
theorem rrTab_step : ∀ t, t < 167 → (if rrTab t / 128 = 1 then (rrTab t * 2 % 256) ^^^ 113 else rrTab t * 2 % 256) = rrTab (t + 1) := by decide +kernel
theorem rr_tab : ∀ t, t < 168 → rrTo t = rrTab t
  | 0, _ => rfl
  | t + 1, h => by
    rw [rrTo, rr_tab t (by omega)]
    exact rrTab_step t (by omega)
/-- The rounds' constants out of the row. -/
def kTab (r : Nat) : Nat → BitVec 64
  | 0 => 0
  | j + 1 => if rrTab (7 * r + j) % 2 = 1 then kTab r j ^^^ shl 1 (2 ^ j - 1) else kTab r j
theorem kTab_rcs : ∀ r, r < 24 → kTab r 7 = rcs r := by decide +kernel
theorem kTo_zero (a : Nat → BitVec 64) (r : Nat) (hr : r < 24) : ∀ j, j ≤ 7 → kTo a r j 0 = a 0 ^^^ kTab r j
  | 0, _ => by simp [kTo, kTab]
  | j + 1, h => by
    have ih := kTo_zero a r hr j (by omega)
    rw [kTo, kTab, rowBit, rr_tab _ (show 7 * r + j < 168 by omega)]
    by_cases hb : rrTab (7 * r + j) % 2 = 1
    · rw [if_pos hb, if_pos hb, upd, if_pos rfl, ih, BitVec.xor_assoc]
    · rw [if_neg hb, if_neg hb, ih]
theorem kTo_other (a : Nat → BitVec 64) (r i : Nat) (hi : i ≠ 0) : ∀ j, kTo a r j i = a i
  | 0 => rfl
  | j + 1 => by
    rw [kTo]
    split
    · rw [upd, if_neg hi]; exact kTo_other a r i hi j
    · exact kTo_other a r i hi j
theorem round_same (f : Nat → BitVec 64) (r : Nat) (hr : r < 24) : ∀ i, i < 25 → refRound f r i = roundF f r i := fun i hi => by
  unfold refRound roundF upd
  by_cases e : i = 0
  · subst e
    rw [if_pos rfl, kTo_zero _ r hr 7 (Nat.le_refl _), kTab_rcs r hr, a_same f 0 hi]
  · rw [if_neg e, kTo_other _ r i e, a_same f i hi]
theorem refRound_congr {f g : Nat → BitVec 64} (r : Nat) (hr : r < 24) (h : ∀ i, i < 25 → f i = g i) : ∀ i, i < 25 → refRound f r i = roundF g r i := fun i hi =>
  (round_same f r hr i hi).trans (round_congr r h i hi)
theorem refP_same (f : Nat → BitVec 64) : ∀ r, r ≤ 24 → ∀ i, i < 25 → refPTo f r i = permTo f r i
  | 0, _ => fun _ _ => rfl
  | r + 1, h => refRound_congr r (by omega) (refP_same f r (by omega))
/-- The document's permutation is the program's. -/
theorem perm_ref (f : Nat → BitVec 64) : ∀ i, i < 25 → permF f i = refPTo f 24 i := fun i hi => (refP_same f 24 (Nat.le_refl _) i hi).symm
end Go.Proofs.YtjppmeihobcenaaDoor
