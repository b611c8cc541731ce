/-
  '==' on two arrays of lanes.
-/
import Derived.Test.YtnjnmffjkcfdfaaDoorKecRows
import Derived.Laws.StructEq
namespace Go.Proofs.YtnjnmffjkcfdfaaDoor
open Go.RowKit

/-- Are the first n lanes the same? -/
def eqB (n : Nat) (f g : Nat → BitVec 64) : Bool := (List.range' 0 n).all fun i => f i == g i
theorem eqB_iff (n : Nat) (f g : Nat → BitVec 64) : eqB n f g = true ↔ ∀ i, i < n → f i = g i := by
  unfold eqB
  rw [List.all_eq_true]
  constructor
  · intro h i hi
    exact eq_of_beq (h i (List.mem_range'_1.2 ⟨Nat.zero_le _, by omega⟩))
  · intro h i hi
    rw [h i (by have := (List.mem_range'_1.1 hi).2; omega)]
    exact beq_self_eq_true _
theorem eqB_congr {n : Nat} {f f' g g' : Nat → BitVec 64} (h1 : ∀ i, i < n → f i = f' i) (h2 : ∀ i, i < n → g i = g' i) : eqB n f g = eqB n f' g' := by
  rw [Bool.eq_iff_iff, eqB_iff, eqB_iff]
  constructor
  · intro h i hi; rw [← h1 i hi, ← h2 i hi]; exact h i hi
  · intro h i hi; rw [h1 i hi, h2 i hi]; exact h i hi

section
variable {P : Program} {t : TypeId} {n : Nat}
theorem run_part_lane (hT : IsLanes P t n) (f : Nat → BitVec 64) (i : Nat) (hi : i < n) (w : World) : (part 22 (A n f) (i * 1)).run P w = .ok (V (f i)) w := by
  have hagg : (isAgg 22).run P w = .ok false w := by
    unfold isAgg
    rw [Sem.run_bind, run_underlying hT.elem w]
    rfl
  simp [part, Sem.run_bind, hagg, A_get n f i hi]
theorem lane_beq (a b : BitVec 64) : (L a == L b) = (a == b) := by
  rw [Bool.eq_iff_iff, beq_iff_eq, beq_iff_eq]
  exact L_inj
theorem run_equal_lanes (hT : IsLanes P t n) (d : Nat) (f g : Nat → BitVec 64) (w : World) :
    (Op.equalIn (d + 1 + 1) t (.agg (A n f)) (.agg (A n g))).run P w = .ok (eqB n f g) w := by
  rw [Op.equalIn]
  simp only [Sem.run_bind, run_underlying hT.under, Result.andThen_ok]
  cases hq : P.info? 22 with
  | none => have := hT.one; simp [hq] at this
  | some q =>
    have hs : q.size = 1 := by have := hT.one; simpa [hq] using this
    have hz : ∀ w, (sizeOf 22).run P w = .ok 1 w := fun w => by simp [sizeOf, typeInfo, hq, hs]
    simp only [hz, Result.andThen_ok, Std.Legacy.Range.forIn_eq_forIn_range', Std.Legacy.Range.size, Nat.sub_zero, Nat.add_sub_cancel, Nat.div_one]
    unfold eqB
    have hall : ∀ i, i ∈ List.range' 0 n → i < n := fun i hi => by have := (List.mem_range'_1.1 hi).2; omega
    revert hall
    generalize List.range' 0 n = l
    intro hall
    induction l with
    | nil => simp
    | cons i l ih =>
      have hi : i < n := hall i (by simp)
      have ih' := ih fun j hj => hall j (by simp [hj])
      have he : (Op.equalIn (d + 1) 22 (V (f i)) (V (g i))).run P w = .ok (f i == g i) w := by
        rw [run_equalIn_int w d _ _ _ _ _ hT.elem, lane_beq]
      simp only [List.forIn_cons, Sem.run_bind, run_part_lane hT f i hi, run_part_lane hT g i hi, Result.andThen_ok, he, List.all_cons]
      cases hb : (f i == g i)
      · simp
      · simp only [Bool.not_true, Bool.false_eq_true, if_false, Sem.run_pure, Result.andThen_ok, Bool.true_and]
        simpa using ih'
end
end Go.Proofs.YtnjnmffjkcfdfaaDoor
