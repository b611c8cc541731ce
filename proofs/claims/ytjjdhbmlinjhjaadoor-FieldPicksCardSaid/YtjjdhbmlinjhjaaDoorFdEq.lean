/-
  The contract of chicoryref04's Same.
-/
import Derived.Test.YtjjdhbmlinjhjaaDoorFdLaw1
import Derived.Laws.StructEq
namespace Go.Proofs.YtjjdhbmlinjhjaaDoor
open Go.RowKit

def eqZ (n : Nat) (f g : Nat → Int) : Bool := (List.range' 0 n).all fun i => f i == g i
theorem eqZ_iff (n : Nat) (f g : Nat → Int) : eqZ n f g = true ↔ ∀ i, i < n → f i = g i := by
  unfold eqZ
  rw [List.all_eq_true]
  constructor
  · intro h i hi
    exact eq_of_beq (h i (List.mem_range'_1.2 ⟨Nat.zero_le _, by omega⟩))
  · intro h i hi
    rw [h i (by have := (List.mem_range'_1.1 hi).2; omega)]
    exact beq_self_eq_true _
section
variable {P : Program} {t e : TypeId} {n : Nat} {k : IntKind}
theorem run_part_int (hE : IsOne P e k) (f : Nat → Int) (i : Nat) (hi : i < n) (w : World) : (part e (AZ k n f) (i * 1)).run P w = .ok (.int k (f i)) w := by
  have hagg : (isAgg e).run P w = .ok false w := by
    unfold isAgg
    rw [Sem.run_bind, run_underlying hE.under w]
    rfl
  simp [part, Sem.run_bind, hagg, AZ_get k n f i hi]
theorem run_equal_ints (hu : P.underlying t = some (.array n e)) (hE : IsOne P e k) (d : Nat) (f g : Nat → Int) (w : World) :
    (Op.equalIn (d + 1 + 1) t (.agg (AZ k n f)) (.agg (AZ k n g))).run P w = .ok (eqZ n f g) w := by
  rw [Op.equalIn]
  simp only [Sem.run_bind, run_underlying hu, Result.andThen_ok]
  cases hq : P.info? e with
  | none => have := hE.size; simp [hq] at this
  | some q =>
    have hs : q.size = 1 := by have := hE.size; simpa [hq] using this
    have hz : ∀ w, (sizeOf e).run P w = .ok 1 w := fun w => by simp [sizeOf, typeInfo, hq, hs]
    simp only [hz, Result.andThen_ok, Std.Legacy.Range.forIn_eq_forIn_range', Std.Legacy.Range.size, Nat.sub_zero, Nat.add_sub_cancel, Nat.div_one]
    unfold eqZ
    have hall : ∀ i, i ∈ List.range' 0 n → i < n := fun i hi => by have := (List.mem_range'_1.1 hi).2; omega
    revert hall
    generalize List.range' 0 n = l
    intro hall
    induction l with
    | nil => simp
    | cons i l ih =>
      have hi : i < n := hall i (by simp)
      have ih' := ih fun j hj => hall j (by simp [hj])
      have he : (Op.equalIn (d + 1) e (.int k (f i)) (.int k (g i))).run P w = .ok (f i == g i) w := by
        rw [run_equalIn_int w d _ _ _ _ _ hE.under]
      simp only [List.forIn_cons, Sem.run_bind, run_part_int hE f i hi, run_part_int hE g i hi, Result.andThen_ok, he, List.all_cons]
      cases hb : (f i == g i)
      · simp
      · simp only [Bool.not_true, Bool.false_eq_true, if_false, Sem.run_pure, Result.andThen_ok, Bool.true_and]
        simpa using ih'
end
theorem eqF (f g : Nat → Int) (w : World) : (Op.equalIn 10000 36 (.agg (AZ .i64 16 f)) (.agg (AZ .i64 16 g))).run Tryd.prog w = .ok (eqZ 16 f g) w := run_equal_ints Tryd.underlying36 oneI 9998 f g w
theorem eqZ_dF {x y : Nat} (hx : x < pN) (hy : y < pN) : eqZ 16 (dF x) (dF y) = decide (x = y) := by
  rw [Bool.eq_iff_iff, eqZ_iff, decide_eq_true_eq]
  constructor
  · intro h
    have h1 := val_congr 16 h
    rw [val_FV hx, val_FV hy] at h1
    omega
  · rintro rfl i _
    rfl
attribute [local go_sem] eqF
set_option maxRecDepth 8000 in
set_option maxHeartbeats 1000000 in
theorem same_v (x y : Nat) (w : World) (hx : x < pN) (hy : y < pN) :
    Calls Tryd.prog 38 #[FV x, FV y] w fun e w' => e = .returned (.bool (decide (x = y))) ∧ Below w.heap.size w w' := by
  have HE := Lib.hid (eqZ_dF hx hy)
  clear hx hy
  have H := Lib.hid (Ow.start w)
  go_enter Tryd.func38, Tryd.ntmps38
  go_wp2_with (first
    | ((fail_if_success have := g1); (with_reducible apply own_box H); (case hgd => exact rfl); (case ho => exact rfl); (case hx => exact rfl); intro w1 g1 H' _ _; replace H := H'; clear H'; go_simp)
    | ((fail_if_success have := g2); (with_reducible apply own_box H); (case hgd => exact rfl); (case ho => exact rfl); (case hx => exact rfl); intro w2 g2 H' _ _; replace H := H'; clear H'; go_simp)
    | ((with_reducible apply own_load rowF H); (case hgd => exact rfl); (case ho => exact rfl); (case hx => exact rfl); (case hi => first | exact at0 | exact at1 | exact at2 | exact at3 | exact at4 | exact at5 | exact at6); intro _ _; go_simp))
  go_ret
  refine ⟨?_, H.out.bel⟩
  rw [← HE.out]
  rfl
theorem zero_dF : AZ .i64 16 (fun _ => 0) = AZ .i64 16 (dF 0) := AZ_congr fun i _ => by unfold dF; rw [Nat.zero_div, Nat.zero_mod]; rfl
theorem built_F0 (w : World) : (Instr.build 36 #[]).run Tryd.prog w = .ok (.agg (AZ .i64 16 (dF 0))) w := by
  rw [← zero_dF, zeroF]
  exact run_build w 36 _ _ (by kernel_rfl)
section
variable {ops : Array Oper} {rest : List Oper} {o : Oper} {a : Act} {w : World} {Q : Exit → Act → World → Prop}
theorem lay_build_F0 (hgd : o.guard = none) (ho : o.op = .build 36 #[])
    (k : ∀ K : Act → World → Prop, (∀ a w, wpList Tryd.prog ops Q rest a w → K a w) → K (a.put o.dst (.agg (AZ .i64 16 (dF 0)))) w) : wpList Tryd.prog ops Q (o :: rest) a w :=
  wpList_plain hgd fun K hK => by
    unfold Oper.wp execOp
    simp only [ho, Array.map_empty, Sem.run_bind, built_F0, Result.andThen_ok]
    exact k K hK
end
end Go.Proofs.YtjjdhbmlinjhjaaDoor
