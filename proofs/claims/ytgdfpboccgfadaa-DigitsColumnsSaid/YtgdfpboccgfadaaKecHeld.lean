/-
  Laws for a region that draws its order and holds loads of whole arrays beside calls: what yields in every world that meets S is taken first, step by step.
-/
import Derived.Test.YtgdfpboccgfadaaKecRows
import Derived.Deep.RegionHeld3
namespace Go.Proofs.Ytgdfpboccgfadaa
open Go.RowKit

section
variable {P : Program} {md : Region.Mode} {ops : Array Oper} {Q : Exit → Act → World → Prop} {S : World → Prop} {fuel : Nat} {listed : Array Bool} {a : Act} {w : World}
/-- An operation that yields v in every world that meets S is taken first. -/
theorem held_value (i : Nat) (d : Tmp) (v : Value) {oi : Oper} (hi : ops[i]? = some oi) (hd : oi.dst = some d) (hs : Region.noSelect ops = true) (hf : Region.free md ops listed i = true)
    (hr : (Region.ready md ops listed).contains i = true) (hw : Region.wanted oi (yielded ops a.tmps) = true) (hS : S w) (hy : ∀ w, S w → (execOp a.eval oi).run P w = .ok (.value v) w)
    (h : wpAnyH P md ops (NoPanic Q) S fuel (listed.setIfInBounds i true) (a.put (some d) v) w) : wpAnyH P md ops (NoPanic Q) S (fuel + 1) listed a w :=
  wpAnyH_take hi hs hf hr (fun _ _ _ h => h) (.inl ⟨hw, hy⟩) hS (by rw [hd]; exact h)
/-- A load of a whole array of lanes is taken first. -/
theorem held_load {t : TypeId} {n : Nat} (hT : IsLanes P t n) (i : Nat) (d : Tmp) {oi : Oper} (hi : ops[i]? = some oi) (hd : oi.dst = some d) (hs : Region.noSelect ops = true) (hf : Region.free md ops listed i = true)
    (hr : (Region.ready md ops listed).contains i = true) (hw : Region.wanted oi (yielded ops a.tmps) = true) (hS : S w) {x : Operand} (ho : oi.op = .load t x) {g : Nat} (hx : a.eval x = .pointer (some ⟨g, 0, none⟩))
    {f : Nat → BitVec 64} {tb : TypeId} (hrow : ∀ w, S w → w.heap[g]? = some (.cells (A n f) tb))
    (h : wpAnyH P md ops (NoPanic Q) S fuel (listed.setIfInBounds i true) (a.put (some d) (.agg (A n f))) w) : wpAnyH P md ops (NoPanic Q) S (fuel + 1) listed a w :=
  held_value i d (.agg (A n f)) hi hd hs hf hr hw hS (fun w hw' => by
    unfold execOp
    simp only [ho, hx, Instr.loadAt, Instr.sureAddr, Sem.run_bind, Sem.run_pure, Result.andThen_ok, run_loadVar_row w g tb t _ (0, 0) _ (hrow w hw') hT.under rfl (by rw [A_size]; exact hT.size)]) h
end
end Go.Proofs.Ytgdfpboccgfadaa
