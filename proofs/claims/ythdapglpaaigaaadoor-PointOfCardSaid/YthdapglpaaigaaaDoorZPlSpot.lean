/-
  A spot as a block: 57 bytes and a number. No statement is proved here: lemmas for the walks.
-/
import Derived.Test.YthdapglpaaigaaaDoorZPtMem
import Derived.Test.YthdapglpaaigaaaDoorBuN
namespace Go.Proofs.YthdapglpaaigaaaDoor
open Go.RowKit

/-- A spot's cells. -/
def SpotA (u : Nat → BitVec 8) (z : Int) : Array Value := (AZ .u8 57 (UB u)).push (.int .i64 z)
theorem SpotA_size (u : Nat → BitVec 8) (z : Int) : (SpotA u z).size = 58 := by unfold SpotA; rw [Array.size_push, AZ_size]
theorem SpotA_byte (u : Nat → BitVec 8) (z : Int) (j : Nat) (h : j < 57) : (SpotA u z)[j]? = some (U (u j)) := by
  unfold SpotA
  rw [Array.getElem?_push_lt (by rw [AZ_size]; exact h), ← Array.getElem?_eq_getElem, AZ_get _ _ _ _ h]
  rfl
theorem SpotA_quart (u : Nat → BitVec 8) (z : Int) : (SpotA u z)[57]? = some (.int .i64 z) := by
  have h : (AZ .u8 57 (UB u)).size = 57 := AZ_size _ _ _
  have h2 := Array.getElem?_push_size (xs := AZ .u8 57 (UB u)) (x := .int .i64 z)
  rw [h] at h2
  exact h2
/-- A spot, as a block. -/
def BkS (u : Nat → BitVec 8) (z : Int) : Obj := .cells (SpotA u z) 26
section
variable {w w0 : World} {l : List (Nat × Obj)} {u : Nat → BitVec 8} {z : Int}
theorem Ow.sbyte (h : Ow w0 w l) (i : Nat) {g : Nat} (hi : l[i]? = some (g, BkS u z)) (j : Nat) (hj : j < 57) : w.cell? ⟨g, j, none⟩ = some (U (u j)) := by
  have hr : w.heap[g]? = some (.cells (SpotA u z) 26) := h.row i hi
  rw [cell_of_row _ _ _ _ _ _ hr, SpotA_byte _ _ _ hj]
theorem Ow.squart (h : Ow w0 w l) (i : Nat) {g : Nat} (hi : l[i]? = some (g, BkS u z)) : w.cell? ⟨g, 57, none⟩ = some (.int .i64 z) := by
  have hr : w.heap[g]? = some (.cells (SpotA u z) 26) := h.row i hi
  rw [cell_of_row _ _ _ _ _ _ hr, SpotA_quart]
theorem spot_sl {g : Nat} (h : w.heap[g]? = some (BkS u z)) : Sl w w.heap.size (some ⟨g, 0, none⟩) 57 57 u := by
  have hr : w.heap[g]? = some (.cells (SpotA u z) 26) := h
  refine ⟨Nat.le_refl _, (fun e => by cases e), fun ad e _ => ⟨g, 0, (Option.some.inj e).symm, lt_row h, fun i hi => ?_⟩⟩
  rw [Nat.zero_add, cell_of_row _ _ _ _ _ _ hr, SpotA_byte _ _ _ hi]
/-- The bytes are this number's. -/
structure Num57 (u : Nat → BitVec 8) (x : Nat) : Prop where
  fits : x < 2 ^ (8 * 57)
  same : ∀ i, i < 57 → bt x i = u i
theorem num57 (u : Nat → BitVec 8) : ∃ x, Num57 u x := by
  obtain ⟨x, h1, h2⟩ := bytes_of u 57
  exact ⟨x, h1, h2⟩
theorem spot_sb {g x : Nat} (h : w.heap[g]? = some (BkS u z)) (hx : Num57 u x) : Sb w w.heap.size (some ⟨g, 0, none⟩) 57 57 x := ⟨(spot_sl h).congr fun i hi => (hx.same i hi).symm, hx.fits⟩
end
theorem sizeSp : (Tryd.prog.info? 26).map (·.size) = some 58 := by kernel_rfl
section
variable {ops : Array Oper} {rest : List Oper} {o : Oper} {a : Act} {w w0 : World} {l : List (Nat × Obj)} {Q : Exit → Act → World → Prop} {u : Nat → BitVec 8} {z : Int}
theorem own_boxS (H : Hid (Ow w0 w l)) (hgd : o.guard = none) {x : Operand} (ho : o.op = .box 26 x) (hx : a.eval x = .agg (SpotA u z))
    (h : ∀ w' g, Hid (Ow w0 w' ((g, BkS u z) :: l)) → ∀ K : Act → World → Prop, (∀ a w, wpList Tryd.prog ops Q rest a w → K a w) → K (a.put o.dst (.pointer (some ⟨g, 0, none⟩))) w') : wpList Tryd.prog ops Q (o :: rest) a w :=
  wpList_plain hgd fun K hK => by
    unfold Oper.wp execOp
    simp only [ho, hx, Instr.box, newVar, Value.cells]
    simp [go_sem]
    exact h _ _ (Lib.hid (H.out.alloc _)) K hK
theorem run_loadS {b : Nat} (hr : w.heap[b]? = some (BkS u z)) : (Instr.loadAt 26 (.pointer (some ⟨b, 0, none⟩))).run Tryd.prog w = .ok (.agg (SpotA u z)) w := by
  have hrow : w.heap[b]? = some (.cells (SpotA u z) 26) := hr
  simp only [Instr.loadAt, Instr.sureAddr, Sem.run_bind, Sem.run_pure, Result.andThen_ok, run_loadVar_row w b 26 26 _ (0, 0) _ hrow Tryd.underlying26 (by simp) (by rw [SpotA_size]; exact sizeSp)]
theorem own_loadS {i : Nat} (H : Hid (Ow w0 w l)) (hgd : o.guard = none) {x : Operand} (ho : o.op = .load 26 x) {g : Nat} (hx : a.eval x = .pointer (some ⟨g, 0, none⟩))
    (hi : l[i]? = some (g, BkS u z)) (h : ∀ K : Act → World → Prop, (∀ a w, wpList Tryd.prog ops Q rest a w → K a w) → K (a.put o.dst (.agg (SpotA u z))) w) : wpList Tryd.prog ops Q (o :: rest) a w :=
  wpList_plain hgd fun K hK => by
    unfold Oper.wp execOp
    simp only [ho, hx, Sem.run_bind, run_loadS (H.out.row i hi), Result.andThen_ok]
    exact h K hK
theorem own_quart {i : Nat} (H : Hid (Ow w0 w l)) (hgd : o.guard = none) {x : Operand} (ho : o.op = .load 3 x) {g : Nat} (hx : a.eval x = .pointer (some ⟨g, 57, none⟩))
    (hi : l[i]? = some (g, BkS u z)) (h : ∀ K : Act → World → Prop, (∀ a w, wpList Tryd.prog ops Q rest a w → K a w) → K (a.put o.dst (.int .i64 z)) w) : wpList Tryd.prog ops Q (o :: rest) a w :=
  wpList_plain hgd fun K hK => by
    have hagg : (isAgg 3).run Tryd.prog w = .ok false w := by
      unfold isAgg
      rw [Sem.run_bind, run_underlying Tryd.underlying3 w]
      rfl
    have hl : (Instr.loadAt 3 (.pointer (some ⟨g, 57, none⟩))).run Tryd.prog w = .ok (.int .i64 z) w := by
      simp [Instr.loadAt, Instr.sureAddr, loadVar, Sem.run_bind, hagg, H.out.squart i hi]
    unfold Oper.wp execOp
    simp only [ho, hx, Sem.run_bind, hl, Result.andThen_ok]
    exact h K hK
end
section
variable {md : Region.Mode} {ops : Array Oper} {Q : Exit → Act → World → Prop} {S : World → Prop} {fuel : Nat} {listed : Array Bool} {a : Act} {w : World} {u : Nat → BitVec 8} {z : Int}
/-- In a region that draws its order: a load of a spot is taken first. -/
theorem held_spot (i : Nat) (d : Tmp) {oi : Oper} (hi : ops[i]? = some oi) (hd : oi.dst = some d) (hs : Region.noSelect ops = true) (hf : Region.free md ops listed i = true)
    (hr : (Region.ready md ops listed).contains i = true) (hw : Region.wanted oi (yielded ops a.tmps) = true) (hS : S w) {x : Operand} (ho : oi.op = .load 26 x) {g : Nat} (hx : a.eval x = .pointer (some ⟨g, 0, none⟩))
    (hrow : ∀ w, S w → w.heap[g]? = some (BkS u z))
    (h : wpAnyH Tryd.prog md ops (NoPanic Q) S fuel (listed.setIfInBounds i true) (a.put (some d) (.agg (SpotA u z))) w) : wpAnyH Tryd.prog md ops (NoPanic Q) S (fuel + 1) listed a w :=
  held_value i d (.agg (SpotA u z)) hi hd hs hf hr hw hS (fun w hw' => by
    unfold execOp
    simp only [ho, hx, Sem.run_bind, run_loadS (hrow w hw'), Result.andThen_ok]
    rfl) h
end
/-- What a quarter's number comes to. -/
def qn (z : Int) : Nat := (z % 4).toNat
theorem qn_lt (z : Int) : qn z < 4 := by unfold qn; omega
theorem qn_tmod (z : Int) : ((z.tmod 4 + 4).tmod 4) = (qn z : Int) := by
  have h1 : z.tmod 4 = if 0 ≤ z then z % 4 else -((-z) % 4) := by
    split
    · exact Int.tmod_eq_emod_of_nonneg (by omega)
    · have : z.tmod 4 = -((-z).tmod 4) := by rw [Int.neg_tmod, Int.neg_neg]
      rw [this, Int.tmod_eq_emod_of_nonneg (by omega)]
  have h2 : 0 ≤ z.tmod 4 + 4 := by rw [h1]; split <;> omega
  rw [Int.tmod_eq_emod_of_nonneg h2, h1]
  unfold qn
  split <;> omega
theorem tmod4_lt (z : Int) : -4 < z.tmod 4 ∧ z.tmod 4 < 4 := by
  have h1 : z.tmod 4 = if 0 ≤ z then z % 4 else -((-z) % 4) := by
    split
    · exact Int.tmod_eq_emod_of_nonneg (by omega)
    · have : z.tmod 4 = -((-z).tmod 4) := by rw [Int.neg_tmod, Int.neg_neg]
      rw [this, Int.tmod_eq_emod_of_nonneg (by omega)]
  rw [h1]
  split <;> omega
end Go.Proofs.YthdapglpaaigaaaDoor
