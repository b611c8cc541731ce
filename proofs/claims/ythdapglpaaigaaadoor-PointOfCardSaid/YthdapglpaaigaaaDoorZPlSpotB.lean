/-
  A spot is made, byte by byte. No statement is proved here: lemmas for the walks.
-/
import Derived.Test.YthdapglpaaigaaaDoorZPlSpot
import Derived.Test.YthdapglpaaigaaaDoorBuN
import Derived.Test.YthdapglpaaigaaaDoorBuR
namespace Go.Proofs.YthdapglpaaigaaaDoor
open Go.RowKit

theorem spotA_list (u : Nat → BitVec 8) (z : Int) (j : Nat) : (SpotA u z).toList[j]? = if j < 57 then some (U (u j)) else if j = 57 then some (.int .i64 z) else none := by
  rw [Array.getElem?_toList]
  by_cases h : j < 57
  · rw [if_pos h, SpotA_byte _ _ _ h]
  · rw [if_neg h]
    by_cases h2 : j = 57
    · rw [if_pos h2, h2, SpotA_quart]
    · rw [if_neg h2, Array.getElem?_eq_none (by rw [SpotA_size]; omega)]
theorem spotA_len (u : Nat → BitVec 8) (z : Int) : (SpotA u z).toList.length = 58 := by rw [Array.length_toList, SpotA_size]
theorem spotA_set (u : Nat → BitVec 8) (z : Int) (j : Nat) (hj : j < 57) (v : BitVec 8) : ((SpotA u z).toList.take j ++ [U v] ++ (SpotA u z).toList.drop (j + 1)).toArray = SpotA (upd8 u j v) z := by
  apply Array.ext_getElem?
  intro i
  rw [List.getElem?_toArray, ← Array.getElem?_toList, spotA_list]
  have hl := spotA_len u z
  rcases (by omega : i < j ∨ i = j ∨ j < i) with h | h | h
  · rw [List.append_assoc, List.getElem?_append_left (by rw [List.length_take, hl]; omega), List.getElem?_take_of_lt h, spotA_list, if_pos (by omega), if_pos (by omega)]
    unfold upd8
    rw [if_neg (by omega)]
  · subst h
    rw [List.append_assoc, List.getElem?_append_right (by rw [List.length_take, hl]; omega), List.length_take, hl, Nat.min_eq_left (by omega), Nat.sub_self, if_pos hj]
    unfold upd8
    rw [if_pos rfl]
    rfl
  · rw [List.getElem?_append_right (by rw [List.length_append, List.length_take, hl]; simp; omega), List.length_append, List.length_take, hl, Nat.min_eq_left (by omega), List.getElem?_drop, spotA_list]
    rw [show j + 1 + (i - (j + [U v].length)) = i by simp; omega]
    unfold upd8
    rw [if_neg (show ¬ i = j by omega)]
theorem spotA_quart (u : Nat → BitVec 8) (z q : Int) : ((SpotA u z).toList.take 57 ++ [Value.int .i64 q] ++ (SpotA u z).toList.drop 58).toArray = SpotA u q := by
  apply Array.ext_getElem?
  intro i
  rw [List.getElem?_toArray, ← Array.getElem?_toList, spotA_list]
  have hl := spotA_len u z
  rw [List.drop_eq_nil_of_le (by rw [hl]; omega), List.append_nil]
  rcases (by omega : i < 57 ∨ i = 57 ∨ 57 < i) with h | h | h
  · rw [List.getElem?_append_left (by rw [List.length_take, hl]; omega), List.getElem?_take_of_lt h, spotA_list, if_pos h, if_pos h]
  · subst h
    rw [List.getElem?_append_right (by rw [List.length_take, hl]; omega), List.length_take, hl]
    rfl
  · rw [List.getElem?_eq_none (by rw [List.length_append, List.length_take, hl]; simp; omega), if_neg (by omega), if_neg (by omega)]
section
variable {w w0 : World} {l : List (Nat × Obj)} {u : Nat → BitVec 8} {z : Int}
theorem run_putS {b j : Nat} (hr : w.heap[b]? = some (BkS u z)) (hj : j < 57) (v : BitVec 8) : (Instr.storeAt 5 (.pointer (some ⟨b, j, none⟩)) (U v)).run Tryd.prog w = .ok () (w.setRow b (SpotA (upd8 u j v) z)) := by
  have hrow : w.heap[b]? = some (.cells (SpotA u z) 26) := hr
  have hst := run_storeCells_at Tryd.prog b j 26 [U v] 0 (SpotA u z) w hrow (by rw [SpotA_size]; simp; omega) (fun q hq => by obtain rfl := List.mem_singleton.1 hq; rfl)
  rw [Nat.add_zero, show [U v].length = 1 from rfl, spotA_set _ _ _ hj] at hst
  have hsz := oneB.size
  cases hq : Tryd.prog.info? 5 with
  | none => simp [hq] at hsz
  | some i =>
    have hi : i.size = 1 := by simpa [hq] using hsz
    simp [Instr.storeAt, Instr.sureAddr, storeVar, sizeOf, typeInfo, Sem.run_bind, hq, hi, Value.cells, hst]
theorem run_putQ {b : Nat} (hr : w.heap[b]? = some (BkS u z)) (q : Int) : (Instr.storeAt 3 (.pointer (some ⟨b, 57, none⟩)) (.int .i64 q)).run Tryd.prog w = .ok () (w.setRow b (SpotA u q)) := by
  have hrow : w.heap[b]? = some (.cells (SpotA u z) 26) := hr
  have hst := run_storeCells_at Tryd.prog b 57 26 [Value.int .i64 q] 0 (SpotA u z) w hrow (by rw [SpotA_size]; simp) (fun v hv => by obtain rfl := List.mem_singleton.1 hv; rfl)
  rw [Nat.add_zero, show [(Value.int .i64 q)].length = 1 from rfl, spotA_quart] at hst
  have hsz := oneI.size
  cases hq : Tryd.prog.info? 3 with
  | none => simp [hq] at hsz
  | some i =>
    have hi : i.size = 1 := by simpa [hq] using hsz
    simp [Instr.storeAt, Instr.sureAddr, storeVar, sizeOf, typeInfo, Sem.run_bind, hq, hi, Value.cells, hst]
theorem Ow.setS (h : Ow w0 w l) (i : Nat) {b : Nat} (hi : l[i]? = some (b, BkS u z)) (u' : Nat → BitVec 8) (z' : Int) : Ow w0 (w.setRow b (SpotA u' z')) (l.set i (b, BkS u' z')) := by
  have hr : w.heap[b]? = some (.cells (SpotA u z) 26) := h.row i hi
  exact h.put i hi ⟨rfl, rfl, rfl, by simp [World.setRow], fun c hc => setRow_other w b c _ (by omega)⟩ (fun c hc => setRow_other w b c _ hc) (setRow_heap w b _ _ _ _ hr)
end
theorem zeroSp : SpotA (fun _ => 0) 0 = Array.replicate 57 (.int .u8 0) ++ #[.int .i64 0] := by
  unfold SpotA AZ
  rfl
theorem nilSp (w : World) : (zeroValue 26).run Tryd.prog w = .ok (.agg (SpotA (fun _ => 0) 0)) w := by
  rw [zeroSp]
  exact (zero_of_info (show (Tryd.prog.info? 26).map (fun i => (i.zero, i.size)) = some (some (.agg (Array.replicate 57 (.int .u8 0) ++ #[.int .i64 0])), 58) by kernel_rfl)).1 w
section
variable {ops : Array Oper} {rest : List Oper} {o : Oper} {a : Act} {w w0 : World} {l : List (Nat × Obj)} {Q : Exit → Act → World → Prop} {u : Nat → BitVec 8} {z : Int}
theorem own_allocS (H : Hid (Ow w0 w l)) (hgd : o.guard = none) (ho : o.op = .alloc 26)
    (h : ∀ w' g, Hid (Ow w0 w' ((g, BkS (fun _ => 0) 0) :: l)) → ∀ K : Act → World → Prop, (∀ a w, wpList Tryd.prog ops Q rest a w → K a w) → K (a.put o.dst (.pointer (some ⟨g, 0, none⟩))) w') : wpList Tryd.prog ops Q (o :: rest) a w :=
  wpList_plain hgd fun K hK => by
    unfold Oper.wp execOp
    simp only [ho, Instr.alloc, Sem.run_bind, nilSp, Result.andThen_ok, newVar, Value.cells]
    simp [go_sem]
    exact h _ _ (Lib.hid (H.out.alloc _)) K hK
theorem own_putS {i : Nat} (H : Hid (Ow w0 w l)) (hgd : o.guard = none) {x y : Operand} (ho : o.op = .store 5 x y) {g j : Nat} (hx : a.eval x = .pointer (some ⟨g, j, none⟩)) {v : BitVec 8} (hy : a.eval y = U v)
    (hi : l[i]? = some (g, BkS u z)) (hj : j < 57) (h : ∀ w', Hid (Ow w0 w' (l.set i (g, BkS (upd8 u j v) z))) → ∀ K : Act → World → Prop, (∀ a w, wpList Tryd.prog ops Q rest a w → K a w) → K (a.put o.dst undef) w') : wpList Tryd.prog ops Q (o :: rest) a w :=
  wpList_plain hgd fun K hK => by
    unfold Oper.wp execOp
    simp only [ho, hx, hy, Sem.run_bind, run_putS (H.out.row i hi) hj v, Result.andThen_ok]
    exact h _ (Lib.hid (H.out.setS i hi _ _)) K hK
theorem own_putQ {i : Nat} (H : Hid (Ow w0 w l)) (hgd : o.guard = none) {x y : Operand} (ho : o.op = .store 3 x y) {g : Nat} (hx : a.eval x = .pointer (some ⟨g, 57, none⟩)) {q : Int} (hy : a.eval y = .int .i64 q)
    (hi : l[i]? = some (g, BkS u z)) (h : ∀ w', Hid (Ow w0 w' (l.set i (g, BkS u q))) → ∀ K : Act → World → Prop, (∀ a w, wpList Tryd.prog ops Q rest a w → K a w) → K (a.put o.dst undef) w') : wpList Tryd.prog ops Q (o :: rest) a w :=
  wpList_plain hgd fun K hK => by
    unfold Oper.wp execOp
    simp only [ho, hx, hy, Sem.run_bind, run_putQ (H.out.row i hi) q, Result.andThen_ok]
    exact h _ (Lib.hid (H.out.setS i hi _ _)) K hK
end
end Go.Proofs.YthdapglpaaigaaaDoor
