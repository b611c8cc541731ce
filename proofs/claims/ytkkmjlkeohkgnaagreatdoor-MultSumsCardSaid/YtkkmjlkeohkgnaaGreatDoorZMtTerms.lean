/-
  Terms put together and appended, in a region that draws its order; nothing else turns. No statement is proved here: lemmas for the walks.
-/
import Derived.Test.YtkkmjlkeohkgnaaGreatDoorBuU
import Derived.Test.YtkkmjlkeohkgnaaGreatDoorBuB
namespace Go.Proofs.YtkkmjlkeohkgnaaGreatDoor
open Go.RowKit

section
variable {P : Program} {o : Oper} {a : Act} {w w0 : World} {l : List (Nat × Obj)} {K : Act → World → Prop} {Q : Exit → Act → World → Prop} {t ts : TypeId} {s by' : Nat}
theorem own_wp_build1G (dd : Tmp) (hd : o.dst = some dd) (hu : P.underlying ts = some (.slice t)) (hI : InfoR P t s by') (hs : 0 < s) (hms : s ≤ 1000) (H : Ow w0 w l) {x : Operand} (ho : o.op = .buildSlice ts 1 #[(0, x)]) {f : Nat → Value} (hx : a.eval x = .agg (AV s f))
    (h : ∀ w' g, Ow w0 w' ((g, Cs t (AV s f)) :: l) → Below w.heap.size w w' → K (a.put (some dd) (.slice (some ⟨g, 0, none⟩) 1 1)) w') : o.wp P a w K Q := by
  unfold Oper.wp execOp
  simp only [ho, List.map_toArray, List.map_cons, List.map_nil, hx, Sem.run_bind, run_build1G (P := P) (w := w) hu hI hs hms f, Result.andThen_ok]
  show K (a.put o.dst _) _
  rw [hd]
  exact h _ _ (H.alloc _) (below_alloc _ _)
/-- One more is appended: nothing but the row itself has turned. -/
theorem own_wp_appG {base n : Nat} {v : Value} {G : Nat → Nat → Value} (dd : Tmp) (hd : o.dst = some dd) (hu : P.underlying ts = some (.slice t)) (hI : InfoR P t s by') (hs : 0 < s) (hby : by' ≤ 1000) (hR : OwnG w base t s v n G) (hbase : base ≤ w.heap.size)
    {x y : Operand} (ho : o.op = .call { callee := .builtin .append, args := #[x, y], argTypes := #[ts, ts] }) (hx : a.eval x = v) {gx c : Nat} (hy : a.eval y = .slice (some ⟨gx, 0, none⟩) 1 c) {tb : TypeId} {f : Nat → Value} (hr : w.heap[gx]? = some (Cs tb (AV s f))) (h1 : ∀ j, j < s → (f j).oneCell' = true) (hn : n ≤ 1000)
    (h : ∀ v' w', OwnG w' base t s v' (n + 1) (fun j => if j = n then f else G j) → Turn (fun j => v.ownBlock = some j) w w' → K (a.put (some dd) v') w') : o.wp P a w K Q := by
  obtain ⟨ii, z, hii, hz, hsz, hbyt, hzs⟩ := hI.has
  have hrow : w.heap[gx]? = some (.cells (AV s f) tb) := hr
  have hR2 := hR.congr (G' := fun j => if j = n then f else G j) hs fun j hj => by rw [if_neg (by omega)]
  refine wp_append_own w x y ts ho base t ii z s by' hu hii hz hsz hbyt hzs hs v n _ hx hR2 ⟨gx, 0, none⟩ 1 c (AV s f).toList hy (by rw [AV_length, Nat.one_mul]) (fun j u hu => ?_) (AV_one h1) (by unfold maxLen; omega) ?_ hbase ?_
  · have hj : j < s := by
      rcases Nat.lt_or_ge j s with h' | h'
      · exact h'
      · rw [List.getElem?_eq_none (by rw [AV_length]; exact h')] at hu; cases hu
    rw [Addr.add_mid, Nat.zero_add, cell_of_row _ _ _ _ _ _ hrow, ← hu, Array.getElem?_toList]
  · have := Nat.mul_le_mul (show n + 1 ≤ 1001 by omega) hby
    omega
  · intro v' w' h2 hg _
    rw [hd]
    refine h v' w' ?_ ⟨hg.os, hg.tape, hg.output, hg.size, fun k hk hne => hg.block k hk fun e => hne e.symm⟩
    unfold OwnG
    rw [← grd_succ hs, if_pos rfl]
    exact h2
end
section
variable {P : Program} {ops : Array Oper} {rest : List Oper} {o : Oper} {a : Act} {w : World} {Q : Exit → Act → World → Prop} {t ts ty : TypeId} {s by' : Nat}
theorem lay_appG {base n : Nat} {v : Value} {G : Nat → Nat → Value} (hu : P.underlying ts = some (.slice t)) (hI : InfoR P t s by') (hs : 0 < s) (hby : by' ≤ 1000) (hR : Hid (OwnG w base t s v n G)) (hbase : base ≤ w.heap.size) {dd : Tmp} (hd : o.dst = some dd) (hgd : o.guard = none)
    {x y : Operand} (ho : o.op = .call { callee := .builtin .append, args := #[x, y], argTypes := #[ts, ts] }) (hx : a.eval x = v) {gx c : Nat} (hy : a.eval y = .slice (some ⟨gx, 0, none⟩) 1 c) {tb : TypeId} {f : Nat → Value} (hr : w.heap[gx]? = some (Cs tb (AV s f))) (h1 : ∀ j, j < s → (f j).oneCell' = true) (hn : n ≤ 1000)
    (h : ∀ v' w', Hid (OwnG w' base t s v' (n + 1) (fun j => if j = n then f else G j)) → Hid (Turn (fun j => v.ownBlock = some j) w w') → ∀ K : Act → World → Prop, (∀ a w, wpList P ops Q rest a w → K a w) → K (a.put (some dd) v') w') : wpList P ops Q (o :: rest) a w :=
  wpList_plain hgd fun K hK => own_wp_appG dd hd hu hI hs hby hR.out hbase ho hx hy hr h1 hn fun v' w' h2 h3 => h v' w' (Lib.hid h2) (Lib.hid h3) K hK
/-- A guarded load of a cell that is wanted. -/
theorem lay_cellg (hT : IsCell P ty) (hw : Region.wanted o (yielded ops a.tmps) = true) {x : Operand} (ho : o.op = .load ty x) {b p : Nat} (hx : a.eval x = .pointer (some ⟨b, p, none⟩)) {v : Value} (hc : w.cell? ⟨b, p, none⟩ = some v)
    (h : ∀ K : Act → World → Prop, (∀ a w, wpList P ops Q rest a w → K a w) → K (a.put o.dst v) w) : wpList P ops Q (o :: rest) a w :=
  list_wanted hw fun K hK => by
    have hrun : (Instr.loadAt ty (.pointer (some ⟨b, p, none⟩))).run P w = .ok v w := by simp [Instr.loadAt, Instr.sureAddr, loadVar, Sem.run_bind, hT.agg w, hc]
    unfold Oper.wp execOp
    simp only [ho, hx, Sem.run_bind, hrun, Result.andThen_ok]
    exact h K hK
end
section
variable {md : Region.Mode} {ops : Array Oper} {Q : Exit → Act → World → Prop} {S : World → Prop} {fuel : Nat} {listed : Array Bool} {a : Act} {w : World}
/-- In a region that draws its order: a term is put together. -/
theorem held_tm (i : Nat) (d : Tmp) {oi : Oper} (hi : ops[i]? = some oi) (hd : oi.dst = some d) (hs : Region.noSelect ops = true) (hf : Region.free md ops listed i = true)
    (hr : (Region.ready md ops listed).contains i = true) (hw : Region.wanted oi (yielded ops a.tmps) = true) (hS : S w) {x y : Operand} (ho : oi.op = .build 60 #[(0, x), (1, y)])
    {b : Option Addr} {n c : Nat} {v : Nat → Int} (hx : a.eval x = .slice b n c) (hy : a.eval y = .agg (AZ .u64 24 v))
    (hN : wpAnyH Tryz.prog md ops (NoPanic Q) S fuel (listed.setIfInBounds i true) (a.put (some d) (.agg (AV 25 (sci (.slice b n c) v)))) w) : wpAnyH Tryz.prog md ops (NoPanic Q) S (fuel + 1) listed a w :=
  held_value i d (.agg (AV 25 (sci (.slice b n c) v))) hi hd hs hf hr hw hS (fun w _ => by
    unfold execOp
    simp only [ho, List.map_toArray, List.map_cons, List.map_nil, hx, hy, Sem.run_bind, built_tm, Result.andThen_ok]
    rfl) hN
end
/-- What a row of a call's own that grows leaves as it is. -/
theorem OwnG.own_ne {w : World} {base n s : Nat} {t : TypeId} {v : Value} {G : Nat → Nat → Value} (h : OwnG w base t s v n G) {g : Nat} (hg : g < base ∨ w.heap.size ≤ g) : ¬ v.ownBlock = some g := fun e => by
  have := h.lt g e
  omega
end Go.Proofs.YtkkmjlkeohkgnaaGreatDoor
