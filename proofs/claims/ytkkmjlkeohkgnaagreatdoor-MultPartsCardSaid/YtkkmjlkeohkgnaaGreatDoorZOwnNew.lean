/-
  Bytes appended onto nil: the new row, to its last cell. No statement is proved here: lemmas for the walks.
-/
import Derived.Test.YtkkmjlkeohkgnaaGreatDoorBuN
namespace Go.Proofs.YtkkmjlkeohkgnaaGreatDoor
open Go.RowKit

section
variable {ops : Array Oper} {rest : List Oper} {o : Oper} {a : Act} {w w0 : World} {l : List (Nat × Obj)} {Q : Exit → Act → World → Prop}
/-- Onto nil is appended: the new row, to the last cell. -/
theorem own_new (H : Hid (Ow w0 w l)) (hgd : o.guard = none) {s x : Operand} (ho : o.op = .call { callee := .builtin .append, args := #[s, x], argTypes := #[22, 22] }) (hs : a.eval s = .slice none 0 0) {ad : Option Addr} {n c : Nat} (hx : a.eval x = .slice ad n c)
    {f : Nat → BitVec 8} (hS : Sl w w.heap.size ad n c f) (h0 : ∀ j, n ≤ j → f j = 0) (hn : 0 < n) (hl : n ≤ 1000000)
    (h : ∀ w' g cap, Hid (n ≤ cap) → Hid (Ow w0 w' ((g, YB cap f) :: l)) → ∀ K : Act → World → Prop, (∀ a w, wpList Tryz.prog ops Q rest a w → K a w) → K (a.put o.dst (.slice (some ⟨g, 0, none⟩) n cap)) w') : wpList Tryz.prog ops Q (o :: rest) a w :=
  wpList_plain hgd fun K hK => by
    obtain ⟨i, hi, hz, hs1, hb⟩ := info_u8
    obtain ⟨b, off, rfl, _, _⟩ := hS.get 0 hn
    have hg2 := grownCap_ge w n 0 5
    have hcell : ∀ j, j < n → w.cell? ⟨b, off + j, none⟩ = some (.int .u8 (UB f j)) := fun j hj => by
      obtain ⟨b1, o1, e1, _, hc⟩ := hS.get j hj
      cases e1
      exact hc
    have hr := run_append_nil (P := Tryz.prog) w 22 o.type 5 i (.int .u8 0) Tryz.underlying22 hi hz ⟨b, off, none⟩ n c (AZ .u8 n (UB f)).toList (by rw [hs1, Nat.mul_one]; exact (AZ_list _ _ _).1) (list_cell hcell) hn (by omega) (by rw [hb]; omega)
    have e := AZ_grown (k := .u8) (f := UB f) (n := 0) (m := n) (cap := grownCap w n 0 5) (z := .int .u8 0) rfl rfl [] (AZ .u8 n (UB f)).toList rfl (AZ_list _ _ _).1 (fun j hj => absurd hj (by omega)) (fun j hj => by rw [Nat.zero_add]; exact (AZ_list _ n _).2 j hj) (fun j hj => by unfold UB; rw [h0 j (by omega)]; rfl) (by omega)
    rw [Nat.zero_add, show ([] : List Value).toArray = #[] from rfl, Array.empty_append] at e
    rw [e] at hr
    exact Lib.wp_append_run w s x _ _ ho _ _ hs hx _ _ hr (h _ _ _ (Lib.hid hg2) (Lib.hid (H.out.grew _)) K hK)
end
end Go.Proofs.YtkkmjlkeohkgnaaGreatDoor
