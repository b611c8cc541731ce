/-
  Noughts appended to a row of bytes, however many, room or not: the number stays. No statement is proved here: lemmas for the walks.
-/
import Derived.Test.YtkkmjlkeohkgnaaGreatDoorBuM
import Derived.Test.YtkkmjlkeohkgnaaGreatDoorBuN
import Derived.Deep.CutRange
namespace Go.Proofs.YtkkmjlkeohkgnaaGreatDoor
open Go.RowKit

theorem az_3 (f : Nat → BitVec 8) : (#[U (f 0), U (f 1), U (f 2)] : Array Value) = AZ .u8 3 (UB f) := by
  apply Array.ext_getElem?
  intro j
  by_cases hj : j < 3
  · rw [AZ_get _ _ _ _ hj]
    rcases (by omega : j = 0 ∨ j = 1 ∨ j = 2) with rfl | rfl | rfl <;> rfl
  · rw [Array.getElem?_eq_none (by simp; omega), Array.getElem?_eq_none (by rw [AZ_size]; omega)]
section
variable {w w0 : World} {l : List (Nat × Obj)}
theorem run_putZ {g gz n m cap x c' : Nat} (H : Ow w0 w ((gz, YB m (bt 0)) :: (g, YB cap (bt x)) :: l)) (hc : n ≤ cap) (hx : x < 2 ^ (8 * n)) (hn : n ≤ 1000) (h0 : 0 < m) (hm : m ≤ 1000) (ty : TypeId) :
    ∃ g' k w', (Builtin.append_ #[22, 22] ty #[.slice (some ⟨g, 0, none⟩) n cap, .slice (some ⟨gz, 0, none⟩) m c']).run Tryz.prog w = .ok (.slice (some ⟨g', 0, none⟩) (n + m) k) w' ∧
      n + m ≤ k ∧ Ow w0 w' ((g', YB k (bt x)) :: l) := by
  have hz0 : ∀ j, n ≤ j → UB (bt x) j = 0 := fun j hj => by
    unfold UB
    rw [bt_over hx hj]
    rfl
  have hb0 : ∀ j, UB (bt 0) j = 0 := fun j => by
    unfold UB
    rw [bt_over (x := 0) (n := 0) (by decide) (Nat.zero_le j)]
    rfl
  have hnew : ∀ j, j < m → w.cell? ⟨gz, 0 + j, none⟩ = some (.int .u8 0) := fun j hj => by
    rw [Nat.zero_add, H.cell 0 rfl j hj, hb0]
  obtain ⟨ie, hie, hz, hs1, hb⟩ := info_u8
  by_cases hr : n + m ≤ cap
  · have hrow : w.heap[g]? = some (.cells (AZ .u8 cap (UB (bt x))) 5) := H.row 1 rfl
    have hlen : (AZ .u8 m fun _ => 0).toList.length = m := by rw [Array.length_toList, AZ_size]
    have hrun := run_append_room (P := Tryz.prog) (w := w) 22 ty 5 ie Tryz.underlying22 hie g n cap _ hrow ⟨gz, 0, none⟩ m c' (AZ .u8 m fun _ => 0).toList (by rw [hs1, hlen, Nat.mul_one])
      (fun j u hu => by
        have hj : j < m := by
          have := (List.getElem?_eq_some_iff.1 hu).1
          rwa [hlen] at this
        have h2 := hnew j hj
        rw [Addr.add_mid, h2, ← hu, Array.getElem?_toList, AZ_get _ _ _ _ hj]) cells_one hr (by rw [hs1, AZ_size, hlen]; omega)
    have e : ((AZ .u8 cap (UB (bt x))).toList.take (n * ie.size) ++ (AZ .u8 m fun _ => 0).toList ++ (AZ .u8 cap (UB (bt x))).toList.drop (n * ie.size + (AZ .u8 m fun _ => 0).toList.length)).toArray = AZ .u8 cap (UB (bt x)) := by
      have h2 := AZ_mid .u8 cap (UB (bt x)) (fun _ => 0) n m (by omega)
      rw [hs1, Nat.mul_one, hlen]
      refine h2.trans (AZ_congr fun j _ => ?_)
      unfold layZ
      split
      · exact (hz0 j (by omega)).symm
      · rfl
    rw [e] at hrun
    exact ⟨_, _, _, hrun, hr, (H.setRow 1 rfl (UB (bt x))).pop⟩
  · have hcn : ∀ j, j < n → w.cell? ⟨g, 0 + j, none⟩ = some (.int .u8 (UB (bt x) j)) := fun j hj => by
      rw [Nat.zero_add]
      exact H.cell 1 rfl j (by omega)
    have hcm : ∀ j, j < m → w.cell? ⟨gz, 0 + j, none⟩ = some (.int .u8 (UB (bt x) (n + j))) := fun j hj => by
      rw [hnew j hj, hz0 (n + j) (by omega)]
    obtain ⟨k, hk, hrun⟩ := run_grown (w := w) (f := UB (bt x)) (m := m) (c := cap) (c' := c') Tryz.underlying22 info_b hcn hcm (fun j hj => hz0 j (by omega)) (by omega) (by omega) ty
    have hO := H.grew (YB k (bt x))
    refine ⟨_, _, _, hrun, hk, ⟨hO.bel, fun y hy => hO.has y ?_, fun y hy => hO.new y ?_, ?_⟩⟩
    · rcases List.mem_cons.1 hy with rfl | hy
      · exact .head _
      · exact .tail _ (.tail _ (.tail _ hy))
    · rcases List.mem_cons.1 hy with rfl | hy
      · exact .head _
      · exact .tail _ (.tail _ (.tail _ hy))
    · have h := hO.apart
      rw [List.pairwise_cons] at h
      obtain ⟨h1, h2⟩ := h
      rw [List.pairwise_cons, List.pairwise_cons] at h2
      exact List.Pairwise.cons (fun y hy => h1 y (.tail _ (.tail _ hy))) h2.2.2
end
section
variable {ops : Array Oper} {rest : List Oper} {o : Oper} {a : Act} {w w0 : World} {l : List (Nat × Obj)} {Q : Exit → Act → World → Prop}
theorem lay_b3 {x : Nat} (H : Hid (Ow w0 w l)) (hgd : o.guard = none) {p0 p1 p2 : Operand} (ho : o.op = .buildSlice 22 3 #[(0, p0), (1, p1), (2, p2)]) (h0 : a.eval p0 = U (bt x 0)) (h1 : a.eval p1 = U (bt x 1)) (h2 : a.eval p2 = U (bt x 2))
    (h : ∀ w' g, Hid (Ow w0 w' ((g, YB 3 (bt x)) :: l)) → ∀ K : Act → World → Prop, (∀ a w, wpList Tryz.prog ops Q rest a w → K a w) → K (a.put o.dst (.slice (some ⟨g, 0, none⟩) 3 3)) w') : wpList Tryz.prog ops Q (o :: rest) a w :=
  wpList_plain hgd fun K hK => by
    obtain ⟨i, hi, hz, hs, _⟩ := info_u8
    have e := az_3 (bt x)
    refine Go.wp_buildSlice 22 5 3 _ ho #[U (bt x 0), U (bt x 1), U (bt x 2)] i _ Tryz.underlying22 hi hz (by rw [hs]; decide) (by rw [hs]; decide) (by rw [hs]; simp [Instr.fill, h0, h1, h2, Array.range, Value.cells]; exact Array.ext (by simp) (fun j g1 g2 => by rcases (by have : j < 3 := (by simpa using g2); omega : j = 0 ∨ j = 1 ∨ j = 2) with rfl | rfl | rfl <;> simp)) ?_
    rw [e]
    exact h _ _ (Lib.hid (H.out.alloc _)) K hK
theorem own_putZ {g gz cap x m N : Nat} (H : Hid (Ow w0 w ((gz, YB m (bt 0)) :: (g, YB cap (bt x)) :: l))) (hgd : o.guard = none) {s y : Operand} (ho : o.op = .call { callee := .builtin .append, args := #[s, y], argTypes := #[22, 22] })
    {n c' : Nat} (hs : a.eval s = .slice (some ⟨g, 0, none⟩) n cap) (hy : a.eval y = .slice (some ⟨gz, 0, none⟩) m c') (hc : n ≤ cap) (hx : x < 2 ^ (8 * n)) (hn : n ≤ 1000) (h0 : 0 < m) (hm : m ≤ 1000) (hN : n + m = N)
    (h : ∀ w' g' k, Hid (N ≤ k) → Hid (Ow w0 w' ((g', YB k (bt x)) :: l)) → ∀ K : Act → World → Prop, (∀ a w, wpList Tryz.prog ops Q rest a w → K a w) → K (a.put o.dst (.slice (some ⟨g', 0, none⟩) N k)) w') :
    wpList Tryz.prog ops Q (o :: rest) a w :=
  wpList_plain hgd fun K hK => by
    subst hN
    obtain ⟨g', k, w', hr, h1, h2⟩ := run_putZ (c' := c') H.out hc hx hn h0 hm o.type
    exact Lib.wp_append_run _ s y _ _ ho _ _ hs hy _ _ hr (h _ _ _ (Lib.hid h1) (Lib.hid h2) K hK)
theorem run_len0 (b : Option Addr) (d : Nat) (w : World) : (Builtin.lenOf (.slice b 0 d)).run Tryz.prog w = .ok 0 w := by
  simp [Builtin.lenOf]
theorem run_first0 (b : Option Addr) (d : Nat) (w : World) : (Builtin.firstCells 1 0 (.slice b 0 d)).run Tryz.prog w = .ok #[] w := by
  cases b with
  | none => simp [Builtin.firstCells]
  | some a => simp [Builtin.firstCells, loadCells, loadCellsFrom]
theorem run_app0 (b : Option Addr) (d : Nat) (ty : TypeId) (w : World) : (Builtin.append_ #[22, 22] ty #[.slice none 0 0, .slice b 0 d]).run Tryz.prog w = .ok (.slice none 0 0) w := by
  obtain ⟨i, hi, hz, hs1, hb⟩ := info_u8
  simp [Builtin.append_, Sem.run_bind, run_underlying Tryz.underlying22 w, sizeOf, typeInfo, hi, hs1, run_len0, run_first0]
/-- Nothing is appended onto nil. -/
theorem lay_app0 (hgd : o.guard = none) {s y : Operand} (ho : o.op = .call { callee := .builtin .append, args := #[s, y], argTypes := #[22, 22] }) (hs : a.eval s = .slice none 0 0) {b : Option Addr} {d : Nat} (hy : a.eval y = .slice b 0 d)
    (h : ∀ K : Act → World → Prop, (∀ a w, wpList Tryz.prog ops Q rest a w → K a w) → K (a.put o.dst (.slice none 0 0)) w) : wpList Tryz.prog ops Q (o :: rest) a w :=
  wpList_plain hgd fun K hK => Lib.wp_append_run _ s y _ _ ho _ _ hs hy _ _ (run_app0 b d o.type w) (h K hK)
end
end Go.Proofs.YtkkmjlkeohkgnaaGreatDoor
