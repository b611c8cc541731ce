/-
  Raw bytes as a row of the caller's own; four noughts appended. No statement is proved here: lemmas for the walks.
-/
import Derived.Test.YtckmboebipbpbaaDoorBuV
import Derived.Test.YtckmboebipbpbaaDoorBuE
namespace Go.Proofs.YtckmboebipbpbaaDoor
open Go.RowKit

set_option maxRecDepth 8000 in
set_option maxHeartbeats 1600000 in
theorem lawBytes_row {f : Nat → BitVec 8} {x : Nat} (w : World) (hx : x < 2 ^ (8 * 56)) (he : ∀ i, i < 56 → bt x i = f i) :
    Calls Tryd.prog 25 #[.agg (AZ .u8 56 (UB f))] w fun e w' => ∃ g c, e = .returned (.slice (some ⟨g, 0, none⟩) 56 c) ∧ 56 ≤ c ∧ w.heap.size ≤ g ∧ w'.heap[g]? = some (YB c (bt x)) ∧ Below w.heap.size w w' := by
  have e : AZ .u8 56 (UB f) = AZ .u8 56 (UB (bt x)) := AZ_congr fun i hi => by
    unfold UB
    rw [he i hi]
  rw [e]
  have H0 : Hid (∀ j, 56 ≤ j → bt x j = 0) := Lib.hid fun j hj => bt_over hx hj
  clear e he hx
  have H := Lib.hid (Ow.start w)
  go_enter Tryd.func25, Tryd.ntmps25
  go_wp2_with (first
    | ((fail_if_success have := g1); (with_reducible apply own_box H); (case hgd => exact rfl); (case ho => exact rfl); (case hx => exact rfl); intro w1 g1 H' _ _; replace H := H'; clear H'; go_simp)
    | ((with_reducible apply own_new H); (case hgd => exact rfl); (case ho => exact rfl); (case hs => exact rfl); (case hx => exact rfl); (case hS => exact rawSl (H.out.row 0 rfl)); (case h0 => exact H0.out); (case hn => omega); (case hl => omega); intro w3 g3 c3 LC H' _ _; replace H := H'; clear H'; go_simp))
  go_ret
  exact ⟨g3, c3, rfl, LC.out, H.out.ge 0 rfl, H.out.row 0 rfl, H.out.bel⟩
theorem ybc_sb {w : World} {g c n x : Nat} (h : w.heap[g]? = some (YB c (bt x))) (hc : n ≤ c) (hx : x < 2 ^ (8 * n)) : Sb w w.heap.size (some ⟨g, 0, none⟩) n c x :=
  ⟨⟨hc, (fun e => by cases e), fun ad e _ => ⟨g, 0, (Option.some.inj e).symm, lt_row h, fun i hi => by rw [Nat.zero_add]; exact (blk_rowB h).cell i (by omega)⟩⟩, hx⟩
section
variable {w w0 : World} {l : List (Nat × Obj)}
theorem run_put4 {g n cap x c' : Nat} (H : Ow w0 w ((g, YB cap (bt x)) :: l)) (hc : n ≤ cap) (hx : x < 2 ^ (8 * n)) (hn : n ≤ 1000) (ty : TypeId) :
    ∃ g' k w', (Builtin.append_ #[44, 44] ty #[.slice (some ⟨g, 0, none⟩) n cap, .slice (some ⟨w.heap.size, 0, none⟩) 4 c']).run Tryd.prog (w.alloc (.cells #[.int .u8 0, .int .u8 0, .int .u8 0, .int .u8 0] 5)) = .ok (.slice (some ⟨g', 0, none⟩) (n + 4) k) w' ∧
      n + 4 ≤ k ∧ Ow w0 w' ((g', YB k (bt x)) :: l) := by
  have HA := H.alloc (.cells #[.int .u8 0, .int .u8 0, .int .u8 0, .int .u8 0] 5)
  have hz0 : ∀ j, n ≤ j → UB (bt x) j = 0 := fun j hj => by
    unfold UB
    rw [bt_over hx hj]
    rfl
  have hnew : ∀ j, j < 4 → (w.alloc (.cells #[.int .u8 0, .int .u8 0, .int .u8 0, .int .u8 0] 5)).cell? ⟨w.heap.size, 0 + j, none⟩ = some (.int .u8 0) := fun j hj => by
    rcases (by omega : j = 0 ∨ j = 1 ∨ j = 2 ∨ j = 3) with rfl | rfl | rfl | rfl <;> simp
  obtain ⟨ie, hie, hz, hs1, hb⟩ := info_u8
  by_cases hr : n + 4 ≤ cap
  · have hrow : (w.alloc (.cells #[.int .u8 0, .int .u8 0, .int .u8 0, .int .u8 0] 5)).heap[g]? = some (.cells (AZ .u8 cap (UB (bt x))) 5) := HA.row 1 rfl
    have hrun := run_append_room (P := Tryd.prog) (w := w.alloc (.cells #[.int .u8 0, .int .u8 0, .int .u8 0, .int .u8 0] 5)) 44 ty 5 ie Tryd.underlying44 hie g n cap _ hrow ⟨w.heap.size, 0, none⟩ 4 c' [.int .u8 0, .int .u8 0, .int .u8 0, .int .u8 0] (by rw [hs1]; rfl)
      (fun j u hu => by
        have hj : j < 4 := by
          have := (List.getElem?_eq_some_iff.1 hu).1
          simpa using this
        have h2 := hnew j hj
        rw [Addr.add_mid, ← hu, h2]
        rcases (by omega : j = 0 ∨ j = 1 ∨ j = 2 ∨ j = 3) with rfl | rfl | rfl | rfl <;> rfl)
      (fun u hu => by
        simp at hu
        subst hu
        rfl) hr (by rw [hs1, AZ_size]; simpa using hr)
    have e : ((AZ .u8 cap (UB (bt x))).toList.take (n * ie.size) ++ [Value.int .u8 0, .int .u8 0, .int .u8 0, .int .u8 0] ++ (AZ .u8 cap (UB (bt x))).toList.drop (n * ie.size + [Value.int .u8 0, .int .u8 0, .int .u8 0, .int .u8 0].length)).toArray = AZ .u8 cap (UB (bt x)) := by
      have h2 := AZ_mid .u8 cap (UB (bt x)) (fun _ => 0) n 4 (by omega)
      have h3 : (AZ .u8 4 fun _ => 0).toList = [.int .u8 0, .int .u8 0, .int .u8 0, .int .u8 0] := by
        have h4 : AZ .u8 4 (fun _ => 0) = AZ .u8 4 (UB fun _ => 0) := AZ_congr fun _ _ => rfl
        rw [h4, ← az_4 (fun _ => 0)]
        rfl
      rw [h3] at h2
      rw [hs1, Nat.mul_one]
      refine h2.trans (AZ_congr fun j _ => ?_)
      unfold layZ
      split
      · exact (hz0 j (by omega)).symm
      · rfl
    rw [e] at hrun
    have hO := HA.setRow 1 rfl (UB (bt x))
    exact ⟨_, _, _, hrun, hr, hO.pop⟩
  · have hcn : ∀ j, j < n → (w.alloc (.cells #[.int .u8 0, .int .u8 0, .int .u8 0, .int .u8 0] 5)).cell? ⟨g, 0 + j, none⟩ = some (.int .u8 (UB (bt x) j)) := fun j hj => by
      rw [Nat.zero_add]
      exact HA.cell 1 rfl j (by omega)
    have hcm : ∀ j, j < 4 → (w.alloc (.cells #[.int .u8 0, .int .u8 0, .int .u8 0, .int .u8 0] 5)).cell? ⟨w.heap.size, 0 + j, none⟩ = some (.int .u8 (UB (bt x) (n + j))) := fun j hj => by
      rw [hnew j hj, hz0 (n + j) (by omega)]
    obtain ⟨k, hk, hrun⟩ := run_grown (w := w.alloc (.cells #[.int .u8 0, .int .u8 0, .int .u8 0, .int .u8 0] 5)) (f := UB (bt x)) (m := 4) (c := cap) (c' := c') Tryd.underlying44 info_b hcn hcm (fun j hj => hz0 j (by omega)) (by omega) (by omega) ty
    have hO := HA.grew (YB k (bt x))
    refine ⟨_, _, _, hrun, hk, ⟨hO.bel, fun y hy => hO.has y ?_, fun y hy => hO.new y ?_, ?_⟩⟩
    · rcases List.mem_cons.1 hy with rfl | hy
      · exact .head _
      · exact .tail _ (.tail _ (.tail _ hy))
    · rcases List.mem_cons.1 hy with rfl | hy
      · exact .head _
      · exact .tail _ (.tail _ (.tail _ hy))
    · have h := hO.apart
      rw [List.pairwise_cons] at h
      obtain ⟨h1, h2⟩ := h
      rw [List.pairwise_cons, List.pairwise_cons] at h2
      exact List.Pairwise.cons (fun y hy => h1 y (.tail _ (.tail _ hy))) h2.2.2
end
section
variable {ops : Array Oper} {rest : List Oper} {o : Oper} {a : Act} {w w0 : World} {l : List (Nat × Obj)} {Q : Exit → Act → World → Prop}
theorem own_put4 {g cap x N : Nat} (H : Hid (Ow w0 w ((g, YB cap (bt x)) :: l))) (hgd : o.guard = none) {s y : Operand} (ho : o.op = .call { callee := .builtin .append, args := #[s, y], argTypes := #[44, 44] })
    {n c' : Nat} (hs : a.eval s = .slice (some ⟨g, 0, none⟩) n cap) (hy : a.eval y = .slice (some ⟨w.heap.size, 0, none⟩) 4 c') (hc : n ≤ cap) (hx : x < 2 ^ (8 * n)) (hn : n ≤ 1000) (hN : n + 4 = N)
    (h : ∀ w' g' k, Hid (N ≤ k) → Hid (Ow w0 w' ((g', YB k (bt x)) :: l)) → ∀ K : Act → World → Prop, (∀ a w, wpList Tryd.prog ops Q rest a w → K a w) → K (a.put o.dst (.slice (some ⟨g', 0, none⟩) N k)) w') :
    wpList Tryd.prog ops Q (o :: rest) a (w.alloc (.cells #[.int .u8 0, .int .u8 0, .int .u8 0, .int .u8 0] 5)) :=
  wpList_plain hgd fun K hK => by
    subst hN
    obtain ⟨g', k, w', hr, h1, h2⟩ := run_put4 (c' := c') H.out hc hx hn o.type
    exact Lib.wp_append_run _ s y _ _ ho _ _ hs hy _ _ hr (h _ _ _ (Lib.hid h1) (Lib.hid h2) K hK)
end
end Go.Proofs.YtckmboebipbpbaaDoor
