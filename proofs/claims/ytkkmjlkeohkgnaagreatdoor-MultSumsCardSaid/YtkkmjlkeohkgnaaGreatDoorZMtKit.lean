/-
  From a law's contract to its row, where two spots, a bool, terms come in.
-/
import Derived.Test.YtkkmjlkeohkgnaaGreatDoorZCbKit
import Derived.Test.YtkkmjlkeohkgnaaGreatDoorZMtOnes
namespace Go.Proofs.YtkkmjlkeohkgnaaGreatDoor
open Go.ChangeShapes Go.WideShapes Go.ChangeAt Go.RowKit

theorem cellsS2 : Tryz.prog.cellsOf 49 = 4 := by kernel_rfl
theorem cellsOne12 : Tryz.prog.cellsOf 58 = 3 := by kernel_rfl
theorem four_of {cs : Array Value} (h : cs.size = 4) : ∃ x y z u, cs = #[x, y, z, u] ∧ cs.toList = [x, y, z, u] := by
  obtain ⟨l⟩ := cs
  match l, h with
  | [x, y, z, u], _ => exact ⟨x, y, z, u, rfl, rfl⟩
theorem cells_three {w : World} {base : Nat} {a : Addr} {cs : List Value} (h : w.cells? base a 3 = some cs) : ∃ x y z, cs = [x, y, z] ∧ w.cell? (a.add 0) = some x ∧ w.cell? (a.add 1) = some y ∧ w.cell? (a.add 2) = some z := by
  unfold World.cells? at h
  split at h
  · rw [show List.range 3 = [0, 1, 2] from rfl] at h
    cases h0 : w.cell? (a.add 0) with
    | none => simp [h0] at h
    | some x =>
      cases h1 : w.cell? (a.add 1) with
      | none => simp [h0, h1] at h
      | some y =>
        cases h2 : w.cell? (a.add 2) with
        | none => simp [h0, h1, h2] at h
        | some z =>
          simp [h0, h1, h2] at h
          exact ⟨x, y, z, h.symm, rfl, rfl, rfl⟩
  · cases h
section
variable {H : Type} {enc : TypeId × Value → H}
set_option maxRecDepth 20000 in
theorem open_bool12 {W : World} {base b : Nat} {sp : Nat → Bool} {held : Bool} {v : Value} {d : DataW H} {p : List MemPlace} (hv : Value.okWide Tryz.prog W .any base 4 v) (_h : DataW.Trod enc Tryz.prog W b sp held 4 v d p) : ∃ q, v = .bool q := by
  obtain ⟨q, rfl⟩ := okWide_bool Tryz.underlying4 hv
  exact ⟨q, rfl⟩
set_option maxRecDepth 20000 in
theorem open_sps {W : World} {base : Nat} {v : Value} {d : DataW H} {p : List MemPlace} (hv : Value.okWide Tryz.prog W .any base 49 v) (h : DataW.Trod enc Tryz.prog W 0 (fun _ => true) true 49 v d p) :
    ∃ a n c q z a' n' c' q' z', v = .agg #[.slice a n c, .int .i64 z, .slice a' n' c', .int .i64 z'] ∧ Sb W W.heap.size a n c q ∧ Sb W W.heap.size a' n' c' q' := by
  obtain ⟨cs, rfl, hsz, _⟩ : ∃ cs, v = .agg cs ∧ cs.size = Tryz.prog.cellsOf 49 ∧ Row.okWide Tryz.prog W .any base 49 cs := by
    simpa [Value.okWide, Tryz.underlying49] using hv
  rw [cellsS2] at hsz
  obtain ⟨fuel, hf⟩ := h
  obtain ⟨x, y, x', y', rfl, e⟩ := four_of hsz
  obtain ⟨xs, m, _, _, _, hxl, hel⟩ := DataW.trod_array Tryz.underlying49 hf
  have h0 := hel 0 (by omega)
  have h1 := hel 1 (by omega)
  rw [cellsSp11, List.getElem?_eq_getElem (by omega)] at h0 h1
  obtain ⟨a, n, c, q, z, hx, hy, hs⟩ := open_spot2 (x := x) (y := y) h0
  obtain ⟨a', n', c', q', z', hx', hy', hs'⟩ := open_spot2 (x := x') (y := y') h1
  exact ⟨a, n, c, q, z, a', n', c', q', z', by rw [hx, hy, hx', hy'], hs, hs'⟩
theorem open_one3 {W : World} {fuel : Nat} {x y u : Value} {r : DataW H × List MemPlace} (h : DataW.trod enc Tryz.prog W 0 (fun _ => true) true fuel 58 [x, y, u] = some r) :
    ∃ a n c q a' n' c' q' z, x = .slice a n c ∧ Sb W W.heap.size a n c q ∧ y = .slice a' n' c' ∧ Sb W W.heap.size a' n' c' q' ∧ u = .int .i64 z := by
  obtain ⟨xs, n, _, _, _, hl, hel⟩ := DataW.trod_struct Tryz.underlying58 h
  have hl2 : xs.length = 2 := hl
  have h0 : DataW.trod enc Tryz.prog W 0 (fun _ => true) true n 22 (([x, y, u].drop 0).take (Tryz.prog.cellsOf 22)) = some (xs[0]'(by omega)) := (hel 0 _ rfl).trans (List.getElem?_eq_getElem (by omega))
  have h1 : DataW.trod enc Tryz.prog W 0 (fun _ => true) true n 24 (([x, y, u].drop 1).take (Tryz.prog.cellsOf 24)) = some (xs[1]'(by omega)) := (hel 1 _ rfl).trans (List.getElem?_eq_getElem (by omega))
  rw [cellsBs1] at h0
  rw [cellsSp11] at h1
  obtain ⟨a, m, c, q, hx, hs⟩ := open_num h0
  obtain ⟨a', n', c', q', z, hy, hu, hs'⟩ := open_spot2 (x := y) (y := u) h1
  exact ⟨a, m, c, q, a', n', c', q', z, hx, hs, hy, hs', hu⟩
set_option maxRecDepth 20000 in
theorem open_ones {W : World} {base : Nat} {v : Value} {d : DataW H} {p : List MemPlace} (hv : Value.okWide Tryz.prog W .any base 54 v) (h : DataW.Trod enc Tryz.prog W 0 (fun _ => true) true 54 v d p) :
    ∃ a n c A N C X K Z, v = .slice a n c ∧ Ones W W.heap.size a n c A N C X K Z := by
  obtain ⟨a0, len, cap, rfl⟩ := okWide_slice Tryz.underlying54 hv
  obtain ⟨fuel, hf⟩ := h
  rcases Go.Deep.open_slice Tryz.underlying54 hf with ⟨hcs, _⟩ | ⟨a, len', cap', m, n, D, Pl, hcs, _, hl, hm, hmm, _, hel⟩
  · simp [Value.cells] at hcs
    obtain ⟨rfl, rfl, rfl⟩ := hcs
    exact ⟨none, 0, 0, fun _ => none, fun _ => 0, fun _ => 0, fun _ => 0, fun _ => 0, fun _ => 0, rfl, Nat.le_refl _, (fun _ => rfl), (fun _ e _ => by cases e)⟩
  · simp [Value.cells] at hcs
    obtain ⟨rfl, rfl, rfl⟩ := hcs
    simp only [if_true] at hmm
    subst hmm
    rw [cellsOne12] at hel
    have each : ∀ i, i < m → ∃ q : (Option Addr × Nat × Nat × Nat) × Nat × Int, (Sb W W.heap.size q.1.1 q.1.2.1 q.1.2.2.1 q.1.2.2.2 ∧ W.cell? ((a.add (i * 3)).add 0) = some (.slice q.1.1 q.1.2.1 q.1.2.2.1)) ∧
        (∃ ki kc kx, Sb W W.heap.size ki q.2.1 kc kx ∧ W.cell? ((a.add (i * 3)).add 1) = some (.slice ki q.2.1 kc)) ∧ W.cell? ((a.add (i * 3)).add 2) = some (.int .i64 q.2.2) := fun i hi => by
      obtain ⟨cs', h1, h2⟩ := hel i hi
      obtain ⟨x, y, u, rfl, hx, hy, hu⟩ := cells_three h1
      obtain ⟨ai, ni, ci, qi, a', n', c', q', z, rfl, hs, rfl, hs', rfl⟩ := open_one3 h2
      exact ⟨((ai, ni, ci, qi), n', z), ⟨hs, hx⟩, ⟨a', c', q', hs', hy⟩, hu⟩
    obtain ⟨q, hq⟩ := Go.Deep.choose_lt each
    refine ⟨some a, len, m, fun i => (q i).1.1, fun i => (q i).1.2.1, fun i => (q i).1.2.2.1, fun i => (q i).1.2.2.2, fun i => (q i).2.1, fun i => (q i).2.2, rfl, hl, (fun e => by cases e), fun ad e h0 => ?_⟩
    obtain rfl := Option.some.inj e
    obtain ⟨⟨_, h00⟩, _⟩ := hq 0 (by omega)
    rw [Nat.zero_mul] at h00
    obtain ⟨b, o, rfl, hb⟩ : ∃ b o, a = ⟨b, o, none⟩ ∧ b < W.heap.size := by
      rw [Go.Deep.add_add] at h00
      exact addr_cell h00
    refine ⟨b, o, rfl, hb, fun i hi => ?_⟩
    obtain ⟨⟨hs, h1⟩, ⟨ki, kc, kx, hk, h2⟩, h3⟩ := hq i (by omega)
    rw [Go.Deep.add_add, Addr.add_mid] at h1 h2 h3
    exact ⟨hs, h1, ki, kc, kx, hk, h2, h3⟩
end
end Go.Proofs.YtkkmjlkeohkgnaaGreatDoor
