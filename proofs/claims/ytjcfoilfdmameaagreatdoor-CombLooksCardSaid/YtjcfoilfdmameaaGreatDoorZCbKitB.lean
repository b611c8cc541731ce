/-
  From a law's contract to its row, where a slice of spots comes in.
-/
import Derived.Test.YtjcfoilfdmameaaGreatDoorZCbKit
import Derived.Test.YtjcfoilfdmameaaGreatDoorZCbPts
namespace Go.Proofs.YtjcfoilfdmameaaGreatDoor
open Go.ChangeShapes Go.WideShapes Go.ChangeAt Go.RowKit

section
variable {H : Type} {enc : TypeId × Value → H}
set_option maxRecDepth 20000 in
theorem open_spots {W : World} {base : Nat} {v : Value} {d : DataW H} {p : List MemPlace} (hv : Value.okWide Tryz.prog W .any base 22 v) (h : DataW.Trod enc Tryz.prog W 0 (fun _ => true) true 22 v d p) :
    ∃ a n c N Z, v = .slice a n c ∧ Spots W W.heap.size a n c N Z := by
  obtain ⟨a0, len, cap, rfl⟩ := okWide_slice Tryz.underlying22 hv
  obtain ⟨fuel, hf⟩ := h
  rcases Go.Deep.open_slice Tryz.underlying22 hf with ⟨hcs, _⟩ | ⟨a, len', cap', m, n, D, Pl, hcs, _, hl, hm, hmm, _, hel⟩
  · simp [Value.cells] at hcs
    obtain ⟨rfl, rfl, rfl⟩ := hcs
    exact ⟨none, 0, 0, fun _ => 0, fun _ => 0, rfl, Nat.le_refl _, (fun _ => rfl), (fun _ e _ => by cases e)⟩
  · simp [Value.cells] at hcs
    obtain ⟨rfl, rfl, rfl⟩ := hcs
    simp only [if_true] at hmm
    subst hmm
    rw [cellsSp11] at hel
    have each : ∀ i, i < m → ∃ q : Nat × Int, (∃ ai ci xi, Sb W W.heap.size ai q.1 ci xi ∧ W.cell? ((a.add (i * 2)).add 0) = some (.slice ai q.1 ci)) ∧ W.cell? ((a.add (i * 2)).add 1) = some (.int .i64 q.2) := fun i hi => by
      obtain ⟨cs', h1, h2⟩ := hel i hi
      obtain ⟨x, y, rfl, hx, hy⟩ := cells_two h1
      obtain ⟨ai, ni, ci, qi, z, rfl, rfl, hs⟩ := open_spot2 h2
      exact ⟨(ni, z), ⟨ai, ci, qi, hs, hx⟩, hy⟩
    obtain ⟨q, hq⟩ := Go.Deep.choose_lt each
    refine ⟨some a, len, m, fun i => (q i).1, fun i => (q i).2, rfl, hl, (fun e => by cases e), fun ad e h0 => ?_⟩
    obtain rfl := Option.some.inj e
    obtain ⟨⟨_, _, _, _, h00⟩, _⟩ := hq 0 (by omega)
    rw [Nat.zero_mul] at h00
    obtain ⟨b, o, rfl, hb⟩ : ∃ b o, a = ⟨b, o, none⟩ ∧ b < W.heap.size := by
      rw [Go.Deep.add_add] at h00
      exact addr_cell h00
    refine ⟨b, o, rfl, hb, fun i hi => ?_⟩
    obtain ⟨⟨ai, ci, xi, hs, h1⟩, h2⟩ := hq i (by omega)
    rw [Go.Deep.add_add, Addr.add_mid] at h1 h2
    exact ⟨ai, ci, xi, hs, h1, h2⟩
end
end Go.Proofs.YtjcfoilfdmameaaGreatDoor
