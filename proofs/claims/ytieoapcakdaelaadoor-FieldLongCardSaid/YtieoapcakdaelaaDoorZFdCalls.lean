/-
  What comes in to FieldLong: a slice of calls.
-/
import Derived.Test.YtieoapcakdaelaaDoorZFdKit
import Derived.Test.YtieoapcakdaelaaDoorZFdLong3
import Derived.Deep.Slices
namespace Go.Proofs.YtieoapcakdaelaaDoor
open Go.ChangeShapes Go.WideShapes Go.ChangeAt Go.RowKit

theorem cellsCall : Tryd.prog.cellsOf 39 = 4 := by kernel_rfl
theorem addr_of_cell {w : World} {a : Addr} {v : Value} (h : w.cell? (a.add 0) = some v) : ∃ b o, a = ⟨b, o, none⟩ ∧ b < w.heap.size := by
  obtain ⟨b, o, sp⟩ := a
  have hsp : sp = none := by
    cases sp with
    | none => rfl
    | some k =>
      exfalso
      unfold World.cell? at h
      simp [Addr.add] at h
      split at h <;> simp_all
  subst hsp
  refine ⟨b, o, rfl, ?_⟩
  have := block_lt_of_cell h
  simpa [Addr.add] using this
theorem cells_four {w : World} {base : Nat} {a : Addr} {cs : List Value} (h : w.cells? base a 4 = some cs) : ∃ x y z u, cs = [x, y, z, u] ∧ w.cell? (a.add 0) = some x ∧ w.cell? (a.add 1) = some y ∧ w.cell? (a.add 2) = some z ∧ w.cell? (a.add 3) = some u := by
  unfold World.cells? at h
  split at h
  · rw [show List.range 4 = [0, 1, 2, 3] from rfl] at h
    cases h0 : w.cell? (a.add 0) with
    | none => simp [h0] at h
    | some x =>
      cases h1 : w.cell? (a.add 1) with
      | none => simp [h0, h1] at h
      | some y =>
        cases h2 : w.cell? (a.add 2) with
        | none => simp [h0, h1, h2] at h
        | some z =>
          cases h3 : w.cell? (a.add 3) with
          | none => simp [h0, h1, h2, h3] at h
          | some u =>
            simp [h0, h1, h2, h3] at h
            exact ⟨x, y, z, u, h.symm, rfl, rfl, rfl, rfl⟩
  · cases h
section
variable {H : Type} {enc : TypeId × Value → H}
theorem open_call {W : World} {fuel : Nat} {x y z u : Value} {r : DataW H × List MemPlace} (h : DataW.trod enc Tryd.prog W 0 (fun _ => true) true fuel 39 [x, y, z, u] = some r) :
    ∃ q : Nat → Int, x = .int .i64 (q 0) ∧ y = .int .i64 (q 1) ∧ z = .int .i64 (q 2) ∧ u = .int .i64 (q 3) ∧ -9223372036854775808 ≤ q 3 ∧ q 3 ≤ 9223372036854775807 := by
  obtain ⟨xs, n, _, _, _, hl, hel⟩ := DataW.trod_struct Tryd.underlying39 h
  have hl4 : xs.length = 4 := hl
  have h0 : DataW.trod enc Tryd.prog W 0 (fun _ => true) true n 3 (([x, y, z, u].drop 0).take (Tryd.prog.cellsOf 3)) = some (xs[0]'(by omega)) := (hel 0 _ rfl).trans (List.getElem?_eq_getElem (by omega))
  have h1 : DataW.trod enc Tryd.prog W 0 (fun _ => true) true n 3 (([x, y, z, u].drop 1).take (Tryd.prog.cellsOf 3)) = some (xs[1]'(by omega)) := (hel 1 _ rfl).trans (List.getElem?_eq_getElem (by omega))
  have h2 : DataW.trod enc Tryd.prog W 0 (fun _ => true) true n 3 (([x, y, z, u].drop 2).take (Tryd.prog.cellsOf 3)) = some (xs[2]'(by omega)) := (hel 2 _ rfl).trans (List.getElem?_eq_getElem (by omega))
  have h3 : DataW.trod enc Tryd.prog W 0 (fun _ => true) true n 3 (([x, y, z, u].drop 3).take (Tryd.prog.cellsOf 3)) = some (xs[3]'(by omega)) := (hel 3 _ rfl).trans (List.getElem?_eq_getElem (by omega))
  rw [cells3] at h0 h1 h2 h3
  obtain ⟨k0, hk0, _, _⟩ := DataW.trod_int Tryd.underlying3 h0
  obtain ⟨k1, hk1, _, _⟩ := DataW.trod_int Tryd.underlying3 h1
  obtain ⟨k2, hk2, _, _⟩ := DataW.trod_int Tryd.underlying3 h2
  obtain ⟨k3, hk3, _, hw⟩ := DataW.trod_int Tryd.underlying3 h3
  simp at hk0 hk1 hk2 hk3
  exact ⟨fun i => if i = 0 then k0 else if i = 1 then k1 else if i = 2 then k2 else k3, hk0, hk1, hk2, hk3, i64_bd hw⟩
set_option maxRecDepth 8000 in
theorem open_calls {W : World} {base : Nat} {v : Value} {d : DataW H} {p : List MemPlace}
    (hv : Value.okWide Tryd.prog W .any base 24 v) (h : DataW.Trod enc Tryd.prog W 0 (fun _ => true) true 24 v d p) : ∃ a n c q, v = .slice a n c ∧ n ≤ maxLen ∧ SlC W W.heap.size a n c q := by
  obtain ⟨a0, len, cap, rfl⟩ := okWide_slice Tryd.underlying24 hv
  obtain ⟨fuel, hf⟩ := h
  rcases Go.Deep.open_slice Tryd.underlying24 hf with ⟨hcs, _⟩ | ⟨a, len', cap', m, n, D, Pl, hcs, _, hl, hm, hmm, _, hel⟩
  · simp [Value.cells] at hcs
    obtain ⟨rfl, rfl, rfl⟩ := hcs
    exact ⟨none, 0, 0, fun _ _ => 0, rfl, Nat.zero_le _, Nat.le_refl _, fun _ => rfl, (fun _ e _ => by cases e), fun _ h => by omega⟩
  · simp [Value.cells] at hcs
    obtain ⟨rfl, rfl, rfl⟩ := hcs
    simp only [if_true] at hmm
    subst hmm
    rw [cellsCall] at hel
    have each : ∀ i, i < m → ∃ q : Nat → Int, W.cell? ((a.add (i * 4)).add 0) = some (.int .i64 (q 0)) ∧ W.cell? ((a.add (i * 4)).add 1) = some (.int .i64 (q 1)) ∧ W.cell? ((a.add (i * 4)).add 2) = some (.int .i64 (q 2)) ∧ W.cell? ((a.add (i * 4)).add 3) = some (.int .i64 (q 3)) ∧ -9223372036854775808 ≤ q 3 ∧ q 3 ≤ 9223372036854775807 := fun i hi => by
      obtain ⟨cs', h1, h2⟩ := hel i hi
      obtain ⟨x, y, z, u, rfl, hx, hy, hz, hu⟩ := cells_four h1
      obtain ⟨q, rfl, rfl, rfl, rfl, hs⟩ := open_call h2
      exact ⟨q, hx, hy, hz, hu, hs⟩
    have : Inhabited (Nat → Int) := ⟨fun _ => 0⟩
    obtain ⟨q, hq⟩ := Go.Deep.choose_lt each
    refine ⟨some a, len, m, q, rfl, Nat.le_trans hl hm, hl, (fun e => by cases e), fun ad e h0 => ?_, fun i hi => (hq i (by omega)).2.2.2.2⟩
    obtain rfl := Option.some.inj e
    have h00 := (hq 0 (by omega)).1
    rw [Nat.zero_mul] at h00
    obtain ⟨b, o, rfl, hb⟩ : ∃ b o, a = ⟨b, o, none⟩ ∧ b < W.heap.size := by
      rw [Go.Deep.add_add] at h00
      exact addr_of_cell h00
    refine ⟨b, o, rfl, hb, fun i hi => ?_⟩
    obtain ⟨h1, h2, h3, h4, _⟩ := hq i (by omega)
    rw [Go.Deep.add_add, Addr.add_mid] at h1 h2 h3 h4
    exact ⟨h1, h2, h3, h4⟩
end
end Go.Proofs.YtieoapcakdaelaaDoor
