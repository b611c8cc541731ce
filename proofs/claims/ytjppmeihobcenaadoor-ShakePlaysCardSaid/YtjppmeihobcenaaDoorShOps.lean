/-
  What comes in to ShakePlays: a slice of calls.
-/
import Derived.Test.YtjppmeihobcenaaDoorShRow
import Derived.Test.YtjppmeihobcenaaDoorShFair
namespace Go.Proofs.YtjppmeihobcenaaDoor
open Go.ChangeShapes Go.WideShapes Go.ChangeAt Go.RowKit

theorem cellsOp : Tryd.prog.cellsOf 37 = 3 := by kernel_rfl
theorem cells_three {w : World} {base : Nat} {a : Addr} {cs : List Value} (h : w.cells? base a 3 = some cs) : ∃ x y z, cs = [x, y, z] ∧ w.cell? (a.add 0) = some x ∧ w.cell? (a.add 1) = some y ∧ w.cell? (a.add 2) = some z := by
  unfold World.cells? at h
  split at h
  · rw [show List.range 3 = [0, 1, 2] from rfl] at h
    cases h0 : w.cell? (a.add 0) with
    | none => simp [h0] at h
    | some x =>
      cases h1 : w.cell? (a.add 1) with
      | none => simp [h0, h1] at h
      | some y =>
        cases h2 : w.cell? (a.add 2) with
        | none => simp [h0, h1, h2] at h
        | some z =>
          simp [h0, h1, h2] at h
          exact ⟨x, y, z, h.symm, rfl, rfl, rfl⟩
  · cases h
section
variable {H : Type} {enc : TypeId × Value → H}
/-- One slice of bytes, read out of a cell. -/
theorem open_one {W : World} {fuel : Nat} {v : Value} {x : DataW H × List MemPlace} (h : DataW.trod enc Tryd.prog W 0 (fun _ => true) true fuel 25 [v] = some x) : ∃ p : Piece, v = .slice p.a p.n p.c ∧ Sl W W.heap.size p.a p.n p.c p.f := by
  rcases open_ints Tryd.underlying25 Tryd.underlying5 cells5 h with ⟨hcs, _⟩ | ⟨a, len', cap', zs, hcs, _, hl, hm, hz, _, hcell, hwz⟩
  · simp at hcs
    exact ⟨⟨none, 0, 0, fun _ => 0⟩, hcs, Nat.le_refl _, fun _ => rfl, fun _ e _ => by cases e⟩
  · simp at hcs
    simp only [if_true] at hz
    refine ⟨⟨some a, len', cap', fun i => BitVec.ofInt 8 (zs.getD i 0)⟩, hcs, hl, (fun e => by cases e), fun ad e (h0 : 0 < len') => ?_⟩
    obtain rfl := Option.some.inj e
    obtain ⟨b, o, rfl, hb⟩ := addr_of_cell (hcell 0 (by omega))
    refine ⟨b, o, rfl, hb, fun i (hi : i < len') => ?_⟩
    have hc := hcell i (by omega)
    rw [Addr.add_mid] at hc
    rw [hc]
    have hw := hwz (zs.getD i 0) (by rw [List.getD_eq_getElem?_getD, List.getElem?_eq_getElem (by omega)]; exact List.getElem_mem _)
    have hb8 := bounds_u8 hw
    obtain ⟨k, hk⟩ := Int.eq_ofNat_of_zero_le hb8.1
    show some (Value.int .u8 (zs.getD i 0)) = some (Value.int .u8 (U8 (BitVec.ofInt 8 (zs.getD i 0))))
    rw [hk, U8, BitVec.ofInt_natCast, BitVec.toNat_ofNat, Nat.mod_eq_of_lt (by omega)]
theorem open_op {W : World} {fuel : Nat} {x y z : Value} {r : DataW H × List MemPlace} (h : DataW.trod enc Tryd.prog W 0 (fun _ => true) true fuel 37 [x, y, z] = some r) :
    ∃ q : OpV, x = .int .i64 q.k ∧ y = .slice q.b.a q.b.n q.b.c ∧ z = .int .i64 q.m ∧ Sl W W.heap.size q.b.a q.b.n q.b.c q.b.f := by
  obtain ⟨xs, n, _, _, _, hl, hel⟩ := DataW.trod_struct Tryd.underlying37 h
  have hl3 : xs.length = 3 := hl
  have h0 : DataW.trod enc Tryd.prog W 0 (fun _ => true) true n 3 (([x, y, z].drop 0).take (Tryd.prog.cellsOf 3)) = some (xs[0]'(by omega)) := (hel 0 _ rfl).trans (List.getElem?_eq_getElem (by omega))
  have h1 : DataW.trod enc Tryd.prog W 0 (fun _ => true) true n 25 (([x, y, z].drop 1).take (Tryd.prog.cellsOf 25)) = some (xs[1]'(by omega)) := (hel 1 _ rfl).trans (List.getElem?_eq_getElem (by omega))
  have h2 : DataW.trod enc Tryd.prog W 0 (fun _ => true) true n 3 (([x, y, z].drop 2).take (Tryd.prog.cellsOf 3)) = some (xs[2]'(by omega)) := (hel 2 _ rfl).trans (List.getElem?_eq_getElem (by omega))
  rw [cells3] at h0 h2
  rw [cellsBs] at h1
  obtain ⟨k, hk, _, _⟩ := DataW.trod_int Tryd.underlying3 h0
  obtain ⟨m, hm, _, _⟩ := DataW.trod_int Tryd.underlying3 h2
  obtain ⟨p, hp, hs⟩ := open_one h1
  simp at hk hm
  exact ⟨⟨k, p, m⟩, hk, hp, hm, hs⟩
theorem open_ops {W : World} {base : Nat} {v : Value} {d : DataW H} {p : List MemPlace}
    (hv : Value.okWide Tryd.prog W .any base 32 v) (h : DataW.Trod enc Tryd.prog W 0 (fun _ => true) true 32 v d p) : ∃ a n c q, v = .slice a n c ∧ n ≤ maxLen ∧ SlO W W.heap.size a n c q := by
  obtain ⟨a0, len, cap, rfl⟩ := okWide_slice Tryd.underlying32 hv
  obtain ⟨fuel, hf⟩ := h
  rcases Go.Deep.open_slice Tryd.underlying32 hf with ⟨hcs, _⟩ | ⟨a, len', cap', m, n, D, Pl, hcs, _, hl, hm, hmm, _, hel⟩
  · simp [Value.cells] at hcs
    obtain ⟨rfl, rfl, rfl⟩ := hcs
    exact ⟨none, 0, 0, fun _ => ⟨0, ⟨none, 0, 0, fun _ => 0⟩, 0⟩, rfl, Nat.zero_le _, Nat.le_refl _, fun _ => rfl, (fun _ e _ => by cases e), fun _ h => by omega⟩
  · simp [Value.cells] at hcs
    obtain ⟨rfl, rfl, rfl⟩ := hcs
    simp only [if_true] at hmm
    subst hmm
    rw [cellsOp] at hel
    have each : ∀ i, i < m → ∃ q : OpV, W.cell? ((a.add (i * 3)).add 0) = some (.int .i64 q.k) ∧ W.cell? ((a.add (i * 3)).add 1) = some (.slice q.b.a q.b.n q.b.c) ∧ W.cell? ((a.add (i * 3)).add 2) = some (.int .i64 q.m) ∧ Sl W W.heap.size q.b.a q.b.n q.b.c q.b.f := fun i hi => by
      obtain ⟨cs', h1, h2⟩ := hel i hi
      obtain ⟨x, y, z, rfl, hx, hy, hz⟩ := cells_three h1
      obtain ⟨q, rfl, rfl, rfl, hs⟩ := open_op h2
      exact ⟨q, hx, hy, hz, hs⟩
    have : Inhabited OpV := ⟨⟨0, ⟨none, 0, 0, fun _ => 0⟩, 0⟩⟩
    obtain ⟨q, hq⟩ := Go.Deep.choose_lt each
    refine ⟨some a, len, m, q, rfl, Nat.le_trans hl hm, hl, (fun e => by cases e), fun ad e h0 => ?_, fun i hi => (hq i (by omega)).2.2.2⟩
    obtain rfl := Option.some.inj e
    have h00 := (hq 0 (by omega)).1
    rw [Nat.zero_mul] at h00
    obtain ⟨b, o, rfl, hb⟩ : ∃ b o, a = ⟨b, o, none⟩ ∧ b < W.heap.size := by
      rw [Go.Deep.add_add] at h00
      exact addr_of_cell h00
    refine ⟨b, o, rfl, hb, fun i hi => ?_⟩
    obtain ⟨h1, h2, h3, _⟩ := hq i (by omega)
    rw [Go.Deep.add_add, Addr.add_mid] at h1 h2 h3
    exact ⟨h1, h2, h3⟩
end
end Go.Proofs.YtjppmeihobcenaaDoor
