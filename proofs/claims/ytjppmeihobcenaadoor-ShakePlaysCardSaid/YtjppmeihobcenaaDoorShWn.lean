/-
  Blocks whose first n cells are bytes.
-/
import Derived.Test.YtjppmeihobcenaaDoorShFew
namespace Go.Proofs.YtjppmeihobcenaaDoor
open Go.RowKit

def Wn (w : World) (g n : Nat) (h : Nat → BitVec 8) : Prop := ∃ cur, w.heap[g]? = some (.cells cur 5) ∧ ∀ j, j < n → cur[j]? = some (U (h j))
section
variable {w W : World} {g n : Nat} {h : Nat → BitVec 8}
theorem Wn.lt (H : Wn w g n h) : g < w.heap.size := by
  obtain ⟨cur, hr, _⟩ := H
  exact row_lt hr
theorem Wn.cell (H : Wn w g n h) (i : Nat) (hi : i < n) : w.cell? ⟨g, i, none⟩ = some (U (h i)) := by
  obtain ⟨cur, hr, hc⟩ := H
  rw [cell_of_row _ _ _ _ _ _ hr, hc i hi]
theorem Wn.thaw (H : Wn w g n h) (i : Nat) : w.frozen? ⟨g, i, none⟩ = false := by
  obtain ⟨cur, hr, _⟩ := H
  exact frozen_of_row _ _ _ _ _ hr
theorem Wn.set (H : Wn w g n h) (i : Nat) (v : BitVec 8) : Wn (w.setCell ⟨g, i, none⟩ (U v)) g n (upd8 h i v) := by
  obtain ⟨cur, hr, hc⟩ := H
  refine ⟨_, heap_setCell_same _ _ _ _ _ _ hr, fun j hj => ?_⟩
  by_cases e : i = j
  · subst e
    have hlt : i < cur.size := (Array.getElem?_eq_some_iff.1 (hc i hj)).1
    simp [upd8, hlt]
  · have e' : ¬ j = i := fun h => e h.symm
    rw [Array.getElem?_setIfInBounds_ne e, hc j hj, upd8, if_neg e']
theorem Wn.congr {h' : Nat → BitVec 8} (H : Wn w g n h) (he : ∀ j, j < n → h j = h' j) : Wn w g n h' := by
  obtain ⟨cur, hr, hc⟩ := H
  exact ⟨cur, hr, fun j hj => by rw [← he j hj]; exact hc j hj⟩
theorem Wn.block (H : Wn w g n h) (hb : W.heap[g]? = w.heap[g]?) : Wn W g n h := by
  obtain ⟨cur, hr, hc⟩ := H
  exact ⟨cur, hb.trans hr, hc⟩
theorem Wn.below (H : Wn w g n h) (hb : Below w.heap.size w W) : Wn W g n h := H.block (hb.block _ H.lt)
theorem Wn.drew (H : Wn w g n h) : Wn w.drew g n h := H
theorem Wn.sl {c : Nat} (H : Wn w g n h) (hc : n ≤ c) : Sl w w.heap.size (some ⟨g, 0, none⟩) n c h :=
  ⟨hc, (fun e => by cases e), fun ad e _ => ⟨g, 0, (Option.some.inj e).symm, H.lt, fun i hi => by rw [Nat.zero_add]; exact H.cell i hi⟩⟩
theorem OwnB.wn {base : Nat} {v : Value} (H : OwnB w base v n h) (hn : 0 < n) : ∃ g c, v = .slice (some ⟨g, 0, none⟩) n c ∧ base ≤ g ∧ n ≤ c ∧ Wn w g n h := by
  obtain ⟨g, c, cur, rfl, hg, hrow, hs⟩ := H.sl hn
  obtain ⟨b, o, e, _, hc⟩ := hs.low _ rfl hn
  injection e with e1 e2
  subst e1 e2
  exact ⟨_, c, rfl, hg, hs.le, cur, hrow, fun j hj => by have := hc j hj; rwa [Nat.zero_add, cell_of_row _ _ _ _ _ _ hrow] at this⟩
theorem Wn.of_sl {c : Nat} {cur : Array Value} (hr : w.heap[g]? = some (.cells cur 5)) (hs : Sl w w.heap.size (some ⟨g, 0, none⟩) n c h) (hn : 0 < n) : Wn w g n h := by
  obtain ⟨b, o, e, _, hc⟩ := hs.low _ rfl hn
  injection e with e1 e2
  subst e1 e2
  exact ⟨cur, hr, fun j hj => by have := hc j hj; rwa [Nat.zero_add, cell_of_row _ _ _ _ _ _ hr] at this⟩
end
theorem one_byte (x : BitVec 8) : AB 1 (fun _ => x) = #[U x] := by unfold AB; rfl
theorem sl_one (w : World) (x : BitVec 8) : Sl (w.alloc (.cells #[U x] 5)) (w.alloc (.cells #[U x] 5)).heap.size (some ⟨w.heap.size, 0, none⟩) 1 1 (fun _ => x) := by
  have h : (w.alloc (.cells (AB 1 fun _ => x) 5)).heap[w.heap.size]? = some (.cells (AB 1 fun _ => x) 5) := row1 _ _
  rw [one_byte] at h
  exact Sl.own (m := 1) (f := fun _ => x) (by rw [one_byte]; exact h) (Nat.le_refl _) (Nat.le_refl _) (row_lt h)

/-- Bytes, a 31 behind them, then noughts. -/
def padsF (f : Nat → BitVec 8) (n : Nat) : Nat → BitVec 8 := fun i => if i < n then f i else if i = n then 31 else 0
def filledN (n : Nat) : Nat := 136 * (n / 136 + 1)
def filledF (f : Nat → BitVec 8) (n : Nat) : Nat → BitVec 8 := upd8 (padsF f n) (filledN n - 1) (padsF f n (filledN n - 1) ^^^ 128)
end Go.Proofs.YtjppmeihobcenaaDoor
