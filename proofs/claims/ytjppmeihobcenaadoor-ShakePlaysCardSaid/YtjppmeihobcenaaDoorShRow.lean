/-
  What comes in to the laws of shake: slices of slices of bytes.
-/
import Derived.Test.YtjppmeihobcenaaDoorKecRow
import Derived.Test.YtjppmeihobcenaaDoorShMem
import Derived.Deep.Matrix
namespace Go.Proofs.YtjppmeihobcenaaDoor
open Go.ChangeShapes Go.WideShapes Go.ChangeAt Go.RowKit

theorem addr_of_cell {w : World} {a : Addr} {v : Value} (h : w.cell? (a.add 0) = some v) : ∃ b o, a = ⟨b, o, none⟩ ∧ b < w.heap.size := by
  obtain ⟨b, o, sp⟩ := a
  have hsp : sp = none := by
    cases sp with
    | none => rfl
    | some k =>
      exfalso
      unfold World.cell? at h
      simp [Addr.add] at h
      split at h <;> simp_all
  subst hsp
  exact ⟨b, o, rfl, by have := block_lt_of_cell h; simpa [Addr.add] using this⟩
theorem Pc.move {w W : World} {a : Option Addr} {n c : Nat} {p : Nat → Piece} (H : Pc w w.heap.size a n c p) (hb : Below w.heap.size w W) (g : Nat) (hg : w.heap.size ≤ g) : Pc W g a n c p :=
  ⟨H.le, H.nil, fun ad ha h0 => by
    obtain ⟨b, o, e, hlt, hne, hc⟩ := H.low ad ha h0
    exact ⟨b, o, e, Nat.lt_of_lt_of_le hlt hb.size, by omega, fun i hi => (hb.cell (p := ⟨b, o + i, none⟩) hlt).trans (hc i hi)⟩, fun i hi => Sg.of_sl ((H.each i hi).sl.below hb) hg hb.size⟩

section
variable {H : Type} {enc : TypeId × Value → H} {P : Program}
theorem open_pieces {t e q : TypeId} (ht : P.underlying t = some (.slice e)) (he : P.underlying e = some (.slice q)) (hq : P.underlying q = some (.int .u8)) (ce : P.cellsOf e = 1) (cq : P.cellsOf q = 1) {W : World} {base : Nat} {v : Value} {d : DataW H} {ps : List MemPlace}
    (hv : Value.okWide P W .any base t v) (h : DataW.Trod enc P W 0 (fun _ => true) true t v d ps) : ∃ a n c p, v = .slice a n c ∧ n ≤ maxLen ∧ Pc W W.heap.size a n c p := by
  obtain ⟨a0, len, cap, rfl⟩ := okWide_slice ht hv
  obtain ⟨fuel, hf⟩ := h
  rcases Go.Deep.open_int_rows ht he hq ce cq hf with ⟨hcs, _⟩ | ⟨a, len', cap', A', L', C', Z', hcs, _, hl, hm, _, hel⟩
  · simp [Value.cells] at hcs
    obtain ⟨rfl, rfl, rfl⟩ := hcs
    exact ⟨none, 0, 0, fun _ => ⟨none, 0, 0, fun _ => 0⟩, rfl, Nat.zero_le _, Nat.le_refl _, fun _ => rfl, (fun _ e => by cases e), fun _ h => by omega⟩
  · simp [Value.cells] at hcs
    obtain ⟨rfl, rfl, rfl⟩ := hcs
    refine ⟨some a, len, cap, fun i => ⟨A' i, L' i, C' i, fun j => BitVec.ofInt 8 ((Z' i).getD j 0)⟩, rfl, Nat.le_trans hl hm, hl, (fun e => by cases e), fun ad e h0 => ?_, fun i hi => ?_⟩
    · obtain rfl := Option.some.inj e
      obtain ⟨b, o, rfl, hb⟩ := addr_of_cell (hel 0 (by omega)).1
      exact ⟨b, o, rfl, hb, by omega, fun i hi => by have := (hel i (by omega)).1; rwa [Addr.add_mid] at this⟩
    · obtain ⟨_, h1, h2, h3, h4, h5, h6⟩ := hel i (by omega)
      refine ⟨h1, h5, fun ad e (h0 : 0 < L' i) => ?_⟩
      obtain ⟨_, h7⟩ := h6 ad e
      obtain ⟨b, o, rfl, hb⟩ := addr_of_cell (h7 0 (by omega))
      refine ⟨b, o, rfl, hb, by omega, fun j (hj : j < L' i) => ?_⟩
      have hc := h7 j (by omega)
      rw [Addr.add_mid] at hc
      rw [hc]
      have hw := h4 ((Z' i).getD j 0) (by rw [List.getD_eq_getElem?_getD, List.getElem?_eq_getElem (by omega)]; exact List.getElem_mem _)
      have hb8 := bounds_u8 hw
      obtain ⟨k, hk⟩ := Int.eq_ofNat_of_zero_le hb8.1
      show some (Value.int .u8 ((Z' i).getD j 0)) = some (Value.int .u8 (U8 (BitVec.ofInt 8 ((Z' i).getD j 0))))
      rw [hk, U8, BitVec.ofInt_natCast, BitVec.toNat_ofNat, Nat.mod_eq_of_lt (by omega)]
end
theorem cellsBs : Tryd.prog.cellsOf 25 = 1 := by kernel_rfl
end Go.Proofs.YtjppmeihobcenaaDoor
