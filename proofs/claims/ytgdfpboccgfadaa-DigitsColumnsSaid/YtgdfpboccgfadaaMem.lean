/-
  Rows of bytes and of words in memory: what a walk knows of them, make, append, copy. No statement is proved here: lemmas for the walks.
-/
import Derived.Test.YtgdfpboccgfadaaOwnB
import Derived.Test.YtgdfpboccgfadaaNuMath
import Derived.Test.YtgdfpboccgfadaaKecHeld
import Derived.Laws.MakeOwn
import Derived.Laws.AppendOwnNone
import Derived.Laws.CopyOwn
import Derived.Deep.MidRow
import Derived.Deep.QuietTactic
import Derived.Deep.LoopGhost
import Derived.BigQuiet
import Derived.WalkMore
import Derived.ScopeJumps
import Derived.ArgAppend
namespace Go.Proofs.Ytgdfpboccgfadaa
open Go.RowKit

section
variable {w W W' : World} {l : List (Nat × Obj)}
end

section
variable {w : World} {ops : Array Oper} {rest : List Oper} {o : Oper} {act : Act} {Q : Exit → Act → World → Prop}
end
section
variable {w W : World} {b n : Nat} {f : Nat → BitVec 8}
end
section
variable {ops : Array Oper} {rest : List Oper} {o : Oper} {a : Act} {w : World} {Q : Exit → Act → World → Prop}
end
section
variable {w : World} {ops : Array Oper} {rest : List Oper} {o : Oper} {act : Act} {Q : Exit → Act → World → Prop}
end

theorem info64 : (Try.prog.info? 48).map (fun i => (i.zero, i.size, i.bytes)) = some (some (.int .u64 0), 1, 8) := by kernel_rfl
theorem info_u64 : ∃ i, Try.prog.info? 48 = some i ∧ i.zero = some (.int .u64 0) ∧ i.size = 1 ∧ i.bytes = 8 := by
  cases hq : Try.prog.info? 48 with
  | none => have := info64; simp [hq] at this
  | some i =>
    have := info64
    simp [hq] at this
    exact ⟨i, rfl, this.1, this.2.1, this.2.2⟩
theorem A_zero (n : Nat) : A n (fun _ => 0) = Array.replicate n (.int .u64 0) := by
  apply Array.ext_getElem?
  intro j
  by_cases hj : j < n
  · rw [A_get n _ j hj]
    simp [hj]
    rfl
  · rw [Array.getElem?_eq_none (by simpa [A_size] using hj), Array.getElem?_eq_none (by simpa using hj)]
theorem made_u64 (n : Nat) : madeCells (Value.int .u64 0).cells n = A n fun _ => 0 := by
  rw [A_zero]
  unfold madeCells
  apply Array.ext_getElem?
  intro j
  simp only [Array.getElem?_map, Array.getElem?_replicate]
  by_cases h : j < n
  · simp [h, Value.cells, Nat.mod_one]
  · simp [h]
theorem run_make_u64 (w : World) (l : Nat) (hc : l ≤ 1000000) : (Instr.makeSlice 33 (.int .i64 (l : Int)) (.int .i64 (l : Int))).run Try.prog w = .ok (.slice (some ⟨w.heap.size, 0, none⟩) l l) (w.alloc (.cells (A l fun _ => 0) 48)) := by
  obtain ⟨i, hi, hz, hs, hb⟩ := info_u64
  have h := run_makeSlice (P := Try.prog) w 33 48 i (.int .u64 0) Try.underlying33 hi hz .i64 .i64 (l : Int) (l : Int) (by omega) (by omega) (by rw [hs, Int.toNat_natCast]; omega) (by rw [hb]; omega) (by omega)
  rw [hs, Int.toNat_natCast, Nat.mul_one, made_u64] at h
  exact h
/-- A row of n words lies in block b. -/
def RowW (w : World) (b n : Nat) (f : Nat → BitVec 64) : Prop := w.heap[b]? = some (.cells (A n f) 48)
section
variable {w W : World} {b n : Nat} {f : Nat → BitVec 64}
theorem RowW.lt (h : RowW w b n f) : b < w.heap.size := row_lt h
theorem RowW.cell (h : RowW w b n f) (i : Nat) (hi : i < n) : w.cell? ⟨b, i, none⟩ = some (V (f i)) := by rw [cell_of_row _ _ _ _ _ _ h, A_get _ _ _ hi]
theorem RowW.thaw (h : RowW w b n f) (i : Nat) : w.frozen? ⟨b, i, none⟩ = false := frozen_of_row _ _ _ _ _ h
theorem RowW.below {B : Nat} (h : RowW w b n f) (hb : Below B w W) (hB : b < B) : RowW W b n f := (hb.block _ hB).trans h
theorem RowW.drew (h : RowW w b n f) : RowW w.drew b n f := h
theorem RowW.alloc (h : RowW w b n f) (o : Obj) : RowW (w.alloc o) b n f := (heap_alloc_past _ _ _ h.lt).trans h
theorem RowW.setCell (h : RowW w b n f) (i : Nat) (v : BitVec 64) : RowW (w.setCell ⟨b, i, none⟩ (V v)) b n (upd f i v) := by
  have := heap_setCell_same w b i _ _ (V v) h
  rwa [A_set] at this
theorem RowW.other (h : RowW w b n f) (g i : Nat) (v : Value) (hne : b ≠ g) : RowW (w.setCell ⟨g, i, none⟩ v) b n f := by
  unfold RowW
  rw [heap_setCell_other _ _ _ _ (by show b ≠ g; exact hne)]
  exact h
theorem RowW.congr {f' : Nat → BitVec 64} (h : RowW w b n f) (hf : ∀ i, i < n → f i = f' i) : RowW w b n f' := by
  unfold RowW at h ⊢
  rw [h, A_congr hf]
theorem RowW.new (w : World) (n : Nat) (f : Nat → BitVec 64) : RowW (w.alloc (.cells (A n f) 48)) w.heap.size n f := heap_alloc_last _ _
end
/-- A slice of n words, nil let in, that are the number x, and that lies below block B. -/
structure Sw (w : World) (B : Nat) (a : Option Addr) (n c x : Nat) : Prop where
  le : n ≤ c
  nil : a = none → c = 0
  low : ∀ ad, a = some ad → 0 < n → ∃ b o, ad = ⟨b, o, none⟩ ∧ b < B ∧ ∀ i, i < n → w.cell? ⟨b, o + i, none⟩ = some (V (wd x i))
  fits : x < 2 ^ (64 * n)
section
variable {w w' : World} {B : Nat} {a : Option Addr} {n c x : Nat}
theorem Sw.get (h : Sw w B a n c x) (i : Nat) (hi : i < n) : ∃ b o, a = some ⟨b, o, none⟩ ∧ b < B ∧ w.cell? ⟨b, o + i, none⟩ = some (V (wd x i)) := by
  cases ha : a with
  | none =>
    have h1 := h.nil ha
    have h2 := h.le
    exfalso; omega
  | some ad =>
    obtain ⟨b, o, rfl, hb, hc⟩ := h.low ad ha (by omega)
    exact ⟨b, o, rfl, hb, hc i hi⟩
theorem Sw.below (h : Sw w B a n c x) (hb : Below B w w') : Sw w' B a n c x :=
  ⟨h.le, h.nil, fun ad ha h0 => by
    obtain ⟨b, o, rfl, hlt, hc⟩ := h.low ad ha h0
    exact ⟨b, o, rfl, hlt, fun i hi => (hb.cell (p := ⟨b, o + i, none⟩) hlt).trans (hc i hi)⟩, h.fits⟩
theorem Sw.more {B' : Nat} (h : Sw w B a n c x) (hB : B ≤ B') : Sw w B' a n c x :=
  ⟨h.le, h.nil, fun ad ha h0 => by
    obtain ⟨b, o, rfl, hlt, hc⟩ := h.low ad ha h0
    exact ⟨b, o, rfl, by omega, hc⟩, h.fits⟩
theorem Sw.call (h : Sw w w.heap.size a n c x) (hb : Below w.heap.size w w') : Sw w' w'.heap.size a n c x := (h.below hb).more hb.size
/-- Noughts at the end are left away. -/
theorem Sw.cut (h : Sw w B a n c x) : Sw w B a (dl 64 x) (dl 64 x) x := by
  have hk := (dl_le 64 x n (by omega)).2 h.fits
  refine ⟨Nat.le_refl _, fun ha => ?_, fun ad ha h0 => ?_, fits_dl 64 x (by omega)⟩
  · have h1 := h.nil ha
    have h2 := h.le
    omega
  · obtain ⟨b, o, rfl, hlt, hc⟩ := h.low ad ha (by omega)
    exact ⟨b, o, rfl, hlt, fun i hi => hc i (by omega)⟩
theorem Sw.zero (w : World) (B : Nat) : Sw w B none 0 0 0 := ⟨Nat.le_refl _, fun _ => rfl, (fun _ e _ => by cases e), by simp⟩
theorem RowW.sw {g N n x : Nat} (h : RowW w g N (wd x)) (hN : n ≤ N) (hx : x < 2 ^ (64 * n)) (hB : g < B) : Sw w B (some ⟨g, 0, none⟩) n n x :=
  ⟨Nat.le_refl _, (fun e => by cases e), fun ad e _ => ⟨g, 0, (Option.some.inj e).symm, hB, fun i hi => by rw [Nat.zero_add]; exact h.cell i (by omega)⟩, hx⟩
end
/-- A slice of n bytes that are the number x. -/
structure Sb (w : World) (B : Nat) (a : Option Addr) (n c x : Nat) : Prop where
  sl : Sl w B a n c (bt x)
  fits : x < 2 ^ (8 * n)
section
variable {w w' : World} {B : Nat} {a : Option Addr} {n c x : Nat}
theorem Sb.below (h : Sb w B a n c x) (hb : Below B w w') : Sb w' B a n c x := ⟨h.sl.below hb, h.fits⟩
theorem Sb.more {B' : Nat} (h : Sb w B a n c x) (hB : B ≤ B') : Sb w B' a n c x := ⟨h.sl.more hB, h.fits⟩
theorem Sb.call (h : Sb w w.heap.size a n c x) (hb : Below w.heap.size w w') : Sb w' w'.heap.size a n c x := (h.below hb).more hb.size
theorem Sb.cut (h : Sb w B a n c x) : Sb w B a (dl 8 x) c x := by
  have hk := (dl_le 8 x n (by omega)).2 h.fits
  refine ⟨⟨by have := h.sl.le; omega, h.sl.nil, fun ad ha h0 => ?_⟩, fits_dl 8 x (by omega)⟩
  obtain ⟨b, o, rfl, hlt, hc⟩ := h.sl.low ad ha (by omega)
  exact ⟨b, o, rfl, hlt, fun i hi => hc i (by omega)⟩
end
/-- v is a new row of words, just as many as x wants, that are x. -/
def Got (w W : World) (v : Value) (x : Nat) : Prop := ∃ g N, v = .slice (some ⟨g, 0, none⟩) (dl 64 x) (dl 64 x) ∧ w.heap.size ≤ g ∧ RowW W g N (wd x) ∧ dl 64 x ≤ N ∧ Below w.heap.size w W
theorem Got.open {w W : World} {v : Value} {x : Nat} (h : Got w W v x) : ∃ a, v = .slice a (dl 64 x) (dl 64 x) ∧ Sw W W.heap.size a (dl 64 x) (dl 64 x) x ∧ Below w.heap.size w W := by
  obtain ⟨g, N, rfl, hg, hr, hN, hb⟩ := h
  exact ⟨_, rfl, hr.sw hN (fits_dl 64 x (by omega)) hr.lt, hb⟩
/-- v is bytes, just as many as x wants, that are x. -/
def GotB (w W : World) (v : Value) (x : Nat) : Prop := ∃ a c, v = .slice a (dl 8 x) c ∧ Sb W W.heap.size a (dl 8 x) c x ∧ Below w.heap.size w W

section
variable {ops : Array Oper} {rest : List Oper} {o : Oper} {a : Act} {w : World} {Q : Exit → Act → World → Prop}
theorem lay_makeW (hgd : o.guard = none) {x y : Operand} (ho : o.op = .makeSlice 33 x y) {l : Nat} (hx : a.eval x = .int .i64 (l : Int)) (hy : a.eval y = .int .i64 (l : Int)) (hc : l ≤ 1000000)
    (k : ∀ K : Act → World → Prop, (∀ a w, wpList Try.prog ops Q rest a w → K a w) → K (a.put o.dst (.slice (some ⟨w.heap.size, 0, none⟩) l l)) (w.alloc (.cells (A l fun _ => 0) 48))) : wpList Try.prog ops Q (o :: rest) a w :=
  wpList_plain hgd fun K hK => by
    unfold Oper.wp execOp
    simp only [ho, hx, hy, Sem.run_bind, run_make_u64 w l hc, Result.andThen_ok]
    exact k K hK
end
end Go.Proofs.Ytgdfpboccgfadaa
