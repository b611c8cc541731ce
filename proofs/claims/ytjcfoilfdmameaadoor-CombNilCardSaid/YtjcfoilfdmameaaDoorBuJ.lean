/-
  Lemmas for the walks, several texts in one. No statement is proved here.
-/
import Derived.Test.YtjcfoilfdmameaaDoorBuB
import Derived.Test.YtjcfoilfdmameaaDoorBuA
import Derived.Test.YtjcfoilfdmameaaDoorBuN
import Derived.Deep.CutRange
import Derived.Test.YtjcfoilfdmameaaDoorBuR
/-
  Rows and slices of ints in memory: what a walk knows of them, make, append. No statement is proved here: lemmas for the walks.
-/
namespace Go.Proofs.YtjcfoilfdmameaaDoor
open Go.RowKit






























section
variable {ops : Array Oper} {rest : List Oper} {o : Oper} {a : Act} {w w0 : World} {l : List (Nat × Obj)} {Q : Exit → Act → World → Prop}






end










/-- A slice of n ints below block B. -/
structure SlZ (w : World) (B : Nat) (a : Option Addr) (n c : Nat) (f : Nat → Int) : Prop where
  le : n ≤ c
  nil : a = none → c = 0
  low : ∀ ad, a = some ad → 0 < n → ∃ b o, ad = ⟨b, o, none⟩ ∧ b < B ∧ ∀ i, i < n → w.cell? ⟨b, o + i, none⟩ = some (.int .i64 (f i))
section
variable {w w' : World} {B : Nat} {a : Option Addr} {n c : Nat} {f : Nat → Int}
theorem SlZ.get (h : SlZ w B a n c f) (i : Nat) (hi : i < n) : ∃ b o, a = some ⟨b, o, none⟩ ∧ b < B ∧ w.cell? ⟨b, o + i, none⟩ = some (.int .i64 (f i)) := by
  cases ha : a with
  | none =>
    have h1 := h.nil ha
    have h2 := h.le
    exfalso; omega
  | some ad =>
    obtain ⟨b, o, rfl, hb, hc⟩ := h.low ad ha (by omega)
    exact ⟨b, o, rfl, hb, hc i hi⟩
theorem SlZ.below (h : SlZ w B a n c f) (hb : Below B w w') : SlZ w' B a n c f :=
  ⟨h.le, h.nil, fun ad ha h0 => by
    obtain ⟨b, o, rfl, hlt, hc⟩ := h.low ad ha h0
    exact ⟨b, o, rfl, hlt, fun i hi => (hb.cell (p := ⟨b, o + i, none⟩) hlt).trans (hc i hi)⟩⟩
theorem SlZ.more {B' : Nat} (h : SlZ w B a n c f) (hB : B ≤ B') : SlZ w B' a n c f :=
  ⟨h.le, h.nil, fun ad ha h0 => by
    obtain ⟨b, o, rfl, hlt, hc⟩ := h.low ad ha h0
    exact ⟨b, o, rfl, by omega, hc⟩⟩
theorem SlZ.call (h : SlZ w w.heap.size a n c f) (hb : Below w.heap.size w w') : SlZ w' w'.heap.size a n c f := (h.below hb).more hb.size
theorem SlZ.congr {g : Nat → Int} (h : SlZ w B a n c f) (hg : ∀ i, i < n → f i = g i) : SlZ w B a n c g :=
  ⟨h.le, h.nil, fun ad ha h0 => by
    obtain ⟨b, o, rfl, hlt, hc⟩ := h.low ad ha h0
    exact ⟨b, o, rfl, hlt, fun i hi => by rw [hc i hi, hg i hi]⟩⟩
theorem SlZ.nought (w : World) (B : Nat) (f : Nat → Int) : SlZ w B none 0 0 f := ⟨Nat.le_refl _, fun _ => rfl, fun _ e _ => by cases e⟩
theorem SlZ.row {g : Nat} {t : TypeId} (h : w.heap[g]? = some (Blk t .i64 n f)) : SlZ w w.heap.size (some ⟨g, 0, none⟩) n n f :=
  ⟨Nat.le_refl _, (fun e => by cases e), fun ad e _ => ⟨g, 0, (Option.some.inj e).symm, lt_row h, fun i hi => by
    have hr : w.heap[g]? = some (.cells (AZ .i64 n f) t) := h
    rw [Nat.zero_add, cell_of_row _ _ _ _ _ _ hr, AZ_get _ _ _ _ hi]⟩⟩
end
/-- A row of the call's own that holds n ints. -/
def OwnZ (w : World) (base : Nat) (v : Value) (n : Nat) (f : Nat → Int) : Prop := w.ownsRow base 3 1 v n ((List.range n).map fun i => Value.int .i64 (f i))
theorem OwnZ.nil (w : World) (base : Nat) (f : Nat → Int) : OwnZ w base (.slice none 0 0) 0 f := ⟨rfl, .inl ⟨rfl, rfl⟩⟩
theorem OwnZ.alloc {w : World} {base : Nat} {v : Value} {n : Nat} {f : Nat → Int} (h : OwnZ w base v n f) (o : Obj) : OwnZ (w.alloc o) base v n f := by
  obtain ⟨hl, hv⟩ := h
  refine ⟨hl, ?_⟩
  rcases hv with h0 | ⟨g, cap, cur, hv, hg, hrow, hr⟩
  · exact .inl h0
  · exact .inr ⟨g, cap, cur, hv, hg, (heap_alloc_past _ _ _ (row_lt hrow)).trans hrow, hr⟩
theorem OwnZ.call {w w' : World} {base : Nat} {v : Value} {n : Nat} {f : Nat → Int} (h : OwnZ w base v n f) (hb : Below w.heap.size w w') : OwnZ w' base v n f := by
  obtain ⟨hl, hv⟩ := h
  refine ⟨hl, ?_⟩
  rcases hv with h0 | ⟨g, cap, cur, hv, hg, hrow, hr⟩
  · exact .inl h0
  · exact .inr ⟨g, cap, cur, hv, hg, (hb.block _ (row_lt hrow)).trans hrow, hr⟩






theorem OwnZ.congr {w : World} {base : Nat} {v : Value} {n : Nat} {f g : Nat → Int} (h : OwnZ w base v n f) (hg : ∀ i, i < n → f i = g i) : OwnZ w base v n g := by
  have e : ((List.range n).map fun i => Value.int .i64 (f i)) = (List.range n).map fun i => Value.int .i64 (g i) := List.map_congr_left fun i hi => by rw [hg i (List.mem_range.1 hi)]
  unfold OwnZ at h ⊢
  rwa [e] at h
theorem OwnZ.sl {w : World} {base : Nat} {v : Value} {n : Nat} {f : Nat → Int} (h : OwnZ w base v n f) : ∃ a c, v = .slice a n c ∧ SlZ w w.heap.size a n c f := by
  obtain ⟨hl, hv⟩ := h
  rcases hv with ⟨rfl, h0⟩ | ⟨g, cap, cur, rfl, hg, hrow, hle, _, hcs, htake⟩
  · subst h0
    exact ⟨none, 0, rfl, SlZ.nought _ _ _⟩
  · refine ⟨some ⟨g, 0, none⟩, cap, rfl, hle, (fun e => by cases e), fun ad e _ => ⟨g, 0, (Option.some.inj e).symm, row_lt hrow, fun i hi => ?_⟩⟩
    rw [Nat.zero_add, cell_of_row _ _ _ _ _ _ hrow]
    have := congrArg (·[i]?) htake
    rw [Nat.mul_one] at this
    simpa [hi] using this
section
variable {w : World} {ops : Array Oper} {rest : List Oper} {o : Oper} {act : Act} {Q : Exit → Act → World → Prop}


























end
end Go.Proofs.YtjcfoilfdmameaaDoor

/-
  What slices.Backward answers, as an iterator. No statement is proved here: lemmas for the walks.
-/
namespace Go.Proofs.YtjcfoilfdmameaaDoor
open Go.RowKit
































































































end Go.Proofs.YtjcfoilfdmameaaDoor

/-
  Numbers as digits: plain ones, those that may be below 0, those most of which are 0, and columns. No statement is proved here: numbers alone.
-/
namespace Go.Proofs.YtjcfoilfdmameaaDoor

/-- The i-th bit. -/
def tb (x i : Nat) : Nat := x / 2 ^ i % 2
theorem tb_lt (x i : Nat) : tb x i < 2 := Nat.mod_lt _ (by omega)



/-- So many bits, each so far behind the one ahead, the first one times 1. -/
def tog (x f a : Nat) : Nat → Nat
  | 0 => 0
  | k + 1 => tog x f a k + tb x (f + k * a) * 2 ^ k






















































theorem nat_pow (n : Nat) : ((2 ^ n : Nat) : Int) = 2 ^ n := by simp


























































































/-- The first place behind the bits that the last odd digit stands for, and what goes over. -/
def nst (x k : Nat) : Nat → Nat × Nat
  | 0 => (0, 0)
  | i + 1 => if i < (nst x k i).1 ∨ tb x i = (nst x k i).2 then nst x k i else (i + k, (x / 2 ^ i % 2 ^ k + (nst x k i).2 + 2 ^ (k - 1)) / 2 ^ k)
def nfr (x k i : Nat) : Nat := (nst x k i).1
def nov (x k i : Nat) : Nat := (nst x k i).2
/-- Its digit is 0. -/
def nz (x k i : Nat) : Prop := i < nfr x k i ∨ tb x i = nov x k i
instance (x k i : Nat) : Decidable (nz x k i) := inferInstanceAs (Decidable (_ ∨ _))














/-- What is left of a number behind its lowest digit. -/
def cutN (k n : Nat) : Nat := if n % 2 = 1 then (if 2 ^ (k - 1) ≤ n % 2 ^ k then (n + (2 ^ k - n % 2 ^ k)) / 2 else (n - n % 2 ^ k) / 2) else n / 2
def left (x k : Nat) : Nat → Nat
  | 0 => x
  | i + 1 => cutN k (left x k i)
































































































































































































































































































end Go.Proofs.YtjcfoilfdmameaaDoor

/-
  A comb: what a table's places are worth, and that columns, each doubled and a place added, are the number. No statement is proved here: numbers alone.
-/
namespace Go.Proofs.YtjcfoilfdmameaaDoor

/-- What a table's place is worth: the rows whose bit it has, of m bits each. -/
def cw (m p : Nat) : Nat → Nat
  | 0 => 0
  | k + 1 => cw m p k + tb p k * 2 ^ (m * k)
/-- Columns from the highest one on, each doubled. -/
def hz (x m k : Nat) : Nat → Nat
  | 0 => 0
  | j + 1 => 2 * hz x m k j + cw m (tog x (m - 1 - j) m k) k




theorem tb_add {P t : Nat} (a b : Nat) (_h : P < 2 ^ t) (s : Nat) (hs : s < t) : tb (P + a * 2 ^ t + b * 0) s = tb P s := by
  unfold tb
  rw [Nat.mul_zero, Nat.add_zero, show t = s + (t - s) by omega, Nat.pow_add, Nat.mul_comm (2 ^ s), ← Nat.mul_assoc, Nat.add_mul_div_right _ _ (Nat.two_pow_pos s)]
  obtain ⟨r, hr⟩ : ∃ r, t - s = r + 1 := ⟨t - s - 1, by omega⟩
  rw [hr, Nat.pow_succ, ← Nat.mul_assoc, Nat.add_mul_mod_self_right]






























































end Go.Proofs.YtjcfoilfdmameaaDoor

/-
  The contracts of package digits' bits: the closure that tells a bit, together, parts. No statement is proved here: lemmas for the walks.
-/
namespace Go.Proofs.YtjcfoilfdmameaaDoor
open Go.RowKit


















abbrev Bit (g : Nat) : Value := .func (.func 67) #[] #[.pointer (some ⟨g, 0, none⟩)]




























































































end Go.Proofs.YtjcfoilfdmameaaDoor

/-
  The contracts of digits.beyond and digits.asked. No statement is proved here: lemmas for the walks.
-/
namespace Go.Proofs.YtjcfoilfdmameaaDoor
open Go.RowKit


































































































end Go.Proofs.YtjcfoilfdmameaaDoor

/-
  The contracts of digits.Columns. No statement is proved here: lemmas for the walks.
-/
namespace Go.Proofs.YtjcfoilfdmameaaDoor
open Go.RowKit
































































end Go.Proofs.YtjcfoilfdmameaaDoor
