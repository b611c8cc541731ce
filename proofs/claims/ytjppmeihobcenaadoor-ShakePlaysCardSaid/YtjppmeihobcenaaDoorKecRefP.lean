/-
  What the reference's Permute does, round by round; which blocks it writes.
-/
import Derived.Test.YtjppmeihobcenaaDoorKecRefR
namespace Go.Proofs.YtjppmeihobcenaaDoor
open Go.RowKit

/-- The lane at x, y with its two columns laid on. -/
def lFor (f s : Nat → BitVec 64) (x y : Nat) : BitVec 64 := f (x + 5 * y) ^^^ s ((x + 4) % 5) ^^^ rotl (s ((x + 1) % 5)) 1
def rowR (f s g : Nat → BitVec 64) (y : Nat) : Nat → Nat → BitVec 64
  | 0 => g
  | x + 1 => upd (rowR f s g y x) (y + 5 * ((2 * x + 3 * y) % 5)) (rotl (lFor f s x y) (offs (x + 5 * y)))
def bTo (f s : Nat → BitVec 64) : Nat → Nat → BitVec 64
  | 0 => fun _ => 0
  | y + 1 => rowR f s (bTo f s y) y 5
def rowC (h a : Nat → BitVec 64) (y : Nat) : Nat → Nat → BitVec 64
  | 0 => a
  | x + 1 => upd (rowC h a y x) (x + 5 * y) (h (x + 5 * y) ^^^ (h ((x + 2) % 5 + 5 * y) - (h ((x + 2) % 5 + 5 * y) &&& h ((x + 1) % 5 + 5 * y))))
def aTo (h a : Nat → BitVec 64) : Nat → Nat → BitVec 64
  | 0 => a
  | y + 1 => rowC h (aTo h a y) y 5
def kTo (a : Nat → BitVec 64) (r : Nat) : Nat → Nat → BitVec 64
  | 0 => a
  | j + 1 => if rowBit (7 * r + j) = 1 then upd (kTo a r j) 0 (kTo a r j 0 ^^^ shl 1 (2 ^ j - 1)) else kTo a r j
def refRound (f : Nat → BitVec 64) (r : Nat) : Nat → BitVec 64 := kTo (aTo (bTo f (sumsTo f 25) 5) f 5) r 7
def refPTo (f : Nat → BitVec 64) : Nat → Nat → BitVec 64
  | 0 => f
  | r + 1 => refRound (refPTo f r) r

/-- Below B nothing but block g has turned. -/
structure BB (B g : Nat) (a b : World) : Prop where
  os : b.os = a.os
  tape : b.tape = a.tape
  output : b.output = a.output
  size : a.heap.size ≤ b.heap.size
  block : ∀ k, k < B → k ≠ g → b.heap[k]? = a.heap[k]?
section
variable {B g : Nat} {a b b' : World}
theorem BB.refl (B g : Nat) (a : World) : BB B g a a := ⟨rfl, rfl, rfl, Nat.le_refl _, fun _ _ _ => rfl⟩
theorem BB.drew (h : BB B g a b) : BB B g a b.drew := ⟨h.os, h.tape, h.output, h.size, h.block⟩
theorem BB.then (h : BB B g a b) (hb : Below b.heap.size b b') (hB : B ≤ b.heap.size) : BB B g a b' :=
  ⟨hb.os.trans h.os, hb.tape.trans h.tape, hb.output.trans h.output, Nat.le_trans h.size hb.size, fun k hk hg => (hb.block k (by omega)).trans (h.block k hk hg)⟩
theorem BB.alloc (h : BB B g a b) (hB : B ≤ b.heap.size) (o : Obj) : BB B g a (b.alloc o) := h.then ((Below.refl _ _).alloc (Nat.le_refl _) o) hB
theorem BB.set (h : BB B g a b) {p : Addr} (hp : p.block = g ∨ B ≤ p.block) (v : Value) : BB B g a (b.setCell p v) :=
  ⟨h.os, h.tape, h.output, by simpa using h.size, fun k hk hg => (heap_setCell_other _ _ _ _ (by rcases hp with e | e <;> omega)).trans (h.block k hk hg)⟩
theorem BB.below {w : World} (h : BB B g a b) (hw : Below w.heap.size w a) (hg : w.heap.size ≤ g) (hB : w.heap.size ≤ B) : Below w.heap.size w b :=
  ⟨h.os.trans hw.os, h.tape.trans hw.tape, h.output.trans hw.output, Nat.le_trans hw.size h.size, fun k hk => (h.block k (by omega) (by omega)).trans (hw.block k hk)⟩
end

/-- The state at ga, the columns' sums at gc. -/
structure PC (Wb wr : World) (ga gc : Nat) (fa fc : Nat → BitVec 64) : Prop where
  bb : BB Wb.heap.size ga Wb wr
  l1 : ga < Wb.heap.size
  l2 : Wb.heap.size ≤ gc
  ra : wr.heap[ga]? = some (.cells (A 25 fa) 51)
  rc : wr.heap[gc]? = some (.cells (A 5 fc) 62)
/-- And the turned lanes at gb. -/
structure PR (Wb wr : World) (ga gc gb : Nat) (fa fc fb : Nat → BitVec 64) : Prop where
  bb : BB Wb.heap.size ga Wb wr
  l1 : ga < Wb.heap.size
  l2 : Wb.heap.size ≤ gc
  l3 : gc < gb
  ra : wr.heap[ga]? = some (.cells (A 25 fa) 51)
  rc : wr.heap[gc]? = some (.cells (A 5 fc) 62)
  rb : wr.heap[gb]? = some (.cells (A 25 fb) 51)
section
variable {Wb wr w1 : World} {ga gc gb : Nat} {fa fc fb : Nat → BitVec 64}
theorem PC.drew (h : PC Wb wr ga gc fa fc) : PC Wb wr.drew ga gc fa fc := ⟨h.bb.drew, h.l1, h.l2, h.ra, h.rc⟩
theorem PC.cA (h : PC Wb wr ga gc fa fc) (i : Nat) (hi : i < 25) : wr.cell? ⟨ga, i, none⟩ = some (V (fa i)) := by rw [cell_of_row _ _ _ _ _ _ h.ra, A_get _ _ _ hi]
theorem PC.cC (h : PC Wb wr ga gc fa fc) (i : Nat) (hi : i < 5) : wr.cell? ⟨gc, i, none⟩ = some (V (fc i)) := by rw [cell_of_row _ _ _ _ _ _ h.rc, A_get _ _ _ hi]
theorem PC.zC (h : PC Wb wr ga gc fa fc) (i : Nat) : wr.frozen? ⟨gc, i, none⟩ = false := frozen_of_row _ _ _ _ _ h.rc
theorem PC.setC (h : PC Wb wr ga gc fa fc) (i : Nat) (v : BitVec 64) : PC Wb (wr.setCell ⟨gc, i, none⟩ (V v)) ga gc fa (upd fc i v) :=
  ⟨h.bb.set (.inr h.l2) _, h.l1, h.l2, by rw [heap_setCell_other _ _ _ _ (by have := h.l1; have := h.l2; show ga ≠ gc; omega)]; exact h.ra, by rw [heap_setCell_same _ _ _ _ _ _ h.rc, A_set]⟩
theorem PC.more (h : PC Wb wr ga gc fa fc) : PR Wb (wr.alloc (.cells (A 25 fun _ => 0) 51)) ga gc wr.heap.size fa fc fun _ => 0 :=
  ⟨h.bb.alloc h.bb.size _, h.l1, h.l2, row_lt h.rc, (heap_alloc_past _ _ _ (row_lt h.ra)).trans h.ra, (heap_alloc_past _ _ _ (row_lt h.rc)).trans h.rc, heap_alloc_last _ _⟩
theorem PR.drew (h : PR Wb wr ga gc gb fa fc fb) : PR Wb wr.drew ga gc gb fa fc fb := ⟨h.bb.drew, h.l1, h.l2, h.l3, h.ra, h.rc, h.rb⟩
theorem PR.call (h : PR Wb wr ga gc gb fa fc fb) (hb : Below wr.heap.size wr w1) : PR Wb w1 ga gc gb fa fc fb :=
  ⟨h.bb.then hb h.bb.size, h.l1, h.l2, h.l3, (hb.block _ (row_lt h.ra)).trans h.ra, (hb.block _ (row_lt h.rc)).trans h.rc, (hb.block _ (row_lt h.rb)).trans h.rb⟩
theorem PR.cA (h : PR Wb wr ga gc gb fa fc fb) (i : Nat) (hi : i < 25) : wr.cell? ⟨ga, i, none⟩ = some (V (fa i)) := by rw [cell_of_row _ _ _ _ _ _ h.ra, A_get _ _ _ hi]
theorem PR.cC (h : PR Wb wr ga gc gb fa fc fb) (i : Nat) (hi : i < 5) : wr.cell? ⟨gc, i, none⟩ = some (V (fc i)) := by rw [cell_of_row _ _ _ _ _ _ h.rc, A_get _ _ _ hi]
theorem PR.cB (h : PR Wb wr ga gc gb fa fc fb) (i : Nat) (hi : i < 25) : wr.cell? ⟨gb, i, none⟩ = some (V (fb i)) := by rw [cell_of_row _ _ _ _ _ _ h.rb, A_get _ _ _ hi]
theorem PR.zA (h : PR Wb wr ga gc gb fa fc fb) (i : Nat) : wr.frozen? ⟨ga, i, none⟩ = false := frozen_of_row _ _ _ _ _ h.ra
theorem PR.zB (h : PR Wb wr ga gc gb fa fc fb) (i : Nat) : wr.frozen? ⟨gb, i, none⟩ = false := frozen_of_row _ _ _ _ _ h.rb
theorem PR.setA (h : PR Wb wr ga gc gb fa fc fb) (i : Nat) (v : BitVec 64) : PR Wb (wr.setCell ⟨ga, i, none⟩ (V v)) ga gc gb (upd fa i v) fc fb :=
  ⟨h.bb.set (.inl rfl) _, h.l1, h.l2, h.l3, by rw [heap_setCell_same _ _ _ _ _ _ h.ra, A_set], by rw [heap_setCell_other _ _ _ _ (by have := h.l1; have := h.l2; show gc ≠ ga; omega)]; exact h.rc,
   by rw [heap_setCell_other _ _ _ _ (by have := h.l1; have := h.l2; have := h.l3; show gb ≠ ga; omega)]; exact h.rb⟩
theorem PR.setB (h : PR Wb wr ga gc gb fa fc fb) (i : Nat) (v : BitVec 64) : PR Wb (wr.setCell ⟨gb, i, none⟩ (V v)) ga gc gb fa fc (upd fb i v) :=
  ⟨h.bb.set (.inr (by have := h.l2; have := h.l3; show Wb.heap.size ≤ gb; omega)) _, h.l1, h.l2, h.l3, by rw [heap_setCell_other _ _ _ _ (by have := h.l1; have := h.l2; have := h.l3; show ga ≠ gb; omega)]; exact h.ra,
   by rw [heap_setCell_other _ _ _ _ (by have := h.l3; show gc ≠ gb; omega)]; exact h.rc, by rw [heap_setCell_same _ _ _ _ _ _ h.rb, A_set]⟩
end

@[go_sem] theorem u64_sub (x y : BitVec 64) : IntKind.u64.wrap (L x - L y) = L (x - y) := by
  have h1 := bv_lt x
  have h2 := bv_lt y
  rw [IntKind.wrap_u64]
  unfold L
  rw [BitVec.toNat_sub]
  show _ = (((18446744073709551616 - y.toNat + x.toNat) % 18446744073709551616 : Nat) : Int)
  omega
theorem turned_one (a : BitVec 64) (w : World) :
    Calls Tryd.prog 29 #[V a, .int .i64 1] w fun e w' => e = .returned (V (rotl a 1)) ∧ Below w.heap.size w w' := turned_any a 1 w (by omega)
end Go.Proofs.YtjppmeihobcenaaDoor
