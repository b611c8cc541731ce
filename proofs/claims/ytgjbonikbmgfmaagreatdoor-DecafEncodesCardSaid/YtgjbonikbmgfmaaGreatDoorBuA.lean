/- Lemmas; no statement is proved here. -/
import Derived.WalkKit
import Derived.Laws.BitsAllLaws
import Derived.Deep.WholeRow
import Derived.Test.YtgjbonikbmgfmaaGreatDoorChecked
import Derived.Lib.Hide
import Derived.StillTailTactics
import Derived.Handy
import Derived.Deep.RegionHeld3
import Derived.Laws.MakeOwn
import Derived.Laws.AppendOwnNone
import Derived.Laws.CopyOwn
import Derived.Deep.MidRow
import Derived.Deep.QuietTactic
import Derived.Deep.LoopGhost
import Derived.BigQuiet
import Derived.WalkMore
import Derived.ScopeJumps
import Derived.ArgAppend
namespace Go.Proofs.YtgjbonikbmgfmaaGreatDoor
open Go.RowKit
theorem za {p : Prop} (h : p) : RowKit.Hid p := Lib.hid h
def L (b : BitVec 64) : Int := (b.toNat : Int)
abbrev V (b : BitVec 64) : Value := .int .u64 (L b)
def A (n : Nat) (f : Nat → BitVec 64) : Array Value := Array.ofFn (n := n) fun i => V (f i)
def upd (f : Nat → BitVec 64) (i : Nat) (v : BitVec 64) : Nat → BitVec 64 := fun j => if j = i then v else f j
theorem y0h (n : Nat) (f : Nat → BitVec 64) : (A n f).size = n := by simp [A]
theorem y3o (n : Nat) (f : Nat → BitVec 64) (i : Nat) (h : i < n) : (A n f)[i]? = some (V (f i)) := by
 simp [A, h]
theorem A_set (n : Nat) (f : Nat → BitVec 64) (i : Nat) (v : BitVec 64) : (A n f).setIfInBounds i (V v) = A n (upd f i v) := by
 apply Array.ext_getElem?
 intro j
 by_cases hj : j < n
 ·rw [y3o n _ j hj]
  by_cases e : i = j
  ·subst e
   simp [upd, y0h, hj]
  ·rw [Array.getElem?_setIfInBounds_ne e, y3o n f j hj]
   have e' : ¬ j = i := fun h => e h.symm
   simp [upd, e']
 ·rw [Array.getElem?_eq_none (by simpa [y0h] using hj), Array.getElem?_eq_none (by simpa [y0h] using hj)]
theorem A_congr {n : Nat} {f g : Nat → BitVec 64} (h : ∀ i, i < n → f i = g i) : A n f = A n g := by
 apply Array.ext_getElem?
 intro j
 by_cases hj : j < n
 ·rw [y3o n _ j hj, y3o n _ j hj, h j hj]
 ·rw [Array.getElem?_eq_none (by simpa [y0h] using hj), Array.getElem?_eq_none (by simpa [y0h] using hj)]
attribute [irreducible] A
theorem y19 (a : BitVec 64) : a.toNat < 18446744073709551616 := a.isLt
theorem L_bd (a : BitVec 64) : 0 ≤ L a ∧ L a ≤ 18446744073709551615 := by
 have := y19 a
 unfold L; omega
@[go_sem] theorem u64_L (a : BitVec 64) : IntKind.u64.wrap (L a) = L a := by
 have := L_bd a
 rw [IntKind.wrap_u64]; omega
@[go_sem] theorem xor_bv (a b : BitVec 64) : bits .xor .u64 (L a) (L b) = L (a ^^^ b) := by
 unfold L; rw [u64_xor_nat _ _ (y19 a) (y19 b), BitVec.toNat_xor]
@[go_sem] theorem and_bv (a b : BitVec 64) : bits .and .u64 (L a) (L b) = L (a &&& b) := by
 unfold L; rw [u64_and_nat _ _ (y19 a) (y19 b), BitVec.toNat_and]
@[go_sem] theorem or_bv (a b : BitVec 64) : bits .or .u64 (L a) (L b) = L (a ||| b) := by
 unfold L; rw [u64_or_nat _ _ (y19 a) (y19 b), BitVec.toNat_or]
@[go_sem] theorem andNot_bv (a b : BitVec 64) : bits .andNot .u64 (L a) (L b) = L (a &&& ~~~b) := by
 unfold L; rw [u64_andNot_nat _ _ (y19 a) (y19 b), BitVec.toNat_and, BitVec.toNat_not]
theorem z3b (w : World) (o : Obj) (g : Nat) (c : Array Value) (h : g < w.heap.size) : (w.alloc o).setRow g c = (w.setRow g c).alloc o := by
 simp only [World.setRow, World.alloc]
 congr 1
 apply Array.ext_getElem?
 intro i
 rw [Array.getElem?_modify]
 by_cases e : g = i
 ·subst e
  have h' : ¬ g = w.heap.size := by omega
  simp [Array.getElem?_push, h', Array.getElem?_modify]
 ·simp only [e, ↓reduceIte, Array.getElem?_push, Array.size_modify, Array.getElem?_modify]
theorem z33 (w : World) (c c' : Array Value) (t : TypeId) (g : Nat) (h : g = w.heap.size) : (w.alloc (.cells c t)).setRow g c' = w.alloc (.cells c' t) := by
 subst h
 exact World.setRow_alloc_new w c c' t
theorem z2d (w : World) (o : Obj) (g : Nat) (h : g < w.heap.size) : (w.alloc o).heap[g]? = w.heap[g]? := Below.heap_alloc w o g h
section
variable (w : World) (o1 o2 o3 o4 : Obj)
variable (c c' : Array Value) (t : TypeId)
theorem y7v : (w.alloc (.cells c t)).setRow w.heap.size c' = w.alloc (.cells c' t) := z33 _ _ _ _ _ rfl
theorem y5b : ((w.alloc (.cells c t)).alloc o2).setRow w.heap.size c' = (w.alloc (.cells c' t)).alloc o2 := by rw [z3b _ _ _ _ (by simp), y7v]
theorem y5a : ((w.alloc o1).alloc (.cells c t)).setRow (w.heap.size + 1) c' = (w.alloc o1).alloc (.cells c' t) := z33 _ _ _ _ _ (by simp)
theorem setRow3a : (((w.alloc (.cells c t)).alloc o2).alloc o3).setRow w.heap.size c' = ((w.alloc (.cells c' t)).alloc o2).alloc o3 := by rw [z3b _ _ _ _ (by simp; omega), y5b]
theorem setRow3b : (((w.alloc o1).alloc (.cells c t)).alloc o3).setRow (w.heap.size + 1) c' = ((w.alloc o1).alloc (.cells c' t)).alloc o3 := by rw [z3b _ _ _ _ (by simp), y5a]
theorem setRow3c : (((w.alloc o1).alloc o2).alloc (.cells c t)).setRow (w.heap.size + 1 + 1) c' = ((w.alloc o1).alloc o2).alloc (.cells c' t) := z33 _ _ _ _ _ (by simp)
end
attribute [go_sem] y3o A_set y7v y5b y5a setRow3a setRow3b setRow3c
def U8 (b : BitVec 8) : Int := (b.toNat : Int)
abbrev U (b : BitVec 8) : Value := .int .u8 (U8 b)
def AB (n : Nat) (f : Nat → BitVec 8) : Array Value := Array.ofFn (n := n) fun i => U (f i)
def upd8 (f : Nat → BitVec 8) (i : Nat) (v : BitVec 8) : Nat → BitVec 8 := fun j => if j = i then v else f j
theorem z7c (n : Nat) (f : Nat → BitVec 8) : (AB n f).size = n := by simp [AB]
theorem z8z (n : Nat) (f : Nat → BitVec 8) (i : Nat) (h : i < n) : (AB n f)[i]? = some (U (f i)) := by simp [AB, h]
theorem AB_set (n : Nat) (f : Nat → BitVec 8) (i : Nat) (v : BitVec 8) : (AB n f).setIfInBounds i (U v) = AB n (upd8 f i v) := by
 apply Array.ext_getElem?
 intro j
 by_cases hj : j < n
 ·rw [z8z n _ j hj]
  by_cases e : i = j
  ·subst e
   simp [upd8, z7c, hj]
  ·rw [Array.getElem?_setIfInBounds_ne e, z8z n f j hj]
   have e' : ¬ j = i := fun h => e h.symm
   simp [upd8, e']
 ·rw [Array.getElem?_eq_none (by simpa [z7c] using hj), Array.getElem?_eq_none (by simpa [z7c] using hj)]
theorem AB_zero (n : Nat) : AB n (fun _ => 0) = Array.replicate n (.int .u8 0) := by
 apply Array.ext_getElem?
 intro j
 by_cases hj : j < n
 ·rw [z8z n _ j hj]
  simp [hj]
  rfl
 ·rw [Array.getElem?_eq_none (by simpa [z7c] using hj), Array.getElem?_eq_none (by simpa using hj)]
theorem AB_congr {n : Nat} {f g : Nat → BitVec 8} (h : ∀ i, i < n → f i = g i) : AB n f = AB n g := by
 apply Array.ext_getElem?
 intro j
 by_cases hj : j < n
 ·rw [z8z n _ j hj, z8z n _ j hj, h j hj]
 ·rw [Array.getElem?_eq_none (by simpa [z7c] using hj), Array.getElem?_eq_none (by simpa [z7c] using hj)]
attribute [irreducible] AB
theorem U8_bd (b : BitVec 8) : 0 ≤ U8 b ∧ U8 b ≤ 255 := by
 have := b.isLt
 unfold U8; omega
theorem y9y {a b : BitVec 8} : U8 a = U8 b ↔ a = b := by
 unfold U8
 constructor
 ·intro h; exact BitVec.eq_of_toNat_eq (by omega)
 ·intro h; rw [h]
def zx (b : BitVec 8) : BitVec 64 := b.setWidth 64
def low8 (x : BitVec 64) : BitVec 8 := x.setWidth 8
def shl (x : BitVec 64) (k : Nat) : BitVec 64 := x <<< k
def shr (x : BitVec 64) (k : Nat) : BitVec 64 := x >>> k
@[go_sem] theorem u64_U8 (b : BitVec 8) : IntKind.u64.wrap (U8 b) = L (zx b) := by
 have := b.isLt
 rw [IntKind.wrap_u64]
 unfold U8 L zx
 rw [BitVec.toNat_setWidth, Nat.mod_eq_of_lt (by omega)]
 omega
@[go_sem] theorem u64_shl (x : BitVec 64) (k : Nat) : IntKind.u64.wrap (L x * 2 ^ k) = L (shl x k) := by
 unfold L shl
 rw [IntKind.wrap_u64, BitVec.toNat_shiftLeft, Nat.shiftLeft_eq]
 show _ = ((x.toNat * 2 ^ k % 18446744073709551616 : Nat) : Int)
 rw [Int.natCast_emod, Int.natCast_mul, Int.natCast_pow]
 rfl
@[go_sem] theorem u64_shr (x : BitVec 64) (k : Nat) : L x / 2 ^ k = L (shr x k) := by
 unfold L shr
 rw [BitVec.toNat_ushiftRight, Nat.shiftRight_eq_div_pow, Int.natCast_ediv, Int.natCast_pow]
 rfl
@[go_sem] theorem u8_L (x : BitVec 64) : IntKind.u8.wrap (L x) = U8 (low8 x) := by
 rw [IntKind.wrap_u8]
 unfold L U8 low8
 rw [BitVec.toNat_setWidth]
 omega
@[go_sem] theorem u8_U8 (b : BitVec 8) : IntKind.u8.wrap (U8 b) = U8 b := by
 have := U8_bd b
 rw [IntKind.wrap_u8]; omega
@[go_sem] theorem u8_inc (b : BitVec 8) : IntKind.u8.wrap (U8 b + 1) = U8 (b + 1) := by
 rw [IntKind.wrap_u8]
 unfold U8
 rw [BitVec.toNat_add]
 show _ = (((b.toNat + 1) % 256 : Nat) : Int)
 omega
@[go_sem] theorem xor_u8 (a b : BitVec 8) : bits .xor .u8 (U8 a) (U8 b) = U8 (a ^^^ b) := by
 have h1 := a.isLt
 have h2 := b.isLt
 unfold U8
 rw [u8_xor_nat _ _ (by omega) (by omega), BitVec.toNat_xor]
theorem neq_U8 (a b : BitVec 8) : (U8 a != U8 b) = (a != b) := by
 rw [Bool.eq_iff_iff, bne_iff_ne, bne_iff_ne]
 exact not_congr y9y
structure Sl (w : World) (B : Nat) (a : Option Addr) (n c : Nat) (f : Nat → BitVec 8) : Prop where
 le : n ≤ c
 nil : a = none → c = 0
 low : ∀ ad, a = some ad → 0 < n → ∃ b o, ad = ⟨b, o, none⟩ ∧ b < B ∧ ∀ i, i < n → w.cell? ⟨b, o + i, none⟩ = some (U (f i))
section
variable {w w' : World} {B : Nat} {a : Option Addr} {n c : Nat} {f : Nat → BitVec 8}
theorem Sl.get (h : Sl w B a n c f) (i : Nat) (hi : i < n) : ∃ b o, a = some ⟨b, o, none⟩ ∧ b < B ∧ w.cell? ⟨b, o + i, none⟩ = some (U (f i)) := by
 cases ha : a with
 | none =>
  have h1 := h.nil ha
  have h2 := h.le
  exfalso; omega
 | some ad =>
  obtain ⟨b, o, rfl, hb, hc⟩ := h.low ad ha (by omega)
  exact ⟨b, o, rfl, hb, hc i hi⟩
theorem Sl.below (h : Sl w B a n c f) (hb : Below B w w') : Sl w' B a n c f :=
 ⟨h.le, h.nil, fun ad ha h0 => by
  obtain ⟨b, o, rfl, hlt, hc⟩ := h.low ad ha h0
  exact ⟨b, o, rfl, hlt, fun i hi => (hb.cell (p := ⟨b, o + i, none⟩) hlt).trans (hc i hi)⟩⟩
theorem Sl.more {B' : Nat} (h : Sl w B a n c f) (hB : B ≤ B') : Sl w B' a n c f :=
 ⟨h.le, h.nil, fun ad ha h0 => by
  obtain ⟨b, o, rfl, hlt, hc⟩ := h.low ad ha h0
  exact ⟨b, o, rfl, by omega, hc⟩⟩
theorem Sl.congr {g : Nat → BitVec 8} (h : Sl w B a n c f) (hg : ∀ i, i < n → f i = g i) : Sl w B a n c g :=
 ⟨h.le, h.nil, fun ad ha h0 => by
  obtain ⟨b, o, rfl, hlt, hc⟩ := h.low ad ha h0
  exact ⟨b, o, rfl, hlt, fun i hi => by rw [← hg i hi]; exact hc i hi⟩⟩
theorem Sl.own {g m : Nat} {t : TypeId} (hg : w.heap[g]? = some (.cells (AB m f) t)) (hm : n ≤ m) (hc : n ≤ c) (hB : g < B) : Sl w B (some ⟨g, 0, none⟩) n c f :=
 ⟨hc, (fun h => by cases h), fun ad ha _ => ⟨g, 0, (Option.some.inj ha).symm, hB, fun i hi => by rw [Nat.zero_add, cell_of_row _ _ _ _ _ _ hg, z8z _ _ _ (by omega)]⟩⟩
end
theorem qa {α : Type} {l : List α} {i : Nat} {a : α} : l.toArray.setIfInBounds i a = (l.set i a).toArray := List.setIfInBounds_toArray ..
theorem qb {α : Type} {a b : α} {l : List α} : (a :: l).set 0 b = b :: l := rfl
theorem qc {α : Type} {a b : α} {l : List α} {n : Nat} : (a :: l).set (n + 1) b = a :: l.set n b := rfl
section
variable {P : Program} {ops : Array Oper} {Q : Exit → Act → World → Prop} {md : Region.Mode} {S : World → Prop} {fuel : Nat} {listed : Array Bool} {a : Act} {w : World}
theorem zJ : AllReadyH P md ops Q S fuel listed a w [] := AllReadyH.nil
theorem zG {i : Nat} {o : Oper} {rs : List Nat} (ho : ops[i]? = some o)
    (h : ∀ K' : Act → World → Prop, Shut (∀ a w, S w → (S w → wpAnyH P md ops Q S fuel (listed.setIfInBounds i true) a w) → K' a w) → if Region.wanted o (yielded ops a.tmps) = true then Oper.wp P o a w K' Q else K' (a.put o.dst undef) w)
    (hs : AllReadyH P md ops Q S fuel listed a w rs) : AllReadyH P md ops Q S fuel listed a w (i :: rs) := AllReadyH.cons ho h hs
theorem zK (rs : List Nat) (h : AllReadyH P md ops Q S fuel listed a w rs) (hr : Region.ready md ops listed = rs := by kernel_rfl) (hne : rs ≠ [] := by simp) : wpAnyH P md ops Q S (fuel + 1) listed a w := wpAnyH_ready hr hne h
theorem zn (i : Nat) {o : Oper} (ho : ops[i]? = some o)
    (h : ∀ K' : Act → World → Prop, Shut (∀ a w, S w → (S w → wpAnyH P md ops Q S fuel (listed.setIfInBounds i true) a w) → K' a w) → if Region.wanted o (yielded ops a.tmps) = true then Oper.wp P o a w K' Q else K' (a.put o.dst undef) w)
    (hr : Region.ready md ops listed = [i] := by kernel_rfl) : wpAnyH P md ops Q S (fuel + 1) listed a w := wpAnyH_ready hr (by simp) (AllReadyH.cons ho h AllReadyH.nil)
end
section
variable {P : Program} {md : Region.Mode} {ops : Array Oper} {Q : Exit → Act → World → Prop} {S : World → Prop} {fuel : Nat} {listed : Array Bool} {a : Act} {w : World}
theorem z0h (i : Nat) (d : Tmp) (v : Value) {oi : Oper} (hi : ops[i]? = some oi) (hd : oi.dst = some d) (hw : Region.wanted oi (yielded ops a.tmps) = true) (hS : S w) (hy : ∀ w, S w → (execOp a.eval oi).run P w = .ok (.value v) w)
  (h : wpAnyH P md ops (NoPanic Q) S fuel (listed.setIfInBounds i true) (a.put (some d) v) w) (hs : Region.noSelect ops = true := by kernel_rfl) (hf : Region.free md ops listed i = true := by kernel_rfl) (hr : (Region.ready md ops listed).contains i = true := by kernel_rfl) : wpAnyH P md ops (NoPanic Q) S (fuel + 1) listed a w :=
 wpAnyH_take hi hs hf hr (fun _ _ _ h => h) (.inl ⟨hw, hy⟩) hS (by rw [hd]; exact h)
end
section
variable {P : Program} {ops : Array Oper} {Q : Exit → Act → World → Prop} {md : Region.Mode} {S : World → Prop} {fuel : Nat} {listed : Array Bool} {a : Act} {w : World}
theorem zm (h : Q .normal a w) (hr : Region.ready md ops listed = [] := by kernel_rfl) : wpAnyH P md ops (NoPanic Q) S fuel listed a w := wpAnyH_done hr (NoPanic.normal h) _
theorem zh (i : Nat) (d : Tmp) (v : Value) {oi : Oper} {a' : Act} {l' : Array Bool} (hS : S w) (h : wpAnyH P md ops (NoPanic Q) S fuel l' a' w) (hi : ops[i]? = some oi := by exact rfl) (hd : oi.dst = some d := by exact rfl) (hw : Region.wanted oi (yielded ops a.tmps) = true := by exact rfl) (hy : ∀ w, S w → (execOp a.eval oi).run P w = .ok (.value v) w := by intro w hw; go_simp) (hs : Region.noSelect ops = true := by kernel_rfl) (hf : Region.free md ops listed i = true := by kernel_rfl) (hr : (Region.ready md ops listed).contains i = true := by kernel_rfl) (hl : listed.setIfInBounds i true = l' := by ((try simp only [qa, qb, qc]); exact rfl)) (ha : a.put (some d) v = a' := by ((try simp only [Act.put, qa, qb, qc]); exact rfl)) : wpAnyH P md ops (NoPanic Q) S (fuel + 1) listed a w := z0h i d v hi hd hw hS hy (by rw [hl, ha]; exact h) (hs := hs) (hf := hf) (hr := hr)
theorem zc {R K : Act → World → Prop} (hK : Shut (∀ a w, S w → (S w → R a w) → K a w)) (x : S w) (f : S w → R a w) : K a w := hK.out _ _ x f
end
def UB (f : Nat → BitVec 8) : Nat → Int := fun i => U8 (f i)
theorem z6q {w : World} {g : Nat} {o : Obj} (h : w.heap[g]? = some o) : g < w.heap.size := by
 rcases Nat.lt_or_ge g w.heap.size with h' | h'
 ·exact h'
 ·rw [Array.getElem?_eq_none h'] at h; cases h
theorem info5 : (Tryz.prog.info? 5).map (fun i => (i.zero, i.size, i.bytes)) = some (some (.int .u8 0), 1, 1) := by kernel_rfl
theorem z66 : ∃ i, Tryz.prog.info? 5 = some i ∧ i.zero = some (.int .u8 0) ∧ i.size = 1 ∧ i.bytes = 1 := by
 cases hq : Tryz.prog.info? 5 with
 | none => have := info5; simp [hq] at this
 | some i =>
  have := info5
  simp [hq] at this
  exact ⟨i, rfl, this.1, this.2.1, this.2.2⟩
structure St (w W : World) (l : List (Nat × Obj)) : Prop where
 bel : Below w.heap.size w W
 has : ∀ x ∈ l, W.heap[x.1]? = some x.2
section
variable {w W W' : World} {l : List (Nat × Obj)}
theorem St.start (w : World) : St w w [] := ⟨Below.refl _ _, fun _ h => by cases h⟩
theorem St.call (h : St w W l) (hb : Below W.heap.size W W') : St w W' l :=
 ⟨h.bel.trans (hb.mono h.bel.size), fun x hx => (hb.block _ (z6q (h.has x hx))).trans (h.has x hx)⟩
theorem St.alloc (h : St w W l) (o : Obj) : St w (W.alloc o) ((W.heap.size, o) :: l) :=
 ⟨h.bel.alloc h.bel.size o, fun x hx => by
  rcases List.mem_cons.1 hx with rfl | hx
  ·exact heap_alloc_last W o
  ·exact (z2d _ _ _ (z6q (h.has x hx))).trans (h.has x hx)⟩
theorem St.drew (h : St w W l) : St w W.drew l := ⟨h.bel.drew, h.has⟩
theorem St.get (h : St w W l) (g : Nat) (o : Obj) (hm : (g, o) ∈ l) : W.heap[g]? = some o := h.has _ hm
theorem Sl.call {B : Nat} {a : Option Addr} {n c : Nat} {f : Nat → BitVec 8} (h : Sl W B a n c f) (hB : B ≤ W.heap.size) (hb : Below W.heap.size W W') : Sl W' W'.heap.size a n c f :=
 ((h.more hB).below hb).more hb.size
theorem Sl.alloc {a : Option Addr} {n c : Nat} {f : Nat → BitVec 8} (h : Sl W W.heap.size a n c f) (o : Obj) : Sl (W.alloc o) (W.alloc o).heap.size a n c f :=
 h.call (Nat.le_refl _) ((Below.refl _ _).alloc (Nat.le_refl _) o)
theorem Sl.drew {a : Option Addr} {n c : Nat} {f : Nat → BitVec 8} (h : Sl W W.heap.size a n c f) : Sl W.drew W.drew.heap.size a n c f := ⟨h.le, h.nil, h.low⟩
end
def RowB (w : World) (b n : Nat) (f : Nat → BitVec 8) : Prop := w.heap[b]? = some (.cells (AB n f) 5)
section
variable {w W : World} {b n : Nat} {f : Nat → BitVec 8}
theorem RowB.lt (h : RowB w b n f) : b < w.heap.size := z6q h
theorem RowB.cell (h : RowB w b n f) (i : Nat) (hi : i < n) : w.cell? ⟨b, i, none⟩ = some (U (f i)) := by rw [cell_of_row _ _ _ _ _ _ h, z8z _ _ _ hi]
theorem RowB.thaw (h : RowB w b n f) (i : Nat) : w.frozen? ⟨b, i, none⟩ = false := frozen_of_row _ _ _ _ _ h
theorem RowB.below (h : RowB w b n f) (hb : Below w.heap.size w W) : RowB W b n f := (hb.block _ h.lt).trans h
theorem RowB.drew (h : RowB w b n f) : RowB w.drew b n f := h
theorem RowB.alloc (h : RowB w b n f) (o : Obj) : RowB (w.alloc o) b n f := (z2d _ _ _ h.lt).trans h
theorem RowB.setCell (h : RowB w b n f) (i : Nat) (v : BitVec 8) : RowB (w.setCell ⟨b, i, none⟩ (U v)) b n (upd8 f i v) := by
 have := heap_setCell_same w b i _ _ (U v) h
 rwa [AB_set] at this
theorem RowB.congr {f' : Nat → BitVec 8} (h : RowB w b n f) (hf : ∀ i, i < n → f i = f' i) : RowB w b n f' := by
 unfold RowB at h ⊢
 rw [h, AB_congr hf]
theorem RowB.sl (h : RowB w b n f) : Sl w w.heap.size (some ⟨b, 0, none⟩) n n f := Sl.own h (Nat.le_refl _) (Nat.le_refl _) h.lt
end
theorem made_u8 (n : Nat) : madeCells (Value.int .u8 0).cells n = AB n fun _ => 0 := by
 rw [AB_zero]
 unfold madeCells
 apply Array.ext_getElem?
 intro j
 simp only [Array.getElem?_map, Array.getElem?_replicate]
 by_cases h : j < n
 ·simp [h, Value.cells, Nat.mod_one]
 ·simp [h]
theorem z6v (w : World) (l c : Nat) (hl : l ≤ c) (hc : c ≤ 1000000) : (Instr.makeSlice 22 (.int .i64 (l : Int)) (.int .i64 (c : Int))).run Tryz.prog w = .ok (.slice (some ⟨w.heap.size, 0, none⟩) l c) (w.alloc (.cells (AB c fun _ => 0) 5)) := by
 obtain ⟨i, hi, hz, hs, hb⟩ := z66
 have h := run_makeSlice (P := Tryz.prog) w 22 5 i (.int .u8 0) Tryz.underlying22 hi hz .i64 .i64 (l : Int) (c : Int) (by omega) (by omega) (by rw [hs, Int.toNat_natCast]; omega) (by rw [hb]; omega) (by omega)
 rw [hs, Int.toNat_natCast, Int.toNat_natCast, Nat.mul_one, made_u8] at h
 exact h
section
variable {ops : Array Oper} {rest : List Oper} {o : Oper} {a : Act} {w : World} {Q : Exit → Act → World → Prop}
theorem y5x (hgd : o.guard = none) {x y : Operand} (ho : o.op = .makeSlice 22 x y) {l c : Nat} (hx : a.eval x = .int .i64 (l : Int)) (hy : a.eval y = .int .i64 (c : Int)) (hl : l ≤ c) (hc : c ≤ 1000000)
  (k : ∀ K : Act → World → Prop, (∀ a w, wpList Tryz.prog ops Q rest a w → K a w) → K (a.put o.dst (.slice (some ⟨w.heap.size, 0, none⟩) l c)) (w.alloc (.cells (AB c fun _ => 0) 5))) : wpList Tryz.prog ops Q (o :: rest) a w :=
 wpList_plain hgd fun K hK => by
  unfold Oper.wp execOp
  simp only [ho, hx, hy, Sem.run_bind, z6v w l c hl hc, Result.andThen_ok]
  exact k K hK
end
def OwnB (w : World) (base : Nat) (v : Value) (n : Nat) (f : Nat → BitVec 8) : Prop := w.ownsRow base 5 1 v n ((List.range n).map fun i => U (f i))
theorem OwnB.nil (w : World) (base : Nat) (f : Nat → BitVec 8) : OwnB w base (.slice none 0 0) 0 f := ⟨rfl, .inl ⟨rfl, rfl⟩⟩
theorem OwnB.sl {w : World} {base : Nat} {v : Value} {n : Nat} {f : Nat → BitVec 8} (h : OwnB w base v n f) (hn : 0 < n) :
  ∃ g c cur, v = .slice (some ⟨g, 0, none⟩) n c ∧ base ≤ g ∧ w.heap[g]? = some (.cells cur 5) ∧ Sl w w.heap.size (some ⟨g, 0, none⟩) n c f := by
 obtain ⟨_, hv⟩ := h
 rcases hv with ⟨_, h0⟩ | ⟨g, cap, cur, rfl, hg, hrow, hle, _, hcs, htake⟩
 ·omega
 ·refine ⟨g, cap, cur, rfl, hg, hrow, hle, (fun e => by cases e), fun ad e _ => ⟨g, 0, (Option.some.inj e).symm, z6q hrow, fun i hi => ?_⟩⟩
  rw [Nat.zero_add, cell_of_row _ _ _ _ _ _ hrow]
  have := congrArg (·[i]?) htake
  rw [Nat.mul_one] at this
  simpa [hi] using this
theorem OwnB.alloc {w : World} {base : Nat} {v : Value} {n : Nat} {f : Nat → BitVec 8} (h : OwnB w base v n f) (o : Obj) : OwnB (w.alloc o) base v n f := by
 obtain ⟨hl, hv⟩ := h
 refine ⟨hl, ?_⟩
 rcases hv with h0 | ⟨g, cap, cur, hv, hg, hrow, hr⟩
 ·exact .inl h0
 ·exact .inr ⟨g, cap, cur, hv, hg, (z2d _ _ _ (z6q hrow)).trans hrow, hr⟩
section
variable {w : World} {ops : Array Oper} {rest : List Oper} {o : Oper} {act : Act} {Q : Exit → Act → World → Prop}
theorem z0y (hgd : o.guard = none) {s x : Operand} (ho : o.op = .call { callee := .builtin .append, args := #[s, x], argTypes := #[22, 22] }) {v : Value} (hs : act.eval s = v)
  {gx cx : Nat} (hx : act.eval x = .slice (some ⟨gx, 0, none⟩) 1 cx) {base n : Nat} {f : Nat → BitVec 8} (hc : w.cell? ⟨gx, 0, none⟩ = some (U (f n))) (hown : OwnB w base v n f) (hn : n ≤ 100000) (hbase : base ≤ w.heap.size)
  (h : ∀ v' w', OwnB w' base v' (n + 1) f → Below base w w' → ∀ K : Act → World → Prop, (∀ a w, wpList Tryz.prog ops Q rest a w → K a w) → K (act.put o.dst v') w') : wpList Tryz.prog ops Q (o :: rest) act w := by
 obtain ⟨i, hi, hz, hsz, hby⟩ := z66
 refine wpList_append_own w hgd s x _ ho base 5 i (.int .u8 0) 1 1 Tryz.underlying22 hi hz hsz hby rfl (by omega) v n _ hs hown
  ⟨gx, 0, none⟩ 1 cx [U (f n)] hx rfl (fun j u hu => ?_) (fun u hu => ?_) (by unfold maxLen; omega) (by omega) hbase ?_
 ·have hj : j = 0 := by
   rcases j with _ | j
   ·rfl
   ·simp at hu
  subst hj
  simp at hu
  rw [Addr.add_mid, Nat.add_zero, hc, ← hu]
 ·simp at hu
  subst hu
  rfl
 ·intro v' w' ho' hgrow _
  refine h v' w' ?_ ((Below.refl _ _).grown hgrow hbase fun k hk => ?_) _ fun _ _ h => h
  ·unfold OwnB
   rw [List.range_succ, List.map_append]
   exact ho'
  ·obtain ⟨_, hv⟩ := hown
   rcases hv with ⟨rfl, _⟩ | ⟨g, cap, cur, rfl, hg, _⟩
   ·cases hk
   ·have : g = k := by simpa [Value.ownBlock] using hk
    omega
end
@[go_sem] theorem u64_div256 (x : BitVec 64) : L x / 256 = L (shr x 8) := u64_shr x 8
@[go_sem] theorem u8_mod256 (x : BitVec 64) : IntKind.u8.wrap (L x % 256) = U8 (low8 x) := by
 rw [← u8_L, IntKind.wrap_u8, IntKind.wrap_u8]
 omega
def nB (f : Nat → BitVec 8) : Nat → Nat
 | 0 => 0
 | n + 1 => nB f n + (f n).toNat * 256 ^ n
def bX (x j : Nat) : BitVec 8 := BitVec.ofNat 8 (x / 256 ^ j)
theorem y9p (x j : Nat) : (bX x j).toNat = x / 256 ^ j % 256 := by unfold bX; rw [BitVec.toNat_ofNat]
theorem U8_bX (x j : Nat) : U8 (bX x j) = ((x / 256 ^ j % 256 : Nat) : Int) := by unfold U8; rw [y9p]
theorem y4d (f : Nat → BitVec 8) : ∀ n, nB f n < 256 ^ n
 | 0 => by simp [nB]
 | n + 1 => by
  have ih := y4d f n
  have hb := (f n).isLt
  unfold nB
  rw [Nat.pow_succ]
  have h2 := Nat.mul_le_mul_right (256 ^ n) (show (f n).toNat ≤ 255 by omega)
  omega
theorem z7o (f : Nat → BitVec 8) (a : Nat) : ∀ b, nB f (a + b) = nB f a + 256 ^ a * nB (fun j => f (a + j)) b
 | 0 => by simp [nB]
 | b + 1 => by
  rw [← Nat.add_assoc]
  show nB f (a + b) + (f (a + b)).toNat * 256 ^ (a + b) = nB f a + 256 ^ a * (nB (fun j => f (a + j)) b + (f (a + b)).toNat * 256 ^ b)
  rw [z7o f a b, Nat.mul_add, Nat.pow_add, Nat.mul_left_comm, Nat.add_assoc]
theorem nB_front (f : Nat → BitVec 8) (n : Nat) : nB f (n + 1) = (f 0).toNat + 256 * nB (fun j => f (1 + j)) n := by
 rw [Nat.add_comm n 1, z7o f 1 n, Nat.pow_one]
 simp [nB]
theorem nB_bX (x : Nat) : ∀ n, nB (bX x) n = x % 256 ^ n
 | 0 => by simp [nB, Nat.mod_one]
 | n + 1 => by
  unfold nB
  rw [nB_bX x n, y9p, Nat.pow_succ, Nat.mod_mul, Nat.mul_comm]
theorem nB_mid (f : Nat → BitVec 8) (i n r : Nat) (hn : n = 7 * i + (7 + r)) : nB f n / 256 ^ (7 * i) = nB (fun j => f (7 * i + j)) 7 + 72057594037927936 * nB (fun j => f (7 * i + 7 + j)) r := by
 subst hn
 rw [z7o, Nat.add_mul_div_left _ _ (Nat.pow_pos (by omega)), Nat.div_eq_of_lt (y4d f _), Nat.zero_add, z7o]
 congr 3
 funext j
 rw [Nat.add_assoc]
theorem y8a (i : Nat) : 268435456 ^ (2 * i) = 256 ^ (7 * i) := by
 rw [show 268435456 = 2 ^ 28 from rfl, show 256 = 2 ^ 8 from rfl, ← Nat.pow_mul, ← Nat.pow_mul]
 congr 1
 omega
theorem pow_56 (i : Nat) : 72057594037927936 ^ i = 256 ^ (7 * i) := by
 rw [show 72057594037927936 = 2 ^ 56 from rfl, show 256 = 2 ^ 8 from rfl, ← Nat.pow_mul, ← Nat.pow_mul]
 congr 1
 omega
end Go.Proofs.YtgjbonikbmgfmaaGreatDoor
