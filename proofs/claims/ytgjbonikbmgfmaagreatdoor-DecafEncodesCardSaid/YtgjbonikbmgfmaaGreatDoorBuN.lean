/- Lemmas; no statement is proved here. -/
import Derived.Test.YtgjbonikbmgfmaaGreatDoorBuD
import Derived.Great.BuildSlice
import Derived.Lib.Strings
import Derived.Lib.Slices
import Derived.Lib.Small
import Derived.Lib.Walk
import Derived.Lib.BitFns
import Derived.Laws.IdiomCopy
import Derived.Lib.AppendZerosOnto
set_option maxRecDepth 8000
set_option maxHeartbeats 3200000
namespace Go.Proofs.YtgjbonikbmgfmaaGreatDoor
def wd (x i : Nat) : BitVec 64 := BitVec.ofNat 64 (x / 2 ^ (64 * i))
def bt (x i : Nat) : BitVec 8 := BitVec.ofNat 8 (x / 2 ^ (8 * i))
def bl (x : Nat) : Nat := if x = 0 then 0 else x.log2 + 1
def dl (b x : Nat) : Nat := (bl x + (b - 1)) / b
theorem y2a (x k : Nat) : bl x ≤ k ↔ x < 2 ^ k := by
 unfold bl
 by_cases h : x = 0
 ·subst h; simp [Nat.two_pow_pos]
 ·rw [if_neg h]
  exact Nat.log2_lt h
theorem z5f (b x k : Nat) (hb : 0 < b) : dl b x ≤ k ↔ x < 2 ^ (b * k) := by
 rw [← y2a]
 unfold dl
 rw [← Nat.lt_succ_iff, Nat.div_lt_iff_lt_mul hb, Nat.succ_mul, Nat.mul_comm k b]
 omega
theorem z96 (b x : Nat) (hb : 0 < b) : x < 2 ^ (b * dl b x) := (z5f b x _ hb).1 (Nat.le_refl _)
theorem y0f (x : Nat) : x < 2 ^ bl x := (y2a x _).1 (Nat.le_refl _)
theorem bl_eq {x k : Nat} (h1 : x < 2 ^ k) (h2 : k = 0 ∨ 2 ^ (k - 1) ≤ x) : bl x = k := by
 have h3 := (y2a x k).2 h1
 rcases h2 with rfl | h2
 ·omega
 ·by_cases h : bl x ≤ k - 1
  ·have := (y2a x _).1 h; omega
  ·omega
theorem y66 {b x k : Nat} (hb : 0 < b) (h1 : x < 2 ^ (b * k)) (h2 : k = 0 ∨ 2 ^ (b * (k - 1)) ≤ x) : dl b x = k := by
 have h3 := (z5f b x k hb).2 h1
 rcases h2 with rfl | h2
 ·omega
 ·by_cases h : dl b x ≤ k - 1
  ·have := (z5f b x _ hb).1 h; omega
  ·omega
theorem z52 (x i : Nat) : (bt x i).toNat = x / 2 ^ (8 * i) % 256 := by
 unfold bt; rw [BitVec.toNat_ofNat]
theorem z8x (x i j : Nat) : (bt x i).getLsbD j = (decide (j < 8) && x.testBit (8 * i + j)) := by
 unfold bt; rw [BitVec.getLsbD_ofNat, Nat.testBit_div_two_pow, Nat.add_comm]
theorem z7a {x n i : Nat} (h : x < 2 ^ (8 * n)) (hi : n ≤ i) : bt x i = 0 := by
 unfold bt
 rw [Nat.div_eq_of_lt (Nat.lt_of_lt_of_le h (Nat.pow_le_pow_right (by omega) (by omega)))]
 rfl
theorem bt_zero (i : Nat) : bt 0 i = 0 := z7a (n := 0) (by simp) (Nat.zero_le _)
theorem y2q (b i : Nat) : 2 ^ (b * (i + 1)) = 2 ^ (b * i) * 2 ^ b := by rw [Nat.mul_succ, Nat.pow_add]
theorem pow8 (i : Nat) : 2 ^ (8 * (i + 1)) = 2 ^ (8 * i) * 256 := y2q 8 i
theorem bt_top {x n : Nat} (h : x < 2 ^ (8 * (n + 1))) : bt x n = 0 ↔ x < 2 ^ (8 * n) := by
 have e : (bt x n).toNat = x / 2 ^ (8 * n) := by
  rw [z52, Nat.mod_eq_of_lt]
  rw [Nat.div_lt_iff_lt_mul (Nat.two_pow_pos _), Nat.mul_comm, ← pow8]; exact h
 constructor
 ·intro h0
  rw [h0] at e
  have e' : 0 = x / 2 ^ (8 * n) := e
  exact Nat.lt_of_div_eq_zero (Nat.two_pow_pos _) e'.symm
 ·intro h0
  exact z7a h0 (Nat.le_refl _)
theorem eq_of_bits {x y n : Nat} (hx : x < 2 ^ n) (hy : y < 2 ^ n) (h : ∀ i, i < n → x.testBit i = y.testBit i) : x = y := by
 apply Nat.eq_of_testBit_eq
 intro i
 by_cases hi : i < n
 ·exact h i hi
 ·rw [Nat.testBit_lt_two_pow (Nat.lt_of_lt_of_le hx (Nat.pow_le_pow_right (by omega) (by omega))), Nat.testBit_lt_two_pow (Nat.lt_of_lt_of_le hy (Nat.pow_le_pow_right (by omega) (by omega)))]
theorem z9h (f : Nat → BitVec 8) : ∀ n, ∃ x, x < 2 ^ (8 * n) ∧ ∀ i, i < n → bt x i = f i
 | 0 => ⟨0, by simp, fun i h => by omega⟩
 | n + 1 => by
  obtain ⟨x, hx, h⟩ := z9h f n
  refine ⟨2 ^ (8 * n) * (f n).toNat + x, ?_, fun i hi => ?_⟩
  ·rw [pow8]
   have h1 : (f n).toNat + 1 ≤ 256 := (f n).isLt
   have := Nat.mul_le_mul_left (2 ^ (8 * n)) h1
   rw [Nat.mul_add] at this
   omega
  ·apply BitVec.eq_of_getLsbD_eq
   intro j hj
   rw [z8x, Nat.two_pow_add_eq_or_of_lt hx, Nat.testBit_or, Nat.testBit_two_pow_mul]
   by_cases e : i = n
   ·subst e
    rw [Nat.testBit_lt_two_pow (Nat.lt_of_lt_of_le hx (Nat.pow_le_pow_right (by omega) (by omega : 8 * i ≤ 8 * i + j)))]
    simp [hj, BitVec.testBit_toNat]
   ·have h2 := congrArg (fun b => b.getLsbD j) (h i (by omega))
    simp only [z8x] at h2
    have : ¬ 8 * i + j ≥ 8 * n := by omega
    simp [hj, this] at h2 ⊢
    exact h2
theorem z9m (x y P B : Nat) (hP : 0 < P) (_hB : 0 < B) : (x + y) / P % B = (x / P % B + y / P % B + (x % P + y % P) / P) % B ∧ (x % (P * B) + y % (P * B)) / (P * B) = (x / P % B + y / P % B + (x % P + y % P) / P) / B := by
 have e1 : (x + y) / P = x / P + y / P + (x % P + y % P) / P := by
  have : x + y = P * (x / P + y / P) + (x % P + y % P) := by
   rw [Nat.mul_add]; have := Nat.div_add_mod x P; have := Nat.div_add_mod y P; omega
  rw [this, Nat.mul_add_div hP]
 constructor
 ·rw [e1, Nat.add_mod, Nat.add_mod (x / P)]
  simp [Nat.add_mod]
 ·rw [Nat.mod_mul, Nat.mod_mul, ← Nat.div_div_eq_div_mul]
  congr 1
  have : x % P + P * (x / P % B) + (y % P + P * (y / P % B)) = P * (x / P % B + y / P % B) + (x % P + y % P) := by rw [Nat.mul_add]; omega
  rw [this, Nat.mul_add_div hP]
def cmp (x y : Nat) : Int := if x < y then -1 else if y < x then 1 else 0
theorem cmp_lt {x y : Nat} (h : x < y) : cmp x y = -1 := by simp [cmp, h]
theorem cmp_gt {x y : Nat} (h : y < x) : cmp x y = 1 := by
 have : ¬ x < y := by omega
 simp [cmp, h, this]
theorem cmp_eq (x : Nat) : cmp x x = 0 := by simp [cmp]
theorem z9f (x P B : Nat) : x / P = B * (x / (P * B)) + x / P % B := by
 rw [← Nat.div_div_eq_div_mul]
 exact (Nat.div_add_mod _ _).symm
theorem z8v {x y i : Nat} (h : x / 2 ^ (8 * (i + 1)) = y / 2 ^ (8 * (i + 1))) (hd : (bt x i).toNat < (bt y i).toNat) : x < y := by
 rw [z52, z52] at hd
 rw [pow8] at h
 have h1 := z9f x (2 ^ (8 * i)) 256
 have h2 := z9f y (2 ^ (8 * i)) 256
 rw [h] at h1
 rcases Nat.lt_or_ge x y with h3 | h3
 ·exact h3
 ·have := Nat.div_le_div_right (c := 2 ^ (8 * i)) h3
  omega
theorem cmp8_step_eq {x y i : Nat} (h : x / 2 ^ (8 * (i + 1)) = y / 2 ^ (8 * (i + 1))) (hd : (bt x i).toNat = (bt y i).toNat) : x / 2 ^ (8 * i) = y / 2 ^ (8 * i) := by
 rw [z52, z52] at hd
 rw [pow8] at h
 have h1 := z9f x (2 ^ (8 * i)) 256
 have h2 := z9f y (2 ^ (8 * i)) 256
 rw [h] at h1
 omega
open Go.RowKit
def RowW (w : World) (b n : Nat) (f : Nat → BitVec 64) : Prop := w.heap[b]? = some (.cells (A n f) 27)
section
variable {w W : World} {b n : Nat} {f : Nat → BitVec 64}
theorem RowW.lt (h : RowW w b n f) : b < w.heap.size := z6q h
theorem RowW.cell (h : RowW w b n f) (i : Nat) (hi : i < n) : w.cell? ⟨b, i, none⟩ = some (V (f i)) := by rw [cell_of_row _ _ _ _ _ _ h, y3o _ _ _ hi]
theorem RowW.thaw (h : RowW w b n f) (i : Nat) : w.frozen? ⟨b, i, none⟩ = false := frozen_of_row _ _ _ _ _ h
theorem RowW.below {B : Nat} (h : RowW w b n f) (hb : Below B w W) (hB : b < B) : RowW W b n f := (hb.block _ hB).trans h
theorem RowW.drew (h : RowW w b n f) : RowW w.drew b n f := h
theorem RowW.alloc (h : RowW w b n f) (o : Obj) : RowW (w.alloc o) b n f := (z2d _ _ _ h.lt).trans h
theorem RowW.setCell (h : RowW w b n f) (i : Nat) (v : BitVec 64) : RowW (w.setCell ⟨b, i, none⟩ (V v)) b n (upd f i v) := by
 have := heap_setCell_same w b i _ _ (V v) h
 rwa [A_set] at this
theorem RowW.other (h : RowW w b n f) (g i : Nat) (v : Value) (hne : b ≠ g) : RowW (w.setCell ⟨g, i, none⟩ v) b n f := by
 unfold RowW
 rw [heap_setCell_other _ _ _ _ (by show b ≠ g; exact hne)]
 exact h
theorem RowW.congr {f' : Nat → BitVec 64} (h : RowW w b n f) (hf : ∀ i, i < n → f i = f' i) : RowW w b n f' := by
 unfold RowW at h ⊢
 rw [h, A_congr hf]
theorem RowW.new (w : World) (n : Nat) (f : Nat → BitVec 64) : RowW (w.alloc (.cells (A n f) 27)) w.heap.size n f := heap_alloc_last _ _
end
structure Sw (w : World) (B : Nat) (a : Option Addr) (n c x : Nat) : Prop where
 le : n ≤ c
 nil : a = none → c = 0
 low : ∀ ad, a = some ad → 0 < n → ∃ b o, ad = ⟨b, o, none⟩ ∧ b < B ∧ ∀ i, i < n → w.cell? ⟨b, o + i, none⟩ = some (V (wd x i))
 fits : x < 2 ^ (64 * n)
section
variable {w w' : World} {B : Nat} {a : Option Addr} {n c x : Nat}
theorem Sw.get (h : Sw w B a n c x) (i : Nat) (hi : i < n) : ∃ b o, a = some ⟨b, o, none⟩ ∧ b < B ∧ w.cell? ⟨b, o + i, none⟩ = some (V (wd x i)) := by
 cases ha : a with
 | none =>
  have h1 := h.nil ha
  have h2 := h.le
  exfalso; omega
 | some ad =>
  obtain ⟨b, o, rfl, hb, hc⟩ := h.low ad ha (by omega)
  exact ⟨b, o, rfl, hb, hc i hi⟩
theorem Sw.below (h : Sw w B a n c x) (hb : Below B w w') : Sw w' B a n c x :=
 ⟨h.le, h.nil, fun ad ha h0 => by
  obtain ⟨b, o, rfl, hlt, hc⟩ := h.low ad ha h0
  exact ⟨b, o, rfl, hlt, fun i hi => (hb.cell (p := ⟨b, o + i, none⟩) hlt).trans (hc i hi)⟩, h.fits⟩
theorem Sw.more {B' : Nat} (h : Sw w B a n c x) (hB : B ≤ B') : Sw w B' a n c x :=
 ⟨h.le, h.nil, fun ad ha h0 => by
  obtain ⟨b, o, rfl, hlt, hc⟩ := h.low ad ha h0
  exact ⟨b, o, rfl, by omega, hc⟩, h.fits⟩
theorem Sw.call (h : Sw w w.heap.size a n c x) (hb : Below w.heap.size w w') : Sw w' w'.heap.size a n c x := (h.below hb).more hb.size
theorem Sw.cut (h : Sw w B a n c x) : Sw w B a (dl 64 x) (dl 64 x) x := by
 have hk := (z5f 64 x n (by omega)).2 h.fits
 refine ⟨Nat.le_refl _, fun ha => ?_, fun ad ha h0 => ?_, z96 64 x (by omega)⟩
 ·have h1 := h.nil ha
  have h2 := h.le
  omega
 ·obtain ⟨b, o, rfl, hlt, hc⟩ := h.low ad ha (by omega)
  exact ⟨b, o, rfl, hlt, fun i hi => hc i (by omega)⟩
theorem Sw.zero (w : World) (B : Nat) : Sw w B none 0 0 0 := ⟨Nat.le_refl _, fun _ => rfl, (fun _ e _ => by cases e), by simp⟩
theorem RowW.sw {g N n x : Nat} (h : RowW w g N (wd x)) (hN : n ≤ N) (hx : x < 2 ^ (64 * n)) (hB : g < B) : Sw w B (some ⟨g, 0, none⟩) n n x :=
 ⟨Nat.le_refl _, (fun e => by cases e), fun ad e _ => ⟨g, 0, (Option.some.inj e).symm, hB, fun i hi => by rw [Nat.zero_add]; exact h.cell i (by omega)⟩, hx⟩
end
structure Sb (w : World) (B : Nat) (a : Option Addr) (n c x : Nat) : Prop where
 sl : Sl w B a n c (bt x)
 fits : x < 2 ^ (8 * n)
section
variable {w w' : World} {B : Nat} {a : Option Addr} {n c x : Nat}
theorem Sb.below (h : Sb w B a n c x) (hb : Below B w w') : Sb w' B a n c x := ⟨h.sl.below hb, h.fits⟩
theorem Sb.more {B' : Nat} (h : Sb w B a n c x) (hB : B ≤ B') : Sb w B' a n c x := ⟨h.sl.more hB, h.fits⟩
theorem Sb.call (h : Sb w w.heap.size a n c x) (hb : Below w.heap.size w w') : Sb w' w'.heap.size a n c x := (h.below hb).more hb.size
theorem Sb.cut (h : Sb w B a n c x) : Sb w B a (dl 8 x) c x := by
 have hk := (z5f 8 x n (by omega)).2 h.fits
 refine ⟨⟨by have := h.sl.le; omega, h.sl.nil, fun ad ha h0 => ?_⟩, z96 8 x (by omega)⟩
 obtain ⟨b, o, rfl, hlt, hc⟩ := h.sl.low ad ha (by omega)
 exact ⟨b, o, rfl, hlt, fun i hi => hc i (by omega)⟩
end
def Got (w W : World) (v : Value) (x : Nat) : Prop := ∃ g N, v = .slice (some ⟨g, 0, none⟩) (dl 64 x) (dl 64 x) ∧ w.heap.size ≤ g ∧ RowW W g N (wd x) ∧ dl 64 x ≤ N ∧ Below w.heap.size w W
theorem Got.open {w W : World} {v : Value} {x : Nat} (h : Got w W v x) : ∃ a, v = .slice a (dl 64 x) (dl 64 x) ∧ Sw W W.heap.size a (dl 64 x) (dl 64 x) x ∧ Below w.heap.size w W := by
 obtain ⟨g, N, rfl, hg, hr, hN, hb⟩ := h
 exact ⟨_, rfl, hr.sw hN (z96 64 x (by omega)) hr.lt, hb⟩
def GotB (w W : World) (v : Value) (x : Nat) : Prop := ∃ a c, v = .slice a (dl 8 x) c ∧ Sb W W.heap.size a (dl 8 x) c x ∧ Below w.heap.size w W
theorem Sb.drew {w : World} {a : Option Addr} {n c x : Nat} (h : Sb w w.heap.size a n c x) : Sb w.drew w.drew.heap.size a n c x := ⟨h.sl.drew, h.fits⟩
section
variable {P : Program} {o : Oper} {a : Act} {w w0 : World} {l : List (Nat × Obj)} {K : Act → World → Prop} {Q : Exit → Act → World → Prop} {t : TypeId} {k : IntKind} {n : Nat}
theorem z2q (dd : Tmp) (hd : o.dst = some dd) {v : Nat} (hv : v < 256) (H : Ow w0 w l) (ho : o.op = .buildSlice 22 1 #[(0, .const (.int .u8 (v : Int)))])
  (h : ∀ w' g, Ow w0 w' ((g, .cells #[.int .u8 (v : Int)] 5) :: l) → Sb w' w'.heap.size (some ⟨g, 0, none⟩) 1 1 v → Below w.heap.size w w' → K (a.put (some dd) (.slice (some ⟨g, 0, none⟩) 1 1)) w') : o.wp Tryz.prog a w K Q := by
 obtain ⟨i, hi, hz, hs, _⟩ := z66
 refine Go.wp_buildSlice 22 5 1 _ ho #[.int .u8 (v : Int)] i _ Tryz.underlying22 hi hz (by rw [hs]; decide) (by rw [hs]; decide) (by rw [hs]; simp [Instr.fill, Act.eval, Array.range, Value.cells]; exact Array.ext (by simp) (fun j h1 h2 => by obtain rfl : j = 0 := (by simpa using h2); simp)) ?_
 rw [hd]
 refine h _ _ (H.alloc _) ⟨⟨Nat.le_refl _, (fun e => by cases e), fun ad e _ => ⟨w.heap.size, 0, (Option.some.inj e).symm, by simp, fun j hj => ?_⟩⟩, hv⟩ (z1z _ _)
 obtain rfl : j = 0 := by omega
 have : U (bt v 0) = .int .u8 (v : Int) := congrArg (Value.int .u8) (by
  show ((bt v 0).toNat : Int) = _
  rw [z52, Nat.mul_zero, Nat.pow_zero, Nat.div_one, Nat.mod_eq_of_lt hv])
 rw [this]
 simp
end
def cy (k : Nat) : BitVec 64 := if k = 0 then 0 else 1
theorem y9g (k : Nat) : (cy k).toNat ≤ 1 := by unfold cy; split <;> decide
theorem y3k {k : Nat} (h : k ≤ 1) : (cy k).toNat = k := by
 rcases (by omega : k = 0 ∨ k = 1) with rfl | rfl <;> rfl
def adc (a b : BitVec 64) (k : Nat) : BitVec 64 := BitVec.ofNat 64 (a.toNat + b.toNat + (cy k).toNat)
def adk (a b : BitVec 64) (k : Nat) : Nat := (a.toNat + b.toNat + (cy k).toNat) / 18446744073709551616
def sbb (a b : BitVec 64) (k : Nat) : BitVec 64 := BitVec.ofNat 64 (a.toNat + 18446744073709551616 - b.toNat - (cy k).toNat)
def sbk (a b : BitVec 64) (k : Nat) : Nat := if a.toNat < b.toNat + (cy k).toNat then 1 else 0
theorem y9v (a b : BitVec 64) (k : Nat) : adk a b k ≤ 1 := by
 have := a.isLt; have := b.isLt; have := y9g k
 unfold adk; omega
theorem sbk_le (a b : BitVec 64) (k : Nat) : sbk a b k ≤ 1 := by unfold sbk; split <;> omega
theorem V_eq {a : BitVec 64} {n : Nat} (h : a.toNat = n) : V a = .int .u64 (n : Int) := by subst h; rfl
def y7p : Array Value → Sem Value := fun args => do
 let (x, y, b) ← Extern.MathBitsCarry.three "Sub64" args
 pure (Extern.MathBitsCarry.pair ((x + Extern.MathBitsCarry.m64 - y - b) % Extern.MathBitsCarry.m64) (if x < y + b then 1 else 0))
theorem run_sub64E {P : Program} (x y b : Nat) (hb : b ≤ 1) (w : World) :
  (y7p #[.int .u64 x, .int .u64 y, .int .u64 b]).run P w =
   .ok (.tuple #[.int .u64 (((x + 18446744073709551616 - y - b) % 18446744073709551616 : Nat) : Int), .int .u64 ((if x < y + b then 1 else 0 : Nat) : Int)]) w := by
 have : b = 0 ∨ b = 1 := by omega
 rcases this with rfl | rfl <;> rfl
@[go_sem] theorem add64_run (a b : BitVec 64) (k : Nat) (w : World) : (callFunc 161 #[V a, V b, V (cy k)]).run Tryz.prog w = .ok (.value (.tuple #[V (adc a b k), V (cy (adk a b k))])) w := by
 have h := run_callFunc_extern (P := Tryz.prog) Tryz.func161 (by kernel_rfl) (by kernel_rfl) (by kernel_rfl) (e := add64Entry) (by kernel_rfl) #[V a, V b, V (cy k)] w
 rw [h]
 have h1 := a.isLt; have h2 := b.isLt; have h3 := y9g k
 show (Sem.run Tryz.prog (add64Entry #[.int .u64 (a.toNat : Int), .int .u64 (b.toNat : Int), .int .u64 ((cy k).toNat : Int)]) w).andThen _ = _
 rw [run_add64 _ _ _ (by omega) (by omega) (by omega) (by omega)]
 have e1 : V (adc a b k) = .int .u64 (((a.toNat : Int) + b.toNat + (cy k).toNat) % 18446744073709551616) := by
  rw [V_eq (n := (a.toNat + b.toNat + (cy k).toNat) % 18446744073709551616) (by unfold adc; rw [BitVec.toNat_ofNat])]
  congr 1
 have e2 : V (cy (adk a b k)) = .int .u64 (((a.toNat : Int) + b.toNat + (cy k).toNat) / 18446744073709551616) := by
  rw [V_eq (y3k (y9v a b k))]
  congr 1
 rw [e1, e2]
 rfl
@[go_sem] theorem add64_run0 (a b : BitVec 64) (w : World) : (callFunc 161 #[V a, V b, .int .u64 0]).run Tryz.prog w = .ok (.value (.tuple #[V (adc a b 0), V (cy (adk a b 0))])) w := add64_run a b 0 w
@[go_sem] theorem sub64_run (a b : BitVec 64) (k : Nat) (w : World) : (callFunc 187 #[V a, V b, V (cy k)]).run Tryz.prog w = .ok (.value (.tuple #[V (sbb a b k), V (cy (sbk a b k))])) w := by
 have h := run_callFunc_extern (P := Tryz.prog) Tryz.func187 (by kernel_rfl) (by kernel_rfl) (by kernel_rfl) (e := y7p) (by kernel_rfl) #[V a, V b, V (cy k)] w
 rw [h]
 show (Sem.run Tryz.prog (y7p #[.int .u64 (a.toNat : Int), .int .u64 (b.toNat : Int), .int .u64 ((cy k).toNat : Int)]) w).andThen _ = _
 rw [run_sub64E _ _ _ (y9g k)]
 have e1 : V (sbb a b k) = .int .u64 (((a.toNat + 18446744073709551616 - b.toNat - (cy k).toNat) % 18446744073709551616 : Nat) : Int) := V_eq (by unfold sbb; rw [BitVec.toNat_ofNat])
 have e2 : V (cy (sbk a b k)) = .int .u64 ((if a.toNat < b.toNat + (cy k).toNat then 1 else 0 : Nat) : Int) := V_eq (y3k (sbk_le a b k))
 rw [e1, e2]
 rfl
@[go_sem high] theorem len8_lt {P : Program} (w : World) (t : TypeId) (k : IntKind) (i : Int) (h : P.underlying t = some .string) (h0 : 0 ≤ i) (h1 : i < 256) :
  (Instr.index t (.string Lib.len8tab) (.int k i)).run P w = .ok (.int .u8 (Lib.len8 i)) w := Lib.run_index_len8tab w t k i h h0 (by omega)
def bitI (x : Nat) (i : Int) : Int := if i < 0 then 0 else ((x / 2 ^ i.toNat % 2 : Nat) : Int)
@[go_sem] theorem and1_bv (a : BitVec 64) : bits .and .u64 (L a) 1 = L (a &&& 1) := and_bv a 1
abbrev YB (n : Nat) (f : Nat → BitVec 8) : Obj := zv 5 .u8 n (UB f)
theorem AB_AZ (n : Nat) (f : Nat → BitVec 8) : AB n f = AZ .u8 n (UB f) := by
 apply Array.ext_getElem?
 intro j
 by_cases hj : j < n
 ·rw [z8z n _ j hj, z1c _ n _ j hj]
  rfl
 ·rw [Array.getElem?_eq_none (by simpa [z7c] using hj), Array.getElem?_eq_none (by simpa [z0j] using hj)]
theorem y6x {w : World} {g n : Nat} {f : Nat → BitVec 8} (h : w.heap[g]? = some (YB n f)) : RowB w g n f := by
 unfold RowB
 rw [h, AB_AZ]
 rfl
theorem UB_upd (g : Nat → BitVec 8) (i : Nat) (v : BitVec 8) : updZ (UB g) i (U8 v) = UB (upd8 g i v) := by
 funext j
 unfold updZ upd8 UB
 by_cases h : j = i
 ·rw [if_pos h]; show _ = U8 (if j = i then v else g j); rw [if_pos h]
 ·rw [if_neg h]; show _ = U8 (if j = i then v else g j); rw [if_neg h]
theorem oneB : IsOne Tryz.prog 5 .u8 := ⟨Tryz.underlying5, by kernel_rfl⟩
theorem Ow.slb {w W : World} {l : List (Nat × Obj)} (h : Ow w W l) (i : Nat) {g n N c : Nat} {f : Nat → BitVec 8} (hi : l[i]? = some (g, YB N f)) (hn : n ≤ N) (hc : n ≤ c) : Sl W W.heap.size (some ⟨g, 0, none⟩) n c f :=
 ⟨hc, (fun e => by cases e), fun ad e _ => ⟨g, 0, (Option.some.inj e).symm, z01 (h.row i hi), fun j hj => by rw [Nat.zero_add]; exact h.cell i hi j (by omega)⟩⟩
section
variable {ops : Array Oper} {rest : List Oper} {o : Oper} {a : Act} {w w0 : World} {l : List (Nat × Obj)} {Q : Exit → Act → World → Prop}
theorem own_makeB (H : Hid (Ow w0 w l)) (hgd : o.guard = none) {x y : Operand} (ho : o.op = .makeSlice 22 x y) {m : Nat} (hx : a.eval x = .int .i64 (m : Int)) (hy : a.eval y = .int .i64 (m : Int)) (hc : m ≤ 1000000)
  (h : ∀ w' g, Hid (Ow w0 w' ((g, YB m fun _ => 0) :: l)) → ∀ K : Act → World → Prop, (∀ a w, wpList Tryz.prog ops Q rest a w → K a w) → K (a.put o.dst (.slice (some ⟨g, 0, none⟩) m m)) w') : wpList Tryz.prog ops Q (o :: rest) a w :=
 wpList_plain hgd fun K hK => by
  unfold Oper.wp execOp
  have e := z6v w m m (Nat.le_refl _) hc
  rw [AB_AZ] at e
  simp only [ho, hx, hy, Sem.run_bind, e, Result.andThen_ok]
  exact h _ _ (za (H.out.alloc _)) K hK
theorem y1r {i : Nat} (H : Hid (Ow w0 w l)) (hgd : o.guard = none) {x y : Operand} (ho : o.op = .store 5 x y) {g j n : Nat} (hx : a.eval x = .pointer (some ⟨g, j, none⟩)) {v : BitVec 8} {f : Nat → BitVec 8} (hy : a.eval y = U v)
  (hi : l[i]? = some (g, YB n f)) (hj : j < n) (h : ∀ w', Hid (Ow w0 w' (l.set i (g, YB n (upd8 f j v)))) → ∀ K : Act → World → Prop, (∀ a w, wpList Tryz.prog ops Q rest a w → K a w) → K (a.put o.dst undef) w') : wpList Tryz.prog ops Q (o :: rest) a w :=
 z2z oneB H hgd ho hx hy hi hj fun w' H' => h w' (by rw [UB_upd] at H'; exact H')
end
theorem U8_neq11 {a b : BitVec 8} (h : a ≠ b) : (U8 a != U8 b) = true := by
 rw [bne_iff_ne]
 exact fun e => h (y9y.1 e)
theorem same_sl11 (a a' : Option Addr) (n c c' : Nat) (f g : Nat → BitVec 8) (w : World) (hn : n ≤ 100000) (h1 : Sl w w.heap.size a n c f) (h2 : Sl w w.heap.size a' n c' g) (he : ∀ i, i < n → f i = g i) :
  Calls Tryz.prog 16 #[.slice a n c, .slice a' n c'] w fun e w' => e = .returned (.bool true) ∧ Below w.heap.size w w' := by
 have H1 := za h1
 have H2 := za h2
 have HE := za he
 clear he
 clear h1 h2
 have hn' : (n : Int) ≤ 100000 := by omega
 go_enter Tryz.func16, Tryz.ntmps16
 go_wp2_with fail
 go_loopw [5] (fun v wr => ∃ i : Nat, i ≤ n ∧ v = .int .i64 i ∧ Below w.heap.size w wr) (fun v _ => n - (intOf v).toNat)
 case atStart => exact ⟨0, by omega, rfl, Below.refl _ _⟩
 case round =>
  obtain ⟨i, hi, rfl, HR⟩ := hrel
  by_cases hlt : i < n
  ·have hid : decide ((i : Int) < (n : Int)) = true := by simp; omega
   obtain ⟨b, o, rfl, hbB, hcell⟩ := (H1.out.below HR).get i hlt
   obtain ⟨b', o', rfl, hbB', hcell'⟩ := (H2.out.below HR).get i hlt
   have HH := za HR
   clear HR
   go_wp2_with fail
   refine wp_region_still_lit (by kernel_rfl) (by kernel_rfl) ?_
   have HD := za (Below.drew HH.out)
   have hc : wr.drew.cell? ⟨b, o + i, none⟩ = some (U (f i)) := hcell
   have hc' : wr.drew.cell? ⟨b', o' + i, none⟩ = some (U (f i)) := by rw [HE.out i hlt]; exact hcell'
   clear HH hcell hcell'
   change wpStill _ _ wr.drew (fun a' => Exit.then _ _ Exit.normal a' wr.drew) _ _
   generalize wr.drew = w2 at *
   have hlt' : (i : Int) < (n : Int) := by omega
   iterate 9 still_step
   refine wpStill_nil ?_
   go_wp2_with fail
   go_roundw
   case rel => exact ⟨i + 1, by omega, by go_num, HD.out⟩
   case measure => simp [intOf]; omega
  ·obtain rfl : i = n := by omega
   have HH := za HR
   clear HR
   go_wp2_with fail
   go_ret
   exact ⟨rfl, HH.out⟩
theorem differ_sl11 (a a' : Option Addr) (n c c' : Nat) (f g : Nat → BitVec 8) (w : World) (hn : n ≤ 100000) (h1 : Sl w w.heap.size a n c f) (h2 : Sl w w.heap.size a' n c' g) (j : Nat) (hj : j < n) (hne : f j ≠ g j) (he : ∀ i, i < j → f i = g i) :
  Calls Tryz.prog 16 #[.slice a n c, .slice a' n c'] w fun e w' => e = .returned (.bool false) ∧ Below w.heap.size w w' := by
 have H1 := za h1
 have H2 := za h2
 have HE := za he
 have HN := za (U8_neq11 hne)
 clear he hne
 clear h1 h2
 have hn' : (n : Int) ≤ 100000 := by omega
 go_enter Tryz.func16, Tryz.ntmps16
 go_wp2_with fail
 go_loopw [5] (fun v wr => ∃ i : Nat, i ≤ j ∧ v = .int .i64 i ∧ Below w.heap.size w wr) (fun v _ => n - (intOf v).toNat)
 case atStart => exact ⟨0, by omega, rfl, Below.refl _ _⟩
 case round =>
  obtain ⟨i, hi, rfl, HR⟩ := hrel
  have hlt : i < n := by omega
  by_cases hij : i < j
  ·have hg : g i = f i := (HE.out i hij).symm
   have hid : decide ((i : Int) < (n : Int)) = true := by simp; omega
   obtain ⟨b, o, rfl, hbB, hcell⟩ := (H1.out.below HR).get i hlt
   obtain ⟨b', o', rfl, hbB', hcell'⟩ := (H2.out.below HR).get i hlt
   rw [hg] at hcell'
   clear hg
   have HH := za HR
   clear HR
   go_wp2_with fail
   refine wp_region_still_lit (by kernel_rfl) (by kernel_rfl) ?_
   have HD := za (Below.drew HH.out)
   have hc : wr.drew.cell? ⟨b, o + i, none⟩ = some (U (f i)) := hcell
   have hc' : wr.drew.cell? ⟨b', o' + i, none⟩ = some (U (f i)) := hcell'
   clear HH hcell hcell'
   change wpStill _ _ wr.drew (fun a' => Exit.then _ _ Exit.normal a' wr.drew) _ _
   generalize wr.drew = w2 at *
   have hlt' : (i : Int) < (n : Int) := by omega
   iterate 9 still_step
   refine wpStill_nil ?_
   go_wp2_with fail
   go_roundw
   case rel => exact ⟨i + 1, by omega, by go_num, HD.out⟩
   case measure => simp [intOf]; omega
  ·obtain rfl : i = j := by omega
   have hne := HN.out
   have hid : decide ((i : Int) < (n : Int)) = true := by simp; omega
   obtain ⟨b, o, rfl, hbB, hcell⟩ := (H1.out.below HR).get i hlt
   obtain ⟨b', o', rfl, hbB', hcell'⟩ := (H2.out.below HR).get i hlt
   have HH := za HR
   clear HR
   go_wp2_with fail
   refine wp_region_still_lit (by kernel_rfl) (by kernel_rfl) ?_
   have HD := za (Below.drew HH.out)
   have hc : wr.drew.cell? ⟨b, o + i, none⟩ = some (U (f i)) := hcell
   have hc' : wr.drew.cell? ⟨b', o' + i, none⟩ = some (U (g i)) := hcell'
   clear HH hcell hcell'
   change wpStill _ _ wr.drew (fun a' => Exit.then _ _ Exit.normal a' wr.drew) _ _
   generalize wr.drew = w2 at *
   have hlt' : (i : Int) < (n : Int) := by omega
   iterate 9 still_step
   refine wpStill_nil ?_
   go_wp2_with fail
   go_ret
   exact ⟨rfl, HD.out⟩
theorem eq_of_bytes {x y n : Nat} (hx : x < 2 ^ (8 * n)) (hy : y < 2 ^ (8 * n)) (h : ∀ i, i < n → bt x i = bt y i) : x = y := by
 refine eq_of_bits hx hy fun i hi => ?_
 have h1 := congrArg (fun b => b.getLsbD (i % 8)) (h (i / 8) (by omega))
 simp only [z8x] at h1
 rw [show 8 * (i / 8) + i % 8 = i by omega] at h1
 simpa [Nat.mod_lt] using h1
theorem y07 (f g : Nat → BitVec 8) : ∀ n, (∀ i, i < n → f i = g i) ∨ ∃ j, j < n ∧ f j ≠ g j ∧ ∀ i, i < j → f i = g i
 | 0 => .inl fun i hi => absurd hi (by omega)
 | n + 1 => by
  rcases y07 f g n with h | ⟨j, hj, h1, h2⟩
  ·by_cases e : f n = g n
   ·exact .inl fun i hi => by
     rcases (by omega : i < n ∨ i = n) with h3 | rfl
     ·exact h i h3
     ·exact e
   ·exact .inr ⟨n, by omega, e, h⟩
  ·exact .inr ⟨j, by omega, h1, h2⟩
theorem cmp_same11 (a a' : Option Addr) (n c c' x y : Nat) (w : World) (hn : n ≤ 100000) (h1 : Sb w w.heap.size a n c x) (h2 : Sb w w.heap.size a' n c' y) :
  Calls Tryz.prog 16 #[.slice a n c, .slice a' n c'] w fun e w' => e = .returned (.bool (decide (x = y))) ∧ Below w.heap.size w w' := by
 rcases y07 (bt x) (bt y) n with h | ⟨j, hj, hne, he⟩
 ·rw [decide_eq_true (eq_of_bytes h1.fits h2.fits h)]
  exact same_sl11 a a' n c c' _ _ w hn h1.sl h2.sl h
 ·rw [decide_eq_false (fun e => hne (by rw [e]))]
  exact differ_sl11 a a' n c c' _ _ w hn h1.sl h2.sl j hj hne he
end Go.Proofs.YtgjbonikbmgfmaaGreatDoor
