/- Lemmas; no statement is proved here. -/
import Derived.Test.YtgjbonikbmgfmaaGreatDoorQGms3
import Derived.Test.YtgjbonikbmgfmaaGreatDoorQGmsBuO
import Derived.Test.YtgjbonikbmgfmaaGreatDoorQK
set_option maxRecDepth 20000
set_option maxHeartbeats 3200000
namespace Go.Proofs.YtgjbonikbmgfmaaGreatDoor
open Go.RowKit
theorem newsB_get (n : Nat) (f : Nat → BitVec 8) (j : Nat) (u : Value) (h : ((List.range n).map fun i => U (f i))[j]? = some u) : j < n ∧ u = U (f j) := by
 rw [List.getElem?_map] at h
 by_cases hj : j < n
 ·simp [hj] at h
  exact ⟨hj, h.symm⟩
 ·simp [hj] at h
theorem dl_zero (b : Nat) (hb : 0 < b) : dl b 0 = 0 := Nat.le_zero.1 ((z5f b 0 0 hb).2 (by simp))
theorem y7b (i : Nat) : wd 0 i = 0 := z7u (n := 0) (by simp) (Nat.zero_le _)
theorem mix_at {α : Type} (i : Nat) (f g : Nat → α) : mix i f g i = g i := by simp [mix]
def ovr (z y x i : Nat) : Nat := (z % 2 ^ (64 * i) + y % 2 ^ (64 * i) * x) / 2 ^ (64 * i)
theorem ovr_zero (z y x : Nat) : ovr z y x 0 = 0 := by simp [ovr, Nat.mod_one]
theorem y8e (z y x i : Nat) (hx : x < 18446744073709551616) : ovr z y x i < 18446744073709551616 := by
 unfold ovr
 have hP := Nat.two_pow_pos (64 * i)
 have h1 := Nat.mod_lt z hP
 have h2 := Nat.mod_lt y hP
 rw [Nat.div_lt_iff_lt_mul hP]
 generalize 2 ^ (64 * i) = P at *
 generalize y % P = r at *
 have : r * x ≤ (P - 1) * 18446744073709551615 := Nat.mul_le_mul (by omega) (by omega)
 rw [Nat.sub_mul] at this
 have h3 : 1 * 18446744073709551615 ≤ P * 18446744073709551615 := Nat.mul_le_mul_right _ (by omega)
 omega
theorem ovr_step (z y x i : Nat) : (wd z i).toNat + (wd y i).toNat * x + ovr z y x i = (wd (z + y * x) i).toNat + 18446744073709551616 * ovr z y x (i + 1) := by
 rw [z2v, z2v, z2v]
 unfold ovr
 rw [y2r]
 have hP := Nat.two_pow_pos (64 * i)
 generalize 2 ^ (64 * i) = P at *
 have hB : 0 < 18446744073709551616 := by omega
 generalize 18446744073709551616 = B at *
 have e1 : (z + y * x) / P = z / P + y / P * x + (z % P + y % P * x) / P := by
  have h1 : z + y * x = P * (z / P + y / P * x) + (z % P + y % P * x) := by
   have hz := Nat.div_add_mod z P
   have hy : (P * (y / P) + y % P) * x = y * x := by rw [Nat.div_add_mod]
   rw [Nat.add_mul] at hy
   rw [Nat.mul_add, ← Nat.mul_assoc]
   omega
  rw [h1, Nat.mul_add_div hP]
 have e2 : (z % (P * B) + y % (P * B) * x) / (P * B) = (z / P % B + y / P % B * x + (z % P + y % P * x) / P) / B := by
  rw [Nat.mod_mul, Nat.mod_mul, ← Nat.div_div_eq_div_mul]
  congr 1
  have : z % P + P * (z / P % B) + (y % P + P * (y / P % B)) * x = P * (z / P % B + y / P % B * x) + (z % P + y % P * x) := by
   rw [Nat.add_mul, Nat.mul_add, ← Nat.mul_assoc]; omega
  rw [this, Nat.mul_add_div hP]
 rw [e1, e2]
 generalize (z % P + y % P * x) / P = o at *
 generalize z / P = u at *
 generalize y / P = v at *
 have : (u + v * x + o) % B = (u % B + v % B * x + o) % B := by
  simp [Nat.add_mod, Nat.mul_mod]
 rw [this]
 have := Nat.div_add_mod (u % B + v % B * x + o) B
 omega
theorem A_zero (n : Nat) : A n (fun _ => 0) = Array.replicate n (.int .u64 0) := by
 apply Array.ext_getElem?
 intro j
 by_cases hj : j < n
 ·rw [y3o n _ j hj]
  simp [hj]
  rfl
 ·rw [Array.getElem?_eq_none (by simpa [y0h] using hj), Array.getElem?_eq_none (by simpa using hj)]
theorem made_u64 (n : Nat) : madeCells (Value.int .u64 0).cells n = A n fun _ => 0 := by
 rw [A_zero]
 unfold madeCells
 apply Array.ext_getElem?
 intro j
 simp only [Array.getElem?_map, Array.getElem?_replicate]
 by_cases h : j < n
 ·simp [h, Value.cells, Nat.mod_one]
 ·simp [h]
theorem run_make_u64 (w : World) (l : Nat) (hc : l ≤ 1000000) : (Instr.makeSlice 224 (.int .i64 (l : Int)) (.int .i64 (l : Int))).run Tryz.prog w = .ok (.slice (some ⟨w.heap.size, 0, none⟩) l l) (w.alloc (.cells (A l fun _ => 0) 27)) := by
 obtain ⟨i, hi, hz, hs, hb⟩ := y1y
 have h := run_makeSlice (P := Tryz.prog) w 224 27 i (.int .u64 0) Tryz.underlying224 hi hz .i64 .i64 (l : Int) (l : Int) (by omega) (by omega) (by rw [hs, Int.toNat_natCast]; omega) (by rw [hb]; omega) (by omega)
 rw [hs, Int.toNat_natCast, Nat.mul_one, made_u64] at h
 exact h
section
variable {ops : Array Oper} {rest : List Oper} {o : Oper} {a : Act} {w : World} {Q : Exit → Act → World → Prop}
theorem lay_makeW (hgd : o.guard = none) {x y : Operand} (ho : o.op = .makeSlice 224 x y) {l : Nat} (hx : a.eval x = .int .i64 (l : Int)) (hy : a.eval y = .int .i64 (l : Int)) (hc : l ≤ 1000000)
  (k : ∀ K : Act → World → Prop, (∀ a w, wpList Tryz.prog ops Q rest a w → K a w) → K (a.put o.dst (.slice (some ⟨w.heap.size, 0, none⟩) l l)) (w.alloc (.cells (A l fun _ => 0) 27))) : wpList Tryz.prog ops Q (o :: rest) a w :=
 wpList_plain hgd fun K hK => by
  unfold Oper.wp execOp
  simp only [ho, hx, hy, Sem.run_bind, run_make_u64 w l hc, Result.andThen_ok]
  exact k K hK
end
theorem y7u (x : BitVec 64) (k j : Nat) : (shl x k).getLsbD j = (decide (j < 64) && !decide (j < k) && x.getLsbD (j - k)) := by unfold shl; rw [BitVec.getLsbD_shiftLeft]
theorem wd_down (x y i : Nat) : wd (x / 2 ^ y) i = shr (wd x (i + y / 64)) (y % 64) ||| shl (wd x (i + y / 64 + 1)) (64 - y % 64) := by
 apply BitVec.eq_of_getLsbD_eq
 intro j hj
 rw [z5j, Nat.testBit_div_two_pow, BitVec.getLsbD_or, y7t, y7u, z5j, z5j]
 by_cases h : y % 64 + j < 64
 ·have h1 : j < 64 - y % 64 := by omega
  rw [show 64 * i + j + y = 64 * (i + y / 64) + (y % 64 + j) by omega]
  simp [hj, h, h1]
 ·have h1 : ¬ j < 64 - y % 64 := by omega
  have h2 : j - (64 - y % 64) < 64 := by omega
  rw [show 64 * i + j + y = 64 * (i + y / 64 + 1) + (j - (64 - y % 64)) by omega]
  simp [hj, h, h1, h2]
theorem wd_of (x i : Nat) : upd (wd (x % 2 ^ (8 * i))) (i / 8) (wd (x % 2 ^ (8 * i)) (i / 8) ||| shl (zx (bt x i)) (i % 8 * 8)) = wd (x % 2 ^ (8 * (i + 1))) := by
 funext k
 unfold upd
 apply BitVec.eq_of_getLsbD_eq
 intro j hj
 rw [z5j, Nat.testBit_mod_two_pow]
 by_cases h1 : k = i / 8
 ·subst h1
  rw [if_pos rfl, BitVec.getLsbD_or, z5j, Nat.testBit_mod_two_pow, y7u]
  unfold zx
  rw [BitVec.getLsbD_setWidth, z8x]
  by_cases h2 : 64 * (i / 8) + j < 8 * i
  ·have h3 : j < i % 8 * 8 := by omega
   have h4 : 64 * (i / 8) + j < 8 * (i + 1) := by omega
   simp [hj, h2, h3, h4]
  ·have h3 : ¬ j < i % 8 * 8 := by omega
   by_cases h4 : 64 * (i / 8) + j < 8 * (i + 1)
   ·have h5 : j - i % 8 * 8 < 64 := by omega
    have h6 : j - i % 8 * 8 < 8 := by omega
    have h7 : 8 * i + (j - i % 8 * 8) = 64 * (i / 8) + j := by omega
    simp [hj, h2, h3, h4, h5, h6, h7]
   ·have h6 : ¬ j - i % 8 * 8 < 8 := by omega
    simp [h2, h4, h6]
 ·rw [if_neg h1, z5j, Nat.testBit_mod_two_pow]
  have e : (64 * k + j < 8 * i) = (64 * k + j < 8 * (i + 1)) := by apply propext; constructor <;> intro <;> omega
  simp [e]
def mhi (a b : BitVec 64) : BitVec 64 := BitVec.ofNat 64 (a.toNat * b.toNat / 18446744073709551616)
def mlo (a b : BitVec 64) : BitVec 64 := BitVec.ofNat 64 (a.toNat * b.toNat)
theorem mul_lt (a b : BitVec 64) : a.toNat * b.toNat / 18446744073709551616 < 18446744073709551616 := by
 have h1 : a.toNat ≤ 18446744073709551615 := by have := a.isLt; omega
 have h2 : b.toNat ≤ 18446744073709551615 := by have := b.isLt; omega
 have := Nat.mul_le_mul h1 h2
 omega
theorem y8t (a b : BitVec 64) : (mhi a b).toNat = a.toNat * b.toNat / 18446744073709551616 := by
 unfold mhi; rw [BitVec.toNat_ofNat]; exact Nat.mod_eq_of_lt (mul_lt a b)
theorem y8s (a b : BitVec 64) : (mlo a b).toNat = a.toNat * b.toNat % 18446744073709551616 := by
 unfold mlo; rw [BitVec.toNat_ofNat]
theorem mul64_any (a b : BitVec 64) (w : World) :
  Calls Tryz.prog 162 #[V a, V b] w fun e w' => e = .returned (.tuple #[V (mhi a b), V (mlo a b)]) ∧ w' = w := by
 rw [V_eq (y8t a b), V_eq (y8s a b)]
 exact y2z a.toNat b.toNat a.isLt b.isLt w
def dbc (x b i : Nat) : Nat := (2 * (x % 2 ^ (8 * i)) + b) / 2 ^ (8 * i)
theorem dbc_zero (x b : Nat) : dbc x b 0 = b := by simp [dbc, Nat.mod_one]
theorem dbc_le (x b i : Nat) (hb : b ≤ 1) : dbc x b i ≤ 1 := by
 unfold dbc
 have h1 := Nat.mod_lt x (Nat.two_pow_pos (8 * i))
 apply Nat.le_of_lt_succ
 rw [Nat.div_lt_iff_lt_mul (Nat.two_pow_pos _)]
 omega
theorem dbl8_step (x b i : Nat) : dg (2 * x + b) i = (2 * dg x i + dbc x b i) % 256 ∧ dbc x b (i + 1) = (2 * dg x i + dbc x b i) / 256 := by
 unfold dg dbc
 rw [pow8]
 have hP := Nat.two_pow_pos (8 * i)
 generalize 2 ^ (8 * i) = P at *
 have ex := Nat.div_add_mod x P
 have e1 : (2 * x + b) / P = 2 * (x / P) + (2 * (x % P) + b) / P := by
  have h1 : 2 * x + b = P * (2 * (x / P)) + (2 * (x % P) + b) := by
   rw [Nat.mul_left_comm]; omega
  rw [h1, Nat.mul_add_div hP]
 have e2 : (2 * (x % (P * 256)) + b) / (P * 256) = (2 * (x / P % 256) + (2 * (x % P) + b) / P) / 256 := by
  rw [Nat.mod_mul, ← Nat.div_div_eq_div_mul]
  congr 1
  have : 2 * (x % P + P * (x / P % 256)) + b = P * (2 * (x / P % 256)) + (2 * (x % P) + b) := by
   rw [Nat.mul_left_comm]; omega
  rw [this, Nat.mul_add_div hP]
 rw [e1, e2]
 generalize (2 * (x % P) + b) / P = o at *
 generalize x / P = u at *
 constructor
 ·omega
 ·rfl
theorem y3i {x b n i : Nat} (hx : x < 2 ^ (8 * n)) (hi : n ≤ i) : dbc x b i = 0 ↔ 2 * x + b < 2 ^ (8 * i) := by
 unfold dbc
 rw [Nat.mod_eq_of_lt (z2e hx hi), Nat.div_eq_zero_iff]
 have := Nat.two_pow_pos (8 * i)
 omega
theorem dbl8_last {x b n : Nat} (hx : x < 2 ^ (8 * n)) (hb : b ≤ 1) : dbc x b (n + 1) = 0 :=
 (y3i hx (by omega)).2 (by rw [pow8]; omega)
open Go.ChangeShapes Go.WideShapes Go.ChangeAt Go.RowKit
theorem cellsTw11 : Tryz.prog.cellsOf 67 = 2 := by kernel_rfl
section
variable {H : Type} {enc : TypeId × Value → H}
theorem y5n {W : World} {base : Nat} {v : Value} {d : DataW H} {p : List MemPlace} (hv : Value.okWide Tryz.prog W .any base 67 v) (h : DataW.Trod enc Tryz.prog W 0 (fun _ => true) true 67 v d p) :
  ∃ a n c q a' n' c' q', v = .agg #[.slice a n c, .slice a' n' c'] ∧ Sb W W.heap.size a n c q ∧ Sb W W.heap.size a' n' c' q' := by
 obtain ⟨cs, rfl, hsz, _⟩ : ∃ cs, v = .agg cs ∧ cs.size = Tryz.prog.cellsOf 67 ∧ Row.okWide Tryz.prog W .any base 67 cs := by
  simpa [Value.okWide, Tryz.underlying67] using hv
 rw [cellsTw11] at hsz
 obtain ⟨fuel, hf⟩ := h
 obtain ⟨x, y, rfl, e⟩ := two_of hsz
 obtain ⟨xs, m, _, _, _, hxl, hel⟩ := DataW.trod_array Tryz.underlying67 hf
 have h0 := hel 0 (by omega)
 have h1 := hel 1 (by omega)
 rw [y6q, List.getElem?_eq_getElem (by omega)] at h0 h1
 obtain ⟨a, n, c, q, hx, hs⟩ := y1t (v := x) h0
 obtain ⟨a', n', c', q', hy, hs'⟩ := y1t (v := y) h1
 exact ⟨a, n, c, q, a', n', c', q', by rw [hx, hy], hs, hs'⟩
end
section
variable {P : Program} {md : Region.Mode} {ops : Array Oper} {Q : Exit → Act → World → Prop} {S : World → Prop} {fuel : Nat} {listed : Array Bool} {a : Act} {w : World} {ty : TypeId} {v : Value} {m : Nat} {f : Nat → Value}
theorem y57 (i : Nat) (d : Tmp) {oi : Oper} (hT : IsRow P ty m) (hi : ops[i]? = some oi) (hd : oi.dst = some d) (hw : Region.wanted oi (yielded ops a.tmps) = true) (hS : S w) {x : Operand} (ho : oi.op = .load ty x) {g p : Nat} (hx : a.eval x = .pointer (some ⟨g, p, none⟩))
  (hc : ∀ w, S w → ∀ j, j < m → w.cell? ⟨g, p + j, none⟩ = some (f j))
  (h : wpAnyH P md ops (NoPanic Q) S fuel (listed.setIfInBounds i true) (a.put (some d) (.agg (AV m f))) w) (hs : Region.noSelect ops = true := by kernel_rfl) (hf : Region.free md ops listed i = true := by kernel_rfl) (hr : (Region.ready md ops listed).contains i = true := by kernel_rfl) : wpAnyH P md ops (NoPanic Q) S (fuel + 1) listed a w :=
 z0h i d (.agg (AV m f)) hi hd (hs := hs) (hf := hf) (hr := hr) hw hS (fun w hw' => by
  unfold execOp
  simp only [ho, hx, Sem.run_bind, z5r hT (hc w hw'), Result.andThen_ok]
  rfl) h
end
theorem foldS_gen (x P l r : Nat) (h : P = l + r) : (x % P + x / P * r) % l = x % l := by
 have e : x = x % P + x / P * r + l * (x / P) := by
  have h1 := Nat.div_add_mod x P
  have h2 : P * (x / P) = l * (x / P) + x / P * r := by rw [h, Nat.add_mul, Nat.mul_comm r]
  omega
 conv => rhs; rw [e]
 rw [Nat.add_mul_mod_self_left]
theorem y6b (x : Nat) : fold x % lN = x % lN := foldS_gen x qN lN rN qN_eq
theorem z67 {x B C q r : Nat} (h : x < B) (hq : 0 < q) (hb : q + B / q * r ≤ C) : x % q + x / q * r < C := by
 have h1 := Nat.mod_lt x hq
 have h2 : x / q ≤ B / q := Nat.div_le_div_right (Nat.le_of_lt h)
 have h3 := Nat.mul_le_mul_right r h2
 omega
theorem z8k {x B q C : Nat} (h : x < B) (hb : B / q < C) : x / q < C := Nat.lt_of_le_of_lt (Nat.div_le_div_right (Nat.le_of_lt h)) hb
section
variable {w : World}
theorem run_zeros {a : Option Addr} {n c m : Nat} {f : Nat → BitVec 8} (hs : Sl w w.heap.size a n c f) (h0 : ∀ j, n ≤ j → f j = 0) (hm : 0 < m) (hg : c < n + m) (hl : n + m ≤ 1000000) (ty : TypeId) :
  ∃ cap, n + m ≤ cap ∧ (Builtin.append_ #[22, 3] ty #[.slice a n c, .int .i64 (m : Int)]).run Tryz.prog w = .ok (.slice (some ⟨w.heap.size, 0, none⟩) (n + m) cap) (w.drew.alloc (YB cap f)) := by
 obtain ⟨i, hi, hz, hs1, hb⟩ := z66
 have hg2 := grownCap_ge w (n + m) c 5
 have hcell : ∀ b o, a = some ⟨b, o, none⟩ → ∀ j, j < n → w.cell? ⟨b, o + j, none⟩ = some (.int .u8 (UB f j)) := fun b o e j hj => by
  obtain ⟨b1, o1, e1, _, hc⟩ := hs.get j hj
  rw [e] at e1
  cases e1
  exact hc
 have hold : (Builtin.firstCells i.size n (.slice a n c)).run Tryz.prog w.drew = .ok (AZ .u8 n (UB f)).toList.toArray w.drew := by
  cases n with
  | zero =>
   have e : (AZ .u8 0 (UB f)).toList.toArray = #[] := by
    apply Array.eq_empty_of_size_eq_zero
    simp [z0j]
   rw [e]
   cases a with
   | none => exact run_firstCells_none _ _ _ _ _
   | some ad => exact run_firstCells_some (P := Tryz.prog) w.drew i.size 0 ad 0 c [] (by simp) (fun j v h => by simp at h)
  | succ n =>
   obtain ⟨b, o, rfl, _, _⟩ := hs.get 0 (by omega)
   exact run_firstCells_some (P := Tryz.prog) w.drew i.size (n + 1) ⟨b, o, none⟩ (n + 1) c _ (by rw [hs1, Nat.mul_one]; exact (z3f _ _ _).1) (z92 (w := w.drew) (hcell b o rfl))
 have h := Lib.run_append_grow_zeros (P := Tryz.prog) w 22 3 ty 5 i (.int .u8 0) .i64 .i64 Tryz.underlying22 Tryz.underlying3 hi hz a n c (AZ .u8 n (UB f)).toList hold m hm (by omega) hg (by omega) (by rw [hb]; omega)
  (growslice_fits hg (by rw [hb]; omega))
 have e : (AZ .u8 n (UB f)).toList.toArray ++ Builtin.zeroCells (Value.int .u8 0).cells m ++ Builtin.zeroCells (Value.int .u8 0).cells (grownCap w (n + m) c 5 - (n + m)) = AZ .u8 (grownCap w (n + m) c 5) (UB f) := by
  have e1 : Builtin.zeroCells (Value.int .u8 0).cells m = (AZ .u8 m fun j => UB f (n + j)).toList.toArray := by
   rw [Array.toArray_toList]
   apply Array.ext_getElem?
   intro j
   rw [y4n _ rfl]
   by_cases hj : j < m
   ·rw [if_pos hj, z1c _ _ _ _ hj]
    unfold UB
    rw [h0 _ (by omega)]
    rfl
   ·rw [if_neg hj, Array.getElem?_eq_none (by rw [z0j]; omega)]
  rw [e1]
  exact y62 rfl rfl _ _ (z3f _ _ _).1 (z3f _ _ _).1 (z3f _ n _).2 (z3f _ m _).2 (fun j hj => by unfold UB; rw [h0 j (by omega)]; rfl) hg2
 rw [e] at h
 exact ⟨_, hg2, h⟩
end
section
variable {ops : Array Oper} {rest : List Oper} {o : Oper} {a : Act} {w w0 : World} {l : List (Nat × Obj)} {Q : Exit → Act → World → Prop}
theorem own_zeros (H : Hid (Ow w0 w l)) (hgd : o.guard = none) {s x : Operand} (ho : o.op = .call { callee := .builtin .append, args := #[s, x], argTypes := #[22, 3] }) {ad : Option Addr} {n c m : Nat} (hs : a.eval s = .slice ad n c) (hx : a.eval x = .int .i64 (m : Int))
  {f : Nat → BitVec 8} (hS : Sl w w.heap.size ad n c f) (h0 : ∀ j, n ≤ j → f j = 0) (hm : 0 < m) {N : Nat} (hN : n + m = N) (hg : c < N) (hl : N ≤ 1000000)
  (h : ∀ w' g cap, Hid (N ≤ cap) → Hid (Ow w0 w' ((g, YB cap f) :: l)) → ∀ K : Act → World → Prop, (∀ a w, wpList Tryz.prog ops Q rest a w → K a w) → K (a.put o.dst (.slice (some ⟨g, 0, none⟩) N cap)) w') : wpList Tryz.prog ops Q (o :: rest) a w :=
 wpList_plain hgd fun K hK => by
  subst hN
  obtain ⟨cap, hcap, hr⟩ := run_zeros hS h0 hm hg hl o.type
  exact Lib.wp_append_run w s x _ _ ho _ _ hs hx _ _ hr (h _ _ cap (za hcap) (za (H.out.grew _)) K hK)
end
theorem z3r (a : Option Addr) (n c x b : Nat) (w : World) (hn : n ≤ 10000) (hb1 : b ≤ 1) (h : Sb w w.heap.size a n c x) (hnx : n = dl 8 x) :
  Calls Tryz.prog 180 #[.slice a n c, .int .i64 b] w fun e w' => ∃ v, e = .returned v ∧ GotB w w' v (2 * x + b) := by
 have H := za h
 have HX := za h.fits
 have HL : Hid (n = 0 ∨ 2 ^ (8 * (n - 1)) ≤ x) := za (by
  rcases Nat.eq_zero_or_pos n with h0 | h0
  ·exact .inl h0
  ·right; rw [hnx]; exact y9b (by omega) (by omega))
 clear h hnx
 go_enter Tryz.func180, Tryz.ntmps180
 go_wp2_with fail
 go_loopw [1, 5, 6] (fun v1 v5 v6 wr => ∃ i : Nat, i ≤ n + 1 ∧ v6 = .int .i64 i ∧ v1 = .int .i64 ((dbc x b i : Nat) : Int) ∧ (i = n + 1 → 2 ^ (8 * n) ≤ 2 * x + b) ∧ OwnB wr w.heap.size v5 i (bt (2 * x + b)) ∧ Below w.heap.size w wr) (fun _ _ v6 _ => n + 1 - (intOf v6).toNat)
 case atStart => exact ⟨0, by omega, rfl, by rw [dbc_zero], by omega, OwnB.nil _ _ _, Below.refl _ _⟩
 case round =>
  obtain ⟨i, hi, rfl, rfl, HP, HO, HB⟩ := hrel
  have S := za (dbl8_step x b i)
  have ho := dbc_le x b i hb1
  have D : Hid (n ≤ i → (dbc x b i = 0 ↔ 2 * x + b < 2 ^ (8 * i))) := za fun h => y3i HX.out h
  have Z : Hid (i = n + 1 → dbc x b i = 0) := za fun h => by rw [h]; exact dbl8_last HX.out hb1
  have go : (i < n ∨ 0 < dbc x b i) ∨ (n ≤ i ∧ dbc x b i = 0) := by omega
  have hxl := z80 x i
  have HA : Hid (∀ w', Sb w' w.heap.size a n c x → Calls Tryz.prog 124 #[.slice a n c, .int .i64 i] w' fun e w'' => e = .returned (.int .i64 ((dg x i : Nat) : Int)) ∧ w'' = w') := za fun w' hw => z8y a n c x i w' (by omega) (by omega) hw
  have G := za (H.out.below HB)
  have H1 := za HO
  have H2 := za HB
  have HP1 := za HP
  clear HO HB HP
  generalize dg x i = p at *
  generalize dbc x b i = o at *
  have hz : w.heap.size ≤ wr.heap.size := H2.out.size
  have EB := za (y2d (2 * x + b) i)
  rcases go with go | ⟨hk1, ho0⟩
  ·have hik : i ≤ n := by
    rcases go with h | h
    ·omega
    ·rcases Nat.lt_or_ge n i with h2 | h2
     ·have := Z.out (by omega); omega
     ·exact h2
   obtain ⟨s, hs⟩ : ∃ s, s = 2 * p + o := ⟨_, rfl⟩
   obtain ⟨r, hr⟩ : ∃ r, s % 256 = r := ⟨_, rfl⟩
   obtain ⟨u, hu⟩ : ∃ u, s / 256 = u := ⟨_, rfl⟩
   have es : 2 * (p : Int) + (o : Int) = (s : Int) := by omega
   have e1 : (s : Int).tmod 256 = (r : Int) := by rw [Int.tmod_eq_emod_of_nonneg (by omega)]; omega
   have e2 : (s : Int) % 256 = (r : Int) := by omega
   have e3 : (s : Int) / 256 = (u : Int) := by omega
   have r6 : (r : Int) < 256 := by omega
   have hb : Hid (U8 (bt (2 * x + b) i) = (r : Int)) := za (by rw [EB.out, S.out.1, ← hr, hs])
   have hu2 : Hid (dbc x b (i + 1) = u) := za (by rw [S.out.2, ← hu, hs])
   have hb2 : IntKind.u8.wrap (r : Int) = (r : Int) := by rw [IntKind.wrap_u8]; omega
   have HN : Hid (i + 1 = n + 1 → 2 ^ (8 * n) ≤ 2 * x + b) := za fun h => by
    obtain rfl : i = n := by omega
    rcases go with h1 | h1
    ·omega
    ·rcases Nat.lt_or_ge (2 * x + b) (2 ^ (8 * i)) with h2 | h2
     ·have := (D.out (Nat.le_refl _)).2 h2; omega
     ·exact h2
   clear hr hu hs
   rcases Nat.lt_or_ge i n with hik2 | hik2
   ·have d1 : decide ((i : Int) < (n : Int)) = true := by simp; omega
    clear go
    go_wp2_with (first
     | ((with_reducible refine (HA.out _ G.out).mono ?_); rintro e w' ⟨rfl, rfl⟩)
     | ((with_reducible apply z0y); (case hgd | ho | hs | hx => exact rfl); (case hown => exact H1.out.alloc _); (case hc => exact z4k _ _ _ hb.out); (case hn => omega); (case hbase => simp; omega); intro v' w' ho' hb' _ _; go_simp))
    go_roundw
    case rel => exact ⟨i + 1, by omega, by go_num, by rw [hu2.out], HN.out, ho', (H2.out.alloc hz _).trans hb'⟩
    case measure => simp [intOf]; omega
   ·have d1 : decide ((i : Int) < (n : Int)) = false := by simp; omega
    have d2 : decide (0 < o) = true := by simp; omega
    clear go
    go_wp2_with (first
     | ((with_reducible refine (HA.out _ G.out).mono ?_); rintro e w' ⟨rfl, rfl⟩)
     | ((with_reducible apply z0y); (case hgd | ho | hs | hx => exact rfl); (case hown => exact H1.out.alloc _); (case hc => exact z4k _ _ _ hb.out); (case hn => omega); (case hbase => simp; omega); intro v' w' ho' hb' _ _; go_simp))
    go_roundw
    case rel => exact ⟨i + 1, by omega, by go_num, by rw [hu2.out], HN.out, ho', (H2.out.alloc hz _).trans hb'⟩
    case measure => simp [intOf]; omega
  ·have d1 : decide ((i : Int) < (n : Int)) = false := by simp; omega
   have hf := (D.out hk1).1 ho0
   have hlen : dl 8 (2 * x + b) = i := y66 (by omega) hf (by
    rcases Nat.lt_or_ge n i with h1 | h1
    ·right
     obtain rfl : i = n + 1 := by omega
     exact HP1.out rfl
    ·obtain rfl : i = n := by omega
     rcases HL.out with h2 | h2
     ·exact .inl h2
     ·right; omega)
   subst ho0
   obtain ⟨g, cb, rfl, hs⟩ := H1.out.any
   have S1 : Hid (Sb wr wr.heap.size g i cb (2 * x + b)) := za ⟨hs, hf⟩
   have HE := za hlen
   clear hs hf hlen
   go_wp2_with fail
   go_ret
   exact ⟨_, rfl, g, cb, by rw [HE.out]; rfl, by rw [HE.out]; exact S1.out, H2.out⟩
theorem y27 (x t : Nat) : x / 2 ^ t = 2 * (x / 2 ^ (t + 1)) + x / 2 ^ t % 2 := by
 rw [Nat.pow_succ, ← Nat.div_div_eq_div_mul]
 omega
theorem div_bit_lt {x y t : Nat} (h : 2 * (x / 2 ^ (t + 1) % y) + x / 2 ^ t % 2 < y) : x / 2 ^ t % y = 2 * (x / 2 ^ (t + 1) % y) + x / 2 ^ t % 2 ∧ x / 2 ^ t / y = 2 * (x / 2 ^ (t + 1) / y) := by
 have hs := y27 x t
 generalize x / 2 ^ t % 2 = b at *
 generalize x / 2 ^ (t + 1) = u at *
 have hd := Nat.div_add_mod u y
 have e : x / 2 ^ t = y * (2 * (u / y)) + (2 * (u % y) + b) := by
  rw [hs, Nat.mul_left_comm]
  omega
 have hy : 0 < y := by omega
 rw [e, Nat.mul_add_mod, Nat.mod_eq_of_lt h, Nat.mul_add_div hy, Nat.div_eq_of_lt h]
 exact ⟨rfl, rfl⟩
theorem div_bit_ge {x y t : Nat} (hy : 0 < y) (h : y ≤ 2 * (x / 2 ^ (t + 1) % y) + x / 2 ^ t % 2) : x / 2 ^ t % y = 2 * (x / 2 ^ (t + 1) % y) + x / 2 ^ t % 2 - y ∧ x / 2 ^ t / y = 2 * (x / 2 ^ (t + 1) / y) + 1 := by
 have hs := y27 x t
 have hb : x / 2 ^ t % 2 < 2 := Nat.mod_lt _ (by omega)
 generalize x / 2 ^ t % 2 = b at *
 generalize x / 2 ^ (t + 1) = u at *
 have hd := Nat.div_add_mod u y
 have hm := Nat.mod_lt u hy
 have hr : 2 * (u % y) + b - y < y := by omega
 have e : x / 2 ^ t = y * (2 * (u / y) + 1) + (2 * (u % y) + b - y) := by
  rw [hs, Nat.mul_add, Nat.mul_left_comm, Nat.mul_one]
  omega
 rw [e, Nat.mul_add_mod, Nat.mod_eq_of_lt hr, Nat.mul_add_div hy, Nat.div_eq_of_lt hr]
 exact ⟨rfl, rfl⟩
theorem y9a {b x y : Nat} (hb : 0 < b) (h : x ≤ y) : dl b x ≤ dl b y := (z5f b x _ hb).2 (Nat.lt_of_le_of_lt h (z96 b y hb))
theorem dl8_two {r b y m : Nat} (hr : r < y) (hb : b ≤ 1) (hy : y < 2 ^ (8 * m)) : dl 8 (2 * r + b) ≤ m + 1 := (z5f 8 _ _ (by omega)).2 (by rw [pow8]; omega)
theorem refDiv_any (a : Option Addr) (n c x : Nat) (a' : Option Addr) (m c' y : Nat) (w : World) (hn : n ≤ 1000) (hm : m ≤ 1000) (h : Sb w w.heap.size a n c x) (h' : Sb w w.heap.size a' m c' y) (hy : 0 < y) :
  Calls Tryz.prog 153 #[.slice a n c, .slice a' m c'] w fun e w' => ∃ v v', e = .returned (.tuple #[v, v']) ∧ GotB w w' v (x / y) ∧ GotB w w' v' (x % y) := by
 have H := za h
 have H' := za h'
 have Hy := za hy
 have Hf := za h.fits
 have Hf' := za h'.fits
 have hbl : bl x ≤ 8000 := Nat.le_trans ((y2a x _).2 h.fits) (by omega)
 have LX : Hid (∀ w', Sb w' w.heap.size a n c x → Calls Tryz.prog 99 #[.slice a n c] w' fun e w'' => e = .returned (.int .i64 ((bl x : Nat) : Int)) ∧ w'' = w') := za fun w' hw => z72 a n c x w' (by omega) hw
 have HB0 := za (y0f x)
 generalize bl x = l at *
 clear h h' hy
 go_enter Tryz.func153, Tryz.ntmps153
 go_wp2_with ((with_reducible refine (LX.out _ H.out).mono ?_); rintro e w1 ⟨rfl, rfl⟩)
 go_loopw [6, 7, 8] (fun v6 v7 v8 wr => ∃ T aq cq ar cr, T ≤ l ∧ v8 = .int .i64 ((T : Int) - 1) ∧ v6 = .slice aq (dl 8 (x / 2 ^ T / y)) cq ∧ Sb wr wr.heap.size aq (dl 8 (x / 2 ^ T / y)) cq (x / 2 ^ T / y) ∧ v7 = .slice ar (dl 8 (x / 2 ^ T % y)) cr ∧ Sb wr wr.heap.size ar (dl 8 (x / 2 ^ T % y)) cr (x / 2 ^ T % y) ∧ Below w1.heap.size w1 wr) (fun _ _ v8 _ => (intOf v8 + 1).toNat)
 case atStart =>
  have e0 : dl 8 0 = 0 := dl_zero 8 (by omega)
  refine ⟨l, none, 0, none, 0, Nat.le_refl _, rfl, ?_, ?_, ?_, ?_, Below.refl _ _⟩
  ·rw [Nat.div_eq_of_lt HB0.out, Nat.zero_div, e0]
  ·rw [Nat.div_eq_of_lt HB0.out, Nat.zero_div, e0]
   exact ⟨⟨Nat.le_refl _, fun _ => rfl, fun _ e _ => by cases e⟩, by simp⟩
  ·rw [Nat.div_eq_of_lt HB0.out, Nat.zero_mod, e0]
  ·rw [Nat.div_eq_of_lt HB0.out, Nat.zero_mod, e0]
   exact ⟨⟨Nat.le_refl _, fun _ => rfl, fun _ e _ => by cases e⟩, by simp⟩
 case round =>
  obtain ⟨T, aq, cq, ar, cr, hT, rfl, rfl, HQ, rfl, HR, HB⟩ := hrel
  have hq1 : dl 8 (x / 2 ^ T / y) ≤ n := Nat.le_trans (y9a (by omega) (Nat.le_trans (Nat.div_le_self _ _) (Nat.div_le_self _ _))) ((z5f 8 x n (by omega)).2 Hf.out)
  have hr1 : dl 8 (x / 2 ^ T % y) ≤ m := Nat.le_trans (y9a (by omega) (Nat.le_of_lt (Nat.mod_lt _ Hy.out))) ((z5f 8 y m (by omega)).2 Hf'.out)
  rcases Nat.eq_zero_or_pos T with h0 | h0
  ·subst h0
   rw [Nat.pow_zero, Nat.div_one] at HQ HR hq1 hr1 ⊢
   have hi0 : decide ((0 : Int) ≤ ((0 : Nat) : Int) - 1) = false := by simp
   have em : (((0 : Nat) : Int) - 1) = -1 := rfl
   rw [em]
   have H1 := za HQ
   have H2 := za HR
   have H3 := za HB
   have K1 : Hid (dl 8 (x / y) ≤ 1000000) := za (by omega)
   have K2 : Hid (dl 8 (x % y) ≤ 1000000) := za (by omega)
   clear HQ HR HB em hi0
   go_wp2_with (first
    | ((with_reducible refine (z8j aq _ cq (x / y) _ K1.out H1.out).mono ?_); rintro e w' ⟨rfl, rfl⟩)
    | ((with_reducible refine (z8j ar _ cr (x % y) _ K2.out H2.out).mono ?_); rintro e w' ⟨rfl, rfl⟩))
   go_ret2
   exact ⟨_, _, rfl, ⟨aq, cq, rfl, H1.out, H3.out⟩, ⟨ar, cr, rfl, H2.out, H3.out⟩⟩
  ·obtain ⟨t, rfl⟩ : ∃ t, T = t + 1 := ⟨T - 1, by omega⟩
   have e : (((t + 1 : Nat) : Int) - 1) = (t : Int) := by omega
   rw [e]
   have hi0 : decide ((0 : Int) ≤ (t : Int)) = true := by simp
   have hb1 : x / 2 ^ t % 2 ≤ 1 := by have := Nat.mod_lt (x / 2 ^ t) (by omega : 0 < 2); omega
   have HBit : Hid (bitI x (t : Int) = ((x / 2 ^ t % 2 : Nat) : Int)) := za (by unfold bitI; rw [if_neg (by omega)]; rfl)
   have LT : Hid (2 * (x / 2 ^ (t + 1) % y) + x / 2 ^ t % 2 < y → x / 2 ^ t % y = 2 * (x / 2 ^ (t + 1) % y) + x / 2 ^ t % 2 ∧ x / 2 ^ t / y = 2 * (x / 2 ^ (t + 1) / y) + 0) := za fun h => div_bit_lt h
   have GE : Hid (y ≤ 2 * (x / 2 ^ (t + 1) % y) + x / 2 ^ t % 2 → x / 2 ^ t % y = 2 * (x / 2 ^ (t + 1) % y) + x / 2 ^ t % 2 - y ∧ x / 2 ^ t / y = 2 * (x / 2 ^ (t + 1) / y) + 1) := za fun h => div_bit_ge Hy.out h
   have hry : x / 2 ^ (t + 1) % y < y := Nat.mod_lt _ Hy.out
   generalize x / 2 ^ t % 2 = b at *
   generalize x / 2 ^ (t + 1) % y = r at *
   generalize x / 2 ^ (t + 1) / y = q at *
   have Kd := za (dl8_two hry hb1 Hf'.out)
   have Kr := za (Nat.le_trans hr1 (by omega : m ≤ 10000))
   have Kq := za (Nat.le_trans hq1 (by omega : n ≤ 10000))
   have Hb1 := za hb1
   have G := za (H.out.below HB)
   have G' := za ((H'.out.below HB).more HB.size)
   have HQ0 := za HQ
   have HR0 := za HR
   have H3 := za HB
   have ht6 : (t : Int) ≤ 8000 := by omega
   clear HQ HR HB hry hb1 hq1 hr1 e h0
   by_cases hD : 2 * r + b < y
   ·have Hc := za (cmp_lt hD)
    obtain ⟨L1, L2⟩ := LT.out hD
    have L1 := za L1
    have L2 := za L2
    clear hD LT GE
    have DQ : Hid (∀ w', Sb w' w'.heap.size aq (dl 8 q) cq q → Calls Tryz.prog 180 #[.slice aq (dl 8 q) cq, .int .i64 0] w' fun e w'' => ∃ v, e = .returned v ∧ GotB w' w'' v (2 * q + 0)) := za fun w' hw => z3r aq _ cq q 0 w' Kq.out (by omega) hw rfl
    go_wp2_with (first
     | ((with_reducible refine (z3c a n c x (t : Int) _ (by omega) (by omega) G.out).mono ?_); rintro e w5 ⟨rfl, rfl⟩; rw [HBit.out])
     | ((with_reducible refine (z3r ar _ cr r b _ Kr.out Hb1.out HR0.out rfl).mono ?_); rintro e w6 ⟨v, rfl, hv⟩; obtain ⟨a6, c6, rfl, S6, B6⟩ := hv; have S6 := za S6; have B6 := za B6; have G6 := za (G'.out.call B6.out); have Q6 := za (HQ0.out.call B6.out))
     | ((with_reducible refine (z4m a6 _ c6 (2 * r + b) a' m c' y _ (Nat.le_trans Kd.out (by omega)) (by omega) S6.out G6.out).mono ?_); rintro e w7 ⟨rfl, rfl⟩; rw [Hc.out])
     | ((with_reducible refine (DQ.out _ Q6.out).mono ?_); rintro e w8 ⟨v, rfl, hv⟩; obtain ⟨a8, c8, rfl, S8, B8⟩ := hv; have S8 := za S8; have B8 := za B8; have S6 := za (S6.out.call B8.out)))
    go_roundw
    case rel => exact ⟨t, a8, c8, a6, c6, by omega, by go_num, by rw [L2.out]; rfl, by rw [L2.out]; exact S8.out, by rw [L1.out], by rw [L1.out]; exact S6.out, H3.out.trans ((B6.out.mono H3.out.size).trans (B8.out.mono (Nat.le_trans H3.out.size B6.out.size)))⟩
    case measure => (simp [intOf] <;> omega)
   ·obtain ⟨z, hz⟩ : ∃ z, cmp (2 * r + b) y = z := ⟨_, rfl⟩
    have hz0 : decide (0 ≤ z) = true := by
     subst hz; unfold cmp
     rw [if_neg hD]
     split <;> simp
    have hz1 : -1 ≤ z ∧ z ≤ 1 := by
     subst hz; unfold cmp
     split
     ·omega
     ·split <;> omega
    have Hc := za hz
    have HD : Hid (y ≤ 2 * r + b) := za (by omega)
    obtain ⟨hz2, hz3⟩ := hz1
    obtain ⟨L1, L2⟩ := GE.out HD.out
    have L1 := za L1
    have L2 := za L2
    clear hD hz LT GE
    have DQ : Hid (∀ w', Sb w' w'.heap.size aq (dl 8 q) cq q → Calls Tryz.prog 180 #[.slice aq (dl 8 q) cq, .int .i64 1] w' fun e w'' => ∃ v, e = .returned v ∧ GotB w' w'' v (2 * q + 1)) := za fun w' hw => z3r aq _ cq q 1 w' Kq.out (by omega) hw rfl
    go_wp2_with (first
     | ((with_reducible refine (z3c a n c x (t : Int) _ (by omega) (by omega) G.out).mono ?_); rintro e w5 ⟨rfl, rfl⟩; rw [HBit.out])
     | ((with_reducible refine (z3r ar _ cr r b _ Kr.out Hb1.out HR0.out rfl).mono ?_); rintro e w6 ⟨v, rfl, hv⟩; obtain ⟨a6, c6, rfl, S6, B6⟩ := hv; have S6 := za S6; have B6 := za B6; have G6 := za (G'.out.call B6.out); have Q6 := za (HQ0.out.call B6.out))
     | ((with_reducible refine (z4m a6 _ c6 (2 * r + b) a' m c' y _ (Nat.le_trans Kd.out (by omega)) (by omega) S6.out G6.out).mono ?_); rintro e w7 ⟨rfl, rfl⟩; rw [Hc.out])
     | ((with_reducible refine (z49 a6 _ c6 (2 * r + b) a' m c' y _ (Nat.le_trans Kd.out (by omega)) (by omega) S6.out G6.out HD.out).mono ?_); rintro e w9 ⟨v, rfl, hv⟩; obtain ⟨a9, c9, rfl, S9, B9⟩ := hv; have S9 := za S9; have B9 := za B9; have Q6 := za (Q6.out.call B9.out))
     | ((with_reducible refine (DQ.out _ Q6.out).mono ?_); rintro e w8 ⟨v, rfl, hv⟩; obtain ⟨a8, c8, rfl, S8, B8⟩ := hv; have S8 := za S8; have B8 := za B8; have S9 := za (S9.out.call B8.out)))
    go_roundw
    case rel => exact ⟨t, a8, c8, a9, c9, by omega, by go_num, by rw [L2.out], by rw [L2.out]; exact S8.out, by rw [L1.out], by rw [L1.out]; exact S9.out, H3.out.trans ((B6.out.mono H3.out.size).trans ((B9.out.mono (Nat.le_trans H3.out.size B6.out.size)).trans (B8.out.mono (Nat.le_trans H3.out.size (Nat.le_trans B6.out.size B9.out.size)))))⟩
    case measure => (simp [intOf] <;> omega)
abbrev W17 (x : Nat) : Value := .agg (AZ .u64 17 (LZ (wd x)))
theorem zero17 : AZ .u64 17 (fun _ => 0) = #[.int .u64 0, .int .u64 0, .int .u64 0, .int .u64 0, .int .u64 0, .int .u64 0, .int .u64 0, .int .u64 0, .int .u64 0, .int .u64 0, .int .u64 0, .int .u64 0, .int .u64 0, .int .u64 0, .int .u64 0, .int .u64 0, .int .u64 0] := by
 unfold AZ
 rfl
theorem zero10 : AZ .u64 10 (fun _ => 0) = #[.int .u64 0, .int .u64 0, .int .u64 0, .int .u64 0, .int .u64 0, .int .u64 0, .int .u64 0, .int .u64 0, .int .u64 0, .int .u64 0] := by
 unfold AZ
 rfl
theorem zero4 : AZ .u64 4 (fun _ => 0) = #[.int .u64 0, .int .u64 0, .int .u64 0, .int .u64 0] := by
 unfold AZ
 rfl
theorem y0j : IsRow Tryz.prog 146 17 := ⟨⟨_, Tryz.underlying146, rfl⟩, by kernel_rfl⟩
theorem nil17 (w : World) : (zeroValue 146).run Tryz.prog w = .ok (.agg (AZ .u64 17 fun _ => 0)) w := by rw [zero17]; exact Tryz.zeroValue146 w
theorem y73 : IsRow Tryz.prog 211 10 := ⟨⟨_, Tryz.underlying211, rfl⟩, by kernel_rfl⟩
theorem nil10 (w : World) : (zeroValue 211).run Tryz.prog w = .ok (.agg (AZ .u64 10 fun _ => 0)) w := by rw [zero10]; exact Tryz.zeroValue211 w
theorem row4 : IsRow Tryz.prog 210 4 := ⟨⟨_, Tryz.underlying210, rfl⟩, by kernel_rfl⟩
theorem nil4 (w : World) : (zeroValue 210).run Tryz.prog w = .ok (.agg (AZ .u64 4 fun _ => 0)) w := by rw [zero4]; exact Tryz.zeroValue210 w
section
variable {P : Program} {w : World} {ty : TypeId} {m : Nat}
theorem Tl.load_rst (h : Tl true w) : (Instr.loadAt 210 (.pointer (some ⟨2, 0, none⟩))).run Tryz.prog w = .ok (.agg (AZ .u64 4 (LZ (wd rN)))) w :=
 z6p row4 fun i hi => by rw [Nat.zero_add]; exact h.rst rfl i hi
end
section
variable {ops : Array Oper} {rest : List Oper} {o : Oper} {a : Act} {w : World} {Q : Exit → Act → World → Prop}
theorem lay_load_rst (HT : Hid (Tl true w)) (hgd : o.guard = none) {x : Operand} (ho : o.op = .load 210 x) (hx : a.eval x = .pointer (some ⟨2, 0, none⟩))
  (h : ∀ K : Act → World → Prop, (∀ a w, wpList Tryz.prog ops Q rest a w → K a w) → K (a.put o.dst (.agg (AZ .u64 4 (LZ (wd rN))))) w) : wpList Tryz.prog ops Q (o :: rest) a w :=
 wpList_plain hgd fun K hK => by
  unfold Oper.wp execOp
  simp only [ho, hx, Sem.run_bind, HT.out.load_rst, Result.andThen_ok]
  exact h K hK
end
section
variable {P : Program} {ops : Array Oper} {rest : List Oper} {o : Oper} {a : Act} {w w0 : World} {l : List (Nat × Obj)} {Q : Exit → Act → World → Prop} {t ty : TypeId} {n : Nat}
theorem own_word {i : Nat} (hT : IsOne P ty .u64) (H : Hid (Ow w0 w l)) (hgd : o.guard = none) {x : Operand} (ho : o.op = .load ty x) {g j : Nat} (hx : a.eval x = .pointer (some ⟨g, j, none⟩)) {f : Nat → BitVec 64}
  (hi : l[i]? = some (g, WB t n f)) (hj : j < n) (h : ∀ K : Act → World → Prop, (∀ a w, wpList P ops Q rest a w → K a w) → K (a.put o.dst (V (f j))) w) : wpList P ops Q (o :: rest) a w :=
 y1s hT H hgd ho hx hi hj h
theorem own_putw {i : Nat} (hT : IsOne P ty .u64) (H : Hid (Ow w0 w l)) (hgd : o.guard = none) {x y : Operand} (ho : o.op = .store ty x y) {g j : Nat} (hx : a.eval x = .pointer (some ⟨g, j, none⟩)) {v : BitVec 64} {f : Nat → BitVec 64} (hy : a.eval y = V v)
  (hi : l[i]? = some (g, WB t n f)) (hj : j < n) (h : ∀ w', Hid (Ow w0 w' (l.set i (g, WB t n (upd f j v)))) → ∀ K : Act → World → Prop, (∀ a w, wpList P ops Q rest a w → K a w) → K (a.put o.dst undef) w') : wpList P ops Q (o :: rest) a w :=
 z2z hT H hgd ho hx hy hi hj fun w' H' => h w' (by rw [y90] at H'; exact H')
end
theorem layZ_mix (m : Nat) (f f0 : Nat → BitVec 64) : layZ (LZ f0) 0 m (LZ f) = LZ (mix m f f0) := by
 funext j
 unfold layZ mix
 by_cases h : j < m
 ·rw [if_pos (by omega), Nat.sub_zero]; show L (f j) = L (if j < m then f j else f0 j); rw [if_pos h]
 ·rw [if_neg (by omega)]; show L (f0 j) = L (if j < m then f j else f0 j); rw [if_neg h]
section
variable {o : Oper} {a : Act} {w w0 : World} {l : List (Nat × Obj)} {K : Act → World → Prop} {Q : Exit → Act → World → Prop} {t : TypeId} {M : Nat}
theorem z90 (i : Nat) {m : Nat} {f : Nat → BitVec 64} (H : Ow w0 w l) {d s : Operand} {sT : TypeId} (ho : o.op = .call { callee := .builtin .copy, args := #[d, s], argTypes := #[148, sT] }) {g cd : Nat}
  (hd : a.eval d = .slice (some ⟨g, 0, none⟩) M cd) {f0 : Nat → BitVec 64} (hi : l[i]? = some (g, WB t M f0)) {b off k cs : Nat} (hs : a.eval s = .slice (some ⟨b, off, none⟩) k cs) (hm : m = min k M) (hM : m ≤ M)
  (hsrc : ∀ j, j < m → w.cell? ⟨b, off + j, none⟩ = some (V (f j))) (h : ∀ w', Ow w0 w' (l.set i (g, WB t M (mix m f f0))) → K (a.put o.dst (.int .i64 (m : Int))) w') : o.wp Tryz.prog a w K Q := by
 have hl : (AZ .u64 m (LZ f)).toList.length = m := by rw [Array.length_toList, z0j]
 have hrow : w.heap[g]? = some (.cells (AZ .u64 M (LZ f0)) t) := H.row i hi
 have hrun := run_copy_row (P := Tryz.prog) w 148 sT o.type 27 g 0 M cd ⟨b, off, none⟩ k cs (AZ .u64 M (LZ f0)) t (AZ .u64 m (LZ f)).toList Tryz.underlying148 oneU.size hrow
  (by rw [hl]; exact hm) (fun j v hv => by
   have hj : j < m := by
    rcases Nat.lt_or_ge j m with h' | h'
    ·exact h'
    ·rw [List.getElem?_eq_none (by rw [hl]; exact h')] at hv; cases hv
   rw [Array.getElem?_toList, z1c _ _ _ _ hj] at hv
   obtain rfl := Option.some.inj hv
   rw [Addr.add_mid]
   exact hsrc j hj) (by rw [hl, z0j]; omega) y0c
 rw [hl, y91 _ _ _ _ _ _ (by omega), layZ_mix] at hrun
 unfold Oper.wp
 simp [execOp, ho, resolve, invoke, builtin, hd, hs, hrun, Result.andThen]
 exact h _ (H.setRow i hi _)
end
section
variable {ops : Array Oper} {rest : List Oper} {o : Oper} {a : Act} {w w0 : World} {l : List (Nat × Obj)} {Q : Exit → Act → World → Prop} {t : TypeId} {M : Nat}
theorem y5i {i m : Nat} {f : Nat → BitVec 64} (H : Hid (Ow w0 w l)) (hgd : o.guard = none) {d s : Operand} {sT : TypeId} (ho : o.op = .call { callee := .builtin .copy, args := #[d, s], argTypes := #[148, sT] }) {g cd : Nat}
  (hd : a.eval d = .slice (some ⟨g, 0, none⟩) M cd) {f0 : Nat → BitVec 64} (hi : l[i]? = some (g, WB t M f0)) {b off k cs : Nat} (hs : a.eval s = .slice (some ⟨b, off, none⟩) k cs) (hm : m = min k M) (hM : m ≤ M)
  (hsrc : ∀ j, j < m → w.cell? ⟨b, off + j, none⟩ = some (V (f j))) (h : ∀ w', Hid (Ow w0 w' (l.set i (g, WB t M (mix m f f0)))) → ∀ K : Act → World → Prop, (∀ a w, wpList Tryz.prog ops Q rest a w → K a w) → K (a.put o.dst (.int .i64 (m : Int))) w') : wpList Tryz.prog ops Q (o :: rest) a w :=
 wpList_plain hgd fun K hK => z90 i H.out ho hd hi hs hm hM hsrc fun w' H' => h w' (za H') K hK
end
section
variable {ops : Array Oper} {rest : List Oper} {o : Oper} {a : Act} {w : World} {Q : Exit → Act → World → Prop} {t : TypeId} {kk : IntKind} {n : Nat}
theorem z79 {f : Nat → BitVec 64} (hu : Tryz.prog.underlying t = some (.array n 27)) (hgd : o.guard = none) {x y : Operand} (ho : o.op = .index t x y) (hx : a.eval x = .agg (AZ .u64 n (LZ f))) {i : Nat} (hy : a.eval y = .int kk (i : Int)) (hi : i < n)
  (h : ∀ K : Act → World → Prop, (∀ a w, wpList Tryz.prog ops Q rest a w → K a w) → K (a.put o.dst (V (f i))) w) : wpList Tryz.prog ops Q (o :: rest) a w :=
 z20 hu oneU hgd ho hx hy hi h
end
theorem first_v (x : Nat) (w : World) :
  Calls Tryz.prog 165 #[W17 x] w fun e w' => e = .returned (W7 x) ∧ Below w.heap.size w w' := by
 have H := za (Ow.start w)
 go_enter Tryz.func165, Tryz.ntmps165
 go_wp2_with (first
  | ((with_reducible apply zw H); (case hgd | ho | hx => exact rfl); clear H; intro _ _ H _ _; go_simp)
  | ((with_reducible apply ze nil7 H); (case hgd | ho => exact rfl); clear H; intro _ _ H _ _; go_simp))
 rw [z7b] at H
 refine wp_region_still_tail 2 (by kernel_rfl) (by kernel_rfl) ?_
 replace H := za H.out.drew
 change wpStill _ _ (World.drew _) (fun a' => wpList _ _ _ _ a' (World.drew _)) _ _
 generalize World.drew _ = w8 at *
 simp only [List.take_succ_cons, List.take_zero, List.drop_succ_cons, List.drop_zero]
 iterate 2 still_step
 refine wpStill_nil ?_
 go_wp2_with (first
  | ((with_reducible apply y5i (m := 7) (f := wd x) H); (case hgd | ho | hd => exact rfl); (case hi => repeat first|exact z5|apply z8); (case hs => exact rfl); (case hm => decide); (case hM => decide); (case hsrc => intro j hj; rw [Nat.zero_add]; exact H.out.cell 1 rfl j (by omega)); clear H; intro ws H _ _; simp only [qb] at H; go_simp)
  | ((with_reducible apply zr row7 H); (case hgd | ho | hx => exact rfl); (case hi => repeat first|exact z5|apply z8); intro _ _; go_simp)
  | ((with_reducible apply zj row7 H); (case hgd | ho | hx | hy => exact rfl); (case hi => repeat first|exact z5|apply z8); clear H; intro ws H _ _; simp only [qb] at H; go_simp))
 replace H := za (H.out.like 0 (g := LZ (wd x)) rfl fun k hk => by show L (mix 7 _ _ k) = _; rw [z4n _ _ _ k hk])
 simp only [qb] at H
 exact bodyPost_ret (zy 0 row7 rfl _ H rfl rfl) rfl ⟨rfl, H.out.bel⟩
theorem wd_mod (x e i : Nat) (h : 64 * i + 64 ≤ e) : wd (x % 2 ^ e) i = wd x i := by
 apply BitVec.eq_of_getLsbD_eq
 intro j hj
 rw [z5j, z5j, Nat.testBit_mod_two_pow]
 have h1 : 64 * i + j < e := by omega
 simp [h1]
theorem wd_mod_over (x e i : Nat) (h : e ≤ 64 * i) : wd (x % 2 ^ e) i = 0 := by
 apply BitVec.eq_of_getLsbD_eq
 intro j hj
 rw [z5j, Nat.testBit_mod_two_pow]
 have h1 : ¬ 64 * i + j < e := by omega
 simp [h1]
theorem wd_mod_top (x e i : Nat) (h : e = 64 * i + 62) : wd (x % 2 ^ e) i = wd x i &&& 4611686018427387903 := by
 apply BitVec.eq_of_getLsbD_eq
 intro j hj
 rw [z5j, Nat.testBit_mod_two_pow, BitVec.getLsbD_and, z5j]
 have e1 : (4611686018427387903 : BitVec 64).getLsbD j = decide (j < 62) := by
  show (4611686018427387903 : BitVec 64).getLsbD j = _
  rw [show (4611686018427387903 : BitVec 64) = BitVec.ofNat 64 (2 ^ 62 - 1) from rfl, BitVec.getLsbD_ofNat, Nat.testBit_two_pow_sub_one]
  simp [hj]
 rw [e1]
 by_cases h1 : j < 62
 ·have h2 : 64 * i + j < e := by omega
  simp [hj, h1, h2]
 ·have h2 : ¬ 64 * i + j < e := by omega
  simp [h1, h2]
theorem low_words (x : Nat) (i : Nat) : upd (mix 7 (wd x) fun _ => 0) 6 (mix 7 (wd x) (fun _ => 0) 6 &&& 4611686018427387903) i = wd (x % qN) i := by
 rw [z4n 7 _ _ 6 (by omega)]
 obtain ⟨e, he⟩ : ∃ e, e = 446 := ⟨_, rfl⟩
 rw [← y75 e he]
 unfold upd mix
 by_cases h6 : i = 6
 ·subst h6
  rw [if_pos rfl, wd_mod_top x e 6 (by omega)]
 ·rw [if_neg h6]
  by_cases h7 : i < 7
  ·rw [if_pos h7, wd_mod x e i (by omega)]
  ·rw [if_neg h7, wd_mod_over x e i (by omega)]
theorem below_v (x : Nat) (w : World) :
  Calls Tryz.prog 164 #[W17 x] w fun e w' => e = .returned (W17 (x % qN)) ∧ Below w.heap.size w w' := by
 have HL := za (low_words x)
 have H := za (Ow.start w)
 go_enter Tryz.func164, Tryz.ntmps164
 go_wp2_with (first
  | ((with_reducible apply zw H); (case hgd | ho | hx => exact rfl); clear H; intro _ _ H _ _; go_simp)
  | ((with_reducible apply ze nil17 H); (case hgd | ho => exact rfl); clear H; intro _ _ H _ _; go_simp))
 rw [z7b] at H
 refine wp_region_still_tail 2 (by kernel_rfl) (by kernel_rfl) ?_
 replace H := za H.out.drew
 change wpStill _ _ (World.drew _) (fun a' => wpList _ _ _ _ a' (World.drew _)) _ _
 generalize World.drew _ = w8 at *
 simp only [List.take_succ_cons, List.take_zero, List.drop_succ_cons, List.drop_zero]
 iterate 2 still_step
 refine wpStill_nil ?_
 go_wp2_with (first
  | ((with_reducible apply y5i (m := 7) (f := wd x) H); (case hgd | ho | hd => exact rfl); (case hi => repeat first|exact z5|apply z8); (case hs => exact rfl); (case hm => decide); (case hM => decide); (case hsrc => intro j hj; rw [Nat.zero_add]; exact H.out.cell 1 rfl j (by omega)); clear H; intro ws H _ _; simp only [qb] at H; go_simp)
  | ((with_reducible apply own_word oneU H); (case hgd | ho | hx => exact rfl); (case hi => repeat first|exact z5|apply z8); (case hj => omega); intro _ _; go_simp)
  | ((with_reducible apply own_putw oneU H); (case hgd | ho | hx | hy => exact rfl); (case hi => repeat first|exact z5|apply z8); (case hj => omega); clear H; intro ws H _ _; simp only [qb] at H; go_simp)
  | ((with_reducible apply zr y0j H); (case hgd | ho | hx => exact rfl); (case hi => repeat first|exact z5|apply z8); intro _ _; go_simp)
  | ((with_reducible apply zj y0j H); (case hgd | ho | hx | hy => exact rfl); (case hi => repeat first|exact z5|apply z8); clear H; intro ws H _ _; simp only [qb] at H; go_simp))
 replace H := za (H.out.like 0 (g := LZ (wd (x % qN))) rfl fun k _ => congrArg L (HL.out k))
 simp only [qb] at H
 exact bodyPost_ret (zy 0 y0j rfl _ H rfl rfl) rfl ⟨rfl, H.out.bel⟩
theorem high_words (x i : Nat) : shr (wd x (i + 6)) 62 ||| shl (wd x (i + 7)) 2 = wd (x / qN) i := by
 obtain ⟨e, he⟩ : ∃ e, e = 446 := ⟨_, rfl⟩
 have h := wd_down x e i
 rw [show e / 64 = 6 by omega, show e % 64 = 62 by omega] at h
 rw [← y75 e he, h]
theorem sbeyond_v (x : Nat) (w : World) :
  Calls Tryz.prog 163 #[W17 x] w fun e w' => e = .returned (.agg (AZ .u64 10 (LZ (wd (x / qN))))) ∧ Below w.heap.size w w' := by
 have HL := za (high_words x)
 have H := za (Ow.start w)
 go_enter Tryz.func163, Tryz.ntmps163
 go_wp2_with (first
  | ((fail_if_success have := g1); (with_reducible apply zw H); (case hgd | ho | hx => exact rfl); clear H; intro w1 g1 H _ _; go_simp)
  | ((fail_if_success have := g2); (with_reducible apply ze nil10 H); (case hgd | ho => exact rfl); clear H; intro w2 g2 H _ _; go_simp))
 rw [z7b] at H
 go_loopw [4] (fun v4 wr => ∃ i : Nat, i ≤ 10 ∧ v4 = .int .i64 i ∧ Ow w wr [(g2, WB 211 10 (mix i (wd (x / qN)) fun _ => 0)), (g1, WB 146 17 (wd x))]) (fun v4 _ => 10 - (intOf v4).toNat)
 case atStart => exact ⟨0, by omega, rfl, by rw [z6h]; exact H.out⟩
 case round =>
  clear H
  obtain ⟨i, hi, rfl, HR⟩ := hrel
  have H := za HR
  clear HR
  by_cases hlt : i < 10
  ·have hid : decide ((i : Int) < 10) = true := by simp; omega
   have i10 : (i : Int) < 10 := by omega
   have f1 : IntKind.i64.wrap ((i : Int) + 7) = ((i + 7 : Nat) : Int) := (IntWalk.i64_in _ (by omega)).trans (by omega)
   have f2 : IntKind.i64.wrap (((i + 7 : Nat) : Int) - 1) = ((i + 6 : Nat) : Int) := (IntWalk.i64_in _ (by omega)).trans (by omega)
   obtain ⟨p, hp⟩ : ∃ p, i + 7 = p := ⟨_, rfl⟩
   obtain ⟨q, hq⟩ : ∃ q, i + 6 = q := ⟨_, rfl⟩
   have HP := za hp
   have HQ := za hq
   rw [hp] at f1 f2
   rw [hq] at f2
   have p17 : (p : Int) < 17 := by omega
   have q17 : (q : Int) < 17 := by omega
   have p17' : p < 17 := by omega
   have q17' : q < 17 := by omega
   clear hp hq
   go_wp2_with fail
   refine wp_region_noPanic ?_
   refine wp_region_held_drew (S := fun W => W.heap[g1]? = some (WB 146 17 (wd x))) (by kernel_rfl) (H.out.drew.row 1 rfl) (fun hH => ?_)
   replace H := za H.out.drew
   generalize World.drew _ = w8 at *
   refine zh 0 7 (.int .i64 i) hH ?_
   refine zh 1 8 (.int .i64 i) hH ?_
   refine zh 2 9 (.int .i64 p) hH ?_
   refine zh 3 10 (.int .i64 q) hH ?_
   refine zh 4 11 (.pointer (some ⟨g1, q, none⟩)) hH ?_
   refine z24 5 12 oneU rfl rfl rfl hH rfl rfl (fun _ h => h) q17' ?_
   refine z0h 6 13 (V (shr (wd x q) 62)) rfl rfl rfl hH (fun w hw => by (go_simp; exact u64_shr _ 62)) ?_
   refine zh 7 14 (.int .i64 i) hH ?_
   refine zh 8 15 (.int .i64 p) hH ?_
   refine zh 9 16 (.pointer (some ⟨g1, p, none⟩)) hH ?_
   refine z24 10 17 oneU rfl rfl rfl hH rfl rfl (fun _ h => h) p17' ?_
   refine z0h 11 18 (V (shl (wd x p) 2)) rfl rfl rfl hH (fun w hw => by (go_simp; exact u64_shl _ 2)) ?_
   refine zh 12 19 (V (shr (wd x q) 62 ||| shl (wd x p) 2)) hH ?_
   refine zh 13 20 (.pointer (some ⟨g2, i, none⟩)) hH ?_
   refine zn 14 rfl fun K hK => ?_
   refine z46 0 oneU H.out rfl rfl rfl rfl hlt ?_
   intro ws HS
   simp only [qb] at HS
   replace H := za HS
   refine zc hK (zb H 1) fun hH => ?_
   try simp only [Act.put, qa]
   refine zm ?_
   clear f1 f2
   go_wp2_with fail
   go_roundw
   case rel => exact ⟨i + 1, by omega, by go_num, by rw [← z8d, ← HL.out, HP.out, HQ.out]; exact H.out⟩
   case measure => simp [intOf]; omega
  ·obtain rfl : i = 10 := by omega
   clear hlt hi
   rw [show ((10 : Nat) : Int) = 10 from rfl]
   replace H := za (H.out.like 0 (g := LZ (wd (x / qN))) rfl fun k hk => by show L (mix 10 _ _ k) = _; rw [z4n _ _ _ k hk])
   simp only [qb] at H
   go_wp2_with (first
    | ((with_reducible apply zr y73 H); (case hgd | ho | hx => exact rfl); (case hi => repeat first|exact z5|apply z8); intro _ _; go_simp)
    | ((with_reducible apply zj y73 H); (case hgd | ho | hx | hy => exact rfl); (case hi => repeat first|exact z5|apply z8); clear H; intro ws H _ _; simp only [qb] at H; go_simp))
   exact bodyPost_ret (zy 0 y73 rfl _ H rfl rfl) rfl ⟨rfl, H.out.bel⟩
def ov (z y x k : Nat) : BitVec 64 := BitVec.ofNat 64 (ovr z y x k)
theorem y8f {z y x k : Nat} (hx : x < 18446744073709551616) : (ov z y x k).toNat = ovr z y x k := by
 unfold ov; rw [BitVec.toNat_ofNat]; exact Nat.mod_eq_of_lt (y8e z y x k hx)
theorem ov_zero (z y x : Nat) : ov z y x 0 = 0 := by unfold ov; rw [ovr_zero]; rfl
theorem y0p (z y k : Nat) (x : BitVec 64) :
  adc (adc (mlo x (wd y k)) (wd z k) 0) (ov z y x.toNat k) 0 = wd (z + y * x.toNat) k ∧
  mhi x (wd y k) + cy (adk (mlo x (wd y k)) (wd z k) 0) + cy (adk (adc (mlo x (wd y k)) (wd z k) 0) (ov z y x.toNat k) 0) = ov z y x.toNat (k + 1) := by
 have hx := x.isLt
 have hs := ovr_step z y x.toNat k
 have ho := y8e z y x.toNat k hx
 have ho' := y8e z y x.toNat (k + 1) hx
 have c0 : (cy 0).toNat = 0 := rfl
 have hz := (wd z k).isLt
 have hr := (wd (z + y * x.toNat) k).isLt
 have hl := y8s x (wd y k)
 have hh := y8t x (wd y k)
 have hlb := (mlo x (wd y k)).isLt
 have hhb := (mhi x (wd y k)).isLt
 have hd := Nat.div_add_mod (x.toNat * (wd y k).toNat) 18446744073709551616
 rw [← hl, ← hh] at hd
 rw [Nat.mul_comm (wd y k).toNat] at hs
 generalize x.toNat * (wd y k).toNat = P at *
 have h1 : (adc (mlo x (wd y k)) (wd z k) 0).toNat = ((mlo x (wd y k)).toNat + (wd z k).toNat) % 18446744073709551616 := by
  unfold adc; rw [BitVec.toNat_ofNat, c0, Nat.add_zero]
 have h2 : (cy (adk (mlo x (wd y k)) (wd z k) 0)).toNat = ((mlo x (wd y k)).toNat + (wd z k).toNat) / 18446744073709551616 := by
  rw [y3k (y9v _ _ _)]; unfold adk; rw [c0, Nat.add_zero]
 generalize mlo x (wd y k) = lo at *
 generalize mhi x (wd y k) = hi at *
 generalize adk lo (wd z k) 0 = c1 at *
 generalize adc lo (wd z k) 0 = s1 at *
 have h3 : (adc s1 (ov z y x.toNat k) 0).toNat = (s1.toNat + ovr z y x.toNat k) % 18446744073709551616 := by
  unfold adc; rw [BitVec.toNat_ofNat, c0, Nat.add_zero, y8f hx]
 have h4 : (cy (adk s1 (ov z y x.toNat k) 0)).toNat = (s1.toNat + ovr z y x.toNat k) / 18446744073709551616 := by
  rw [y3k (y9v _ _ _)]; unfold adk; rw [c0, Nat.add_zero, y8f hx]
 have hc1 := y9g c1
 have hc2 := y9g (adk s1 (ov z y x.toNat k) 0)
 constructor
 ·apply BitVec.eq_of_toNat_eq
  rw [h3]
  omega
 ·apply BitVec.eq_of_toNat_eq
  rw [BitVec.toNat_add, BitVec.toNat_add, y8f hx, h4, h2]
  omega
def tim (i : Nat) (y : Nat) (x : BitVec 64) (Z : Nat) : Nat := Z + 2 ^ (64 * i) * (y * x.toNat)
theorem y43 (i y : Nat) (x : BitVec 64) (Z k : Nat) : wd (tim i y x Z) (i + k) = wd (Z / 2 ^ (64 * i) + y * x.toNat) k ∧ wd Z (i + k) = wd (Z / 2 ^ (64 * i)) k := by
 have e : Z = 2 ^ (64 * i) * (Z / 2 ^ (64 * i)) + Z % 2 ^ (64 * i) := (Nat.div_add_mod _ _).symm
 have hm := Nat.mod_lt Z (Nat.two_pow_pos (64 * i))
 constructor
 ·have e2 : tim i y x Z = 2 ^ (64 * i) * (Z / 2 ^ (64 * i) + y * x.toNat) + Z % 2 ^ (64 * i) := by
   unfold tim
   rw [Nat.mul_add]
   omega
  rw [e2, y1f _ _ _ _ hm]
 ·conv => lhs; rw [e]
  rw [y1f _ _ _ _ hm]
theorem tim_low (i y : Nat) (x : BitVec 64) (Z k : Nat) (hk : k < i) : wd (tim i y x Z) k = wd Z k := by
 have e : Z = 2 ^ (64 * i) * (Z / 2 ^ (64 * i)) + Z % 2 ^ (64 * i) := (Nat.div_add_mod _ _).symm
 have e2 : tim i y x Z = 2 ^ (64 * i) * (Z / 2 ^ (64 * i) + y * x.toNat) + Z % 2 ^ (64 * i) := by
  unfold tim
  rw [Nat.mul_add]
  omega
 rw [e2, y4u _ _ _ _ hk]
 conv => rhs; rw [e]
 rw [y4u _ _ _ _ hk]
theorem carry_step (z y k : Nat) (x : BitVec 64) (h : wd y k = 0) :
  adc (wd z k) (ov z y x.toNat k) 0 = wd (z + y * x.toNat) k ∧ cy (adk (wd z k) (ov z y x.toNat k) 0) = ov z y x.toNat (k + 1) := by
 have h1 := y0p z y k x
 rw [h] at h1
 have e1 : mlo x 0 = 0 := by unfold mlo; simp
 have e2 : mhi x 0 = 0 := by unfold mhi; simp
 have e3 : adc 0 (wd z k) 0 = wd z k := by
  unfold adc
  apply BitVec.eq_of_toNat_eq
  rw [BitVec.toNat_ofNat, show (cy 0).toNat = 0 from rfl]
  have := (wd z k).isLt
  simp
  exact this
 have e4 : cy (adk 0 (wd z k) 0) = 0 := by
  unfold adk
  rw [show (cy 0).toNat = 0 from rfl, Nat.div_eq_of_lt (by have := (wd z k).isLt; simp; exact this)]
  rfl
 rw [e1, e2, e3, e4] at h1
 refine ⟨h1.1, ?_⟩
 rw [← h1.2]
 simp
theorem RowZ.setWord {w : World} {b n : Nat} {t : TypeId} {f : Nat → BitVec 64} (h : RowZ w b t .u64 n (LZ f)) (i : Nat) (v : BitVec 64) : RowZ (w.setCell ⟨b, i, none⟩ (V v)) b t .u64 n (LZ (upd f i v)) := by
 have := h.setCell i (L v)
 rwa [y90] at this
theorem y46 (g N i R Z gl m y : Nat) (t tl : TypeId) (x : BitVec 64) (w : World) (hR : i + R = N) (hN : N ≤ 1000) (hm : m ≤ R) (hr : RowZ w g t .u64 N (LZ (wd Z))) (hl : RowZ w gl tl .u64 m (LZ (wd y))) (hne : gl ≠ g) (hy : y < 2 ^ (64 * m)) :
  Calls Tryz.prog 108 #[.slice (some ⟨g, i, none⟩) R R, .slice (some ⟨gl, 0, none⟩) m m, V x] w fun e w' => e = .returned (.tuple #[]) ∧ RowZ w' g t .u64 N (LZ (wd (tim i y x Z))) ∧ Below g w w' ∧ z81 g w w' := by
 have HY : Hid (∀ k, m ≤ k → wd y k = 0) := za fun k hk => z7u hy hk
 have HL := za hl
 have HR := za hr
 have HN := za hne
 have hR' : (R : Int) ≤ 1000 := by omega
 have hm' : (m : Int) ≤ (R : Int) := by omega
 have HE := za hR
 have H0 := za (ov_zero (Z / 2 ^ (64 * i)) y x.toNat)
 have HT := za (fun k => y0p (Z / 2 ^ (64 * i)) y k x)
 have HC := za (fun k hk => carry_step (Z / 2 ^ (64 * i)) y k x (HY.out k hk))
 clear hl hr hR hne hy
 go_enter Tryz.func108, Tryz.ntmps108
 go_wp2_with fail
 go_loopw [6, 16] (fun v6 v16 wr => ∃ k : Nat, k ≤ m ∧ v16 = .int .i64 k ∧ v6 = V (ov (Z / 2 ^ (64 * i)) y x.toNat k) ∧ RowZ wr g t .u64 N (LZ (mix (i + k) (wd (tim i y x Z)) (wd Z))) ∧ Below g w wr ∧ z81 g w wr) (fun _ v16 _ => m - (intOf v16).toNat)
 case atStart => exact ⟨0, by omega, rfl, by rw [H0.out]; rfl, HR.out.congr fun k _ => congrArg L (by
  unfold mix
  by_cases hk : k < i + 0
  ·rw [if_pos hk, tim_low _ _ _ _ _ (by omega)]
  ·rw [if_neg hk]), Below.refl _ _, z81.refl _ _⟩
 case round =>
  clear HR H0
  obtain ⟨k, hk, rfl, rfl, HW, HB, HA⟩ := hrel
  by_cases hlt : k < m
  ·have hid : decide ((k : Int) < (m : Int)) = true := by simp; omega
   have kR : (k : Int) < (R : Int) := by omega
   have km : (k : Int) < (m : Int) := by omega
   have hc1 : wr.cell? ⟨gl, k, none⟩ = some (V (wd y k)) := (HL.out.apart HA HN.out).cell k hlt
   have hc : wr.cell? ⟨g, i + k, none⟩ = some (V (wd (Z / 2 ^ (64 * i)) k)) := by
    rw [HW.cell (i + k) (by have := HE.out; omega), ← (y43 i y x Z k).2]
    show some (V (mix (i + k) _ (wd Z) (i + k))) = _
    rw [mix_at]
   have hz := HW.thaw (i + k)
   have H1 := za HW
   have H2 := za HB
   have H3 := za HA
   obtain ⟨s1, s2⟩ := HT.out k
   have S1 := za s1
   have S2 := za s2
   clear HW HB HA s1 s2
   go_wp2_with (first | ((with_reducible refine (mul64_any x (wd y k) _).mono ?_); rintro e w' ⟨rfl, rfl⟩))
   go_roundw
   case rel =>
    refine ⟨k + 1, by omega, by go_num, by rw [S2.out], ?_, H2.out.setCell (Nat.le_refl _) _, H3.out.setCell _ _⟩
    have h := H1.out.setWord (i + k) (wd (tim i y x Z) (i + k))
    rw [z8d] at h
    rw [S1.out, ← (y43 i y x Z k).1]
    exact h
   case measure => simp [intOf]; omega
  ·obtain rfl : k = m := by omega
   have hid : decide ((k : Int) < (k : Int)) = false := by simp
   have H1 := za HW
   have H2 := za HB
   have H3 := za HA
   clear HW HB HA HT HL hlt hk
   go_wp2_with fail
   clear hid
   go_loopw [6, 13] (fun v6 v13 wr' => ∃ j : Nat, k ≤ j ∧ j ≤ R ∧ v13 = .int .i64 j ∧ v6 = V (ov (Z / 2 ^ (64 * i)) y x.toNat j) ∧ RowZ wr' g t .u64 N (LZ (mix (i + j) (wd (tim i y x Z)) (wd Z))) ∧ Below g w wr' ∧ z81 g w wr') (fun _ v13 _ => R - (intOf v13).toNat)
   case atStart => exact ⟨k, Nat.le_refl _, by omega, rfl, rfl, H1.out, H2.out, H3.out⟩
   case round =>
    clear H1 H2 H3
    obtain ⟨j, hkj, hj, rfl, rfl, HW, HB, HA⟩ := hrel
    by_cases hlt : j < R
    ·have hid : decide ((j : Int) < (R : Int)) = true := by simp; omega
     have jR : (j : Int) < (R : Int) := by omega
     have hc : wr.cell? ⟨g, i + j, none⟩ = some (V (wd (Z / 2 ^ (64 * i)) j)) := by
      rw [HW.cell (i + j) (by have := HE.out; omega), ← (y43 i y x Z j).2]
      show some (V (mix (i + j) _ (wd Z) (i + j))) = _
      rw [mix_at]
     have hz := HW.thaw (i + j)
     have H1 := za HW
     have H2 := za HB
     have H3 := za HA
     obtain ⟨s1, s2⟩ := HC.out j hkj
     have S1 := za s1
     have S2 := za s2
     clear HW HB HA s1 s2
     go_wp2_with fail
     go_roundw
     case rel =>
      refine ⟨j + 1, by omega, by omega, by go_num, by rw [S2.out], ?_, H2.out.setCell (Nat.le_refl _) _, H3.out.setCell _ _⟩
      have h := H1.out.setWord (i + j) (wd (tim i y x Z) (i + j))
      rw [z8d] at h
      rw [S1.out, ← (y43 i y x Z j).1]
      exact h
     case measure => simp [intOf]; omega
    ·obtain rfl : j = R := by omega
     have hid : decide ((j : Int) < (j : Int)) = false := by simp
     have H1 := za HW
     have H2 := za HB
     have H3 := za HA
     clear HW HB HA
     go_wp2_with fail
     go_end0
     exact ⟨rfl, H1.out.congr fun k hk => congrArg L (z4n _ _ _ k (by have := HE.out; omega)), H2.out, H3.out⟩
def Bd (k X : Nat) : Prop := if k = 0 then X < 2 * lN else X < 2 ^ (64 * (7 + 3 * k))
def Fw (n H : Nat) : Prop := H < 2 ^ (64 * n)
theorem bd_step {k X : Nat} (hk : k < 3) (h : Bd (k + 1) X) : Fw (3 * k + 4) (X / qN) ∧ Bd k (fold X) := by
 unfold Bd at h
 rw [if_neg (by omega)] at h
 rcases (by omega : k = 0 ∨ k = 1 ∨ k = 2) with rfl | rfl | rfl
 ·exact ⟨z8k h (leb (by decide +kernel)), by unfold Bd fold; rw [if_pos rfl]; exact z67 h (by decide +kernel) (leb (by decide +kernel))⟩
 ·exact ⟨z8k h (leb (by decide +kernel)), by unfold Bd fold; rw [if_neg (by decide)]; exact z67 h (by decide +kernel) (leb (by decide +kernel))⟩
 ·exact ⟨z8k h (leb (by decide +kernel)), by unfold Bd fold; rw [if_neg (by decide)]; exact z67 h (by decide +kernel) (leb (by decide +kernel))⟩
theorem bd_zero {X : Nat} (h : Bd 0 X) : X < 2 * lN := by unfold Bd at h; rwa [if_pos rfl] at h
theorem fw_mod {n H i : Nat} (h : Fw n H) (hi : n ≤ i) : H % 2 ^ (64 * i) = H :=
 Nat.mod_eq_of_lt (Nat.lt_of_lt_of_le h (Nat.pow_le_pow_right (by omega) (by omega)))
theorem come_zero (X : Nat) : come X 0 = X % qN := by unfold come; rw [Nat.mul_zero, Nat.pow_zero, Nat.mod_one, Nat.zero_mul, Nat.add_zero]
theorem y6p {n X i : Nat} (h : Fw n (X / qN)) (hi : n ≤ i) : come X i = fold X := by unfold come fold; rw [fw_mod h hi]
theorem come_step (X i : Nat) : tim i rN (wd (X / qN) i) (come X i) = come X (i + 1) := by
 unfold tim come
 rw [z2v, y2r, Nat.mod_mul, Nat.add_mul]
 generalize X / qN / 2 ^ (64 * i) % 18446744073709551616 = d
 rw [Nat.mul_assoc (2 ^ (64 * i)), Nat.mul_comm d rN, ← Nat.add_assoc]
theorem rN_fits : rN < 2 ^ (64 * 4) := by
 have h : Nat.blt rN (2 ^ (64 * 4)) = true := by decide +kernel
 exact Nat.le_of_ble_eq_true h
theorem y5c (x : Nat) (w : World) (hT : Tl true w) (hx : Bd 3 x) :
  Calls Tryz.prog 109 #[W17 x] w fun e w' => e = .returned (W7 (x % lN)) ∧ Below w.heap.size w w' := by
 have HT := za hT
 have HX := za hx
 clear hT hx
 have H := za (Ow.start w)
 go_enter Tryz.func109, Tryz.ntmps109
 go_wp2_with (first
  | ((fail_if_success have := g1); (with_reducible apply zw H); (case hgd | ho | hx => exact rfl); clear H; intro w1 g1 H _ _; go_simp)
  | ((fail_if_success have := g2); (with_reducible apply ze z3u H); (case hgd | ho => exact rfl); clear H; intro w2 g2 H _ _; go_simp))
 go_step3
 go_wp2_with (first
  | ((with_reducible apply lay_load_rst (za (HT.out.below H.out.bel))); (case hgd | ho | hx => exact rfl); intro _ _; go_simp)
  | ((fail_if_success have := g3); (with_reducible apply ze nil4 H); (case hgd | ho => exact rfl); clear H; intro w3 g3 H _ _; go_simp)
  | ((with_reducible apply zj row4 H); (case hgd | ho | hx | hy => exact rfl); (case hi => repeat first|exact z5|apply z8); clear H; intro ws H _ _; simp only [qb] at H; go_simp))
 go_step3
 go_wp2_with fail
 go_loopg [4] 3 (fun gk v4 wr => ∃ X : Nat, gk ≤ 3 ∧ v4 = .int .i64 ((7 + 3 * gk : Nat) : Int) ∧ Bd gk X ∧ X % lN = x % lN ∧ Ow w wr [(g3, WB 210 4 (wd rN)), (g2, zv 70 .u64 7 fun _ => 0), (g1, WB 146 17 (wd X))])
 case atStart => exact ⟨x, by omega, rfl, HX.out, rfl, H.out⟩
 case round =>
  clear H HX
  obtain ⟨X, hg3, rfl, hb, hm, HR⟩ := hrel
  have H := za HR
  have HM := za hm
  clear HR hm
  cases gk with
  | zero =>
   have HB := za (bd_zero hb)
   clear hb
   rw [show ((7 + 3 * 0 : Nat) : Int) = 7 from rfl]
   go_wp2_with (first
    | ((with_reducible apply zr y0j H); (case hgd | ho | hx => exact rfl); (case hi => repeat first|exact z5|apply z8); intro _ _; go_simp)
    | ((with_reducible refine (first_v X _).mono ?_); rintro e wc ⟨rfl, hb⟩; replace H := zd H hb; clear hb)
    | ((with_reducible refine (y4e X _ (HT.out.below H.out.bel) HB.out).mono ?_); rintro e wc ⟨rfl, hb⟩; replace H := zd H hb; clear hb)
    | ((with_reducible apply zj z1g H); (case hgd | ho | hx | hy => exact rfl); (case hi => repeat first|exact z5|apply z8); clear H; intro ws H _ _; simp only [qb, qc] at H; go_simp))
   rw [Exit.noGoto_ret]
   exact bodyPost_ret (zy 1 z1g rfl _ H rfl rfl) rfl ⟨by rw [← HM.out], H.out.bel⟩
  | succ k =>
   obtain ⟨hf, hb2⟩ := bd_step (by omega) hb
   have HF := za hf
   have HB := za hb2
   clear hf hb2 hb
   have k3 : (k : Int) < 3 := by omega
   have ek : ((7 + 3 * (k + 1) : Nat) : Int) = 3 * (k : Int) + 10 := by omega
   have hid : decide ((7 : Int) < 3 * (k : Int) + 10) = true := by simp; omega
   have f1 : IntKind.i64.wrap (3 * (k : Int) + 10 - 7) = 3 * (k : Int) + 3 := (IntWalk.i64_in _ (by omega)).trans (by omega)
   have f2 : IntKind.i64.wrap (3 * (k : Int) + 10 - 3) = 3 * (k : Int) + 7 := (IntWalk.i64_in _ (by omega)).trans (by omega)
   rw [ek]
   go_wp2_with (first
    | ((with_reducible apply zr y0j H); (case hgd | ho | hx => exact rfl); (case hi => repeat first|exact z5|apply z8); intro _ _; go_simp)
    | ((with_reducible refine (sbeyond_v X _).mono ?_); rintro e wc ⟨rfl, hb⟩; replace H := zd H hb; clear hb)
    | ((fail_if_success have := g5); (with_reducible apply ze nil10 H); (case hgd | ho => exact rfl); clear H; intro w5 g5 H _ _; go_simp)
    | ((with_reducible apply zj y73 H); (case hgd | ho | hx | hy => exact rfl); (case hi => repeat first|exact z5|apply z8); clear H; intro ws H _ _; simp only [qb] at H; go_simp)
    | ((with_reducible refine (below_v X _).mono ?_); rintro e wc ⟨rfl, hb⟩; replace H := zd H hb; clear hb)
    | ((with_reducible apply zj y0j H); (case hgd | ho | hx | hy => exact rfl); (case hi => repeat first|exact z5|apply z8); clear H; intro ws H _ _; simp only [qb, qc] at H; go_simp)
    | ((with_reducible apply zr y73 H); (case hgd | ho | hx => exact rfl); (case hi => repeat first|exact z5|apply z8); intro _ _; go_simp))
   go_loopg [18] 10 (fun gj v18 wr' => ∃ i : Nat, i + gj = 10 ∧ i ≤ 3 * k + 4 ∧ v18 = .int .i64 i ∧ Ow w wr' [(g5, WB 211 10 (wd (X / qN))), (g3, WB 210 4 (wd rN)), (g2, zv 70 .u64 7 fun _ => 0), (g1, WB 146 17 (wd (come X i)))])
   case atStart => exact ⟨0, by omega, by omega, rfl, by rw [come_zero]; exact H.out⟩
   case round =>
    clear H
    obtain ⟨i, hig, hik, rfl, HR⟩ := hrel
    have H := za HR
    clear HR
    cases gk with
    | zero =>
     obtain rfl : i = 10 := by omega
     rw [show ((10 : Nat) : Int) = 10 from rfl]
     rw [y6p HF.out (by omega)] at H
     go_wp2_with fail
     go_roundg k
     case measure => omega
     case rel => exact ⟨fold X, by omega, by go_num, HB.out, by rw [y6b]; exact HM.out, H.out.pop⟩
    | succ gj =>
     have i10 : (i : Int) < 10 := by omega
     have i10' : i < 10 := by omega
     by_cases hlt : 3 * k + 3 < i
     ·have hd : decide (3 * (k : Int) + 3 < (i : Int)) = true := by simp; omega
      rw [y6p HF.out (by omega)] at H
      go_wp2_with (first
       | ((with_reducible apply z79 (n := 10) (f := wd (X / qN)) Tryz.underlying211); (case hgd | ho | hx | hy => exact rfl); (case hi => omega); intro _ _; go_simp))
      go_roundg k
      case measure => omega
      case rel => exact ⟨fold X, by omega, by go_num, HB.out, by rw [y6b]; exact HM.out, H.out.pop⟩
     ·have hd : decide (3 * (k : Int) + 3 < (i : Int)) = false := by simp; omega
      have i17 : (i : Int) ≤ 17 := by omega
      obtain ⟨R, hR⟩ : ∃ R, i + R = 17 := ⟨17 - i, by omega⟩
      have eR : 17 - i = R := by omega
      have HE := za hR
      have R8 : 4 ≤ R := by omega
      have n17 : ¬ 17 = i := by omega
      go_wp2_with (first
       | ((with_reducible apply z79 (n := 10) (f := wd (X / qN)) Tryz.underlying211); (case hgd | ho | hx | hy => exact rfl); (case hi => omega); intro _ _; go_simp))
      refine wp_region_noPanic ?_
      refine wp_region_held_drew (S := fun _ => True) (by kernel_rfl) trivial (fun hH => ?_)
      replace H := za H.out.drew
      generalize World.drew _ = w8 at *
      clear hR
      refine zh 0 26 (.int .i64 i) hH ?_
      refine zh 1 27 (.slice (some ⟨g1, i, none⟩) R R) hH ?_
      refine zh 2 28 (.slice (some ⟨g3, 0, none⟩) 4 4) hH ?_
      refine zh 3 29 (V (wd (X / qN) i)) hH ?_
      refine zn 4 rfl fun K hK => ?_
      go_simp
      refine (y46 g1 17 i R (come X i) g3 4 rN _ _ (wd (X / qN) i) _ HE.out (by omega) R8 (H.out.row 3 rfl) (H.out.row 1 rfl) (H.out.ne 1 3 rfl rfl (by decide)) rN_fits).mono ?_
      rintro e wc ⟨rfl, hr, hb, ha⟩
      replace H := za (H.out.put 3 rfl hb ha hr)
      simp only [qb, qc] at H
      clear hr hb ha
      refine hK.out _ _ trivial (fun _ => ?_)
      try simp only [Act.put, qa, qb, qc]
      refine zm ?_
      rw [come_step] at H
      go_wp2_with fail
      go_roundg gj
      case measure => omega
      case rel => exact ⟨i + 1, by omega, by omega, by go_num, H.out⟩
theorem A_AZ (n : Nat) (f : Nat → BitVec 64) : A n f = AZ .u64 n (LZ f) := by
 apply Array.ext_getElem?
 intro j
 by_cases hj : j < n
 ·rw [y3o n _ j hj, z1c _ n _ j hj]
 ·rw [Array.getElem?_eq_none (by simpa [y0h] using hj), Array.getElem?_eq_none (by simpa [z0j] using hj)]
theorem rowW_blk {w : World} {g n : Nat} {f : Nat → BitVec 64} (h : RowW w g n f) : w.heap[g]? = some (WB 27 n f) := by
 unfold RowW at h
 rw [h, A_AZ]
 rfl
theorem mod_fits (x i n : Nat) (hx : x < 2 ^ (8 * n)) (hi : n ≤ i) : x % 2 ^ (8 * i) = x :=
 Nat.mod_eq_of_lt (Nat.lt_of_lt_of_le hx (Nat.pow_le_pow_right (by omega) (by omega)))
theorem nof_any (a : Option Addr) (n c x : Nat) (w : World) (hn : n ≤ 100000) (h : Sb w w.heap.size a n c x) :
  Calls Tryz.prog 179 #[.slice a n c] w fun e w' => ∃ v, e = .returned v ∧ Got w w' v x := by
 obtain ⟨N, hN⟩ : ∃ N, N = (n + 7) / 8 := ⟨_, rfl⟩
 have hfit : x < 2 ^ (64 * N) := Nat.lt_of_lt_of_le h.fits (Nat.pow_le_pow_right (by omega) (by omega))
 have Hf := za hfit
 have Hx := za (mod_fits x n n h.fits (Nat.le_refl _))
 have HS := za h.sl
 have hd : (n : Int) ≤ 100000 := by omega
 have e7 : ((n : Int) + 7) / 8 = (N : Int) := by omega
 have e8 : ((n : Int) + 8 - 1) / 8 = (N : Int) := by omega
 have HN := za hN
 have hN6 : N ≤ 100000 := by omega
 clear h hfit hN
 go_enter Tryz.func179, Tryz.ntmps179
 go_wp2_with (first
  | ((with_reducible apply lay_makeW); (case hgd | ho => exact rfl); (case hx => exact congrArg (Value.int .i64) e8); (case hy => exact congrArg (Value.int .i64) e8); (case hc => omega); intro _ _; go_simp))
 clear e7 e8
 go_loopw [14] (fun v wr => ∃ i : Nat, i ≤ n ∧ v = .int .i64 i ∧ RowW wr w.heap.size N (wd (x % 2 ^ (8 * i))) ∧ Below w.heap.size w wr) (fun v _ => n - (intOf v).toNat)
 case atStart => exact ⟨0, by omega, rfl, (RowW.new _ _ _).congr fun k _ => by rw [Nat.mul_zero, Nat.pow_zero, Nat.mod_one, y7b]; rfl, (Below.refl _ _).alloc (Nat.le_refl _) _⟩
 case round =>
  obtain ⟨i, hi, rfl, HW, HB⟩ := hrel
  by_cases hlt : i < n
  ·have hid : decide ((i : Int) < (n : Int)) = true := by simp; omega
   have HS2 := HS.out.below HB
   obtain ⟨b, o, rfl, hbB, hcell⟩ := HS2.get i hlt
   clear HS2
   have H1 := za HW
   have H2 := za HB
   clear HW HB
   go_wp2_with fail
   refine wp_region_still_tail 12 (by kernel_rfl) (by kernel_rfl) ?_
   change wpStill _ _ wr.drew (fun a' => wpList _ _ _ _ a' wr.drew) _ _
   have D1 := za H1.out.drew
   have D2 := za (Below.drew H2.out)
   clear H1 H2 hcell
   generalize wr.drew = w2 at *
   obtain ⟨q, hq⟩ : ∃ q, i / 8 = q := ⟨_, rfl⟩
   obtain ⟨k, hk⟩ : ∃ k, i % 8 * 8 = k := ⟨_, rfl⟩
   have qN : q < N := by have := HN.out; omega
   have qN' : (q : Int) < (N : Int) := by omega
   have k64 : (k : Int) ≤ 64 := by omega
   have hc := D1.out.cell q qN
   have hz := D1.out.thaw q
   have e1 : IntKind.i64.wrap ((i : Int) / 8) = (q : Int) := (IntWalk.i64_in _ (by omega)).trans (by omega)
   have Hq := za hq
   have Hk := za hk
   clear hq hk
   simp only [List.take_succ_cons, List.take_zero, List.drop_succ_cons, List.drop_zero]
   iterate 8 still_step
   still_call (y00 i _ (by omega) k Hk.out)
   iterate 3 still_step
   refine wpStill_nil ?_
   clear e1
   go_wp2_with fail
   go_roundw
   case rel =>
    refine ⟨i + 1, by omega, by go_num, ?_, D2.out.setCell (Nat.le_refl _) _⟩
    have h := D1.out.setCell q (wd (x % 2 ^ (8 * i)) q ||| shl (zx (bt x i)) k)
    rw [← Hq.out, ← Hk.out, wd_of, Hq.out, Hk.out] at h
    exact h
   case measure => simp [intOf]; omega
  ·obtain rfl : i = n := by omega
   rw [Hx.out] at HW
   have H1 := za HW
   have H2 := za HB
   clear HW HB
   go_wp2_with ((with_reducible refine (y40 _ _ _ x _ (by omega) (H1.out.sw (Nat.le_refl _) Hf.out H1.out.lt)).mono ?_); rintro e w' ⟨rfl, rfl⟩)
   go_ret
   exact ⟨_, rfl, w.heap.size, N, rfl, Nat.le_refl _, H1.out, (z5f 64 _ _ (by omega)).2 Hf.out, H2.out⟩
theorem y45 (x : Nat) : stp 8 136 x = stp 64 17 x := stp_eq _ _ _ _ _ rfl
theorem stp_dl {n x : Nat} (hx : x < 2 ^ (64 * n)) : dl 64 (stp 64 n x) = n + 1 := by
 refine y66 (by omega) (z7v hx) (.inr ?_)
 unfold stp
 rw [Nat.add_sub_cancel, Nat.mul_one]
 exact Nat.le_add_right _ _
theorem stp_len {x : Nat} (hx : x < 2 ^ (8 * 136)) : dl 64 (stp 8 136 x) = 18 := by
 rw [y45]
 exact stp_dl ((z87 136 17 rfl).1 hx)
theorem read_v (a : Option Addr) (n c x : Nat) (w : World) (hn : n ≤ 128) (hs : Sb w w.heap.size a n c x) :
  Calls Tryz.prog 152 #[.slice a n c] w fun e w' => e = .returned (W17 x) ∧ Below w.heap.size w w' := by
 have hle := hs.sl.le
 have h136 : n ≤ 136 := by omega
 obtain ⟨m, hm⟩ : ∃ m, n + m = 137 := ⟨137 - n, by omega⟩
 have m0 : 0 < m := by omega
 have n128 : (n : Int) ≤ 128 := by omega
 have e1 : 137 - (n : Int) = (m : Int) := by omega
 have HM := za hm
 have hcn : n < 137 := by omega
 have hx : x < 2 ^ (8 * 136) := z2e (b := 8) (n := n) (m := 136) hs.fits h136
 have HS := za hs
 have HX : Hid (∀ j, n ≤ j → bt x j = 0) := za fun j hj => z7a hs.fits hj
 have HB := za (fun j => y2j hx j)
 have HF : Hid (stp 8 136 x < 2 ^ (8 * 137)) := za (@y7q 136 137 x hx rfl)
 have HD := za (stp_len hx)
 have HW : Hid (∀ j, j < 17 → wd (stp 8 136 x) j = wd x j) := za fun j hj => by rw [y45]; exact y44 hj
 clear hs hx hm h136
 have H := za (Ow.start w)
 go_enter Tryz.func152, Tryz.ntmps152
 go_wp2_with (first
  | ((fail_if_success have := g2); (with_reducible apply ze nil17 H); (case hgd | ho => exact rfl); clear H; intro w2 g2 H _ _; have HC : Hid (Sl w2 w2.heap.size a n n (bt x)) := za (let h := (HS.out.call H.out.bel).sl; ⟨Nat.le_refl _, fun e => by have h1 := h.nil e; have h2 := h.le; omega, h.low⟩); go_simp)
  | ((with_reducible apply own_zeros (f := bt x) (n := n) (m := m) (N := 137) H); (case hgd | ho | hs | hx => exact rfl); (case hS => exact HC.out); (case h0 => exact HX.out); (case hm => exact m0); (case hN => exact HM.out); (case hg => exact hcn); (case hl => omega); clear H; intro wz gz cap HCap H _ _; go_simp)
  | ((with_reducible apply y1r (v := 1) H); (case hgd | ho | hx | hy => exact rfl); (case hi => repeat first|exact z5|apply z8); (case hj => have := HCap.out; omega); clear H; intro ws H _ _; simp only [qb] at H; go_simp))
 replace H := za (H.out.like 0 (g := UB (bt (stp 8 136 x))) rfl fun j _ => congrArg U8 (HB.out j))
 simp only [qb] at H
 rw [z7b] at H
 clear HC
 refine wp_region_noPanic ?_
 refine wp_region_held_drew (S := fun _ => True) (by kernel_rfl) trivial (fun hH => ?_)
 replace H := za H.out.drew
 generalize World.drew _ = w8 at *
 refine zh 0 18 (.slice (some ⟨g2, 0, none⟩) 17 17) hH ?_
 refine zh 1 19 (.slice (some ⟨gz, 0, none⟩) 137 cap) hH ?_
 refine zn 2 rfl fun K hK => ?_
 go_simp
 refine (nof_any (some ⟨gz, 0, none⟩) 137 cap (stp 8 136 x) _ (by omega) ⟨H.out.slb 0 rfl HCap.out HCap.out, HF.out⟩).mono ?_
 rintro e wc ⟨v, rfl, hv⟩
 obtain ⟨gq, NQ, rfl, hgq, hrq, hnq, hb⟩ := hv
 rw [HD.out] at hnq
 rw [HD.out]
 replace H := za (H.out.add hb hgq (rowW_blk hrq))
 have HNQ := za hnq
 clear hgq hrq hnq hb
 refine hK.out _ _ trivial (fun _ => ?_)
 refine zn 3 rfl fun K hK => ?_
 refine z90 (m := 17) (f := wd x) 2 H.out rfl rfl rfl rfl rfl (by omega) (fun j hj => by rw [Nat.zero_add, ← HW.out j hj]; exact H.out.cell 0 rfl j (by have := HNQ.out; omega)) ?_
 intro ws HS2
 simp only [qb, qc] at HS2
 replace H := za HS2
 refine hK.out _ _ trivial (fun _ => ?_)
 try simp only [Act.put, qa]
 refine zm ?_
 go_wp2_with (first
  | ((with_reducible apply zr y0j H); (case hgd | ho | hx => exact rfl); (case hi => repeat first|exact z5|apply z8); intro _ _; go_simp)
  | ((with_reducible apply zj y0j H); (case hgd | ho | hx | hy => exact rfl); (case hi => repeat first|exact z5|apply z8); clear H; intro ws H _ _; simp only [qb, qc] at H; go_simp))
 replace H := za (H.out.like 2 (g := LZ (wd x)) rfl fun k hk => by show L (mix 17 _ _ k) = _; rw [z4n _ _ _ k hk])
 simp only [qb, qc] at H
 exact bodyPost_ret (zy 2 y0j rfl _ H rfl rfl) rfl ⟨rfl, H.out.bel⟩
section
variable {P : Program} {w : World} {t ts : TypeId} {s by' : Nat}
def duo (f g : Nat → Value) : Nat → Nat → Value := fun i => if i = 0 then f else g
theorem y0t {z : Value} {it : TypeInfo} {d : Nat} (hu : P.underlying ts = some (.array d t)) (hit : P.info? ts = some it) (hz : it.zero = some z) (hzs : z.cells.size = 2 * s) (hI : InfoR P t s by') (hs : 0 < s) (f g : Nat → Value) :
  (Instr.build ts #[(0, .agg (AV s f)), (1, .agg (AV s g))]).run P w = .ok (.agg (AV (2 * s) (grd s (duo f g)))) w := by
 obtain ⟨i, zi, hi, _, hsz, _, _⟩ := hI.has
 refine run_build w _ _ _ ?_
 unfold Program.built
 simp only [hit, hu, hz, hi, hsz]
 exact y3c hs 2 (duo f g) _ hzs _ rfl
end
theorem y53 {P : Program} {t : TypeId} {m : Nat} (h : (P.info? t).map (fun i => i.zero.map fun z => z.cells.size) = some (some m)) : ∃ i z, P.info? t = some i ∧ i.zero = some z ∧ z.cells.size = m := by
 cases hq : P.info? t with
 | none => simp [hq] at h
 | some i =>
  simp [hq] at h
  obtain ⟨z, hz, hzs⟩ := h
  exact ⟨i, z, rfl, hz, hzs⟩
theorem built_tms (f g : Nat → Value) (w : World) : (Instr.build 196 #[(0, .agg (AV 25 f)), (1, .agg (AV 25 g))]).run Tryz.prog w = .ok (.agg (AV 50 (grd 25 (duo f g)))) w := by
 obtain ⟨i, z, h1, h2, h3⟩ := y53 (P := Tryz.prog) (t := 196) (m := 50) (by kernel_rfl)
 exact y0t Tryz.underlying196 h1 h2 h3 infoTm (by omega) f g
theorem built_rws (f g : Nat → Value) (w : World) : (Instr.build 203 #[(0, .agg (AV 409 f)), (1, .agg (AV 409 g))]).run Tryz.prog w = .ok (.agg (AV 818 (grd 409 (duo f g)))) w := by
 obtain ⟨i, z, h1, h2, h3⟩ := y53 (P := Tryz.prog) (t := 203) (m := 818) (by kernel_rfl)
 exact y0t Tryz.underlying203 h1 h2 h3 infoRw (by omega) f g
theorem rowTms : IsRow Tryz.prog 196 50 := ⟨⟨_, Tryz.underlying196, rfl⟩, by kernel_rfl⟩
theorem y72 : IsRow Tryz.prog 203 818 := ⟨⟨_, Tryz.underlying203, rfl⟩, by kernel_rfl⟩
theorem y4o {P : Program} {t : TypeId} {z : Value} (h : (P.info? t).map (fun i => i.zero) = some (some z)) (w : World) : (zeroValue t).run P w = .ok z w := by
 cases hq : P.info? t with
 | none => simp [hq] at h
 | some i =>
  simp [hq] at h
  simp [zeroValue, typeInfo, hq, h]
theorem nilTms (w : World) : (zeroValue 196).run Tryz.prog w = .ok (.agg (AV 50 (grd 25 fun _ => zO (.slice none 0 0) fun _ => 0))) w := y4o (by kernel_rfl) w
theorem y8l (w : World) : (zeroValue 203).run Tryz.prog w = .ok (.agg (AV 818 (grd 409 fun _ => zO (.slice none 0 0) fun _ => 0))) w := y4o (by kernel_rfl) w
section
variable {ops : Array Oper} {rest : List Oper} {o : Oper} {a : Act} {w w0 : World} {l : List (Nat × Obj)} {Q : Exit → Act → World → Prop}
theorem lay_build_tms (hgd : o.guard = none) {x y : Operand} (ho : o.op = .build 196 #[(0, x), (1, y)]) {f g : Nat → Value} (hx : a.eval x = .agg (AV 25 f)) (hy : a.eval y = .agg (AV 25 g))
  (k : ∀ K : Act → World → Prop, (∀ a w, wpList Tryz.prog ops Q rest a w → K a w) → K (a.put o.dst (.agg (AV 50 (grd 25 (duo f g))))) w) : wpList Tryz.prog ops Q (o :: rest) a w :=
 wpList_plain hgd fun K hK => by
  unfold Oper.wp execOp
  simp only [ho, List.map_toArray, List.map_cons, List.map_nil, hx, hy, Sem.run_bind, built_tms, Result.andThen_ok]
  exact k K hK
end
section
variable {md : Region.Mode} {ops : Array Oper} {Q : Exit → Act → World → Prop} {S : World → Prop} {fuel : Nat} {listed : Array Bool} {a : Act} {w : World}
theorem y1z (i : Nat) (d : Tmp) {oi : Oper} (hi : ops[i]? = some oi) (hd : oi.dst = some d) (hw : Region.wanted oi (yielded ops a.tmps) = true) (hS : S w) {x y : Operand} (ho : oi.op = .build 203 #[(0, x), (1, y)])
  {f g : Nat → Value} (hx : a.eval x = .agg (AV 409 f)) (hy : a.eval y = .agg (AV 409 g))
  (hN : wpAnyH Tryz.prog md ops (NoPanic Q) S fuel (listed.setIfInBounds i true) (a.put (some d) (.agg (AV 818 (grd 409 (duo f g))))) w) (hs : Region.noSelect ops = true := by kernel_rfl) (hf : Region.free md ops listed i = true := by kernel_rfl) (hr : (Region.ready md ops listed).contains i = true := by kernel_rfl) : wpAnyH Tryz.prog md ops (NoPanic Q) S (fuel + 1) listed a w :=
 z0h i d (.agg (AV 818 (grd 409 (duo f g)))) hi hd (hs := hs) (hf := hf) (hr := hr) hw hS (fun w _ => by
  unfold execOp
  simp only [ho, List.map_toArray, List.map_cons, List.map_nil, hx, hy, Sem.run_bind, built_rws, Result.andThen_ok]
  rfl) hN
end
theorem y14 {f g : Nat → Value} (hf : ∀ j, (f j).oneCell' = true) (hg : ∀ j, (g j).oneCell' = true) (m j : Nat) : (grd m (duo f g) j).oneCell' = true := by
 unfold grd duo
 split
 ·exact hf _
 ·exact hg _
def prt {α : Type} (x y : α) : Nat → α := fun i => if i = 0 then x else y
theorem grid_two {w : World} {g : Nat} {t : TypeId} {a b : Option Addr} {n c m d : Nat} {v u : Nat → Int} (hr : w.heap[g]? = some (Cs t (AV 50 (grd 25 (duo (zO (.slice a n c) v) (zO (.slice b m d) u)))))) :
  Grid w w.heap.size (some ⟨g, 0, none⟩) 2 2 25 fun i => zO (.slice (prt a b i) (prt n m i) (prt c d i)) (prt v u i) :=
 (y11 (n := 2) (m := 25) hr).congr fun i hi => by
  rcases (by omega : i = 0 ∨ i = 1) with rfl | rfl
  ·rfl
  ·rfl
theorem z17 {w : World} {g m k : Nat} {t : TypeId} {f h : Nat → Value} (hr : w.heap[g]? = some (Cs t (AV k (grd m (duo f h))))) (hk : k = 2 * m) : (∀ j, j < m → w.cell? ⟨g, 0 + j, none⟩ = some (f j)) ∧ ∀ j, j < m → w.cell? ⟨g, m + j, none⟩ = some (h j) := by
 subst hk
 refine ⟨fun j hj => ?_, fun j hj => ?_⟩
 ·rw [z69 hr (by omega), show 0 + j = 0 * m + j by omega, z6t _ 0 j hj]
  rfl
 ·rw [z69 hr (by omega), show m + j = 1 * m + j by omega, z6t _ 1 j hj]
  rfl
theorem y3t (X : Nat → Nat) (P : Nat → Pt pN dK) : tot (fun k => ((X k : Nat) : Int)) P 2 = z6 zB (zF zB (X 0) (P 0)) (zF zB (X 1) (P 1)) := by
 show z6 zB (z6 zB z0v (zml ((X 0 : Nat) : Int) (P 0))) (zml ((X 1 : Nat) : Int) (P 1)) = _
 rw [z2m, z9i, z9i]
end Go.Proofs.YtgjbonikbmgfmaaGreatDoor
