/-
  Rows of bytes that a walk makes: make, append where there is room.
-/
import Derived.Test.YtjppmeihobcenaaDoorShLeaf
import Derived.ArgAppend
namespace Go.Proofs.YtjppmeihobcenaaDoor
open Go.RowKit

def layL (cur : Array Value) : Nat → List Value → Array Value
  | _, [] => cur
  | o, v :: r => layL (cur.setIfInBounds o v) (o + 1) r
theorem setCells_row (b : Nat) (t : TypeId) : ∀ (vs : List Value) (o : Nat) (cur : Array Value) (w : World), w.heap[b]? = some (.cells cur t (0, 0)) → w.setCells b o vs = w.setRow b (layL cur o vs)
  | [], _, cur, w, h => (setRow_self w b cur t (0, 0) h).symm
  | v :: r, o, cur, w, h => by
    show (w.setCell ⟨b, o, none⟩ v).setCells b (o + 1) r = w.setRow b (layL (cur.setIfInBounds o v) (o + 1) r)
    rw [setCell_eq_setRow w b o cur t (0, 0) v h, setCells_row b t r (o + 1) _ _ (setRow_heap w b cur _ t _ h), setRow_setRow]
theorem ov_cons (f g : Nat → BitVec 8) (o c : Nat) : ov (upd8 f o (g 0)) (o + 1) c (fun i => g (i + 1)) = ov f o (c + 1) g := by
  funext j
  unfold ov upd8
  by_cases e : j = o
  · subst e
    rw [if_neg (by omega), if_pos rfl, if_pos (by omega), Nat.sub_self]
  · by_cases h : o + 1 ≤ j ∧ j < o + 1 + c
    · rw [if_pos h, if_pos (by omega)]
      show g (j - (o + 1) + 1) = g (j - o)
      congr 1
      omega
    · rw [if_neg h, if_neg e, if_neg (by omega)]
theorem layL_AB (n : Nat) : ∀ (c o : Nat) (f g : Nat → BitVec 8), layL (AB n f) o ((List.range c).map fun i => U (g i)) = AB n (ov f o c g)
  | 0, o, f, g => by rw [ov_zero]; rfl
  | c + 1, o, f, g => by
    rw [List.range_succ_eq_map, List.map_cons, List.map_map]
    show layL ((AB n f).setIfInBounds o (U (g 0))) (o + 1) ((List.range c).map fun i => U (g (i + 1))) = _
    rw [AB_set, layL_AB n c (o + 1) _ (fun i => g (i + 1)), ov_cons]

/-- A row of n bytes lies in block b. -/
def RowB (w : World) (b n : Nat) (f : Nat → BitVec 8) : Prop := w.heap[b]? = some (.cells (AB n f) 5)
section
variable {w W : World} {b n : Nat} {f : Nat → BitVec 8}
theorem RowB.lt (h : RowB w b n f) : b < w.heap.size := row_lt h
theorem RowB.cell (h : RowB w b n f) (i : Nat) (hi : i < n) : w.cell? ⟨b, i, none⟩ = some (U (f i)) := by rw [cell_of_row _ _ _ _ _ _ h, AB_get _ _ _ hi]
theorem RowB.thaw (h : RowB w b n f) (i : Nat) : w.frozen? ⟨b, i, none⟩ = false := frozen_of_row _ _ _ _ _ h
theorem RowB.below (h : RowB w b n f) (hb : Below w.heap.size w W) : RowB W b n f := (hb.block _ h.lt).trans h
theorem RowB.drew (h : RowB w b n f) : RowB w.drew b n f := h
theorem RowB.alloc (h : RowB w b n f) (o : Obj) : RowB (w.alloc o) b n f := (heap_alloc_past _ _ _ h.lt).trans h
theorem RowB.setCell (h : RowB w b n f) (i : Nat) (v : BitVec 8) : RowB (w.setCell ⟨b, i, none⟩ (U v)) b n (upd8 f i v) := by
  have := heap_setCell_same w b i _ _ (U v) h
  rwa [AB_set] at this
theorem RowB.congr {f' : Nat → BitVec 8} (h : RowB w b n f) (hf : ∀ i, i < n → f i = f' i) : RowB w b n f' := by
  unfold RowB at h ⊢
  rw [h, AB_congr hf]
theorem RowB.hs {g : Nat} {h : HS} (H : RowB w b n f) (hH : Hs w g W h) (hne : b ≠ g) : RowB W b n f := (hH.oth b H.lt hne).trans H
theorem RowB.sl (h : RowB w b n f) : Sl w w.heap.size (some ⟨b, 0, none⟩) n n f := Sl.own h (Nat.le_refl _) (Nat.le_refl _) h.lt
theorem RowB.sg {g : Nat} (h : RowB w b n f) (hne : b ≠ g) : Sg w g (some ⟨b, 0, none⟩) n n f :=
  ⟨Nat.le_refl _, (fun e => by cases e), fun ad e _ => ⟨b, 0, (Option.some.inj e).symm, h.lt, hne, fun i hi => by rw [Nat.zero_add]; exact h.cell i hi⟩⟩
end
/-- What is behind the blocks of w may turn. -/
theorem Hs.other {w W W' : World} {g : Nat} {h : HS} (H : Hs w g W h) (b : Nat) (hb : w.heap.size ≤ b) (hg : g < w.heap.size) (ho : W'.os = W.os) (ht : W'.tape = W.tape) (hp : W'.output = W.output) (hz : W'.heap.size = W.heap.size) (hk : ∀ k, k ≠ b → W'.heap[k]? = W.heap[k]?) : Hs w g W' h :=
  ⟨ho.trans H.os, ht.trans H.tape, hp.trans H.output, by rw [hz]; exact H.size, fun k h1 h2 => (hk k (by omega)).trans (H.oth k h1 h2), (hk g (by omega)).trans H.row⟩
theorem Hs.cellOther {w W : World} {g : Nat} {h : HS} (H : Hs w g W h) (hg : g < w.heap.size) (b i : Nat) (v : Value) (hb : w.heap.size ≤ b) : Hs w g (W.setCell ⟨b, i, none⟩ v) h :=
  H.other b hb hg rfl rfl rfl (by simp [World.setCell]) (fun k hk => Below.heap_setCell _ _ _ _ hk)

theorem made_u8 (n : Nat) : madeCells (Value.int .u8 0).cells n = AB n fun _ => 0 := by
  rw [AB_zero]
  unfold madeCells
  apply Array.ext_getElem?
  intro j
  simp only [Array.getElem?_map, Array.getElem?_replicate]
  by_cases h : j < n
  · simp [h, Value.cells, Nat.mod_one]
  · simp [h]
theorem run_make_u8 (w : World) (l c : Nat) (hl : l ≤ c) (hc : c ≤ 65536) : (Instr.makeSlice 25 (.int .i64 (l : Int)) (.int .i64 (c : Int))).run Tryd.prog w = .ok (.slice (some ⟨w.heap.size, 0, none⟩) l c) (w.alloc (.cells (AB c fun _ => 0) 5)) := by
  obtain ⟨i, hi, hz, hs, hb⟩ := info_u8
  have h := run_makeSlice (P := Tryd.prog) w 25 5 i (.int .u8 0) Tryd.underlying25 hi hz .i64 .i64 (l : Int) (c : Int) (by omega) (by omega) (by rw [hs, Int.toNat_natCast]; omega) (by rw [hb]; omega) (by omega)
  rw [hs, Int.toNat_natCast, Int.toNat_natCast, Nat.mul_one, made_u8] at h
  exact h
section
variable {o : Oper} {a : Act} {w : World} {K : Act → World → Prop} {Q : Exit → Act → World → Prop}
/-- append, where there is room. -/
theorem wp_append_room (dd : Tmp) (hdst : o.dst = some dd) {s x : Operand} (ho : o.op = .call { callee := .builtin .append, args := #[s, x], argTypes := #[25, 25] }) {b m n : Nat} (hs : a.eval s = .slice (some ⟨b, 0, none⟩) m n)
    {bx ox c cx : Nat} (hx : a.eval x = .slice (some ⟨bx, ox, none⟩) c cx) {f f2 : Nat → BitVec 8} (hb : RowB w b n f) (hc : ∀ i, i < c → w.cell? ⟨bx, ox + i, none⟩ = some (U (f2 i))) (hroom : m + c ≤ n)
    (k : K (a.put (some dd) (.slice (some ⟨b, 0, none⟩) (m + c) n)) (w.setRow b (AB n (ov f m c f2)))) : o.wp Tryd.prog a w K Q := by
  rw [← hdst] at k
  obtain ⟨i, hi, hz, hsz, hby⟩ := info_u8
  have hl : ((List.range c).map fun i => U (f2 i)).length = c := by simp
  have hrun := run_append_room_cells (P := Tryd.prog) w 25 o.type 5 i Tryd.underlying25 hi b 0 m n ⟨bx, ox, none⟩ c cx ((List.range c).map fun i => U (f2 i)) (by rw [hl, hsz, Nat.mul_one])
    (fun j u hu => by obtain ⟨hj, rfl⟩ := newsB_get c f2 j u hu; rw [Addr.add_mid]; exact hc j hj) (fun u hu => by obtain ⟨i, _, rfl⟩ := List.mem_map.1 hu; rfl) hroom
    (fun j hj => by rw [hl] at hj; rw [hsz, Nat.mul_one, Nat.zero_add, hb.cell _ (by omega)]; rfl) (fun j hj => hb.thaw _)
  rw [hsz, Nat.mul_one, Nat.zero_add, setCells_row b _ _ _ _ _ hb, layL_AB] at hrun
  unfold Oper.wp
  simp [execOp, ho, resolve, invoke, builtin, hs, hx, hrun, Result.andThen]
  exact k
end
section
variable {ops : Array Oper} {rest : List Oper} {o : Oper} {a : Act} {w : World} {Q : Exit → Act → World → Prop}
theorem lay_make (hgd : o.guard = none) {x y : Operand} (ho : o.op = .makeSlice 25 x y) {l c : Nat} (hx : a.eval x = .int .i64 (l : Int)) (hy : a.eval y = .int .i64 (c : Int)) (hl : l ≤ c) (hc : c ≤ 65536)
    (k : ∀ K : Act → World → Prop, (∀ a w, wpList Tryd.prog ops Q rest a w → K a w) → K (a.put o.dst (.slice (some ⟨w.heap.size, 0, none⟩) l c)) (w.alloc (.cells (AB c fun _ => 0) 5))) : wpList Tryd.prog ops Q (o :: rest) a w :=
  wpList_plain hgd fun K hK => by
    unfold Oper.wp execOp
    simp only [ho, hx, hy, Sem.run_bind, run_make_u8 w l c hl hc, Result.andThen_ok]
    exact k K hK
end
end Go.Proofs.YtjppmeihobcenaaDoor
