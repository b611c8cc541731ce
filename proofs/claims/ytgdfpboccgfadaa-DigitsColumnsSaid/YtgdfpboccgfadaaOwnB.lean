/-
  Rows of bytes in memory: what a walk knows of them, make, append. No statement is proved here: lemmas for the walks.
-/
import Derived.Test.YtgdfpboccgfadaaByte
import Derived.Test.YtgdfpboccgfadaaKecHeld
import Derived.Laws.MakeOwn
import Derived.Laws.AppendOwnNone
import Derived.Laws.CopyOwn
import Derived.Deep.MidRow
import Derived.Deep.QuietTactic
import Derived.Deep.LoopGhost
import Derived.BigQuiet
import Derived.WalkMore
import Derived.ScopeJumps
import Derived.ArgAppend
namespace Go.Proofs.Ytgdfpboccgfadaa
open Go.RowKit

/-- Bytes as what a row holds. -/
def UB (f : Nat → BitVec 8) : Nat → Int := fun i => U8 (f i)
theorem row_lt {w : World} {g : Nat} {o : Obj} (h : w.heap[g]? = some o) : g < w.heap.size := by
  rcases Nat.lt_or_ge g w.heap.size with h' | h'
  · exact h'
  · rw [Array.getElem?_eq_none h'] at h; cases h
theorem info5 : (Try.prog.info? 5).map (fun i => (i.zero, i.size, i.bytes)) = some (some (.int .u8 0), 1, 1) := by kernel_rfl
theorem info_u8 : ∃ i, Try.prog.info? 5 = some i ∧ i.zero = some (.int .u8 0) ∧ i.size = 1 ∧ i.bytes = 1 := by
  cases hq : Try.prog.info? 5 with
  | none => have := info5; simp [hq] at this
  | some i =>
    have := info5
    simp [hq] at this
    exact ⟨i, rfl, this.1, this.2.1, this.2.2⟩
/-- Behind w nothing that was there has turned, and the blocks of the list hold what it says. -/
structure St (w W : World) (l : List (Nat × Obj)) : Prop where
  bel : Below w.heap.size w W
  has : ∀ x ∈ l, W.heap[x.1]? = some x.2
section
variable {w W W' : World} {l : List (Nat × Obj)}
theorem St.start (w : World) : St w w [] := ⟨Below.refl _ _, fun _ h => by cases h⟩
theorem St.call (h : St w W l) (hb : Below W.heap.size W W') : St w W' l :=
  ⟨h.bel.trans (hb.mono h.bel.size), fun x hx => (hb.block _ (row_lt (h.has x hx))).trans (h.has x hx)⟩
theorem St.alloc (h : St w W l) (o : Obj) : St w (W.alloc o) ((W.heap.size, o) :: l) :=
  ⟨h.bel.alloc h.bel.size o, fun x hx => by
    rcases List.mem_cons.1 hx with rfl | hx
    · exact heap_alloc_last W o
    · exact (heap_alloc_past _ _ _ (row_lt (h.has x hx))).trans (h.has x hx)⟩
theorem St.drew (h : St w W l) : St w W.drew l := ⟨h.bel.drew, h.has⟩
theorem St.get (h : St w W l) (g : Nat) (o : Obj) (hm : (g, o) ∈ l) : W.heap[g]? = some o := h.has _ hm
theorem Sl.call {B : Nat} {a : Option Addr} {n c : Nat} {f : Nat → BitVec 8} (h : Sl W B a n c f) (hB : B ≤ W.heap.size) (hb : Below W.heap.size W W') : Sl W' W'.heap.size a n c f :=
  ((h.more hB).below hb).more hb.size
theorem Sl.alloc {a : Option Addr} {n c : Nat} {f : Nat → BitVec 8} (h : Sl W W.heap.size a n c f) (o : Obj) : Sl (W.alloc o) (W.alloc o).heap.size a n c f :=
  h.call (Nat.le_refl _) ((Below.refl _ _).alloc (Nat.le_refl _) o)
theorem Sl.drew {a : Option Addr} {n c : Nat} {f : Nat → BitVec 8} (h : Sl W W.heap.size a n c f) : Sl W.drew W.drew.heap.size a n c f := ⟨h.le, h.nil, h.low⟩
end

theorem newsB_get (n : Nat) (f : Nat → BitVec 8) (j : Nat) (u : Value) (h : ((List.range n).map fun i => U (f i))[j]? = some u) : j < n ∧ u = U (f j) := by
  rw [List.getElem?_map] at h
  by_cases hj : j < n
  · simp [hj] at h
    exact ⟨hj, h.symm⟩
  · simp [hj] at h

section
variable {w : World} {ops : Array Oper} {rest : List Oper} {o : Oper} {act : Act} {Q : Exit → Act → World → Prop}
theorem lay_append_nil (hgd : o.guard = none) {s x : Operand} (ho : o.op = .call { callee := .builtin .append, args := #[s, x], argTypes := #[22, 22] }) (hs : act.eval s = .slice none 0 0)
    {a : Option Addr} {n c : Nat} {f : Nat → BitVec 8} (hx : act.eval x = .slice a n c) (hS : Sl w w.heap.size a n c f) (hn : n ≤ 1000)
    (h : ∀ a' c' w', Sl w' w'.heap.size a' n c' f → Below w.heap.size w w' → ∀ K : Act → World → Prop, (∀ a w, wpList Try.prog ops Q rest a w → K a w) → K (act.put o.dst (.slice a' n c')) w') : wpList Try.prog ops Q (o :: rest) act w := by
  obtain ⟨i, hi, hz, hsz, hby⟩ := info_u8
  cases a with
  | none =>
    have hc := hS.nil rfl
    have hle := hS.le
    obtain rfl : n = 0 := by omega
    subst hc
    exact wpList_append_own_none hgd s x _ ho w.heap.size 5 i 1 Try.underlying22 hi (.slice none 0 0) 0 [] hs ⟨rfl, .inl ⟨rfl, rfl⟩⟩ hx
      (h none 0 w ⟨Nat.le_refl _, fun _ => rfl, fun _ e _ => by cases e⟩ (Below.refl _ _) _ fun _ _ h => h)
  | some ad =>
    refine wpList_append_own w hgd s x _ ho w.heap.size 5 i (.int .u8 0) 1 1 Try.underlying22 hi hz hsz hby rfl (by omega) (.slice none 0 0) 0 [] hs ⟨rfl, .inl ⟨rfl, rfl⟩⟩
      ad n c ((List.range n).map fun i => U (f i)) hx (by simp) (fun j u hu => ?_) (fun u hu => ?_) (by unfold maxLen; omega) (by omega) (Nat.le_refl _) ?_
    · obtain ⟨hj, rfl⟩ := newsB_get n f j u hu
      obtain ⟨b, off, rfl, hb, hc⟩ := hS.low ad rfl (by omega)
      rw [Addr.add_mid]
      exact hc j hj
    · obtain ⟨i, _, rfl⟩ := List.mem_map.1 hu
      rfl
    · intro v' w' hown hgrow _
      have hbel : Below w.heap.size w w' := (Below.refl _ _).grown hgrow (Nat.le_refl _) (fun k hk => by cases hk)
      rw [Nat.zero_add, List.nil_append] at hown
      obtain ⟨_, hv⟩ := hown
      rcases hv with ⟨rfl, hn0⟩ | ⟨g, cap, cur, rfl, hg, hrow, hle, _, hcs, htake⟩
      · subst hn0
        exact h none 0 w' ⟨Nat.le_refl _, fun _ => rfl, fun _ e _ => by cases e⟩ hbel _ fun _ _ h => h
      · refine h (some ⟨g, 0, none⟩) cap w' ⟨hle, (fun e => by cases e), fun ad e _ => ⟨g, 0, (Option.some.inj e).symm, row_lt hrow, fun i hi => ?_⟩⟩ hbel _ fun _ _ h => h
        rw [Nat.zero_add, cell_of_row _ _ _ _ _ _ hrow]
        have := congrArg (·[i]?) htake
        rw [Nat.mul_one] at this
        simpa [hi] using this
end
/-- A row of n bytes lies in block b. -/
def RowB (w : World) (b n : Nat) (f : Nat → BitVec 8) : Prop := w.heap[b]? = some (.cells (AB n f) 5)
section
variable {w W : World} {b n : Nat} {f : Nat → BitVec 8}
theorem RowB.lt (h : RowB w b n f) : b < w.heap.size := row_lt h
theorem RowB.cell (h : RowB w b n f) (i : Nat) (hi : i < n) : w.cell? ⟨b, i, none⟩ = some (U (f i)) := by rw [cell_of_row _ _ _ _ _ _ h, AB_get _ _ _ hi]
theorem RowB.thaw (h : RowB w b n f) (i : Nat) : w.frozen? ⟨b, i, none⟩ = false := frozen_of_row _ _ _ _ _ h
theorem RowB.below (h : RowB w b n f) (hb : Below w.heap.size w W) : RowB W b n f := (hb.block _ h.lt).trans h
theorem RowB.drew (h : RowB w b n f) : RowB w.drew b n f := h
theorem RowB.alloc (h : RowB w b n f) (o : Obj) : RowB (w.alloc o) b n f := (heap_alloc_past _ _ _ h.lt).trans h
theorem RowB.setCell (h : RowB w b n f) (i : Nat) (v : BitVec 8) : RowB (w.setCell ⟨b, i, none⟩ (U v)) b n (upd8 f i v) := by
  have := heap_setCell_same w b i _ _ (U v) h
  rwa [AB_set] at this
theorem RowB.congr {f' : Nat → BitVec 8} (h : RowB w b n f) (hf : ∀ i, i < n → f i = f' i) : RowB w b n f' := by
  unfold RowB at h ⊢
  rw [h, AB_congr hf]
theorem RowB.sl (h : RowB w b n f) : Sl w w.heap.size (some ⟨b, 0, none⟩) n n f := Sl.own h (Nat.le_refl _) (Nat.le_refl _) h.lt
end
theorem made_u8 (n : Nat) : madeCells (Value.int .u8 0).cells n = AB n fun _ => 0 := by
  rw [AB_zero]
  unfold madeCells
  apply Array.ext_getElem?
  intro j
  simp only [Array.getElem?_map, Array.getElem?_replicate]
  by_cases h : j < n
  · simp [h, Value.cells, Nat.mod_one]
  · simp [h]
theorem run_make_u8 (w : World) (l c : Nat) (hl : l ≤ c) (hc : c ≤ 1000000) : (Instr.makeSlice 22 (.int .i64 (l : Int)) (.int .i64 (c : Int))).run Try.prog w = .ok (.slice (some ⟨w.heap.size, 0, none⟩) l c) (w.alloc (.cells (AB c fun _ => 0) 5)) := by
  obtain ⟨i, hi, hz, hs, hb⟩ := info_u8
  have h := run_makeSlice (P := Try.prog) w 22 5 i (.int .u8 0) Try.underlying22 hi hz .i64 .i64 (l : Int) (c : Int) (by omega) (by omega) (by rw [hs, Int.toNat_natCast]; omega) (by rw [hb]; omega) (by omega)
  rw [hs, Int.toNat_natCast, Int.toNat_natCast, Nat.mul_one, made_u8] at h
  exact h
section
variable {ops : Array Oper} {rest : List Oper} {o : Oper} {a : Act} {w : World} {Q : Exit → Act → World → Prop}
theorem lay_make (hgd : o.guard = none) {x y : Operand} (ho : o.op = .makeSlice 22 x y) {l c : Nat} (hx : a.eval x = .int .i64 (l : Int)) (hy : a.eval y = .int .i64 (c : Int)) (hl : l ≤ c) (hc : c ≤ 1000000)
    (k : ∀ K : Act → World → Prop, (∀ a w, wpList Try.prog ops Q rest a w → K a w) → K (a.put o.dst (.slice (some ⟨w.heap.size, 0, none⟩) l c)) (w.alloc (.cells (AB c fun _ => 0) 5))) : wpList Try.prog ops Q (o :: rest) a w :=
  wpList_plain hgd fun K hK => by
    unfold Oper.wp execOp
    simp only [ho, hx, hy, Sem.run_bind, run_make_u8 w l c hl hc, Result.andThen_ok]
    exact k K hK
end
/-- A row of the call's own that holds n bytes. -/
def OwnB (w : World) (base : Nat) (v : Value) (n : Nat) (f : Nat → BitVec 8) : Prop := w.ownsRow base 5 1 v n ((List.range n).map fun i => U (f i))
theorem OwnB.nil (w : World) (base : Nat) (f : Nat → BitVec 8) : OwnB w base (.slice none 0 0) 0 f := ⟨rfl, .inl ⟨rfl, rfl⟩⟩
theorem OwnB.sl {w : World} {base : Nat} {v : Value} {n : Nat} {f : Nat → BitVec 8} (h : OwnB w base v n f) (hn : 0 < n) :
    ∃ g c cur, v = .slice (some ⟨g, 0, none⟩) n c ∧ base ≤ g ∧ w.heap[g]? = some (.cells cur 5) ∧ Sl w w.heap.size (some ⟨g, 0, none⟩) n c f := by
  obtain ⟨_, hv⟩ := h
  rcases hv with ⟨_, h0⟩ | ⟨g, cap, cur, rfl, hg, hrow, hle, _, hcs, htake⟩
  · omega
  · refine ⟨g, cap, cur, rfl, hg, hrow, hle, (fun e => by cases e), fun ad e _ => ⟨g, 0, (Option.some.inj e).symm, row_lt hrow, fun i hi => ?_⟩⟩
    rw [Nat.zero_add, cell_of_row _ _ _ _ _ _ hrow]
    have := congrArg (·[i]?) htake
    rw [Nat.mul_one] at this
    simpa [hi] using this

theorem OwnB.alloc {w : World} {base : Nat} {v : Value} {n : Nat} {f : Nat → BitVec 8} (h : OwnB w base v n f) (o : Obj) : OwnB (w.alloc o) base v n f := by
  obtain ⟨hl, hv⟩ := h
  refine ⟨hl, ?_⟩
  rcases hv with h0 | ⟨g, cap, cur, hv, hg, hrow, hr⟩
  · exact .inl h0
  · exact .inr ⟨g, cap, cur, hv, hg, (heap_alloc_past _ _ _ (row_lt hrow)).trans hrow, hr⟩

section
variable {w : World} {ops : Array Oper} {rest : List Oper} {o : Oper} {act : Act} {Q : Exit → Act → World → Prop}
theorem lay_append_byte (hgd : o.guard = none) {s x : Operand} (ho : o.op = .call { callee := .builtin .append, args := #[s, x], argTypes := #[22, 22] }) {v : Value} (hs : act.eval s = v)
    {gx cx : Nat} (hx : act.eval x = .slice (some ⟨gx, 0, none⟩) 1 cx) {base n : Nat} {f : Nat → BitVec 8} (hc : w.cell? ⟨gx, 0, none⟩ = some (U (f n))) (hown : OwnB w base v n f) (hn : n ≤ 100000) (hbase : base ≤ w.heap.size)
    (h : ∀ v' w', OwnB w' base v' (n + 1) f → Below base w w' → ∀ K : Act → World → Prop, (∀ a w, wpList Try.prog ops Q rest a w → K a w) → K (act.put o.dst v') w') : wpList Try.prog ops Q (o :: rest) act w := by
  obtain ⟨i, hi, hz, hsz, hby⟩ := info_u8
  refine wpList_append_own w hgd s x _ ho base 5 i (.int .u8 0) 1 1 Try.underlying22 hi hz hsz hby rfl (by omega) v n _ hs hown
    ⟨gx, 0, none⟩ 1 cx [U (f n)] hx rfl (fun j u hu => ?_) (fun u hu => ?_) (by unfold maxLen; omega) (by omega) hbase ?_
  · have hj : j = 0 := by
      rcases j with _ | j
      · rfl
      · simp at hu
    subst hj
    simp at hu
    rw [Addr.add_mid, Nat.add_zero, hc, ← hu]
  · simp at hu
    subst hu
    rfl
  · intro v' w' ho' hgrow _
    refine h v' w' ?_ ((Below.refl _ _).grown hgrow hbase fun k hk => ?_) _ fun _ _ h => h
    · unfold OwnB
      rw [List.range_succ, List.map_append]
      exact ho'
    · obtain ⟨_, hv⟩ := hown
      rcases hv with ⟨rfl, _⟩ | ⟨g, cap, cur, rfl, hg, _⟩
      · cases hk
      · have : g = k := by simpa [Value.ownBlock] using hk
        omega
end

@[go_sem] theorem u64_div256 (x : BitVec 64) : L x / 256 = L (shr x 8) := u64_shr x 8
@[go_sem] theorem u8_mod256 (x : BitVec 64) : IntKind.u8.wrap (L x % 256) = U8 (low8 x) := by
  rw [← u8_L, IntKind.wrap_u8, IntKind.wrap_u8]
  omega
theorem shr_shr (x : BitVec 64) (a b : Nat) : shr (shr x a) b = shr x (a + b) := by
  unfold shr
  rw [BitVec.shiftRight_add]
theorem shr_zero (x : BitVec 64) : shr x 0 = x := by
  unfold shr
  simp

/-! Words -/

end Go.Proofs.Ytgdfpboccgfadaa
