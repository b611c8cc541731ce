/-
  Rows and slices of ints in memory: what a walk knows of them, make, append. No statement is proved here: lemmas for the walks.
-/
import Derived.Test.YtgdfpboccgfadaaBuB
import Derived.Test.YtgdfpboccgfadaaBuA
import Derived.Test.YtgdfpboccgfadaaBuN
namespace Go.Proofs.Ytgdfpboccgfadaa
open Go.RowKit

theorem infoZ : (Try.prog.info? 3).map (fun i => (i.zero, i.size, i.bytes)) = some (some (.int .i64 0), 1, 8) := by kernel_rfl
theorem info_int : ∃ i, Try.prog.info? 3 = some i ∧ i.zero = some (.int .i64 0) ∧ i.size = 1 ∧ i.bytes = 8 := by
  cases hq : Try.prog.info? 3 with
  | none => have := infoZ; simp [hq] at this
  | some i =>
    have := infoZ
    simp [hq] at this
    exact ⟨i, rfl, this.1, this.2.1, this.2.2⟩
theorem AZ_zero (n : Nat) : AZ .i64 n (fun _ => 0) = Array.replicate n (.int .i64 0) := by
  apply Array.ext_getElem?
  intro j
  by_cases hj : j < n
  · rw [AZ_get _ n _ j hj]
    simp [hj]
  · rw [Array.getElem?_eq_none (by simpa [AZ_size] using hj), Array.getElem?_eq_none (by simpa using hj)]
theorem made_int (n : Nat) : madeCells (Value.int .i64 0).cells n = AZ .i64 n fun _ => 0 := by
  rw [AZ_zero]
  unfold madeCells
  apply Array.ext_getElem?
  intro j
  simp only [Array.getElem?_map, Array.getElem?_replicate]
  by_cases h : j < n
  · simp [h, Value.cells, Nat.mod_one]
  · simp [h]
theorem run_make_int (w : World) (l : Nat) (hc : l ≤ 1000000) : (Instr.makeSlice 26 (.int .i64 (l : Int)) (.int .i64 (l : Int))).run Try.prog w = .ok (.slice (some ⟨w.heap.size, 0, none⟩) l l) (w.alloc (Blk 3 .i64 l fun _ => 0)) := by
  obtain ⟨i, hi, hz, hs, hb⟩ := info_int
  have h := run_makeSlice (P := Try.prog) w 26 3 i (.int .i64 0) Try.underlying26 hi hz .i64 .i64 (l : Int) (l : Int) (by omega) (by omega) (by rw [hs, Int.toNat_natCast]; omega) (by rw [hb]; omega) (by omega)
  rw [hs, Int.toNat_natCast, Nat.mul_one, made_int] at h
  exact h
section
variable {ops : Array Oper} {rest : List Oper} {o : Oper} {a : Act} {w w0 : World} {l : List (Nat × Obj)} {Q : Exit → Act → World → Prop}
theorem own_make (H : Hid (Ow w0 w l)) (hgd : o.guard = none) {x y : Operand} (ho : o.op = .makeSlice 26 x y) {n : Nat} (hx : a.eval x = .int .i64 (n : Int)) (hy : a.eval y = .int .i64 (n : Int)) (hc : n ≤ 1000000)
    (k : ∀ w' g, Hid (Ow w0 w' ((g, Blk 3 .i64 n fun _ => 0) :: l)) → ∀ K : Act → World → Prop, (∀ a w, wpList Try.prog ops Q rest a w → K a w) → K (a.put o.dst (.slice (some ⟨g, 0, none⟩) n n)) w') : wpList Try.prog ops Q (o :: rest) a w :=
  wpList_plain hgd fun K hK => by
    unfold Oper.wp execOp
    simp only [ho, hx, hy, Sem.run_bind, run_make_int w n hc, Result.andThen_ok]
    exact k _ _ (Lib.hid (H.out.alloc _)) K hK
end
theorem oneI : IsOne Try.prog 3 .i64 := ⟨Try.underlying3, by kernel_rfl⟩
theorem mixZ_upd (i : Nat) (f g : Nat → Int) : updZ (mix i f g) i (f i) = mix (i + 1) f g := by
  funext j
  unfold updZ mix
  by_cases h : j = i
  · rw [if_pos h, if_pos (by omega), h]
  · rw [if_neg h]
    by_cases h1 : j < i
    · rw [if_pos h1, if_pos (by omega)]
    · rw [if_neg h1, if_neg (by omega)]
/-- A slice of n ints below block B. -/
structure SlZ (w : World) (B : Nat) (a : Option Addr) (n c : Nat) (f : Nat → Int) : Prop where
  le : n ≤ c
  nil : a = none → c = 0
  low : ∀ ad, a = some ad → 0 < n → ∃ b o, ad = ⟨b, o, none⟩ ∧ b < B ∧ ∀ i, i < n → w.cell? ⟨b, o + i, none⟩ = some (.int .i64 (f i))
section
variable {w w' : World} {B : Nat} {a : Option Addr} {n c : Nat} {f : Nat → Int}
theorem SlZ.get (h : SlZ w B a n c f) (i : Nat) (hi : i < n) : ∃ b o, a = some ⟨b, o, none⟩ ∧ b < B ∧ w.cell? ⟨b, o + i, none⟩ = some (.int .i64 (f i)) := by
  cases ha : a with
  | none =>
    have h1 := h.nil ha
    have h2 := h.le
    exfalso; omega
  | some ad =>
    obtain ⟨b, o, rfl, hb, hc⟩ := h.low ad ha (by omega)
    exact ⟨b, o, rfl, hb, hc i hi⟩
theorem SlZ.below (h : SlZ w B a n c f) (hb : Below B w w') : SlZ w' B a n c f :=
  ⟨h.le, h.nil, fun ad ha h0 => by
    obtain ⟨b, o, rfl, hlt, hc⟩ := h.low ad ha h0
    exact ⟨b, o, rfl, hlt, fun i hi => (hb.cell (p := ⟨b, o + i, none⟩) hlt).trans (hc i hi)⟩⟩
theorem SlZ.more {B' : Nat} (h : SlZ w B a n c f) (hB : B ≤ B') : SlZ w B' a n c f :=
  ⟨h.le, h.nil, fun ad ha h0 => by
    obtain ⟨b, o, rfl, hlt, hc⟩ := h.low ad ha h0
    exact ⟨b, o, rfl, by omega, hc⟩⟩
theorem SlZ.call (h : SlZ w w.heap.size a n c f) (hb : Below w.heap.size w w') : SlZ w' w'.heap.size a n c f := (h.below hb).more hb.size
theorem SlZ.congr {g : Nat → Int} (h : SlZ w B a n c f) (hg : ∀ i, i < n → f i = g i) : SlZ w B a n c g :=
  ⟨h.le, h.nil, fun ad ha h0 => by
    obtain ⟨b, o, rfl, hlt, hc⟩ := h.low ad ha h0
    exact ⟨b, o, rfl, hlt, fun i hi => by rw [hc i hi, hg i hi]⟩⟩
theorem SlZ.nought (w : World) (B : Nat) (f : Nat → Int) : SlZ w B none 0 0 f := ⟨Nat.le_refl _, fun _ => rfl, fun _ e _ => by cases e⟩
theorem SlZ.row {g : Nat} {t : TypeId} (h : w.heap[g]? = some (Blk t .i64 n f)) : SlZ w w.heap.size (some ⟨g, 0, none⟩) n n f :=
  ⟨Nat.le_refl _, (fun e => by cases e), fun ad e _ => ⟨g, 0, (Option.some.inj e).symm, lt_row h, fun i hi => by
    have hr : w.heap[g]? = some (.cells (AZ .i64 n f) t) := h
    rw [Nat.zero_add, cell_of_row _ _ _ _ _ _ hr, AZ_get _ _ _ _ hi]⟩⟩
end
/-- A row of the call's own that holds n ints. -/
def OwnZ (w : World) (base : Nat) (v : Value) (n : Nat) (f : Nat → Int) : Prop := w.ownsRow base 3 1 v n ((List.range n).map fun i => Value.int .i64 (f i))
theorem OwnZ.nil (w : World) (base : Nat) (f : Nat → Int) : OwnZ w base (.slice none 0 0) 0 f := ⟨rfl, .inl ⟨rfl, rfl⟩⟩
theorem OwnZ.alloc {w : World} {base : Nat} {v : Value} {n : Nat} {f : Nat → Int} (h : OwnZ w base v n f) (o : Obj) : OwnZ (w.alloc o) base v n f := by
  obtain ⟨hl, hv⟩ := h
  refine ⟨hl, ?_⟩
  rcases hv with h0 | ⟨g, cap, cur, hv, hg, hrow, hr⟩
  · exact .inl h0
  · exact .inr ⟨g, cap, cur, hv, hg, (heap_alloc_past _ _ _ (row_lt hrow)).trans hrow, hr⟩
theorem OwnZ.call {w w' : World} {base : Nat} {v : Value} {n : Nat} {f : Nat → Int} (h : OwnZ w base v n f) (hb : Below w.heap.size w w') : OwnZ w' base v n f := by
  obtain ⟨hl, hv⟩ := h
  refine ⟨hl, ?_⟩
  rcases hv with h0 | ⟨g, cap, cur, hv, hg, hrow, hr⟩
  · exact .inl h0
  · exact .inr ⟨g, cap, cur, hv, hg, (hb.block _ (row_lt hrow)).trans hrow, hr⟩
theorem OwnZ.lower {w : World} {base base' : Nat} {v : Value} {n : Nat} {f : Nat → Int} (h : OwnZ w base v n f) (hb : base' ≤ base) : OwnZ w base' v n f := by
  obtain ⟨hl, hv⟩ := h
  refine ⟨hl, ?_⟩
  rcases hv with h0 | ⟨g, cap, cur, hv, hg, hr⟩
  · exact .inl h0
  · exact .inr ⟨g, cap, cur, hv, Nat.le_trans hb hg, hr⟩
theorem OwnZ.congr {w : World} {base : Nat} {v : Value} {n : Nat} {f g : Nat → Int} (h : OwnZ w base v n f) (hg : ∀ i, i < n → f i = g i) : OwnZ w base v n g := by
  have e : ((List.range n).map fun i => Value.int .i64 (f i)) = (List.range n).map fun i => Value.int .i64 (g i) := List.map_congr_left fun i hi => by rw [hg i (List.mem_range.1 hi)]
  unfold OwnZ at h ⊢
  rwa [e] at h
theorem OwnZ.sl {w : World} {base : Nat} {v : Value} {n : Nat} {f : Nat → Int} (h : OwnZ w base v n f) : ∃ a c, v = .slice a n c ∧ SlZ w w.heap.size a n c f := by
  obtain ⟨hl, hv⟩ := h
  rcases hv with ⟨rfl, h0⟩ | ⟨g, cap, cur, rfl, hg, hrow, hle, _, hcs, htake⟩
  · subst h0
    exact ⟨none, 0, rfl, SlZ.nought _ _ _⟩
  · refine ⟨some ⟨g, 0, none⟩, cap, rfl, hle, (fun e => by cases e), fun ad e _ => ⟨g, 0, (Option.some.inj e).symm, row_lt hrow, fun i hi => ?_⟩⟩
    rw [Nat.zero_add, cell_of_row _ _ _ _ _ _ hrow]
    have := congrArg (·[i]?) htake
    rw [Nat.mul_one] at this
    simpa [hi] using this
section
variable {w : World} {ops : Array Oper} {rest : List Oper} {o : Oper} {act : Act} {Q : Exit → Act → World → Prop}
theorem lay_append_z (hgd : o.guard = none) {s x : Operand} (ho : o.op = .call { callee := .builtin .append, args := #[s, x], argTypes := #[26, 26] }) {v : Value} (hs : act.eval s = v)
    {gx cx : Nat} (hx : act.eval x = .slice (some ⟨gx, 0, none⟩) 1 cx) {base n : Nat} {f : Nat → Int} (hc : w.cell? ⟨gx, 0, none⟩ = some (.int .i64 (f n))) (hown : OwnZ w base v n f) (hn : n ≤ 100000) (hbase : base ≤ w.heap.size)
    (h : ∀ v' w', OwnZ w' base v' (n + 1) f → Below base w w' → ∀ K : Act → World → Prop, (∀ a w, wpList Try.prog ops Q rest a w → K a w) → K (act.put o.dst v') w') : wpList Try.prog ops Q (o :: rest) act w := by
  obtain ⟨i, hi, hz, hsz, hby⟩ := info_int
  refine wpList_append_own w hgd s x _ ho base 3 i (.int .i64 0) 1 8 Try.underlying26 hi hz hsz hby rfl (by omega) v n _ hs hown
    ⟨gx, 0, none⟩ 1 cx [.int .i64 (f n)] hx rfl (fun j u hu => ?_) (fun u hu => ?_) (by unfold maxLen; omega) (by omega) hbase ?_
  · have hj : j = 0 := by
      rcases j with _ | j
      · rfl
      · simp at hu
    subst hj
    simp at hu
    rw [Addr.add_mid, Nat.add_zero, hc, ← hu]
  · simp at hu
    subst hu
    rfl
  · intro v' w' ho' hgrow _
    refine h v' w' ?_ ((Below.refl _ _).grown hgrow hbase fun k hk => ?_) _ fun _ _ h => h
    · unfold OwnZ
      rw [List.range_succ, List.map_append]
      exact ho'
    · obtain ⟨_, hv⟩ := hown
      rcases hv with ⟨rfl, _⟩ | ⟨g, cap, cur, rfl, hg, _⟩
      · cases hk
      · have : g = k := by simpa [Value.ownBlock] using hk
        omega
end
end Go.Proofs.Ytgdfpboccgfadaa
