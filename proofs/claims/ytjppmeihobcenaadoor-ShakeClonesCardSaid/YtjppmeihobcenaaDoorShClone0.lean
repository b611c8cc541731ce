/-
  Bookkeeping for ShakeClones: several hashes, and pieces put together.
-/
import Derived.Test.YtjppmeihobcenaaDoorShFew
import Derived.Test.YtjppmeihobcenaaDoorShAwake
import Derived.Test.YtjppmeihobcenaaDoorShSame
namespace Go.Proofs.YtjppmeihobcenaaDoor
open Go.RowKit

theorem St.hs {w W W' : World} {l l' : List (Nat × Obj)} {g : Nat} {h' : HS} (H : St w W l) (hH : Hs W g W' h') (hg : w.heap.size ≤ g) (hl : ∀ x ∈ l', x ∈ l ∧ x.1 ≠ g) : St w W' ((g, .cells (HB h') 57) :: l') :=
  ⟨H.bel.trans (hH.below hg H.bel.size), fun x hx => by
    rcases List.mem_cons.1 hx with rfl | hx
    · exact hH.row
    · obtain ⟨h1, h2⟩ := hl x hx
      exact (hH.oth x.1 (row_lt (H.has x h1)) h2).trans (H.has x h1)⟩
theorem St.row {w W : World} {l : List (Nat × Obj)} (H : St w W l) {g n : Nat} {f : Nat → BitVec 8} (hr : RowB W g n f) : St w W ((g, .cells (AB n f) 5) :: l) :=
  ⟨H.bel, fun x hx => by
    rcases List.mem_cons.1 hx with rfl | hx
    · exact hr
    · exact H.has x hx⟩
theorem St.sub {w W : World} {l l' : List (Nat × Obj)} (H : St w W l) (hl : ∀ x ∈ l', x ∈ l) : St w W l' := ⟨H.bel, fun x hx => H.has x (hl x hx)⟩
theorem St.grow {w W W' : World} {l : List (Nat × Obj)} {B : Nat} (H : St w W l) (hb : Below B W W') (hB : w.heap.size ≤ B) (hl : ∀ x ∈ l, x.1 < B) : St w W' l :=
  ⟨H.bel.trans (hb.mono hB), fun x hx => (hb.block _ (hl x hx)).trans (H.has x hx)⟩

/-- A row of the call's own that holds pieces. -/
def OwnP (w : World) (base : Nat) (v : Value) (n : Nat) (p : Nat → Piece) : Prop := w.ownsRow base 25 1 v n ((List.range n).map fun i => .slice (p i).a (p i).n (p i).c)
theorem OwnP.nil (w : World) (base : Nat) (p : Nat → Piece) : OwnP w base (.slice none 0 0) 0 p := ⟨rfl, .inl ⟨rfl, rfl⟩⟩
theorem OwnP.congr {w : World} {base : Nat} {v : Value} {n : Nat} {p q : Nat → Piece} (h : OwnP w base v n p) (hpq : ∀ i, i < n → p i = q i) : OwnP w base v n q := by
  unfold OwnP at h ⊢
  rwa [List.map_congr_left (g := fun i => .slice (q i).a (q i).n (q i).c) (fun i hi => by rw [hpq i (List.mem_range.1 hi)])] at h
theorem OwnP.other {w W : World} {base : Nat} {v : Value} {n : Nat} {p : Nat → Piece} (h : OwnP w base v n p) (hk : ∀ k, base ≤ k → k < w.heap.size → W.heap[k]? = w.heap[k]?) : OwnP W base v n p := by
  obtain ⟨hl, hv⟩ := h
  refine ⟨hl, ?_⟩
  rcases hv with h0 | ⟨g, cap, cur, hv, hg, hrow, hr⟩
  · exact .inl h0
  · exact .inr ⟨g, cap, cur, hv, hg, (hk g hg (row_lt hrow)).trans hrow, hr⟩
theorem OwnP.hs {w W : World} {base : Nat} {v : Value} {n g : Nat} {p : Nat → Piece} {h : HS} (H : OwnP w base v n p) (hH : Hs w g W h) (hg : g < base) : OwnP W base v n p := H.other fun k h1 h2 => hH.oth k h2 (by omega)
theorem OwnP.below {w W : World} {base : Nat} {v : Value} {n : Nat} {p : Nat → Piece} (H : OwnP w base v n p) (hb : Below w.heap.size w W) : OwnP W base v n p := H.other fun k _ h2 => hb.block k h2
theorem OwnP.alloc {w : World} {base : Nat} {v : Value} {n : Nat} {p : Nat → Piece} (H : OwnP w base v n p) (o : Obj) : OwnP (w.alloc o) base v n p := H.below ((Below.refl _ _).alloc (Nat.le_refl _) o)
theorem OwnP.pc {w : World} {base : Nat} {v : Value} {n : Nat} {p : Nat → Piece} (H : OwnP w base v n p) (he : ∀ i, i < n → Sl w w.heap.size (p i).a (p i).n (p i).c (p i).f) : ∃ a c, v = .slice a n c ∧ Pc w w.heap.size a n c p := by
  have he' : ∀ i, i < n → Sg w w.heap.size (p i).a (p i).n (p i).c (p i).f := fun i hi => Sg.of_sl (he i hi) (Nat.le_refl _) (Nat.le_refl _)
  obtain ⟨_, hv⟩ := H
  rcases hv with ⟨rfl, rfl⟩ | ⟨g, cap, cur, rfl, hg, hrow, hle, _, hcs, htake⟩
  · exact ⟨none, 0, rfl, Nat.le_refl _, fun _ => rfl, (fun _ e => by cases e), fun _ h => by omega⟩
  · have hlt := row_lt hrow
    refine ⟨some ⟨g, 0, none⟩, cap, rfl, hle, (fun e => by cases e), fun ad e _ => ⟨g, 0, (Option.some.inj e).symm, hlt, by omega, fun i hi => ?_⟩, he'⟩
    rw [Nat.zero_add, cell_of_row _ _ _ _ _ _ hrow]
    have := congrArg (·[i]?) htake
    rw [Nat.mul_one] at this
    simpa [hi] using this
def catP (p : Nat → Piece) (n : Nat) (q : Nat → Piece) : Nat → Piece := fun i => if i < n then p i else q (i - n)
theorem catP_map (p q : Nat → Piece) (n m : Nat) : ((List.range n).map fun i => Value.slice (p i).a (p i).n (p i).c) ++ ((List.range m).map fun i => Value.slice (q i).a (q i).n (q i).c) = (List.range (n + m)).map fun i => Value.slice (catP p n q i).a (catP p n q i).n (catP p n q i).c := by
  apply List.ext_getElem?
  intro j
  by_cases h1 : j < n
  · rw [List.getElem?_append_left (by simpa using h1)]
    simp [h1, show j < n + m by omega, catP]
  · rw [List.getElem?_append_right (by simpa using h1)]
    by_cases h2 : j < n + m
    · simp [h2, show j - n < m by omega, catP, h1]
    · simp [h2, show ¬ j - n < m by omega]
theorem infoP5 : (Tryd.prog.info? 25).map (fun i => (i.zero, i.size, i.bytes)) = some (some (.slice none 0 0), 1, 24) := by kernel_rfl
theorem info_bs : ∃ i, Tryd.prog.info? 25 = some i ∧ i.zero = some (.slice none 0 0) ∧ i.size = 1 ∧ i.bytes = 24 := by
  cases hq : Tryd.prog.info? 25 with
  | none => have := infoP5; simp [hq] at this
  | some i =>
    have := infoP5
    simp [hq] at this
    exact ⟨i, rfl, this.1, this.2.1, this.2.2⟩
section
variable {w : World} {ops : Array Oper} {rest : List Oper} {o : Oper} {act : Act} {Q : Exit → Act → World → Prop}
theorem lay_append_pieces (hgd : o.guard = none) {s x : Operand} (ho : o.op = .call { callee := .builtin .append, args := #[s, x], argTypes := #[22, 22] }) {v : Value} (hs : act.eval s = v)
    {a : Option Addr} {m c : Nat} (hx : act.eval x = .slice a m c) {base n gg : Nat} {p q : Nat → Piece} (hown : OwnP w base v n p) (hS : Pc w gg a m c q) (hn : n + m ≤ 1000) (hbase : base ≤ w.heap.size)
    (h : ∀ v' w', OwnP w' base v' (n + m) (catP p n q) → Below base w w' → ∀ K : Act → World → Prop, (∀ a w, wpList Tryd.prog ops Q rest a w → K a w) → K (act.put o.dst v') w') : wpList Tryd.prog ops Q (o :: rest) act w := by
  obtain ⟨i, hi, hz, hsz, hby⟩ := info_bs
  cases a with
  | none =>
    have hc := hS.nil rfl
    have hle := hS.le
    obtain rfl : m = 0 := by omega
    subst hc
    exact wpList_append_own_none hgd s x _ ho base 25 i 1 Tryd.underlying22 hi v n _ hs hown hx
      (h v w (hown.congr fun i hi => by unfold catP; rw [if_pos hi]) (Below.refl _ _) _ fun _ _ h => h)
  | some ad =>
    refine wpList_append_own w hgd s x _ ho base 25 i (.slice none 0 0) 1 24 Tryd.underlying22 hi hz hsz hby rfl (by omega) v n _ hs hown
      ad m c ((List.range m).map fun i => .slice (q i).a (q i).n (q i).c) hx (by simp) (fun j u hu => ?_) (fun u hu => ?_) (by unfold maxLen; omega) (by omega) hbase ?_
    · have hj : j < m := by
        rcases Nat.lt_or_ge j m with h' | h'
        · exact h'
        · rw [List.getElem?_eq_none (by simpa using h')] at hu; cases hu
      simp [hj] at hu
      obtain ⟨b, off, rfl, _, _, hc⟩ := hS.low ad rfl (by omega)
      rw [Addr.add_mid, ← hu]
      exact hc j hj
    · obtain ⟨i, _, rfl⟩ := List.mem_map.1 hu
      rfl
    · intro v' w' ho' hgrow _
      refine h v' w' ?_ ((Below.refl _ _).grown hgrow hbase fun k hk => ?_) _ fun _ _ h => h
      · unfold OwnP
        rw [← catP_map]
        exact ho'
      · obtain ⟨_, hv⟩ := hown
        rcases hv with ⟨rfl, _⟩ | ⟨g, cap, cur, rfl, hg, _⟩
        · cases hk
        · have : g = k := by simpa [Value.ownBlock] using hk
          omega
end
theorem takeP_congr (h : HS) {p q : Nat → Piece} : ∀ n, (∀ i, i < n → p i = q i) → takeP h p n = takeP h q n
  | 0, _ => rfl
  | n + 1, hpq => by
    show takeN (takeP h p n) (p n).f (p n).n = takeN (takeP h q n) (q n).f (q n).n
    rw [takeP_congr h n (fun i hi => hpq i (by omega)), hpq n (by omega)]
/-- The first pieces of pieces. -/
theorem Pc.first {w : World} {g : Nat} {a : Option Addr} {n c : Nat} {p : Nat → Piece} (H : Pc w g a n c p) (m : Nat) (hm : m ≤ n) : Pc w g a m c p :=
  ⟨Nat.le_trans hm H.le, H.nil, fun ad ha h0 => by
    obtain ⟨b, o, e, h1, h2, h3⟩ := H.low ad ha (by omega)
    exact ⟨b, o, e, h1, h2, fun i hi => h3 i (by omega)⟩, fun i hi => H.each i (by omega)⟩
end Go.Proofs.YtjppmeihobcenaaDoor
