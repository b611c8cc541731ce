/-
  Which blocks a walk has made, and what they hold; append onto nil of a slice that came in.
-/
import Derived.Test.YtjppmeihobcenaaDoorKecBytes
import Derived.Laws.AppendOwnNone
import Derived.Deep.MidRow
namespace Go.Proofs.YtjppmeihobcenaaDoor
open Go.RowKit

/-- Behind w nothing that was there has turned, and the blocks of the list hold what it says. -/
structure St (w W : World) (l : List (Nat × Obj)) : Prop where
  bel : Below w.heap.size w W
  has : ∀ x ∈ l, W.heap[x.1]? = some x.2
section
variable {w W W' : World} {l : List (Nat × Obj)}
theorem St.start (w : World) : St w w [] := ⟨Below.refl _ _, fun _ h => by cases h⟩
theorem St.call (h : St w W l) (hb : Below W.heap.size W W') : St w W' l :=
  ⟨h.bel.trans (hb.mono h.bel.size), fun x hx => (hb.block _ (row_lt (h.has x hx))).trans (h.has x hx)⟩
theorem St.alloc (h : St w W l) (o : Obj) : St w (W.alloc o) ((W.heap.size, o) :: l) :=
  ⟨h.bel.alloc h.bel.size o, fun x hx => by
    rcases List.mem_cons.1 hx with rfl | hx
    · exact heap_alloc_last W o
    · exact (heap_alloc_past _ _ _ (row_lt (h.has x hx))).trans (h.has x hx)⟩
theorem St.drew (h : St w W l) : St w W.drew l := ⟨h.bel.drew, h.has⟩
theorem St.get (h : St w W l) (g : Nat) (o : Obj) (hm : (g, o) ∈ l) : W.heap[g]? = some o := h.has _ hm
theorem Sl.call {B : Nat} {a : Option Addr} {n c : Nat} {f : Nat → BitVec 8} (h : Sl W B a n c f) (hB : B ≤ W.heap.size) (hb : Below W.heap.size W W') : Sl W' W'.heap.size a n c f :=
  ((h.more hB).below hb).more hb.size
theorem Sl.alloc {a : Option Addr} {n c : Nat} {f : Nat → BitVec 8} (h : Sl W W.heap.size a n c f) (o : Obj) : Sl (W.alloc o) (W.alloc o).heap.size a n c f :=
  h.call (Nat.le_refl _) ((Below.refl _ _).alloc (Nat.le_refl _) o)
theorem Sl.drew {a : Option Addr} {n c : Nat} {f : Nat → BitVec 8} (h : Sl W W.heap.size a n c f) : Sl W.drew W.drew.heap.size a n c f := ⟨h.le, h.nil, h.low⟩
end

theorem newsB_get (n : Nat) (f : Nat → BitVec 8) (j : Nat) (u : Value) (h : ((List.range n).map fun i => U (f i))[j]? = some u) : j < n ∧ u = U (f j) := by
  rw [List.getElem?_map] at h
  by_cases hj : j < n
  · simp [hj] at h
    exact ⟨hj, h.symm⟩
  · simp [hj] at h

section
variable {w : World} {ops : Array Oper} {rest : List Oper} {o : Oper} {act : Act} {Q : Exit → Act → World → Prop}
theorem lay_append_nil (hgd : o.guard = none) {s x : Operand} (ho : o.op = .call { callee := .builtin .append, args := #[s, x], argTypes := #[25, 25] }) (hs : act.eval s = .slice none 0 0)
    {a : Option Addr} {n c : Nat} {f : Nat → BitVec 8} (hx : act.eval x = .slice a n c) (hS : Sl w w.heap.size a n c f) (hn : n ≤ 1000)
    (h : ∀ a' c' w', Sl w' w'.heap.size a' n c' f → Below w.heap.size w w' → ∀ K : Act → World → Prop, (∀ a w, wpList Tryd.prog ops Q rest a w → K a w) → K (act.put o.dst (.slice a' n c')) w') : wpList Tryd.prog ops Q (o :: rest) act w := by
  obtain ⟨i, hi, hz, hsz, hby⟩ := info_u8
  cases a with
  | none =>
    have hc := hS.nil rfl
    have hle := hS.le
    obtain rfl : n = 0 := by omega
    subst hc
    exact wpList_append_own_none hgd s x _ ho w.heap.size 5 i 1 Tryd.underlying25 hi (.slice none 0 0) 0 [] hs ⟨rfl, .inl ⟨rfl, rfl⟩⟩ hx
      (h none 0 w ⟨Nat.le_refl _, fun _ => rfl, fun _ e _ => by cases e⟩ (Below.refl _ _) _ fun _ _ h => h)
  | some ad =>
    refine wpList_append_own w hgd s x _ ho w.heap.size 5 i (.int .u8 0) 1 1 Tryd.underlying25 hi hz hsz hby rfl (by omega) (.slice none 0 0) 0 [] hs ⟨rfl, .inl ⟨rfl, rfl⟩⟩
      ad n c ((List.range n).map fun i => U (f i)) hx (by simp) (fun j u hu => ?_) (fun u hu => ?_) (by unfold maxLen; omega) (by omega) (Nat.le_refl _) ?_
    · obtain ⟨hj, rfl⟩ := newsB_get n f j u hu
      obtain ⟨b, off, rfl, hb, hc⟩ := hS.low ad rfl (by omega)
      rw [Addr.add_mid]
      exact hc j hj
    · obtain ⟨i, _, rfl⟩ := List.mem_map.1 hu
      rfl
    · intro v' w' hown hgrow _
      have hbel : Below w.heap.size w w' := (Below.refl _ _).grown hgrow (Nat.le_refl _) (fun k hk => by cases hk)
      rw [Nat.zero_add, List.nil_append] at hown
      obtain ⟨_, hv⟩ := hown
      rcases hv with ⟨rfl, hn0⟩ | ⟨g, cap, cur, rfl, hg, hrow, hle, _, hcs, htake⟩
      · subst hn0
        exact h none 0 w' ⟨Nat.le_refl _, fun _ => rfl, fun _ e _ => by cases e⟩ hbel _ fun _ _ h => h
      · refine h (some ⟨g, 0, none⟩) cap w' ⟨hle, (fun e => by cases e), fun ad e _ => ⟨g, 0, (Option.some.inj e).symm, row_lt hrow, fun i hi => ?_⟩⟩ hbel _ fun _ _ h => h
        rw [Nat.zero_add, cell_of_row _ _ _ _ _ _ hrow]
        have := congrArg (·[i]?) htake
        rw [Nat.mul_one] at this
        simpa [hi] using this
end
end Go.Proofs.YtjppmeihobcenaaDoor
