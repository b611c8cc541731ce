/-
  Places of lists; operations of regions that draw their order, over what is the call's own. No statement is proved here: lemmas for the walks.
-/
import Derived.Test.YtgdfpboccgfadaaOwn
namespace Go.Proofs.Ytgdfpboccgfadaa
open Go.RowKit

theorem at0 {α : Type} {x : α} {l : List α} : (x :: l)[0]? = some x := rfl
theorem at1 {α : Type} {a x : α} {l : List α} : (a :: x :: l)[1]? = some x := rfl
theorem at2 {α : Type} {a b x : α} {l : List α} : (a :: b :: x :: l)[2]? = some x := rfl
theorem at3 {α : Type} {a b c x : α} {l : List α} : (a :: b :: c :: x :: l)[3]? = some x := rfl
theorem at4 {α : Type} {a b c d x : α} {l : List α} : (a :: b :: c :: d :: x :: l)[4]? = some x := rfl
theorem at5 {α : Type} {a b c d e x : α} {l : List α} : (a :: b :: c :: d :: e :: x :: l)[5]? = some x := rfl
theorem at6 {α : Type} {a b c d e f x : α} {l : List α} : (a :: b :: c :: d :: e :: f :: x :: l)[6]? = some x := rfl
theorem at7 {α : Type} {a b c d e f g x : α} {l : List α} : (a :: b :: c :: d :: e :: f :: g :: x :: l)[7]? = some x := rfl
theorem at8 {α : Type} {a b c d e f g h x : α} {l : List α} : (a :: b :: c :: d :: e :: f :: g :: h :: x :: l)[8]? = some x := rfl
theorem at9 {α : Type} {a b c d e f g h i x : α} {l : List α} : (a :: b :: c :: d :: e :: f :: g :: h :: i :: x :: l)[9]? = some x := rfl
theorem set_at {α : Type} {l : List α} {i : Nat} {x y : α} (h : l[i]? = some y) : (l.set i x)[i]? = some x := by
  have hi : i < l.length := by
    rcases Nat.lt_or_ge i l.length with h' | h'
    · exact h'
    · rw [List.getElem?_eq_none h'] at h; cases h
  rw [List.getElem?_set, if_pos rfl, if_pos hi]
section
variable {P : Program} {o : Oper} {a : Act} {w w0 : World} {l : List (Nat × Obj)} {K : Act → World → Prop} {Q : Exit → Act → World → Prop} {t ty : TypeId} {k : IntKind} {n : Nat}
/-- A whole row is loaded, in a region that draws its order. -/
theorem own_wp_load (dd : Tmp) (hd : o.dst = some dd) (i : Nat) (hT : IsRow P ty n) (H : Ow w0 w l) {x : Operand} (ho : o.op = .load ty x) {g : Nat} (hx : a.eval x = .pointer (some ⟨g, 0, none⟩)) {f : Nat → Int}
    (hi : l[i]? = some (g, Blk t k n f)) (h : K (a.put (some dd) (.agg (AZ k n f))) w) : o.wp P a w K Q := by
  unfold Oper.wp execOp
  simp only [ho, hx, Sem.run_bind, run_load_row hT (H.row i hi), Result.andThen_ok]
  show K (a.put o.dst _) _
  rw [hd]
  exact h
end
section
variable {P : Program} {o : Oper} {a : Act} {w w0 : World} {l : List (Nat × Obj)} {K : Act → World → Prop} {Q : Exit → Act → World → Prop} {t : TypeId} {k : IntKind} {n : Nat}
theorem below_alloc (w : World) (o : Obj) : Below w.heap.size w (w.alloc o) := (Below.refl _ _).alloc (Nat.le_refl _) o
/-- A row is made, in a region that draws its order; what was there stays. -/
theorem own_wp_allocB (dd : Tmp) (hd : o.dst = some dd) (hz : ∀ w, (zeroValue t).run P w = .ok (.agg (AZ k n fun _ => 0)) w) (H : Ow w0 w l) (ho : o.op = .alloc t)
    (h : ∀ w' g, Ow w0 w' ((g, Blk t k n fun _ => 0) :: l) → Below w.heap.size w w' → K (a.put (some dd) (.pointer (some ⟨g, 0, none⟩))) w') : o.wp P a w K Q := by
  unfold Oper.wp execOp
  simp only [ho, Instr.alloc, Sem.run_bind, hz, Result.andThen_ok, newVar, Value.cells]
  simp [go_sem]
  show K (a.put o.dst _) _
  rw [hd]
  exact h _ _ (H.alloc _) (below_alloc _ _)
end
theorem perm_front {α : Type} : ∀ (l : List α) (i : Nat) (x : α), l[i]? = some x → (x :: l.eraseIdx i).Perm l
  | [], i, x, h => by cases i <;> cases h
  | y :: l, 0, x, h => by
    obtain rfl := Option.some.inj (show some y = some x from h)
    exact List.Perm.refl _
  | y :: l, i + 1, x, h => (List.Perm.swap y x (l.eraseIdx i)).trans ((perm_front l i x h).cons y)
/-- A block is left out of the list; one comes first. -/
theorem Ow.erase {w W : World} {l : List (Nat × Obj)} (h : Ow w W l) (i : Nat) : Ow w W (l.eraseIdx i) :=
  ⟨h.bel, fun x hx => h.has x ((List.eraseIdx_sublist l i).subset hx), fun x hx => h.new x ((List.eraseIdx_sublist l i).subset hx), h.apart.sublist (List.eraseIdx_sublist l i)⟩
theorem Ow.front {w W : World} {l : List (Nat × Obj)} (h : Ow w W l) (i : Nat) {x : Nat × Obj} (hi : l[i]? = some x) : Ow w W (x :: l.eraseIdx i) :=
  ⟨h.bel, fun y hy => h.has y ((perm_front l i x hi).subset hy), fun y hy => h.new y ((perm_front l i x hi).subset hy), ((perm_front l i x hi).pairwise_iff fun h => h.symm).2 h.apart⟩
section
variable {P : Program} {md : Region.Mode} {ops : Array Oper} {Q : Exit → Act → World → Prop} {S : World → Prop} {fuel : Nat} {listed : Array Bool} {a : Act} {w : World}
/-- In a region that draws its order: what its guard keeps back is passed over. -/
theorem held_skip (i : Nat) (d : Tmp) {oi : Oper} (hi : ops[i]? = some oi) (hd : oi.dst = some d) (hs : Region.noSelect ops = true) (hf : Region.free md ops listed i = true)
    (hr : (Region.ready md ops listed).contains i = true) (hw : Region.wanted oi (yielded ops a.tmps) = false) (hS : S w)
    (h : wpAnyH P md ops (NoPanic Q) S fuel (listed.setIfInBounds i true) (a.put (some d) undef) w) : wpAnyH P md ops (NoPanic Q) S (fuel + 1) listed a w :=
  wpAnyH_take hi hs hf hr (fun _ _ _ h => h) (.inr ⟨hw, rfl⟩) hS (by rw [hd]; exact h)
end
section
variable {P : Program} {ops : Array Oper} {rest : List Oper} {o : Oper} {a : Act} {w w0 : World} {l : List (Nat × Obj)} {Q : Exit → Act → World → Prop} {t ty : TypeId} {k : IntKind} {n : Nat}
theorem list_wanted (hw : Region.wanted o (yielded ops a.tmps) = true) (h : ∀ K : Act → World → Prop, (∀ a w, wpList P ops Q rest a w → K a w) → o.wp P a w K Q) : wpList P ops Q (o :: rest) a w :=
  wpList_step fun K hK => by rw [if_pos hw]; exact h K hK
/-- A guarded load that is wanted. -/
theorem own_loadg {i : Nat} (hT : IsRow P ty n) (H : Hid (Ow w0 w l)) (hw : Region.wanted o (yielded ops a.tmps) = true) {x : Operand} (ho : o.op = .load ty x) {g : Nat} (hx : a.eval x = .pointer (some ⟨g, 0, none⟩)) {f : Nat → Int}
    (hi : l[i]? = some (g, Blk t k n f)) (h : ∀ K : Act → World → Prop, (∀ a w, wpList P ops Q rest a w → K a w) → K (a.put o.dst (.agg (AZ k n f))) w) : wpList P ops Q (o :: rest) a w :=
  list_wanted hw fun K hK => by
    unfold Oper.wp execOp
    simp only [ho, hx, Sem.run_bind, run_load_row hT (H.out.row i hi), Result.andThen_ok]
    exact h K hK
end
/-- Two blocks of the list are two. -/
theorem Ow.ne {w W : World} {l : List (Nat × Obj)} (h : Ow w W l) (i j : Nat) {x y : Nat × Obj} (hi : l[i]? = some x) (hj : l[j]? = some y) (hij : i ≠ j) : x.1 ≠ y.1 := by
  have hp := h.apart
  rw [List.pairwise_iff_getElem] at hp
  have hil : i < l.length := by
    rcases Nat.lt_or_ge i l.length with h' | h'
    · exact h'
    · rw [List.getElem?_eq_none h'] at hi; cases hi
  have hjl : j < l.length := by
    rcases Nat.lt_or_ge j l.length with h' | h'
    · exact h'
    · rw [List.getElem?_eq_none h'] at hj; cases hj
  rw [List.getElem?_eq_getElem hil] at hi
  rw [List.getElem?_eq_getElem hjl] at hj
  obtain rfl := Option.some.inj hi
  obtain rfl := Option.some.inj hj
  rcases (by omega : i < j ∨ j < i) with hlt | hlt
  · exact hp i j hil hjl hlt
  · exact fun e => hp j i hjl hil hlt e.symm
theorem Ow.add {w W W' : World} {l : List (Nat × Obj)} {g : Nat} {o : Obj} (h : Ow w W l) (hb : Below W.heap.size W W') (hg : W.heap.size ≤ g) (hr : W'.heap[g]? = some o) : Ow w W' ((g, o) :: l) := by
  have h' := h.call hb
  refine ⟨h'.bel, fun x hx => ?_, fun x hx => ?_, List.Pairwise.cons (fun x hx => ?_) h'.apart⟩
  · rcases List.mem_cons.1 hx with rfl | hx
    · exact hr
    · exact h'.has x hx
  · rcases List.mem_cons.1 hx with rfl | hx
    · exact Nat.le_trans h.bel.size hg
    · exact h'.new x hx
  · have := lt_row (h.has x hx)
    show g ≠ x.1
    omega
end Go.Proofs.Ytgdfpboccgfadaa
