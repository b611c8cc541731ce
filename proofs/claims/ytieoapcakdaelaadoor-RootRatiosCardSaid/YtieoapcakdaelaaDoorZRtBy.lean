/-
  What the reference's roots want: bytes of numbers, arrays compared. No statement is proved here: lemmas for the walks.
-/
import Derived.Test.YtieoapcakdaelaaDoorZRtRpow
import Derived.Test.YtieoapcakdaelaaDoorBuR
import Derived.Great.BuildSlice
namespace Go.Proofs.YtieoapcakdaelaaDoor
open Go.RowKit

theorem bX_bt (x : Nat) : bX x = bt x := by
  funext i
  unfold bX bt
  rw [show (256 : Nat) = 2 ^ 8 from rfl, ← Nat.pow_mul]
theorem Sb.drew {w : World} {a : Option Addr} {n c x : Nat} (h : Sb w w.heap.size a n c x) : Sb w.drew w.drew.heap.size a n c x := ⟨h.sl.drew, h.fits⟩
theorem refPrime_sb (w : World) : Calls Tryd.prog 73 #[] w fun e w' => ∃ a c, e = .returned (.slice a 56 c) ∧ Sb w' w'.heap.size a 56 c pN ∧ Below w.heap.size w w' :=
  (refPrime_any w).mono fun _ _ ⟨_, he, ⟨g, c, hv, _, hs⟩, hb⟩ => ⟨some ⟨g, 0, none⟩, c, by rw [he, hv], ⟨by rw [← bX_bt]; exact hs, by decide +kernel⟩, hb⟩
theorem fits_56 {x : Nat} (h : x ≤ pN + 1) : dl 8 x ≤ 56 := (dl_le 8 x 56 (by omega)).2 (Nat.lt_of_le_of_lt h (by decide +kernel))
section
variable {P : Program} {o : Oper} {a : Act} {w w0 : World} {l : List (Nat × Obj)} {K : Act → World → Prop} {Q : Exit → Act → World → Prop} {t : TypeId} {k : IntKind} {n : Nat}
theorem below_alloc (w : World) (o : Obj) : Below w.heap.size w (w.alloc o) := (Below.refl _ _).alloc (Nat.le_refl _) o
/-- A row is made, in a region that draws its order; what was there stays. -/
theorem own_wp_allocB (dd : Tmp) (hd : o.dst = some dd) (hz : ∀ w, (zeroValue t).run P w = .ok (.agg (AZ k n fun _ => 0)) w) (H : Ow w0 w l) (ho : o.op = .alloc t)
    (h : ∀ w' g, Ow w0 w' ((g, Blk t k n fun _ => 0) :: l) → Below w.heap.size w w' → K (a.put (some dd) (.pointer (some ⟨g, 0, none⟩))) w') : o.wp P a w K Q := by
  unfold Oper.wp execOp
  simp only [ho, Instr.alloc, Sem.run_bind, hz, Result.andThen_ok, newVar, Value.cells]
  simp [go_sem]
  show K (a.put o.dst _) _
  rw [hd]
  exact h _ _ (H.alloc _) (below_alloc _ _)
/-- A slice of one byte is made. -/
theorem own_wp_byte (dd : Tmp) (hd : o.dst = some dd) {v : Nat} (hv : v < 256) (H : Ow w0 w l) (ho : o.op = .buildSlice 48 1 #[(0, .const (.int .u8 (v : Int)))])
    (h : ∀ w' g, Ow w0 w' ((g, .cells #[.int .u8 (v : Int)] 5) :: l) → Sb w' w'.heap.size (some ⟨g, 0, none⟩) 1 1 v → Below w.heap.size w w' → K (a.put (some dd) (.slice (some ⟨g, 0, none⟩) 1 1)) w') : o.wp Tryd.prog a w K Q := by
  obtain ⟨i, hi, hz, hs, _⟩ := info_u8
  refine Go.wp_buildSlice 48 5 1 _ ho #[.int .u8 (v : Int)] i _ Tryd.underlying48 hi hz (by rw [hs]; decide) (by rw [hs]; decide) (by rw [hs]; simp [Instr.fill, Act.eval, Array.range, Value.cells]; exact Array.ext (by simp) (fun j h1 h2 => by obtain rfl : j = 0 := (by simpa using h2); simp)) ?_
  rw [hd]
  refine h _ _ (H.alloc _) ⟨⟨Nat.le_refl _, (fun e => by cases e), fun ad e _ => ⟨w.heap.size, 0, (Option.some.inj e).symm, by simp, fun j hj => ?_⟩⟩, hv⟩ (below_alloc _ _)
  obtain rfl : j = 0 := by omega
  have : U (bt v 0) = .int .u8 (v : Int) := congrArg (Value.int .u8) (by
    show ((bt v 0).toNat : Int) = _
    rw [bt_nat, Nat.mul_zero, Nat.pow_zero, Nat.div_one, Nat.mod_eq_of_lt hv])
  rw [this]
  simp
end
theorem perm_front {α : Type} : ∀ (l : List α) (i : Nat) (x : α), l[i]? = some x → (x :: l.eraseIdx i).Perm l
  | [], i, x, h => by cases i <;> cases h
  | y :: l, 0, x, h => by
    obtain rfl := Option.some.inj (show some y = some x from h)
    exact List.Perm.refl _
  | y :: l, i + 1, x, h => (List.Perm.swap y x (l.eraseIdx i)).trans ((perm_front l i x h).cons y)
/-- A block is left out of the list; one comes first. -/
theorem Ow.erase {w W : World} {l : List (Nat × Obj)} (h : Ow w W l) (i : Nat) : Ow w W (l.eraseIdx i) :=
  ⟨h.bel, fun x hx => h.has x ((List.eraseIdx_sublist l i).subset hx), fun x hx => h.new x ((List.eraseIdx_sublist l i).subset hx), h.apart.sublist (List.eraseIdx_sublist l i)⟩
theorem Ow.front {w W : World} {l : List (Nat × Obj)} (h : Ow w W l) (i : Nat) {x : Nat × Obj} (hi : l[i]? = some x) : Ow w W (x :: l.eraseIdx i) :=
  ⟨h.bel, fun y hy => h.has y ((perm_front l i x hi).subset hy), fun y hy => h.new y ((perm_front l i x hi).subset hy), ((perm_front l i x hi).pairwise_iff fun h => h.symm).2 h.apart⟩
end Go.Proofs.YtieoapcakdaelaaDoor
