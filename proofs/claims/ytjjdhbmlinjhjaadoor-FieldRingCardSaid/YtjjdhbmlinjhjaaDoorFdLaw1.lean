/-
  What all the laws of layer 4 want.
-/
import Derived.Test.YtjjdhbmlinjhjaaDoorFdLaw0
namespace Go.Proofs.YtjjdhbmlinjhjaaDoor
open Go.RowKit

theorem is_true {f : Nat → Nat} {x y : Nat} (w : World) (hf : Val f x) (hy : y < pN) (h : x = y) :
    Calls Tryd.prog 18 #[EV f, FV y] w fun e w' => e = .returned (.bool true) ∧ Below w.heap.size w w' :=
  (is_any y w hf hy).mono fun e w' ⟨he, hb⟩ => ⟨by rw [he, decide_eq_true h], hb⟩
theorem equal_true {f g : Nat → Nat} {x y : Nat} (w : World) (hT : Tp w) (hf : Val f x) (hg : Val g y) (h : x = y) :
    Calls Tryd.prog 37 #[EV f, EV g] w fun e w' => e = .returned (.bool true) ∧ Below w.heap.size w w' :=
  (equal_v w hT hf hg).mono fun e w' ⟨he, hb⟩ => ⟨by rw [he, decide_eq_true h], hb⟩
theorem zero_true {f : Nat → Nat} {x : Nat} (w : World) (hf : Val f x) (h : x = 0) :
    Calls Tryd.prog 17 #[EV f] w fun e w' => e = .returned (.bool true) ∧ Below w.heap.size w w' :=
  (zero_v w hf).mono fun e w' ⟨he, hb⟩ => ⟨by rw [he, decide_eq_true h], hb⟩
/-- What Made and Plain make of a Raw. -/
theorem raw_facts (a : Nat → BitVec 8) : ∃ f x, (∀ w, Calls Tryd.prog 22 #[.agg (AZ .u8 56 (UB a))] w fun e w' => e = .returned (.tuple #[EV f, .bool true]) ∧ Below w.heap.size w w') ∧
    (∀ w, Calls Tryd.prog 23 #[.agg (AZ .u8 56 (UB a))] w fun e w' => e = .returned (FV x) ∧ Below w.heap.size w w') ∧ Val f x ∧ x < pN ∧ x = nB a 56 % pN :=
  ⟨_, _, made_any a, plain_any a, of_v a, Nat.mod_lt _ pN_pos, rfl⟩
section
variable {P : Program} {md : Region.Mode} {ops : Array Oper} {Q : Exit → Act → World → Prop} {S : World → Prop} {fuel : Nat} {listed : Array Bool} {a : Act} {w : World}
/-- In a region that draws its order: what its guard keeps back is passed over. -/
theorem held_skip (i : Nat) (d : Tmp) {oi : Oper} (hi : ops[i]? = some oi) (hd : oi.dst = some d) (hs : Region.noSelect ops = true) (hf : Region.free md ops listed i = true)
    (hr : (Region.ready md ops listed).contains i = true) (hw : Region.wanted oi (yielded ops a.tmps) = false) (hS : S w)
    (h : wpAnyH P md ops (NoPanic Q) S fuel (listed.setIfInBounds i true) (a.put (some d) undef) w) : wpAnyH P md ops (NoPanic Q) S (fuel + 1) listed a w :=
  wpAnyH_take hi hs hf hr (fun _ _ _ h => h) (.inr ⟨hw, rfl⟩) hS (by rw [hd]; exact h)
end
theorem zero_false {f : Nat → Nat} {x : Nat} (w : World) (hf : Val f x) (h : x ≠ 0) :
    Calls Tryd.prog 17 #[EV f] w fun e w' => e = .returned (.bool false) ∧ Below w.heap.size w w' :=
  (zero_v w hf).mono fun e w' ⟨he, hb⟩ => ⟨by rw [he, decide_eq_false h], hb⟩
section
variable {P : Program} {ops : Array Oper} {rest : List Oper} {o : Oper} {a : Act} {w w0 : World} {l : List (Nat × Obj)} {Q : Exit → Act → World → Prop} {t ty : TypeId} {k : IntKind} {n : Nat}
theorem list_wanted (hw : Region.wanted o (yielded ops a.tmps) = true) (h : ∀ K : Act → World → Prop, (∀ a w, wpList P ops Q rest a w → K a w) → o.wp P a w K Q) : wpList P ops Q (o :: rest) a w :=
  wpList_step fun K hK => by rw [if_pos hw]; exact h K hK
/-- A guarded load that is wanted. -/
theorem own_loadg {i : Nat} (hT : IsRow P ty n) (H : Hid (Ow w0 w l)) (hw : Region.wanted o (yielded ops a.tmps) = true) {x : Operand} (ho : o.op = .load ty x) {g : Nat} (hx : a.eval x = .pointer (some ⟨g, 0, none⟩)) {f : Nat → Int}
    (hi : l[i]? = some (g, Blk t k n f)) (h : ∀ K : Act → World → Prop, (∀ a w, wpList P ops Q rest a w → K a w) → K (a.put o.dst (.agg (AZ k n f))) w) : wpList P ops Q (o :: rest) a w :=
  list_wanted hw fun K hK => by
    unfold Oper.wp execOp
    simp only [ho, hx, Sem.run_bind, run_load_row hT (H.out.row i hi), Result.andThen_ok]
    exact h K hK
end
theorem val_bX {x : Nat} (hx : x < pN) : Val (oF (bX x) 56) x := by
  have h := of_v (bX x)
  rwa [nB_bX, Nat.mod_eq_of_lt (Nat.lt_trans hx pN_256), Nat.mod_eq_of_lt hx] at h
theorem val_bP : Val (oF (bX pN) 56) 0 := by
  have h := of_v (bX pN)
  rwa [nB_bX, Nat.mod_eq_of_lt pN_256, Nat.mod_self] at h
end Go.Proofs.YtjjdhbmlinjhjaaDoor
