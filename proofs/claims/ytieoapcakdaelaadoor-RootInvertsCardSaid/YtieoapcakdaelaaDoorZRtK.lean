/-
  field's functions and the reference's, said of the field of p elements. No statement is proved here: lemmas for the walks.
-/
import Derived.Test.YtieoapcakdaelaaDoorBuE
import Derived.Test.YtieoapcakdaelaaDoorBuP
namespace Go.Proofs.YtieoapcakdaelaaDoor
open Go.RowKit

instance nz_pN : NeZero pN := ⟨by decide⟩
/-- The field of p elements. -/
abbrev K := Fin pN
theorem prime_pN : prime pN := prime_726838724295606890549323807888004534353641360687318060281490199180612328166730772686396383698676545930088884461843637361053498018365439
/-- p is 3 more than 4 times this. -/
def eC : Nat := (pN - 3) / 4
theorem pN_c : pN = 4 * eC + 3 := by decide +kernel
theorem pN_two : 2 < pN := by decide +kernel
theorem pN_odd : pN % 2 = 1 := by decide +kernel
theorem eC_ne : eC ≠ 0 := by decide +kernel
/-- Limbs that are this element. -/
def EK (f : Nat → Nat) (a : K) : Prop := Val f a.val
theorem EK.lim {f : Nat → Nat} {a : K} (h : EK f a) : Lim f := h.1
/-- A number as an element. -/
def ofZ (n : Int) : K := ⟨(n % pZ).toNat, by
  have h1 := Int.emod_lt_of_pos n (show (0 : Int) < pZ by decide)
  have h2 := Int.emod_nonneg n (show pZ ≠ 0 by decide)
  rw [pZ_eq] at h1 h2 ⊢
  omega⟩
theorem ofZ_one : ofZ 1 = 1 := by decide +kernel
theorem ofZ_neg : ofZ (-1) = -1 := by decide +kernel
theorem EK.eq {f : Nat → Nat} {a b : K} (h : EK f a) (e : a = b) : EK f b := e ▸ h
section
variable {f g : Nat → Nat} {a b : K}
theorem add_k (w : World) (hf : EK f a) (hg : EK g b) :
    Calls Tryd.prog 16 #[EV f, EV g] w fun e w' => ∃ h, e = .returned (EV h) ∧ EK h (a + b) ∧ Below w.heap.size w w' :=
  (add_v w hf hg).mono fun _ _ ⟨h, he, hv, hb⟩ => ⟨h, he, by unfold EK; rw [Fin.val_add]; exact hv, hb⟩
theorem sub_k (w : World) (hT : Tp w) (hf : EK f a) (hg : EK g b) :
    Calls Tryd.prog 18 #[EV f, EV g] w fun e w' => ∃ h, e = .returned (EV h) ∧ EK h (a - b) ∧ Below w.heap.size w w' :=
  (sub_v w hT hf hg).mono fun _ _ ⟨h, he, hv, hb⟩ => ⟨h, he, by unfold EK; rw [Fin.sub_def]; rw [Nat.add_comm]; exact hv, hb⟩
theorem neg_k (w : World) (hT : Tp w) (hf : EK f a) :
    Calls Tryd.prog 23 #[EV f] w fun e w' => ∃ h, e = .returned (EV h) ∧ EK h (-a) ∧ Below w.heap.size w w' :=
  (neg_v w hT hf).mono fun _ _ ⟨h, he, hv, hb⟩ => ⟨h, he, hv, hb⟩
theorem mul_k (w : World) (hf : EK f a) (hg : EK g b) :
    Calls Tryd.prog 20 #[EV f, EV g] w fun e w' => ∃ h, e = .returned (EV h) ∧ EK h (a * b) ∧ Below w.heap.size w w' :=
  (mul_v w hf hg).mono fun _ _ ⟨h, he, hv, hb⟩ => ⟨h, he, by unfold EK; rw [Fin.val_mul]; exact hv, hb⟩
theorem square_k (w : World) (hf : EK f a) :
    Calls Tryd.prog 22 #[EV f] w fun e w' => ∃ h, e = .returned (EV h) ∧ EK h (a * a) ∧ Below w.heap.size w w' :=
  (square_v w hf).mono fun _ _ ⟨h, he, hv, hb⟩ => ⟨h, he, by unfold EK; rw [Fin.val_mul]; exact hv, hb⟩
theorem int_k (n : Int) (w : World) (hT : Tp w) (h1 : -9223372036854775808 ≤ n) (h2 : n ≤ 9223372036854775807) :
    Calls Tryd.prog 43 #[.int .i64 n] w fun e w' => ∃ h, e = .returned (EV h) ∧ EK h (ofZ n) ∧ Below w.heap.size w w' := int_v n w hT h1 h2
theorem equal_k (w : World) (hT : Tp w) (hf : EK f a) (hg : EK g b) :
    Calls Tryd.prog 42 #[EV f, EV g] w fun e w' => e = .returned (.bool (decide (a = b))) ∧ Below w.heap.size w w' :=
  (equal_v w hT hf hg).mono fun _ _ ⟨he, hb⟩ => ⟨by rw [he, decide_eq_decide.2 (Fin.ext_iff (a := a) (b := b)).symm], hb⟩
theorem zero_k (w : World) (hf : EK f a) :
    Calls Tryd.prog 39 #[EV f] w fun e w' => e = .returned (.bool (decide (a = 0))) ∧ Below w.heap.size w w' :=
  (zero_v w hf).mono fun _ _ ⟨he, hb⟩ => ⟨by rw [he, decide_eq_decide.2 (fp_val_zero (a := a)).symm], hb⟩
theorem pick_k {n : Int} (hf : EK f a) (hg : EK g b) : EK (pickF n f g) (if n % 2 = 0 then a else b) := by
  unfold pickF
  split
  · exact hf
  · exact hg
theorem zero_ek : EK (fun _ => 0) 0 := zero_val
end
section
variable (a b : K) (w : World)
theorem refMul_k : Calls Tryd.prog 21 #[FV a.val, FV b.val] w fun e w' => e = .returned (FV (a * b).val) ∧ Below w.heap.size w w' := by
  rw [Fin.val_mul]
  exact refMul_any _ _ w a.isLt b.isLt
theorem refNeg_k : Calls Tryd.prog 24 #[FV a.val] w fun e w' => e = .returned (FV (-a).val) ∧ Below w.heap.size w w' := refNeg_any _ w a.isLt
theorem refSame_k : Calls Tryd.prog 77 #[FV a.val, FV b.val] w fun e w' => e = .returned (.bool (decide (a = b))) ∧ Below w.heap.size w w' :=
  (same_v _ _ w a.isLt b.isLt).mono fun _ _ ⟨he, hb⟩ => ⟨by rw [he, decide_eq_decide.2 (Fin.ext_iff (a := a) (b := b)).symm], hb⟩
theorem refInt_k (n : Int) (h1 : -9223372036854775808 ≤ n) (h2 : n ≤ 9223372036854775807) :
    Calls Tryd.prog 26 #[.int .i64 n] w fun e w' => e = .returned (FV (ofZ n).val) ∧ Below w.heap.size w w' := refInt_any n w h1 h2
theorem eqZ_k : eqZ 16 (dF a.val) (dF b.val) = decide (a = b) := by rw [eqZ_dF a.isLt b.isLt, decide_eq_decide.2 (Fin.ext_iff (a := a) (b := b)).symm]
theorem is_k {f : Nat → Nat} {a : K} (hf : EK f a) : Calls Tryd.prog 27 #[EV f, FV b.val] w fun e w' => e = .returned (.bool (decide (a = b))) ∧ Below w.heap.size w w' :=
  (is_any _ w hf b.isLt).mono fun _ _ ⟨he, hb⟩ => ⟨by rw [he, decide_eq_decide.2 (Fin.ext_iff (a := a) (b := b)).symm], hb⟩
end
/-- What Made and Plain make of a Raw. -/
theorem raw_k (u : Nat → BitVec 8) : ∃ (f : Nat → Nat) (a : K), (∀ w, Calls Tryd.prog 12 #[.agg (AZ .u8 56 (UB u))] w fun e w' => e = .returned (.tuple #[EV f, .bool true]) ∧ Below w.heap.size w w') ∧
    (∀ w, Calls Tryd.prog 14 #[.agg (AZ .u8 56 (UB u))] w fun e w' => e = .returned (FV a.val) ∧ Below w.heap.size w w') ∧ EK f a :=
  ⟨_, ⟨_, Nat.mod_lt _ pN_pos⟩, made_any u, plain_any u, of_v u⟩
theorem at7 {α : Type} {a b c d e f g x : α} {l : List α} : (a :: b :: c :: d :: e :: f :: g :: x :: l)[7]? = some x := rfl
theorem at8 {α : Type} {a b c d e f g h x : α} {l : List α} : (a :: b :: c :: d :: e :: f :: g :: h :: x :: l)[8]? = some x := rfl
theorem at9 {α : Type} {a b c d e f g h i x : α} {l : List α} : (a :: b :: c :: d :: e :: f :: g :: h :: i :: x :: l)[9]? = some x := rfl
theorem set_at {α : Type} {l : List α} {i : Nat} {x y : α} (h : l[i]? = some y) : (l.set i x)[i]? = some x := by
  have hi : i < l.length := by
    rcases Nat.lt_or_ge i l.length with h' | h'
    · exact h'
    · rw [List.getElem?_eq_none h'] at h; cases h
  rw [List.getElem?_set, if_pos rfl, if_pos hi]
section
variable {P : Program} {o : Oper} {a : Act} {w w0 : World} {l : List (Nat × Obj)} {K : Act → World → Prop} {Q : Exit → Act → World → Prop} {t ty : TypeId} {k : IntKind} {n : Nat}
/-- A whole row is loaded, in a region that draws its order. -/
theorem own_wp_load (dd : Tmp) (hd : o.dst = some dd) (i : Nat) (hT : IsRow P ty n) (H : Ow w0 w l) {x : Operand} (ho : o.op = .load ty x) {g : Nat} (hx : a.eval x = .pointer (some ⟨g, 0, none⟩)) {f : Nat → Int}
    (hi : l[i]? = some (g, Blk t k n f)) (h : K (a.put (some dd) (.agg (AZ k n f))) w) : o.wp P a w K Q := by
  unfold Oper.wp execOp
  simp only [ho, hx, Sem.run_bind, run_load_row hT (H.row i hi), Result.andThen_ok]
  show K (a.put o.dst _) _
  rw [hd]
  exact h
end
end Go.Proofs.YtieoapcakdaelaaDoor
