/-
  field's functions and the reference's, said of the field of p elements. No statement is proved here: lemmas for the walks.
-/
import Derived.Test.YtgcdahcmfniceaaDoorBuE
import Derived.Test.YtgcdahcmfniceaaDoorBuP
namespace Go.Proofs.YtgcdahcmfniceaaDoor
open Go.RowKit

instance nz_pN : NeZero pN := ⟨by decide⟩
/-- The field of p elements. -/
abbrev K := Fin pN
theorem prime_pN : prime pN := prime_726838724295606890549323807888004534353641360687318060281490199180612328166730772686396383698676545930088884461843637361053498018365439
/-- p is 3 more than 4 times this. -/
def eC : Nat := (pN - 3) / 4
theorem pN_c : pN = 4 * eC + 3 := by decide +kernel
theorem pN_two : 2 < pN := by decide +kernel
theorem pN_odd : pN % 2 = 1 := by decide +kernel
theorem eC_ne : eC ≠ 0 := by decide +kernel
/-- Limbs that are this element. -/
def EK (f : Nat → Nat) (a : K) : Prop := Val f a.val
theorem EK.lim {f : Nat → Nat} {a : K} (h : EK f a) : Lim f := h.1
/-- A number as an element. -/
def ofZ (n : Int) : K := ⟨(n % pZ).toNat, by
  have h1 := Int.emod_lt_of_pos n (show (0 : Int) < pZ by decide)
  have h2 := Int.emod_nonneg n (show pZ ≠ 0 by decide)
  rw [pZ_eq] at h1 h2 ⊢
  omega⟩
theorem ofZ_one : ofZ 1 = 1 := by decide +kernel
theorem ofZ_neg : ofZ (-1) = -1 := by decide +kernel
theorem EK.eq {f : Nat → Nat} {a b : K} (h : EK f a) (e : a = b) : EK f b := e ▸ h
section
variable {f g : Nat → Nat} {a b : K}



theorem sub_k (w : World) (hT : Tp w) (hf : EK f a) (hg : EK g b) :
    Calls Tryd.prog 21 #[EV f, EV g] w fun e w' => ∃ h, e = .returned (EV h) ∧ EK h (a - b) ∧ Below w.heap.size w w' :=
  (sub_v w hT hf hg).mono fun _ _ ⟨h, he, hv, hb⟩ => ⟨h, he, by unfold EK; rw [Fin.sub_def]; rw [Nat.add_comm]; exact hv, hb⟩
theorem neg_k (w : World) (hT : Tp w) (hf : EK f a) :
    Calls Tryd.prog 26 #[EV f] w fun e w' => ∃ h, e = .returned (EV h) ∧ EK h (-a) ∧ Below w.heap.size w w' :=
  (neg_v w hT hf).mono fun _ _ ⟨h, he, hv, hb⟩ => ⟨h, he, hv, hb⟩
theorem mul_k (w : World) (hf : EK f a) (hg : EK g b) :
    Calls Tryd.prog 6 #[EV f, EV g] w fun e w' => ∃ h, e = .returned (EV h) ∧ EK h (a * b) ∧ Below w.heap.size w w' :=
  (mul_v w hf hg).mono fun _ _ ⟨h, he, hv, hb⟩ => ⟨h, he, by unfold EK; rw [Fin.val_mul]; exact hv, hb⟩
theorem square_k (w : World) (hf : EK f a) :
    Calls Tryd.prog 10 #[EV f] w fun e w' => ∃ h, e = .returned (EV h) ∧ EK h (a * a) ∧ Below w.heap.size w w' :=
  (square_v w hf).mono fun _ _ ⟨h, he, hv, hb⟩ => ⟨h, he, by unfold EK; rw [Fin.val_mul]; exact hv, hb⟩
theorem int_k (n : Int) (w : World) (hT : Tp w) (h1 : -9223372036854775808 ≤ n) (h2 : n ≤ 9223372036854775807) :
    Calls Tryd.prog 22 #[.int .i64 n] w fun e w' => ∃ h, e = .returned (EV h) ∧ EK h (ofZ n) ∧ Below w.heap.size w w' := int_v n w hT h1 h2
theorem equal_k (w : World) (hT : Tp w) (hf : EK f a) (hg : EK g b) :
    Calls Tryd.prog 8 #[EV f, EV g] w fun e w' => e = .returned (.bool (decide (a = b))) ∧ Below w.heap.size w w' :=
  (equal_v w hT hf hg).mono fun _ _ ⟨he, hb⟩ => ⟨by rw [he, decide_eq_decide.2 (Fin.ext_iff (a := a) (b := b)).symm], hb⟩
theorem zero_k (w : World) (hf : EK f a) :
    Calls Tryd.prog 7 #[EV f] w fun e w' => e = .returned (.bool (decide (a = 0))) ∧ Below w.heap.size w w' :=
  (zero_v w hf).mono fun _ _ ⟨he, hb⟩ => ⟨by rw [he, decide_eq_decide.2 (fp_val_zero (a := a)).symm], hb⟩
theorem pick_k {n : Int} (hf : EK f a) (hg : EK g b) : EK (pickF n f g) (if n % 2 = 0 then a else b) := by
  unfold pickF
  split
  · exact hf
  · exact hg
theorem zero_ek : EK (fun _ => 0) 0 := zero_val
end
section
variable (a b : K) (w : World)








theorem eqZ_k : eqZ 16 (dF a.val) (dF b.val) = decide (a = b) := by rw [eqZ_dF a.isLt b.isLt, decide_eq_decide.2 (Fin.ext_iff (a := a) (b := b)).symm]


end




end Go.Proofs.YtgcdahcmfniceaaDoor
