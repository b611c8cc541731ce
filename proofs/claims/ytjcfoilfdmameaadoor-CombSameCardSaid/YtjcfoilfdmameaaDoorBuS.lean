/-
  Lemmas for the walks, several texts in one. No statement is proved here.
-/
import Derived.Test.YtjcfoilfdmameaaDoorBuP
import Derived.Test.YtjcfoilfdmameaaDoorBuN
import Derived.Test.YtjcfoilfdmameaaDoorBuR
/-
  Numbers modulo L, what goes beyond 2^446 coming in again: plain mathematics, no program. No statement is proved here: lemmas for the walks.
-/
namespace Go.Proofs.YtjcfoilfdmameaaDoor

/-- L; 2^446 less L; 2^446; 2^448. -/
def lN : Nat := 181709681073901722637330951972001133588410340171829515070372549795146003961539585716195755291692375963310293709091662304773755859649779
def rN : Nat := 0x8335dc163bb124b65129c96fde933d8d723a70aadc873d6d54a7bb0d
def qN : Nat := 181709681073901722637330951972001133588410340171829515070372549795159822028349480831547762678440891390190630401566544483383650407153664


















instance nz_lN : NeZero lN := ⟨by decide +kernel⟩
/-- What goes beyond comes in again. -/
def fold (x : Nat) : Nat := x % qN + x / qN * rN






















/-- Half of a number modulo an odd one. -/
def hf (x : Nat) : Nat := (x + (if x % 2 = 1 then lN else 0)) / 2











































































end Go.Proofs.YtjcfoilfdmameaaDoor

/-
  The contracts of chicoryref06's digit and L. No statement is proved here: lemmas for the walks.
-/
namespace Go.Proofs.YtjcfoilfdmameaaDoor
open Go.RowKit





def hxd (n : Nat) : Nat := if 97 ≤ n then n - 87 else n - 48




















theorem exec_char {e : Operand → Value} {o : Oper} {x y : Operand} {S : ByteArray} {k : IntKind} {i n : Nat} (ho : o.op = .index 9 x y) (hx : e x = .string S) (hy : e y = .int k (i : Int)) (hs : S[i]? = some (UInt8.ofNat n)) (hn : n < 256) (w : World) :
    (execOp e o).run Tryd.prog w = .ok (.value (.int .u8 (n : Int))) w := by
  have h2 : (UInt8.ofNat n).toNat = n := by rw [UInt8.toNat_ofNat']; exact Nat.mod_eq_of_lt hn
  have h1 : (Instr.index 9 (.string S) (.int k (i : Int))).run Tryd.prog w = .ok (.int .u8 (n : Int)) w := by
    unfold Instr.index
    simp only [asIntOf, Sem.run_bind, Sem.run_pure, Result.andThen_ok, run_underlying Tryd.underlying9 w]
    rw [if_pos (by omega), Int.toNat_natCast, hs]
    show (Sem.run Tryd.prog (pure (Value.int .u8 (((UInt8.ofNat n).toNat : Nat) : Int))) w) = _
    rw [h2]
    rfl
  unfold execOp
  simp only [ho, hx, hy, Sem.run_bind, h1, Result.andThen_ok]
  rfl
section
variable {o : Oper} {a : Act} {w : World} {K : Act → World → Prop} {Q : Exit → Act → World → Prop}



































end
theorem OwnB.drew {w : World} {base : Nat} {v : Value} {n : Nat} {f : Nat → BitVec 8} (h : OwnB w base v n f) : OwnB w.drew base v n f := h
theorem OwnB.made {w w' : World} {base : Nat} {v : Value} {n : Nat} {f : Nat → BitVec 8} (h : OwnB w base v n f) (he : ∃ ob, w' = w.alloc ob) : OwnB w' base v n f := by
  obtain ⟨ob, rfl⟩ := he
  exact h.alloc ob
theorem Below.made {w w' W : World} {B : Nat} (h : Below B W w) (hB : B ≤ w.heap.size) (he : ∃ ob, w' = w.alloc ob) : Below B W w' := by
  obtain ⟨ob, rfl⟩ := he
  exact h.alloc hB ob

















































































































































































end Go.Proofs.YtjcfoilfdmameaaDoor
