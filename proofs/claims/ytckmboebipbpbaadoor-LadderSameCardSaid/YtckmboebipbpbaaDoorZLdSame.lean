/-
  What LadderSame wants: bytes read and stored in a row, in a region that draws its order; a secret's first and last byte turned. No statement is proved here: lemmas for the walks.
-/
import Derived.Test.YtckmboebipbpbaaDoorZLdAwake
import Derived.Test.YtckmboebipbpbaaDoorZLdRows
import Derived.Test.YtckmboebipbpbaaDoorZLdX
import Derived.Test.YtckmboebipbpbaaDoorBuK
namespace Go.Proofs.YtckmboebipbpbaaDoor
open Go.RowKit

section
variable {o : Oper} {a : Act} {w w0 : World} {l : List (Nat × Obj)} {K : Act → World → Prop} {Q : Exit → Act → World → Prop}
theorem own_wp_getb (dd : Tmp) (hd : o.dst = some dd) (i : Nat) (H : Ow w0 w l) {x : Operand} (ho : o.op = .load 5 x) {g j n : Nat} (hx : a.eval x = .pointer (some ⟨g, j, none⟩)) {f : Nat → BitVec 8} {v : Value}
    (hi : l[i]? = some (g, YB n f)) (hj : j < n) (hv : U (f j) = v) (h : K (a.put (some dd) v) w) : o.wp Tryd.prog a w K Q := by
  unfold Oper.wp execOp
  simp only [ho, hx, Sem.run_bind, run_get oneB (H.row i hi) hj, Result.andThen_ok]
  show K (a.put o.dst _) _
  rw [hd]
  rw [← hv] at h
  exact h
theorem own_wp_putb (i : Nat) (H : Ow w0 w l) {x y : Operand} (ho : o.op = .store 5 x y) {g j n : Nat} (hx : a.eval x = .pointer (some ⟨g, j, none⟩)) {v : BitVec 8} {f F : Nat → BitVec 8} (hy : a.eval y = U v)
    (hi : l[i]? = some (g, YB n f)) (hj : j < n) (hF : upd8 f j v = F) (h : ∀ w', Ow w0 w' (l.set i (g, YB n F)) → K (a.put o.dst undef) w') : o.wp Tryd.prog a w K Q := by
  unfold Oper.wp execOp
  simp only [ho, hx, hy, Sem.run_bind, run_put oneB (H.row i hi) hj (U8 v), Result.andThen_ok]
  rw [UB_upd, hF]
  exact h _ (H.setRow i hi _)
end
/-- An element of raw bytes, by their number. -/
theorem raw_x (f : Nat → BitVec 8) {y : Nat} (he : ∀ i, i < 56 → bt y i = f i) (hy : y < 2 ^ (8 * 56)) : ∃ g : Nat → Nat, (∀ w, Calls Tryd.prog 10 #[.agg (AZ .u8 56 (UB f))] w fun e w' => e = .returned (.tuple #[EV g, .bool true]) ∧ Below w.heap.size w w') ∧ EK g (cN pN y) := by
  refine ⟨_, made_any f, ?_⟩
  have h := of_v f
  have e : nB f 56 = y := by
    rw [nB_congr 56 (g := bt y) (fun i hi => (he i hi).symm), nB_bt, Nat.mod_eq_of_lt hy]
  rw [e] at h
  exact h
theorem sb_zero {W : World} {B : Nat} {a : Option Addr} {c x : Nat} (h : Sb W B a 0 c x) (W' : World) : Sb W' W'.heap.size a 0 c x :=
  ⟨⟨Nat.zero_le _, h.sl.nil, fun _ _ h0 => absurd h0 (by omega)⟩, h.fits⟩
/-- The first byte, its lowest bits turned; the last one, its highest bit turned. -/
def tn0 (a : BitVec 8) : BitVec 8 := BitVec.ofNat 8 (4 * (a.toNat / 4) + 3 - a.toNat % 4)
def tn55 (a : BitVec 8) : BitVec 8 := if a.toNat = 127 then 255 else BitVec.ofNat 8 ((a.toNat + 128) % 256)
theorem tn0_same (a : BitVec 8) : tn0 a &&& ~~~3 = a &&& ~~~3 := by
  revert a
  decide +kernel
theorem tn55_same (a : BitVec 8) : tn55 a ||| 128 = a ||| 128 := by
  revert a
  decide +kernel
/-- The secret number so turned is clamped to the same. -/
theorem turned_clN {x x' : Nat} (h : ∀ i, i < 56 → bt x' i = upd8 (upd8 (bt x) 0 (tn0 (bt x 0))) 55 (tn55 (bt x 55)) i) : clN x' = clN x := by
  refine clN_same (fun i hi h0 h1 => ?_) ?_ ?_
  · rw [h i hi]
    unfold upd8
    rw [if_neg h1, if_neg h0]
  · rw [h 0 (by omega)]
    exact tn0_same _
  · rw [h 55 (by omega)]
    exact tn55_same _
end Go.Proofs.YtckmboebipbpbaaDoor
