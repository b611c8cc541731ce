/-
 Lemmas for the walks, several texts in one. No statement is proved here.
-/
import Derived.Test.YtoeokhfhcpcjlaaGreatDoorBuP
import Derived.Test.YtoeokhfhcpcjlaaGreatDoorBuN
import Derived.Test.YtoeokhfhcpcjlaaGreatDoorBuR
namespace Go.Proofs.YtoeokhfhcpcjlaaGreatDoor
def lN : Nat := 181709681073901722637330951972001133588410340171829515070372549795146003961539585716195755291692375963310293709091662304773755859649779
def rN : Nat := 0x8335dc163bb124b65129c96fde933d8d723a70aadc873d6d54a7bb0d
def qN : Nat := 181709681073901722637330951972001133588410340171829515070372549795159822028349480831547762678440891390190630401566544483383650407153664
instance nz_lN : NeZero lN := ⟨by decide +kernel⟩
def fold (x : Nat) : Nat := x % qN + x / qN * rN
def hf (x : Nat) : Nat := (x + (if x % 2 = 1 then lN else 0)) / 2
open Go.RowKit
def hxd (n : Nat) : Nat := if 97 ≤ n then n - 87 else n - 48
theorem z5r {e : Operand → Value} {o : Oper} {x y : Operand} {S : ByteArray} {k : IntKind} {i n : Nat} (ho : o.op = .index 9 x y) (hx : e x = .string S) (hy : e y = .int k (i : Int)) (hs : S[i]? = some (UInt8.ofNat n)) (hn : n < 256) (w : World) :
  (execOp e o).run Tryz.prog w = .ok (.value (.int .u8 (n : Int))) w := by
 have h2 : (UInt8.ofNat n).toNat = n := by rw [UInt8.toNat_ofNat']; exact Nat.mod_eq_of_lt hn
 have h1 : (Instr.index 9 (.string S) (.int k (i : Int))).run Tryz.prog w = .ok (.int .u8 (n : Int)) w := by
  unfold Instr.index
  simp only [asIntOf, Sem.run_bind, Sem.run_pure, Result.andThen_ok, run_underlying Tryz.underlying9 w]
  rw [if_pos (by omega), Int.toNat_natCast, hs]
  show (Sem.run Tryz.prog (pure (Value.int .u8 (((UInt8.ofNat n).toNat : Nat) : Int))) w) = _
  rw [h2]
  rfl
 unfold execOp
 simp only [ho, hx, hy, Sem.run_bind, h1, Result.andThen_ok]
 rfl
section
variable {o : Oper} {a : Act} {w : World} {K : Act → World → Prop} {Q : Exit → Act → World → Prop}
theorem wp_oneByte (dd : Tmp) (hd : o.dst = some dd) {v : BitVec 8} {x : Operand} (ho : o.op = .buildSlice 22 1 #[(0, x)]) (hx : a.eval x = U v)
  (h : ∀ w' g, w'.cell? ⟨g, 0, none⟩ = some (U v) → (∃ ob, w' = w.alloc ob) → K (a.put (some dd) (.slice (some ⟨g, 0, none⟩) 1 1)) w') : o.wp Tryz.prog a w K Q := by
 obtain ⟨i, hi, hz, hs, _⟩ := z4m
 refine Go.wp_buildSlice 22 5 1 _ ho #[U v] i _ Tryz.underlying22 hi hz (by rw [hs]; decide) (by rw [hs]; decide) (by rw [hs]; simp [Instr.fill, hx, Array.range, Value.cells]; exact Array.ext (by simp) (fun j h1 h2 => by obtain rfl : j = 0 := (by simpa using h2); simp)) ?_
 rw [hd]
 exact h _ _ (by simp) ⟨_, rfl⟩
theorem wp_appendB (dd : Tmp) (hd : o.dst = some dd) {s x : Operand} (ho : o.op = .call { callee := .builtin .append, args := #[s, x], argTypes := #[22, 22] }) {v : Value} (hs : a.eval s = v)
  {gx cx : Nat} (hx : a.eval x = .slice (some ⟨gx, 0, none⟩) 1 cx) {base n : Nat} {f : Nat → BitVec 8} (hc : w.cell? ⟨gx, 0, none⟩ = some (U (f n))) (hown : OwnB w base v n f) (hn : n ≤ 100000) (hbase : base ≤ w.heap.size)
  (h : ∀ v' w', OwnB w' base v' (n + 1) f → Below base w w' → K (a.put (some dd) v') w') : o.wp Tryz.prog a w K Q := by
 obtain ⟨i, hi, hz, hsz, hby⟩ := z4m
 rw [← hd] at h
 refine wp_append_own w s x _ ho base 5 i (.int .u8 0) 1 1 Tryz.underlying22 hi hz hsz hby rfl (by omega) v n _ hs hown
  ⟨gx, 0, none⟩ 1 cx [U (f n)] hx rfl (fun j u hu => ?_) (fun u hu => ?_) (by unfold maxLen; omega) (by omega) hbase ?_
 ·have hj : j = 0 := by
   rcases j with _ | j
   ·rfl
   ·simp at hu
  subst hj
  simp at hu
  rw [Addr.add_mid, Nat.add_zero, hc, ← hu]
 ·simp at hu
  subst hu
  rfl
 ·intro v' w' ho' hgrow _
  refine h v' w' ?_ ((Below.refl _ _).grown hgrow hbase fun k hk => ?_)
  ·unfold OwnB
   rw [List.range_succ, List.map_append]
   exact ho'
  ·obtain ⟨_, hv⟩ := hown
   rcases hv with ⟨rfl, _⟩ | ⟨g, cap, cur, rfl, hg, _⟩
   ·cases hk
   ·have : g = k := by simpa [Value.ownBlock] using hk
    omega
end
theorem OwnB.drew {w : World} {base : Nat} {v : Value} {n : Nat} {f : Nat → BitVec 8} (h : OwnB w base v n f) : OwnB w.drew base v n f := h
theorem OwnB.made {w w' : World} {base : Nat} {v : Value} {n : Nat} {f : Nat → BitVec 8} (h : OwnB w base v n f) (he : ∃ ob, w' = w.alloc ob) : OwnB w' base v n f := by
 obtain ⟨ob, rfl⟩ := he
 exact h.alloc ob
theorem Below.made {w w' W : World} {B : Nat} (h : Below B W w) (hB : B ≤ w.heap.size) (he : ∃ ob, w' = w.alloc ob) : Below B W w' := by
 obtain ⟨ob, rfl⟩ := he
 exact h.alloc hB ob
end Go.Proofs.YtoeokhfhcpcjlaaGreatDoor
