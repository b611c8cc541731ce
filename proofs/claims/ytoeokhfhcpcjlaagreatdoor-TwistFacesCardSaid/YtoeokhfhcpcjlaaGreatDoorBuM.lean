/-
 Lemmas for the walks, several texts in one. No statement is proved here.
-/
import Derived.Test.YtoeokhfhcpcjlaaGreatDoorBuX
import Derived.Test.YtoeokhfhcpcjlaaGreatDoorBuN
import Derived.Deep.CutRange
namespace Go.Proofs.YtoeokhfhcpcjlaaGreatDoor
open Go.RowKit
section
variable {ops : Array Oper} {rest : List Oper} {o : Oper} {a : Act} {w w0 : World} {l : List (Nat × Obj)} {Q : Exit → Act → World → Prop}
end
section
variable {o : Oper} {a : Act} {w w0 : World} {l : List (Nat × Obj)} {K : Act → World → Prop} {Q : Exit → Act → World → Prop}
end
theorem az_3 (f : Nat → BitVec 8) : (#[U (f 0), U (f 1), U (f 2)] : Array Value) = AZ .u8 3 (UB f) := by
 apply Array.ext_getElem?
 intro j
 by_cases hj : j < 3
 ·rw [z01 _ _ _ _ hj]
  rcases (by omega : j = 0 ∨ j = 1 ∨ j = 2) with rfl | rfl | rfl <;> rfl
 ·rw [Array.getElem?_eq_none (by simp; omega), Array.getElem?_eq_none (by rw [z0p]; omega)]
section
variable {w w0 : World} {l : List (Nat × Obj)}
end
section
variable {ops : Array Oper} {rest : List Oper} {o : Oper} {a : Act} {w w0 : World} {l : List (Nat × Obj)} {Q : Exit → Act → World → Prop}
theorem lay_b3 {x : Nat} (H : Hid (Ow w0 w l)) (hgd : o.guard = none) {p0 p1 p2 : Operand} (ho : o.op = .buildSlice 22 3 #[(0, p0), (1, p1), (2, p2)]) (h0 : a.eval p0 = U (bt x 0)) (h1 : a.eval p1 = U (bt x 1)) (h2 : a.eval p2 = U (bt x 2))
  (h : ∀ w' g, Hid (Ow w0 w' ((g, YB 3 (bt x)) :: l)) → ∀ K : Act → World → Prop, (∀ a w, wpList Tryz.prog ops Q rest a w → K a w) → K (a.put o.dst (.slice (some ⟨g, 0, none⟩) 3 3)) w') : wpList Tryz.prog ops Q (o :: rest) a w :=
 wpList_plain hgd fun K hK => by
  obtain ⟨i, hi, hz, hs, _⟩ := z4m
  have e := az_3 (bt x)
  refine Go.wp_buildSlice 22 5 3 _ ho #[U (bt x 0), U (bt x 1), U (bt x 2)] i _ Tryz.underlying22 hi hz (by rw [hs]; decide) (by rw [hs]; decide) (by rw [hs]; simp [Instr.fill, h0, h1, h2, Array.range, Value.cells]; exact Array.ext (by simp) (fun j g1 g2 => by rcases (by have : j < 3 := (by simpa using g2); omega : j = 0 ∨ j = 1 ∨ j = 2) with rfl | rfl | rfl <;> simp)) ?_
  rw [e]
  exact h _ _ (Lib.hid (H.out.alloc _)) K hK
end
end Go.Proofs.YtoeokhfhcpcjlaaGreatDoor
