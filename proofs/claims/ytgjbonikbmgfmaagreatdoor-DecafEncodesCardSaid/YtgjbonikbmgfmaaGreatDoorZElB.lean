/- Lemmas; no statement is proved here. -/
import Derived.Test.YtgjbonikbmgfmaaGreatDoorBuX
namespace Go.Proofs.YtgjbonikbmgfmaaGreatDoor
open Go.RowKit
section
variable {P : Program} {ops : Array Oper} {rest : List Oper} {o : Oper} {a : Act} {w w0 : World} {l : List (Nat × Obj)} {Q : Exit → Act → World → Prop} {t ty : TypeId} {u v : Value} {C : Array Value}
theorem z6f {i j : Nat} (hT : IsRow P ty 2) (H : Hid (Ow w0 w l)) (hgd : o.guard = none) {x : Operand} (ho : o.op = .load ty x) {g : Nat} (hx : a.eval x = .pointer (some ⟨g, j, none⟩))
  (hi : l[i]? = some (g, Cs t C)) (h0 : C[j]? = some u) (h1 : C[j + 1]? = some v) (h : ∀ K : Act → World → Prop, (∀ a w, wpList P ops Q rest a w → K a w) → K (a.put o.dst (.agg #[u, v])) w) : wpList P ops Q (o :: rest) a w :=
 wpList_plain hgd fun K hK => by
  obtain ⟨d, hd, hd'⟩ := hT.under
  have hr := H.out.row i hi
  have hrun := run_loadAt_mid (P := P) w g j ty [u, v] d (fun q y hq => by
   rcases (by omega : q = 0 ∨ q = 1 ∨ 2 ≤ q) with rfl | rfl | h2
   ·cases hq
    exact y18 hr h0
   ·cases hq
    exact y18 hr h1
   ·rw [List.getElem?_eq_none (by simpa using h2)] at hq
    cases hq) hd (by cases d <;> simp_all) hT.size
  unfold Oper.wp execOp
  simp only [ho, hx, Sem.run_bind, hrun, Result.andThen_ok]
  exact h K hK
end
end Go.Proofs.YtgjbonikbmgfmaaGreatDoor
