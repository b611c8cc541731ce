/-
  The contracts of field.wrap, Add, Sub, Neg.
-/
import Derived.Test.YtjjdhbmlinjhjaaDoorFdMath
namespace Go.Proofs.YtjjdhbmlinjhjaaDoor
open Go.RowKit

/-- An element of these limbs. -/
abbrev EV (f : Nat → Nat) : Value := .agg (AZ .u64 8 (NZ f))
theorem AZ_eight (f : Nat → Int) : AZ .u64 8 f = #[.int .u64 (f 0), .int .u64 (f 1), .int .u64 (f 2), .int .u64 (f 3), .int .u64 (f 4), .int .u64 (f 5), .int .u64 (f 6), .int .u64 (f 7)] := by
  unfold AZ
  rfl
theorem built_E (f : Nat → Int) (w : World) : (Instr.build 27 #[(0, .agg (AZ .u64 8 f))]).run Tryd.prog w = .ok (.agg (AZ .u64 8 f)) w := by
  rw [AZ_eight]
  go_simp
theorem built_E0 (w : World) : (Instr.build 27 #[]).run Tryd.prog w = .ok (.agg (AZ .u64 8 (NZ fun _ => 0))) w := by
  rw [AZ_eight]
  go_simp
  simp [NZ]
section
variable {ops : Array Oper} {rest : List Oper} {o : Oper} {a : Act} {w : World} {Q : Exit → Act → World → Prop}
theorem lay_build_E (hgd : o.guard = none) {x : Operand} (ho : o.op = .build 27 #[(0, x)]) {f : Nat → Int} (hx : a.eval x = .agg (AZ .u64 8 f))
    (k : ∀ K : Act → World → Prop, (∀ a w, wpList Tryd.prog ops Q rest a w → K a w) → K (a.put o.dst (.agg (AZ .u64 8 f))) w) : wpList Tryd.prog ops Q (o :: rest) a w :=
  wpList_plain hgd fun K hK => by
    unfold Oper.wp execOp
    simp only [ho, List.map_toArray, List.map_cons, List.map_nil, hx, Sem.run_bind, built_E, Result.andThen_ok]
    exact k K hK
theorem lay_build_E0 (hgd : o.guard = none) (ho : o.op = .build 27 #[])
    (k : ∀ K : Act → World → Prop, (∀ a w, wpList Tryd.prog ops Q rest a w → K a w) → K (a.put o.dst (.agg (AZ .u64 8 (NZ fun _ => 0)))) w) : wpList Tryd.prog ops Q (o :: rest) a w :=
  wpList_plain hgd fun K hK => by
    unfold Oper.wp execOp
    simp only [ho, Array.map_empty, Sem.run_bind, built_E0, Result.andThen_ok]
    exact k K hK
end
theorem updZ_wrap (l : Nat → Nat) (o : Nat) : updZ (updZ (NZ l) 0 ((l 0 + o : Nat) : Int)) 4 ((l 4 + o : Nat) : Int) = NZ (wrapF l o) := by
  funext i
  unfold updZ NZ wrapF
  by_cases h4 : i = 4
  · subst h4; rfl
  · rw [if_neg h4]
    by_cases h0 : i = 0
    · subst h0; rfl
    · rw [if_neg h0, if_neg h0, if_neg h4]
set_option maxRecDepth 8000 in
set_option maxHeartbeats 1000000 in
theorem wrap_any (l : Nat → Nat) (o : Nat) (w : World) (h0 : l 0 + o < 18446744073709551616) (h4 : l 4 + o < 18446744073709551616) :
    Calls Tryd.prog 49 #[.agg (AZ .u64 8 (NZ l)), .int .u64 (o : Int)] w fun e w' => e = .returned (EV (wrapF l o)) ∧ Below w.heap.size w w' := by
  have HU := Lib.hid (updZ_wrap l o)
  obtain ⟨x, hx⟩ : ∃ x, l 0 = x := ⟨_, rfl⟩
  obtain ⟨y, hy⟩ : ∃ y, l 4 = y := ⟨_, rfl⟩
  have n0 : NZ l 0 = (x : Int) := by rw [← hx]; rfl
  have n4 : NZ l 4 = (y : Int) := by rw [← hy]; rfl
  have n4' : updZ (NZ l) 0 ((x + o : Nat) : Int) 4 = (y : Int) := n4
  rw [hx] at h0 HU
  rw [hy] at h4 HU
  obtain ⟨s, hs⟩ : ∃ s, x + o = s := ⟨_, rfl⟩
  obtain ⟨t, ht⟩ : ∃ t, y + o = t := ⟨_, rfl⟩
  have e1 : (x : Int) + (o : Int) = (s : Int) := by omega
  have e2 : (y : Int) + (o : Int) = (t : Int) := by omega
  have f1 : IntKind.u64.wrap (s : Int) = (s : Int) := by rw [IntKind.wrap_u64]; omega
  have f2 : IntKind.u64.wrap (t : Int) = (t : Int) := by rw [IntKind.wrap_u64]; omega
  rw [hs] at n4' HU
  rw [ht] at HU
  clear hx hy hs ht h0 h4
  have H := Lib.hid (Ow.start w)
  go_enter Tryd.func49, Tryd.ntmps49
  go_wp2_with (first
    | ((fail_if_success have := g1); (with_reducible apply own_box H); (case hgd => exact rfl); (case ho => exact rfl); (case hx => exact rfl); intro w1 g1 H' _ _; replace H := H'; clear H'; go_simp)
    | ((fail_if_success have := g2); (with_reducible apply own_alloc nilE H); (case hgd => exact rfl); (case ho => exact rfl); intro w2 g2 H' _ _; replace H := H'; clear H'; go_simp)
    | ((with_reducible apply own_get oneW H); (case hgd => exact rfl); (case ho => exact rfl); (case hx => exact rfl); (case hi => first | exact at0 | exact at1 | exact at2 | exact at3 | exact at4 | exact at5 | exact at6); (case hj => omega); intro _ _; go_simp)
    | ((with_reducible apply own_put oneW H); (case hgd => exact rfl); (case ho => exact rfl); (case hx => exact rfl); (case hy => exact rfl); (case hi => first | exact at0 | exact at1 | exact at2 | exact at3 | exact at4 | exact at5 | exact at6); (case hj => omega); intro ws H' _ _; replace H := H'; clear H'; simp only [List.set_cons_zero, List.set_cons_succ] at H; go_simp)
    | ((with_reducible apply own_load rowL H); (case hgd => exact rfl); (case ho => exact rfl); (case hx => exact rfl); (case hi => first | exact at0 | exact at1 | exact at2 | exact at3 | exact at4 | exact at5 | exact at6); intro _ _; go_simp)
    | ((with_reducible apply lay_build_E); (case hgd => exact rfl); (case ho => exact rfl); (case hx => exact rfl); intro _ _; go_simp)
    | ((with_reducible apply own_store rowE H); (case hgd => exact rfl); (case ho => exact rfl); (case hx => exact rfl); (case hy => exact rfl); (case hi => first | exact at0 | exact at1 | exact at2 | exact at3 | exact at4 | exact at5 | exact at6); intro ws H' _ _; replace H := H'; clear H'; simp only [List.set_cons_zero] at H; go_simp))
  rw [HU.out] at H
  exact bodyPost_ret (own_result 0 rowE rfl _ H rfl rfl) rfl ⟨rfl, H.out.bel⟩
end Go.Proofs.YtjjdhbmlinjhjaaDoor
