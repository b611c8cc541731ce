/-
  The contracts of field.Select and Swap.
-/
import Derived.Test.YtjjdhbmlinjhjaaDoorFdAdd
import Derived.Laws.BitsLemmas
namespace Go.Proofs.YtjjdhbmlinjhjaaDoor
open Go.RowKit

theorem i64_and1 (n : Int) : bits .and .i64 n 1 = n % 2 := by
  have h127 : (BitVec.ofInt 64 1).toNat = 2 ^ 1 - 1 := by decide
  have key : (BitVec.ofInt 64 n &&& BitVec.ofInt 64 1).toNat = (n % ((2 ^ 64 : Nat) : Int)).toNat % 2 ^ 1 := by
    rw [BitVec.toNat_and, BitVec.toNat_ofInt, h127, Nat.and_two_pow_sub_one_eq_mod]
  show IntKind.i64.wrap ((BitVec.ofInt 64 n &&& BitVec.ofInt 64 1).toNat : Nat) = n % 2
  rw [key, IntKind.wrap_i64]
  omega
section
variable {P : Program} {ops : Array Oper} {rest : List Oper} {o : Oper} {a : Act} {w w0 : World} {l : List (Nat × Obj)} {Q : Exit → Act → World → Prop} {t : TypeId} {k : IntKind}
/-- A variable of one cell. -/
theorem own_var (hz : ∀ w, (zeroValue t).run P w = .ok (.int k 0) w) (H : Hid (Ow w0 w l)) (hgd : o.guard = none) (ho : o.op = .alloc t)
    (h : ∀ w' g, Hid (Ow w0 w' ((g, Blk t k 1 fun _ => 0) :: l)) → ∀ K : Act → World → Prop, (∀ a w, wpList P ops Q rest a w → K a w) → K (a.put o.dst (.pointer (some ⟨g, 0, none⟩))) w') : wpList P ops Q (o :: rest) a w :=
  wpList_plain hgd fun K hK => by
    unfold Oper.wp execOp
    have e : AZ k 1 (fun _ => 0) = #[.int k 0] := by
      rw [← Array.toArray_toList (xs := AZ k 1 fun _ => 0), AZ_single]
    simp only [ho, Instr.alloc, Sem.run_bind, hz, Result.andThen_ok, newVar, Value.cells, ← e]
    simp [go_sem]
    exact h _ _ (Lib.hid (H.out.alloc _)) K hK
end
theorem nilW (w : World) : (zeroValue 24).run Tryd.prog w = .ok (.int .u64 0) w := Tryd.zeroValue24 w
/-- A mask's choice. -/
def choose (m x y : Nat) : Nat := if m = 0 then x else y
set_option maxRecDepth 8000 in
set_option maxHeartbeats 1000000 in
theorem pick1_any (i x y m g g7 : Nat) (w : World) (hi : i < 8) (hc : w.cell? ⟨g, i, none⟩ = some (.int .u64 (y : Int))) (hm : w.cell? ⟨g7, 0, none⟩ = some (.int .u64 (m : Int))) (hx : x < 18446744073709551616) (hy : y < 18446744073709551616) (hmm : m = 0 ∨ m = 18446744073709551615) :
    Calls Tryd.prog 60 #[.int .i64 i, .int .u64 x, .pointer (some ⟨g7, 0, none⟩), .pointer (some ⟨g, 0, none⟩)] w fun e w' => e = .returned (.int .u64 ((choose m x y : Nat) : Int)) ∧ Below w.heap.size w w' := by
  have hz : x ^^^ y < 18446744073709551616 := Nat.xor_lt_two_pow (n := 64) hx hy
  have e1 := u64_xor_nat x y hx hy
  have hc2 : x ^^^ (x ^^^ y) = y := by rw [← Nat.xor_assoc, Nat.xor_self, Nat.zero_xor]
  obtain ⟨z, hzz⟩ : ∃ z, x ^^^ y = z := ⟨_, rfl⟩
  rw [hzz] at hz e1 hc2
  have e2 := u64_and_nat m z (by omega) hz
  obtain ⟨u, hu⟩ : ∃ u, m &&& z = u := ⟨_, rfl⟩
  rw [hu] at e2
  have hu2 : u = choose m 0 z := by
    rcases hmm with h | h
    · rw [← hu, h, Nat.zero_and]; rfl
    · rw [← hu, h, Nat.and_comm, show (18446744073709551615 : Nat) = 2 ^ 64 - 1 from rfl, Nat.and_two_pow_sub_one_eq_mod, Nat.mod_eq_of_lt hz]; rfl
  have ul : u < 18446744073709551616 := by rw [hu2]; unfold choose; split <;> omega
  have e3 := u64_xor_nat x u hx ul
  have hr : x ^^^ u = choose m x y := by
    rw [hu2]
    unfold choose
    split
    · rw [Nat.xor_zero]
    · exact hc2
  rw [hr] at e3
  obtain ⟨r, hrr⟩ : ∃ r, choose m x y = r := ⟨_, rfl⟩
  rw [hrr] at e3 ⊢
  have i8 : (i : Int) < 8 := by omega
  have HB := Lib.hid (Below.drew (Below.refl w.heap.size w))
  clear hzz hu hu2 hr hrr hz ul hc2 hx hy hmm hi
  go_enter Tryd.func60, Tryd.ntmps60
  go_wp2_with fail
  refine wp_region_still_lit (by kernel_rfl) (by kernel_rfl) ?_
  change wpStill _ _ w.drew (fun a' => Exit.then _ _ Exit.normal a' w.drew) _ _
  have hc' : w.drew.cell? ⟨g, i, none⟩ = some (.int .u64 (y : Int)) := hc
  have hm' : w.drew.cell? ⟨g7, 0, none⟩ = some (.int .u64 (m : Int)) := hm
  clear hc hm
  generalize w.drew = w2 at *
  iterate 11 still_step
  refine wpStill_nil ?_
  clear hc' hm' e1 e2 e3
  go_wp2_with fail
  go_ret
  exact ⟨rfl, HB.out⟩
def pickF (n : Int) (f g : Nat → Nat) : Nat → Nat := if n % 2 = 0 then f else g
theorem pickF_lim {n : Int} {f g : Nat → Nat} (hf : Lim f) (hg : Lim g) : Lim (pickF n f g) := by unfold pickF; split <;> assumption
set_option maxRecDepth 8000 in
set_option maxHeartbeats 1000000 in
theorem select_any (n : Int) (f g : Nat → Nat) (w : World) (hf : Lim f) (hg : Lim g) :
    Calls Tryd.prog 39 #[.int .i64 n, EV f, EV g] w fun e w' => e = .returned (EV (pickF n f g)) ∧ Below w.heap.size w w' := by
  obtain ⟨b, hb⟩ : ∃ b : Nat, n % 2 = (b : Int) := ⟨(n % 2).toNat, by omega⟩
  have b2 : b = 0 ∨ b = 1 := by omega
  obtain ⟨m, hm⟩ : ∃ m, (if b = 0 then 0 else 18446744073709551615 : Nat) = m := ⟨_, rfl⟩
  have hmm : m = 0 ∨ m = 18446744073709551615 := by rcases b2 with h | h <;> subst h <;> simp at hm <;> omega
  have e1 : bits .and .i64 n 1 = (b : Int) := by rw [i64_and1, hb]
  have e2 : IntKind.u64.wrap (b : Int) = (b : Int) := by rw [IntKind.wrap_u64]; omega
  have e3 : IntKind.u64.wrap (-(b : Int)) = (m : Int) := by
    rw [IntKind.wrap_u64, ← hm]
    rcases b2 with h | h <;> subst h <;> rfl
  have HP : Hid (NZ (fun i => choose m (f i) (g i)) = NZ (pickF n f g)) := Lib.hid (by
    unfold pickF
    rcases b2 with h | h
    · subst h
      rw [if_pos (by omega), ← hm]
      rfl
    · subst h
      rw [if_neg (by omega), ← hm]
      rfl)
  have HM := Lib.hid hmm
  have HF := Lib.hid (And.intro hf hg)
  clear hb b2 hm hmm hf hg
  have H := Lib.hid (Ow.start w)
  go_enter Tryd.func39, Tryd.ntmps39
  go_wp2_with (first
    | ((fail_if_success have := g1); (with_reducible apply own_box H); (case hgd => exact rfl); (case ho => exact rfl); (case hx => exact rfl); intro w1 g1 H' _ _; replace H := H'; clear H'; go_simp)
    | ((fail_if_success have := g2); (with_reducible apply own_box H); (case hgd => exact rfl); (case ho => exact rfl); (case hx => exact rfl); intro w2 g2 H' _ _; replace H := H'; clear H'; go_simp)
    | ((fail_if_success have := g3); (with_reducible apply own_alloc nilE H); (case hgd => exact rfl); (case ho => exact rfl); intro w3 g3 H' _ _; replace H := H'; clear H'; go_simp)
    | ((fail_if_success have := g4); (with_reducible apply own_var nilW H); (case hgd => exact rfl); (case ho => exact rfl); intro w4 g4 H' _ _; replace H := H'; clear H'; go_simp)
    | ((with_reducible apply own_put oneW H); (case hgd => exact rfl); (case ho => exact rfl); (case hx => exact rfl); (case hy => exact rfl); (case hi => first | exact at0 | exact at1 | exact at2 | exact at3 | exact at4 | exact at5 | exact at6); (case hj => omega); intro ws H' _ _; replace H := H'; clear H'; simp only [List.set_cons_zero] at H; go_simp)
    | ((with_reducible apply own_load rowL H); (case hgd => exact rfl); (case ho => exact rfl); (case hx => exact rfl); (case hi => first | exact at0 | exact at1 | exact at2 | exact at3 | exact at4 | exact at5 | exact at6); intro _ _; go_simp))
  rename_i wz
  refine (each_any 60 #[.pointer (some ⟨g4, 0, none⟩), .pointer (some ⟨g2, 0, none⟩)] f (fun i => choose m (f i) (g i)) _ (run_enter Tryd.func60 (by kernel_rfl) rfl) (fun i W hi hB => ?_)).mono ?_
  · exact pick1_any i (f i) (g i) m g2 g4 W hi ((H.out.call hB).cell 2 rfl i hi) ((H.out.call hB).cell 0 rfl 0 (by omega)) (by have := HF.out.1 i hi; omega) (by have := HF.out.2 i hi; omega) HM.out
  rintro e wc ⟨rfl, hb⟩
  replace H := Lib.hid (H.out.call hb)
  rw [HP.out]
  clear hb HF
  go_wp2_with (first
    | ((with_reducible apply lay_build_E); (case hgd => exact rfl); (case ho => exact rfl); (case hx => exact rfl); intro _ _; go_simp)
    | ((with_reducible apply own_store rowE H); (case hgd => exact rfl); (case ho => exact rfl); (case hx => exact rfl); (case hy => exact rfl); (case hi => first | exact at0 | exact at1 | exact at2 | exact at3 | exact at4 | exact at5 | exact at6); intro ws H' _ _; replace H := H'; clear H'; simp only [List.set_cons_zero, List.set_cons_succ] at H; go_simp))
  exact bodyPost_ret (own_result 1 rowE rfl _ H rfl rfl) rfl ⟨rfl, H.out.bel⟩
end Go.Proofs.YtjjdhbmlinjhjaaDoor
