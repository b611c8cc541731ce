/-
  The contracts of field.P, Zero, Equal.
-/
import Derived.Test.YtjjdhbmlinjhjaaDoorFdSpell
namespace Go.Proofs.YtjjdhbmlinjhjaaDoor
open Go.RowKit

/-- The table, read whole. -/
theorem Tp.whole {w : World} (h : Tp w) : (Instr.loadAt 25 (.pointer (some ⟨0, 0, none⟩))).run Tryd.prog w = .ok (.agg (AZ .u64 8 (NZ prW))) w := by
  obtain ⟨d, hd, hd'⟩ := rowL.under
  have := run_loadAt_mid (P := Tryd.prog) w 0 0 25 (AZ .u64 8 (NZ prW)).toList d (fun j v hv => by
    have hj : j < 8 := by
      rcases Nat.lt_or_ge j 8 with h' | h'
      · exact h'
      · rw [List.getElem?_eq_none (by rw [Array.length_toList, AZ_size]; exact h')] at hv; cases hv
    rw [Array.getElem?_toList, AZ_get _ _ _ _ hj] at hv
    rw [Nat.zero_add, h.cells j hj, ← hv]
    rfl) hd hd' (by rw [Array.length_toList, AZ_size]; exact rowL.size)
  rwa [Array.toArray_toList] at this
section
variable {ops : Array Oper} {rest : List Oper} {o : Oper} {a : Act} {w w0 : World} {l : List (Nat × Obj)} {Q : Exit → Act → World → Prop}
theorem lay_load_p (hT : Tp w) (hgd : o.guard = none) {x : Operand} (ho : o.op = .load 25 x) (hx : a.eval x = .pointer (some ⟨0, 0, none⟩))
    (h : ∀ K : Act → World → Prop, (∀ a w, wpList Tryd.prog ops Q rest a w → K a w) → K (a.put o.dst (.agg (AZ .u64 8 (NZ prW)))) w) : wpList Tryd.prog ops Q (o :: rest) a w :=
  wpList_plain hgd fun K hK => by
    unfold Oper.wp execOp
    simp only [ho, hx, Sem.run_bind, hT.whole, Result.andThen_ok]
    exact h K hK
end
theorem prW_lF : AZ .u64 8 (NZ prW) = AZ .u64 8 (NZ (lF pN)) := AZ_congr fun i hi => by
  unfold NZ
  rw [← lv_prW, lF_lv (fun i => by have := prW_bd i; omega) 8 i hi]
theorem P_any (w : World) (hT : Tp w) :
    Calls Tryd.prog 15 #[] w fun e w' => ∃ v, e = .returned v ∧ New w w' v 56 (bX pN) ∧ Below w.heap.size w w' := by
  have HT := Lib.hid hT
  clear hT
  go_enter Tryd.func15, Tryd.ntmps15
  go_wp2_with (first
    | ((with_reducible apply lay_load_p HT.out); (case hgd => exact rfl); (case ho => exact rfl); (case hx => exact rfl); intro _ _; rw [prW_lF]; go_simp))
  refine (spell_any pN _).mono ?_
  rintro e w2 ⟨v, rfl, N2, B2⟩
  have N2 := Lib.hid N2
  have B2 := Lib.hid B2
  go_wp2_with fail
  go_ret
  exact ⟨_, rfl, N2.out, B2.out⟩
/-- All limbs laid over each other. -/
def orN (f : Nat → Nat) : Nat → Nat
  | 0 => 0
  | i + 1 => orN f i ||| f i
theorem orN_zero (f : Nat → Nat) : ∀ n, orN f n = 0 ↔ ∀ i, i < n → f i = 0
  | 0 => ⟨fun _ i hi => by omega, fun _ => rfl⟩
  | n + 1 => by
    have ih := orN_zero f n
    rw [show orN f (n + 1) = orN f n ||| f n from rfl, Nat.or_eq_zero_iff, ih]
    constructor
    · rintro ⟨h1, h2⟩ i hi
      rcases (by omega : i < n ∨ i = n) with h | h
      · exact h1 i h
      · rw [h]; exact h2
    · intro h
      exact ⟨fun i hi => h i (by omega), h n (by omega)⟩
theorem orN_lt {f : Nat → Nat} (h : ∀ i, f i < 72057594037927936) : ∀ n, orN f n < 72057594037927936
  | 0 => by rw [show orN f 0 = 0 from rfl]; omega
  | n + 1 => by
    rw [show orN f (n + 1) = orN f n ||| f n from rfl, show 72057594037927936 = 2 ^ 56 from rfl]
    exact Nat.or_lt_two_pow (orN_lt h n) (h n)
theorem lF_zero {x : Nat} (hx : x < 72057594037927936 ^ 8) : orN (lF x) 8 = 0 ↔ x = 0 := by
  rw [orN_zero]
  constructor
  · intro h
    have h1 := lv_lF x 8
    rw [Nat.mod_eq_of_lt hx, lv_congr (g := fun _ => 0) 8 h, lv_zero] at h1
    exact h1.symm
  · rintro rfl i _
    unfold lF
    rw [Nat.zero_div, Nat.zero_mod]
theorem pN_lt8 : pN < 72057594037927936 ^ 8 := by decide +kernel
set_option maxRecDepth 8000 in
set_option maxHeartbeats 1600000 in
theorem zero_any (f : Nat → Nat) (w : World) (hf : Lim f) :
    Calls Tryd.prog 17 #[EV f] w fun e w' => e = .returned (.bool (decide (lv f 8 % pN = 0))) ∧ Below w.heap.size w w' := by
  have HL := Lib.hid (fun w => least_any f w hf)
  have HZ := Lib.hid (lF_zero (Nat.lt_trans (Nat.mod_lt (lv f 8) pN_pos) pN_lt8))
  obtain ⟨x, hx⟩ : ∃ x, lv f 8 % pN = x := ⟨_, rfl⟩
  rw [hx] at HL HZ ⊢
  clear hf hx
  have H := Lib.hid (Ow.start w)
  go_enter Tryd.func17, Tryd.ntmps17
  go_wp2_with (first
    | ((fail_if_success have := g1); (with_reducible apply own_box H); (case hgd => exact rfl); (case ho => exact rfl); (case hx => exact rfl); intro w1 g1 H' _ _; replace H := H'; clear H'; go_simp)
    | ((with_reducible apply own_load rowE H); (case hgd => exact rfl); (case ho => exact rfl); (case hx => exact rfl); (case hi => first | exact at0 | exact at1 | exact at2 | exact at3 | exact at4 | exact at5 | exact at6); intro _ _; go_simp)
    | ((with_reducible refine (HL.out _).mono ?_); rintro e wc ⟨rfl, hb⟩; replace H := Lib.hid (H.out.call hb); clear hb))
  go_loopw [3, 8] (fun v3 v8 wr => ∃ i : Nat, i ≤ 8 ∧ v8 = .int .i64 i ∧ v3 = .int .u64 (orN (lF x) i : Int) ∧ Below w.heap.size w wr) (fun _ v8 _ => 8 - (intOf v8).toNat)
  case atStart => exact ⟨0, by omega, rfl, rfl, H.out.bel⟩
  case round =>
    clear H
    obtain ⟨i, hi, rfl, rfl, HR⟩ := hrel
    by_cases hlt : i < 8
    · have hid : decide ((i : Int) < 8) = true := by simp; omega
      have iN : (i : Int) < 8 := by omega
      have H := Lib.hid HR
      clear HR
      have h1 := orN_lt (lF_lt x) i
      have h2 := lF_lt x i
      have HS : Hid (orN (lF x) (i + 1) = orN (lF x) i ||| lF x i) := Lib.hid rfl
      obtain ⟨y, hy⟩ : ∃ y, lF x i = y := ⟨_, rfl⟩
      have ny : NZ (lF x) i = (y : Int) := by rw [← hy]; rfl
      obtain ⟨z, hz⟩ : ∃ z, orN (lF x) i = z := ⟨_, rfl⟩
      rw [hy, hz] at HS
      rw [hy] at h2
      rw [hz] at h1 ⊢
      have e1 := u64_or_nat z y (by omega) (by omega)
      obtain ⟨r, hr⟩ : ∃ r, z ||| y = r := ⟨_, rfl⟩
      rw [hr] at e1 HS
      clear hy hz h1 h2 hr
      go_wp2_with (first
        | ((with_reducible apply own_index Tryd.underlying25 oneW); (case hgd => exact rfl); (case ho => exact rfl); (case hx => exact rfl); (case hy => exact rfl); (case hi => omega); intro _ _; go_simp))
      go_roundw
      case rel => exact ⟨i + 1, by omega, by go_num, by rw [HS.out], H.out⟩
      case measure => simp [intOf]; omega
    · obtain rfl : i = 8 := by omega
      clear hlt hi
      rw [show ((8 : Nat) : Int) = 8 from rfl]
      have H := Lib.hid HR
      clear HR
      have HE : Hid (((orN (lF x) 8 : Int) == 0) = decide (x = 0)) := Lib.hid (by
        rw [Bool.eq_iff_iff, beq_iff_eq, decide_eq_true_eq, ← HZ.out]
        omega)
      obtain ⟨z, hz⟩ : ∃ z, orN (lF x) 8 = z := ⟨_, rfl⟩
      rw [hz] at HE ⊢
      clear hz
      go_wp2_with fail
      go_ret
      exact ⟨by rw [← HE.out]; rfl, H.out⟩
set_option maxRecDepth 8000 in
set_option maxHeartbeats 1600000 in
theorem equal_any (f g : Nat → Nat) (w : World) (hT : Tp w) (hf : Lim f) (hg : Lim g) :
    Calls Tryd.prog 37 #[EV f, EV g] w fun e w' => e = .returned (.bool (decide (lv f 8 % pN = lv g 8 % pN))) ∧ Below w.heap.size w w' := by
  have HT := Lib.hid hT
  have HF := Lib.hid (And.intro hf hg)
  clear hT hf hg
  have H := Lib.hid (Ow.start w)
  go_enter Tryd.func37, Tryd.ntmps37
  go_wp2_with (first
    | ((fail_if_success have := g1); (with_reducible apply own_box H); (case hgd => exact rfl); (case ho => exact rfl); (case hx => exact rfl); intro w1 g1 H' _ _; replace H := H'; clear H'; go_simp)
    | ((fail_if_success have := g2); (with_reducible apply own_box H); (case hgd => exact rfl); (case ho => exact rfl); (case hx => exact rfl); intro w2 g2 H' _ _; replace H := H'; clear H'; go_simp)
    | ((with_reducible apply own_load rowE H); (case hgd => exact rfl); (case ho => exact rfl); (case hx => exact rfl); (case hi => first | exact at0 | exact at1 | exact at2 | exact at3 | exact at4 | exact at5 | exact at6); intro _ _; go_simp))
  refine (sub_any f g _ (HT.out.below H.out.bel) HF.out.1 HF.out.2).mono ?_
  rintro e wc ⟨h, rfl, hl, hv, hb⟩
  replace H := Lib.hid (H.out.call hb)
  have HV := Lib.hid (And.intro hl hv)
  clear hb hl hv
  go_wp2_with fail
  refine (zero_any h _ HV.out.1).mono ?_
  rintro e wd ⟨rfl, hb⟩
  replace H := Lib.hid (H.out.call hb)
  clear hb
  go_wp2_with fail
  go_ret
  refine ⟨?_, H.out.bel⟩
  have hv := HV.out.2
  have e : decide (lv h 8 % pN = 0) = decide (lv f 8 % pN = lv g 8 % pN) := by
    generalize lv h 8 = a at *
    generalize lv f 8 = b at *
    generalize lv g 8 = c at *
    congr 1
    unfold pN at *
    apply propext
    constructor <;> intro h0 <;> omega
  rw [← e]
  rfl
end Go.Proofs.YtjjdhbmlinjhjaaDoor
