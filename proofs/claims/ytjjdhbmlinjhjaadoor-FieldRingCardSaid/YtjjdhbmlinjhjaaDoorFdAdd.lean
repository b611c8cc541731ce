/-
  The contracts of field.Add, Sub, Neg.
-/
import Derived.Test.YtjjdhbmlinjhjaaDoorFdElem
namespace Go.Proofs.YtjjdhbmlinjhjaaDoor
open Go.RowKit

/-- What the program's table holds: p's limbs. -/
def prW (i : Nat) : Nat := if i = 4 then 72057594037927934 else 72057594037927935
structure Tp (w : World) : Prop where
  cells : ∀ i, i < 8 → w.cell? ⟨0, i, none⟩ = some (.int .u64 ((prW i : Nat) : Int))
theorem Tp.lt {w : World} (h : Tp w) : 0 < w.heap.size := block_lt_of_cell (h.cells 0 (by omega))
theorem Tp.below {w w' : World} (h : Tp w) (hb : Below w.heap.size w w') : Tp w' :=
  ⟨fun i hi => (hb.cell (p := ⟨_, i, none⟩) h.lt).trans (h.cells i hi)⟩
theorem prW_bd (i : Nat) : 72057594037927934 ≤ prW i ∧ prW i ≤ 72057594037927935 := by unfold prW; split <;> omega
theorem lv_prW : lv prW 8 = pN := by decide +kernel
theorem add1_any (i x y g : Nat) (w : World) (hi : i < 8) (hc : w.cell? ⟨g, i, none⟩ = some (.int .u64 (y : Int))) (h : x + y < 18446744073709551616) :
    Calls Tryd.prog 52 #[.int .i64 i, .int .u64 x, .pointer (some ⟨g, 0, none⟩)] w fun e w' => e = .returned (.int .u64 ((x + y : Nat) : Int)) ∧ w' = w := by
  obtain ⟨s, hs⟩ : ∃ s, x + y = s := ⟨_, rfl⟩
  have e1 : (x : Int) + (y : Int) = (s : Int) := by omega
  have e2 : IntKind.u64.wrap (s : Int) = (s : Int) := by rw [IntKind.wrap_u64]; omega
  have i8 : (i : Int) < 8 := by omega
  rw [hs]
  clear hs h hi
  go_enter Tryd.func52, Tryd.ntmps52
  go_wp2
  go_ret
  exact ⟨rfl, rfl⟩
set_option maxRecDepth 8000 in
theorem sub1_any (i x y g : Nat) (w : World) (hi : i < 8) (hT : Tp w) (hc : w.cell? ⟨g, i, none⟩ = some (.int .u64 (y : Int))) (hx : x < 72057594037927940) (hy : y < 72057594037927940) :
    Calls Tryd.prog 54 #[.int .i64 i, .int .u64 x, .pointer (some ⟨g, 0, none⟩)] w fun e w' => e = .returned (.int .u64 ((x + 2 * prW i - y : Nat) : Int)) ∧ Below w.heap.size w w' := by
  have hp := hT.cells i hi
  have bp := prW_bd i
  obtain ⟨q, hq⟩ : ∃ q, prW i = q := ⟨_, rfl⟩
  rw [hq] at hp bp
  obtain ⟨s, hs⟩ : ∃ s, x + 2 * q - y = s := ⟨_, rfl⟩
  obtain ⟨t, ht⟩ : ∃ t, 2 * q = t := ⟨_, rfl⟩
  obtain ⟨u, hu⟩ : ∃ u, x + t = u := ⟨_, rfl⟩
  have e1 : 2 * (q : Int) = (t : Int) := by omega
  have e2 : IntKind.u64.wrap (t : Int) = (t : Int) := by rw [IntKind.wrap_u64]; omega
  have e3 : (x : Int) + (t : Int) = (u : Int) := by omega
  have e4 : IntKind.u64.wrap (u : Int) = (u : Int) := by rw [IntKind.wrap_u64]; omega
  have e5 : (u : Int) - (y : Int) = (s : Int) := by omega
  have e6 : IntKind.u64.wrap (s : Int) = (s : Int) := by rw [IntKind.wrap_u64]; omega
  have i8 : (i : Int) < 8 := by omega
  rw [hq, hs]
  have HB := Lib.hid (Below.drew (Below.refl w.heap.size w))
  clear hs ht hu hq hT hx hy hi bp
  go_enter Tryd.func54, Tryd.ntmps54
  go_wp2_with fail
  refine wp_region_still_lit (by kernel_rfl) (by kernel_rfl) ?_
  change wpStill _ _ w.drew (fun a' => Exit.then _ _ Exit.normal a' w.drew) _ _
  have hc' : w.drew.cell? ⟨g, i, none⟩ = some (.int .u64 (y : Int)) := hc
  have hp' : w.drew.cell? ⟨0, i, none⟩ = some (.int .u64 (q : Int)) := hp
  clear hc hp
  generalize w.drew = w2 at *
  iterate 12 still_step
  refine wpStill_nil ?_
  clear hc' hp' e1 e2 e3 e4 e5 e6
  go_wp2_with fail
  go_ret
  exact ⟨rfl, HB.out⟩
/-- What a sum of limbs comes to. -/
theorem sum_facts (s : Nat → Nat) (hs : ∀ i, i < 8 → s i < 288230376151711740) :
    ∃ d h : Nat → Nat, ∃ o : Nat, (∀ w, Calls Tryd.prog 50 #[.agg (AZ .u64 8 (NZ s)), .int .u64 0, .func (.func 53) #[] #[]] w fun e w' => e = .returned (.tuple #[.agg (AZ .u64 8 (NZ d)), .int .u64 (o : Int)]) ∧ Below w.heap.size w w') ∧
      (∀ w, Calls Tryd.prog 49 #[.agg (AZ .u64 8 (NZ d)), .int .u64 (o : Int)] w fun e w' => e = .returned (EV h) ∧ Below w.heap.size w w') ∧ Lim h ∧ lv h 8 % pN = lv s 8 % pN := by
  have ho := ovC_le hs
  refine ⟨dgC s 0, wrapF (dgC s 0) (ovC s 0 8), ovC s 0 8, fun w => carry_any s 0 w (fun i hi => ?_) ?_, fun w => wrap_any _ _ w ?_ ?_, wrap_lim (dgC_lt s 0) (ho 8 (by omega)), ?_⟩
  · have h1 := ho i (by omega)
    have h2 := hs i hi
    omega
  · have h1 := ho 4 (by omega)
    omega
  · have h1 := ho 8 (by omega)
    have h2 := dgC_lt s 0 0
    omega
  · have h1 := ho 8 (by omega)
    have h2 := dgC_lt s 0 4
    omega
  · rw [wrap_carry s, Nat.add_mul_mod_self_right]
set_option maxRecDepth 8000 in
set_option maxHeartbeats 1000000 in
theorem add_any (f g : Nat → Nat) (w : World) (hf : Lim f) (hg : Lim g) :
    Calls Tryd.prog 24 #[EV f, EV g] w fun e w' => ∃ h, e = .returned (EV h) ∧ Lim h ∧ lv h 8 % pN = (lv f 8 + lv g 8) % pN ∧ Below w.heap.size w w' := by
  obtain ⟨d, h, o, h1, h2, h3, h4⟩ := sum_facts (fun i => f i + g i) (fun i hi => by have := hf i hi; have := hg i hi; show f i + g i < _; omega)
  rw [lv_add] at h4
  have HC := Lib.hid h1
  have HW := Lib.hid h2
  have HL := Lib.hid (And.intro h3 h4)
  have HF := Lib.hid (And.intro hf hg)
  clear h1 h2 h3 h4 hf hg
  have H := Lib.hid (Ow.start w)
  go_enter Tryd.func24, Tryd.ntmps24
  go_wp2_with (first
    | ((fail_if_success have := g1); (with_reducible apply own_box H); (case hgd => exact rfl); (case ho => exact rfl); (case hx => exact rfl); intro w1 g1 H' _ _; replace H := H'; clear H'; go_simp)
    | ((fail_if_success have := g2); (with_reducible apply own_box H); (case hgd => exact rfl); (case ho => exact rfl); (case hx => exact rfl); intro w2 g2 H' _ _; replace H := H'; clear H'; go_simp)
    | ((fail_if_success have := g3); (with_reducible apply own_alloc nilE H); (case hgd => exact rfl); (case ho => exact rfl); intro w3 g3 H' _ _; replace H := H'; clear H'; go_simp)
    | ((with_reducible apply own_load rowL H); (case hgd => exact rfl); (case ho => exact rfl); (case hx => exact rfl); (case hi => first | exact at0 | exact at1 | exact at2 | exact at3 | exact at4 | exact at5 | exact at6); intro _ _; go_simp))
  refine (each_any 52 #[.pointer (some ⟨g2, 0, none⟩)] f (fun i => f i + g i) w3 (run_enter Tryd.func52 (by kernel_rfl) rfl) (fun i W hi hB => ?_)).mono ?_
  · refine (add1_any i (f i) (g i) g2 W hi ((H.out.call hB).cell 1 rfl i hi) ?_).mono (fun e W' hh => ⟨hh.1, hh.2 ▸ Below.refl _ _⟩)
    have := HF.out.1 i hi
    have := HF.out.2 i hi
    omega
  rintro e wc ⟨rfl, hb⟩
  replace H := Lib.hid (H.out.call hb)
  clear hb HF
  go_wp2_with (first
    | ((with_reducible refine (HC.out _).mono ?_); rintro e wc ⟨rfl, hb⟩; replace H := Lib.hid (H.out.call hb); clear hb)
    | ((with_reducible refine (HW.out _).mono ?_); rintro e wc ⟨rfl, hb⟩; replace H := Lib.hid (H.out.call hb); clear hb)
    | ((with_reducible apply own_store rowE H); (case hgd => exact rfl); (case ho => exact rfl); (case hx => exact rfl); (case hy => exact rfl); (case hi => first | exact at0 | exact at1 | exact at2 | exact at3 | exact at4 | exact at5 | exact at6); intro ws H' _ _; replace H := H'; clear H'; simp only [List.set_cons_zero] at H; go_simp))
  exact bodyPost_ret (own_result 0 rowE rfl _ H rfl rfl) rfl ⟨h, rfl, HL.out.1, HL.out.2, H.out.bel⟩
/-- What is left, twice p being there more. -/
theorem lv_less (f g : Nat → Nat) (hg : ∀ i, i < 8 → g i ≤ f i + 2 * prW i) : lv (fun i => f i + 2 * prW i - g i) 8 + lv g 8 = lv f 8 + 2 * pN := by
  rw [← lv_add, lv_congr (g := fun i => f i + (prW i + prW i)) 8 (fun i hi => by have := hg i hi; show f i + 2 * prW i - g i + g i = f i + (prW i + prW i); omega), lv_add, lv_add, lv_prW]
  omega
set_option maxRecDepth 8000 in
set_option maxHeartbeats 1000000 in
theorem sub_any (f g : Nat → Nat) (w : World) (hT : Tp w) (hf : Lim f) (hg : Lim g) :
    Calls Tryd.prog 26 #[EV f, EV g] w fun e w' => ∃ h, e = .returned (EV h) ∧ Lim h ∧ (lv h 8 + lv g 8) % pN = lv f 8 % pN ∧ Below w.heap.size w w' := by
  obtain ⟨d, h, o, h1, h2, h3, h4⟩ := sum_facts (fun i => f i + 2 * prW i - g i) (fun i hi => by have := hf i hi; have := prW_bd i; show f i + 2 * prW i - g i < _; omega)
  have h5 : (lv h 8 + lv g 8) % pN = lv f 8 % pN := by
    rw [Nat.add_mod, h4, ← Nat.add_mod, lv_less f g (fun i hi => by have := hg i hi; have := prW_bd i; omega), Nat.add_mul_mod_self_right]
  have HC := Lib.hid h1
  have HW := Lib.hid h2
  have HL := Lib.hid (And.intro h3 h5)
  have HF := Lib.hid (And.intro hf hg)
  have HT := Lib.hid hT
  clear h1 h2 h3 h4 h5 hf hg hT
  have H := Lib.hid (Ow.start w)
  go_enter Tryd.func26, Tryd.ntmps26
  go_wp2_with (first
    | ((fail_if_success have := g1); (with_reducible apply own_box H); (case hgd => exact rfl); (case ho => exact rfl); (case hx => exact rfl); intro w1 g1 H' _ _; replace H := H'; clear H'; go_simp)
    | ((fail_if_success have := g2); (with_reducible apply own_box H); (case hgd => exact rfl); (case ho => exact rfl); (case hx => exact rfl); intro w2 g2 H' _ _; replace H := H'; clear H'; go_simp)
    | ((fail_if_success have := g3); (with_reducible apply own_alloc nilE H); (case hgd => exact rfl); (case ho => exact rfl); intro w3 g3 H' _ _; replace H := H'; clear H'; go_simp)
    | ((with_reducible apply own_load rowL H); (case hgd => exact rfl); (case ho => exact rfl); (case hx => exact rfl); (case hi => first | exact at0 | exact at1 | exact at2 | exact at3 | exact at4 | exact at5 | exact at6); intro _ _; go_simp))
  refine (each_any 54 #[.pointer (some ⟨g2, 0, none⟩)] f (fun i => f i + 2 * prW i - g i) w3 (run_enter Tryd.func54 (by kernel_rfl) rfl) (fun i W hi hB => ?_)).mono ?_
  · exact sub1_any i (f i) (g i) g2 W hi (HT.out.below (H.out.call hB).bel) ((H.out.call hB).cell 1 rfl i hi) (HF.out.1 i hi) (HF.out.2 i hi)
  rintro e wc ⟨rfl, hb⟩
  replace H := Lib.hid (H.out.call hb)
  clear hb HF
  go_wp2_with (first
    | ((with_reducible refine (HC.out _).mono ?_); rintro e wc ⟨rfl, hb⟩; replace H := Lib.hid (H.out.call hb); clear hb)
    | ((with_reducible refine (HW.out _).mono ?_); rintro e wc ⟨rfl, hb⟩; replace H := Lib.hid (H.out.call hb); clear hb)
    | ((with_reducible apply own_store rowE H); (case hgd => exact rfl); (case ho => exact rfl); (case hx => exact rfl); (case hy => exact rfl); (case hi => first | exact at0 | exact at1 | exact at2 | exact at3 | exact at4 | exact at5 | exact at6); intro ws H' _ _; replace H := H'; clear H'; simp only [List.set_cons_zero] at H; go_simp))
  exact bodyPost_ret (own_result 0 rowE rfl _ H rfl rfl) rfl ⟨h, rfl, HL.out.1, HL.out.2, H.out.bel⟩
theorem lim_zero : Lim fun _ => 0 := fun _ _ => by show 0 < _; omega
theorem lv_zero : ∀ n, lv (fun _ => 0) n = 0
  | 0 => rfl
  | n + 1 => by unfold lv; rw [lv_zero n, Nat.zero_mul]
set_option maxRecDepth 8000 in
set_option maxHeartbeats 1000000 in
theorem neg_any (f : Nat → Nat) (w : World) (hT : Tp w) (hf : Lim f) :
    Calls Tryd.prog 28 #[EV f] w fun e w' => ∃ h, e = .returned (EV h) ∧ Lim h ∧ (lv h 8 + lv f 8) % pN = 0 ∧ Below w.heap.size w w' := by
  have HF := Lib.hid hf
  have HT := Lib.hid hT
  clear hf hT
  have H := Lib.hid (Ow.start w)
  go_enter Tryd.func28, Tryd.ntmps28
  go_wp2_with (first
    | ((fail_if_success have := g1); (with_reducible apply own_box H); (case hgd => exact rfl); (case ho => exact rfl); (case hx => exact rfl); intro w1 g1 H' _ _; replace H := H'; clear H'; go_simp)
    | ((fail_if_success have := g2); (with_reducible apply own_alloc nilE H); (case hgd => exact rfl); (case ho => exact rfl); intro w2 g2 H' _ _; replace H := H'; clear H'; go_simp)
    | ((with_reducible apply lay_build_E0); (case hgd => exact rfl); (case ho => exact rfl); intro _ _; go_simp)
    | ((with_reducible apply own_load rowE H); (case hgd => exact rfl); (case ho => exact rfl); (case hx => exact rfl); (case hi => first | exact at0 | exact at1 | exact at2 | exact at3 | exact at4 | exact at5 | exact at6); intro _ _; go_simp))
  refine (sub_any (fun _ => 0) f w2 (HT.out.below H.out.bel) lim_zero HF.out).mono ?_
  rintro e wc ⟨h, rfl, hl, hv, hb⟩
  rw [lv_zero, Nat.zero_mod] at hv
  have HL := Lib.hid (And.intro hl hv)
  replace H := Lib.hid (H.out.call hb)
  clear hb hl hv
  go_wp2_with (first
    | ((with_reducible apply own_store rowE H); (case hgd => exact rfl); (case ho => exact rfl); (case hx => exact rfl); (case hy => exact rfl); (case hi => first | exact at0 | exact at1 | exact at2 | exact at3 | exact at4 | exact at5 | exact at6); intro ws H' _ _; replace H := H'; clear H'; simp only [List.set_cons_zero] at H; go_simp))
  exact bodyPost_ret (own_result 0 rowE rfl _ H rfl rfl) rfl ⟨h, rfl, HL.out.1, HL.out.2, H.out.bel⟩
end Go.Proofs.YtjjdhbmlinjhjaaDoor
