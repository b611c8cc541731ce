/-
  The contracts of ladder's sized, X448 and Public. No statement is proved here: lemmas for the walks.
-/
import Derived.Test.YtckmboebipbpbaaDoorZLdLad
import Derived.Test.YtckmboebipbpbaaDoorBuV
import Derived.Test.YtckmboebipbpbaaDoorBuH
import Derived.Test.YtckmboebipbpbaaDoorBuE
import Derived.Test.YtckmboebipbpbaaDoorBuT
import Derived.Deep.CutRange
import Derived.Handy
namespace Go.Proofs.YtckmboebipbpbaaDoor
open Go.RowKit

theorem infoS : (Tryd.prog.info? 44).map (fun i => (i.zero, i.size)) = some (some (.slice none 0 0), 1) := by kernel_rfl
theorem info_s : ∃ i, Tryd.prog.info? 44 = some i ∧ i.zero = some (.slice none 0 0) ∧ i.size = 1 := by
  cases hq : Tryd.prog.info? 44 with
  | none => have := infoS; simp [hq] at this
  | some i =>
    have := infoS
    simp [hq] at this
    exact ⟨i, rfl, this.1, this.2⟩
section
variable {ops : Array Oper} {rest : List Oper} {o : Oper} {act : Act} {w w0 : World} {l : List (Nat × Obj)} {Q : Exit → Act → World → Prop}
/-- Two slices as a slice. -/
theorem lay_two (H : Hid (Ow w0 w l)) (hgd : o.guard = none) {p0 p1 : Operand} (ho : o.op = .buildSlice 124 2 #[(0, p0), (1, p1)]) {a b : Option Addr} {n c m d : Nat} (h0 : act.eval p0 = .slice a n c) (h1 : act.eval p1 = .slice b m d)
    (h : ∀ w' g, Hid (Ow w0 w' ((g, .cells #[.slice a n c, .slice b m d] 44) :: l)) → ∀ K : Act → World → Prop, (∀ a w, wpList Tryd.prog ops Q rest a w → K a w) → K (act.put o.dst (.slice (some ⟨g, 0, none⟩) 2 2)) w') : wpList Tryd.prog ops Q (o :: rest) act w :=
  wpList_plain hgd fun K hK => by
    obtain ⟨i, hi, hz, hs⟩ := info_s
    refine Go.wp_buildSlice 124 44 2 _ ho #[.slice a n c, .slice b m d] i _ Tryd.underlying124 hi hz (by rw [hs]; decide) (by rw [hs]; decide) (by rw [hs]; simp [Instr.fill, h0, h1, Array.range, Value.cells]; exact Array.ext (by simp) (fun j h1 h2 => by rcases (by have : j < 2 := (by simpa using h2); omega : j = 0 ∨ j = 1) with rfl | rfl <;> simp)) ?_
    exact h _ _ (Lib.hid (H.out.alloc _)) K hK
end
/-- Whether two slices have an element's size. -/
def szX (n m : Nat) : Int := if n = 56 ∧ m = 56 then 0 else 11
theorem lsized_k {a b : Option Addr} {n c m d g : Nat} {t : TypeId} (w : World) (hrow : w.heap[g]? = some (.cells #[.slice a n c, .slice b m d] t)) :
    Calls Tryd.prog 50 #[.slice (some ⟨g, 0, none⟩) 2 2] w fun e w' => e = .returned (.int .i64 (szX n m)) ∧ w' = w := by
  have c0 : w.cell? ⟨g, 0, none⟩ = some (.slice a n c) := by rw [cell_of_row _ _ _ _ _ _ hrow]; rfl
  have c1 : w.cell? ⟨g, 1, none⟩ = some (.slice b m d) := by rw [cell_of_row _ _ _ _ _ _ hrow]; rfl
  clear hrow
  by_cases h1 : n = 56
  · have e1 : ((n : Int) != 56) = false := by rw [bne_eq_false_iff_eq]; omega
    by_cases h2 : m = 56
    · have e2 : ((m : Int) != 56) = false := by rw [bne_eq_false_iff_eq]; omega
      have HE : Hid (szX n m = 0) := Lib.hid (if_pos ⟨h1, h2⟩)
      clear h1 h2
      go_enter Tryd.func50, Tryd.ntmps50
      go_wp2_with fail
      refine wp_loop_rounds 3 ?_
      rw [rounds_succ]
      go_wp2_with fail
      rw [rounds_succ]
      go_wp2_with fail
      rw [rounds_succ]
      go_wp2_with fail
      go_ret
      exact ⟨by rw [HE.out]; rfl, rfl⟩
    · have e2 : ((m : Int) != 56) = true := by rw [bne_iff_ne]; omega
      have HE : Hid (szX n m = 11) := Lib.hid (if_neg fun h => h2 h.2)
      clear h1 h2
      go_enter Tryd.func50, Tryd.ntmps50
      go_wp2_with fail
      refine wp_loop_rounds 3 ?_
      rw [rounds_succ]
      go_wp2_with fail
      rw [rounds_succ]
      go_wp2_with fail
      go_ret
      exact ⟨by rw [HE.out]; rfl, rfl⟩
  · have e1 : ((n : Int) != 56) = true := by rw [bne_iff_ne]; omega
    have HE : Hid (szX n m = 11) := Lib.hid (if_neg fun h => h1 h.1)
    clear h1
    go_enter Tryd.func50, Tryd.ntmps50
    go_wp2_with fail
    refine wp_loop_rounds 3 ?_
    rw [rounds_succ]
    go_wp2_with fail
    go_ret
    exact ⟨by rw [HE.out]; rfl, rfl⟩
theorem clamp_x {a : Option Addr} {c x : Nat} (w : World) (hs : Sb w w.heap.size a 56 c x) :
    Calls Tryd.prog 51 #[.slice a 56 c] w fun e w' => ∃ a' c', e = .returned (.tuple #[.slice a' 56 c', .int .i64 0]) ∧ Sb w' w'.heap.size a' 56 c' (clN x) ∧ Below w.heap.size w w' :=
  (clamp_ok a 56 c (bt x) w (.inl rfl) hs.sl).mono fun _ _ ⟨a', c', h, h2, hb⟩ => ⟨a', c', h, ⟨h2.congr fun _ hi => clN_bt x hi, clN_lt x⟩, hb⟩
theorem bytes_rk {f : Nat → Nat} {x : K} (w : World) (hf : EK f x) :
    Calls Tryd.prog 26 #[EV f] w fun e w' => ∃ g, e = .returned (.slice (some ⟨g, 0, none⟩) 56 56) ∧ w.heap.size ≤ g ∧ w'.heap[g]? = some (BlkB 56 (bX x.val)) ∧ Below w.heap.size w w' := bytes_row w hf
theorem of_x {a : Option Addr} {c y : Nat} (w : World) (hs : Sb w w.heap.size a 56 c y) :
    Calls Tryd.prog 34 #[.slice a 56 c] w fun e w' => ∃ h, e = .returned (.tuple #[EV h, .int .i64 0]) ∧ EK h (cN pN y) ∧ Below w.heap.size w w' :=
  (of_any a c (bt y) w hs.sl).mono fun _ _ ⟨he, hb⟩ => ⟨_, he, (by
    have h := of_v (bt y)
    rw [nB_bt, Nat.mod_eq_of_lt hs.fits] at h
    exact h), hb⟩
set_option maxRecDepth 8000 in
set_option maxHeartbeats 3200000 in
theorem x448_bad {a b : Option Addr} {n c m d : Nat} (w : World) (_ : Tp w) (hn : n ≠ 56 ∨ m ≠ 56) :
    Calls Tryd.prog 19 #[.slice a n c, .slice b m d] w fun e w' => ∃ a' c', e = .returned (.tuple #[.slice a' 0 c', .int .i64 11]) ∧ Below w.heap.size w w' := by
  have HZ : Hid (szX n m = 11) := Lib.hid (if_neg fun h => hn.elim (fun k => k h.1) fun k => k h.2)
  clear hn
  have H := Lib.hid (Ow.start w)
  go_enter Tryd.func19, Tryd.ntmps19
  go_wp2_with (first
    | ((with_reducible apply lay_two H); (case hgd => exact rfl); (case ho => exact rfl); (case h0 => exact rfl); (case h1 => exact rfl); intro w15 g15 H' _ _; replace H := H'; clear H'; go_simp)
    | ((with_reducible refine (lsized_k _ (H.out.row 0 rfl)).mono ?_); rintro e wc ⟨rfl, hww⟩; have hww' := hww.symm; subst hww'; rw [HZ.out]))
  go_ret2
  exact ⟨none, 0, rfl, H.out.bel⟩
set_option maxRecDepth 8000 in
set_option maxHeartbeats 3200000 in
theorem x448_nil {a b : Option Addr} {c d x y : Nat} {R : K} (w : World) (hT : Tp w) (hx : Sb w w.heap.size a 56 c x) (hy : Sb w w.heap.size b 56 d y) (hR : ldV (cN pN y) (clN x) = R) (h0 : R = 0) :
    Calls Tryd.prog 19 #[.slice a 56 c, .slice b 56 d] w fun e w' => e = .returned (.tuple #[.slice none 0 0, .int .i64 15]) ∧ Below w.heap.size w w' := by
  have HZ : Hid (szX 56 56 = 0) := Lib.hid (if_pos ⟨rfl, rfl⟩)
  have HD : Hid (decide (R = 0) = true) := Lib.hid (decide_eq_true h0)
  replace hR := Lib.hid hR
  have HT := Lib.hid hT
  clear hT
  have HX := Lib.hid hx
  have HY := Lib.hid hy
  have H0 := Lib.hid h0
  clear hx hy h0
  have H := Lib.hid (Ow.start w)
  go_enter Tryd.func19, Tryd.ntmps19
  go_wp2_with (first
    | ((with_reducible apply lay_two H); (case hgd => exact rfl); (case ho => exact rfl); (case h0 => exact rfl); (case h1 => exact rfl); intro w15 g15 H' _ _; replace H := H'; clear H'; go_simp)
    | ((with_reducible refine (lsized_k _ (H.out.row 0 rfl)).mono ?_); rintro e wc ⟨rfl, hww⟩; have hww' := hww.symm; subst hww'; rw [HZ.out])
    | ((fail_if_success have := m1); (with_reducible refine (clamp_x _ ((HX.out.below H.out.bel).more H.out.bel.size)).mono ?_); rintro e wc ⟨a1, c1, rfl, hs, hb⟩; have HB0 := Lib.hid (H.out.call hb).bel; have S1 := Lib.hid hs; have m1 := trivial; clear hb hs H; have H := Lib.hid (Ow.start wc))
    | ((fail_if_success have := V1); (with_reducible refine (of_x _ ((HY.out.below (HB0.out.trans (H.out.bel.mono HB0.out.size))).more (HB0.out.trans (H.out.bel.mono HB0.out.size)).size)).mono ?_); rintro e wd ⟨h1, rfl, hv, hb⟩; replace H := Lib.hid (H.out.call hb); have V1 := Lib.hid hv; clear hv hb)
    | ((fail_if_success have := g9); (with_reducible apply own_alloc nilE H); (case hgd => exact rfl); (case ho => exact rfl); intro w9 g9 H' _ _; replace H := H'; clear H'; go_simp)
    | ((with_reducible apply own_store rowE H); (case hgd => exact rfl); (case ho => exact rfl); (case hx => exact rfl); (case hy => exact rfl); (case hi => first | exact at0 | exact at1 | exact at2 | exact at3 | exact at4 | exact at5 | exact at6 | exact at7 | exact at8 | exact at9); intro ws H' _ _; replace H := H'; clear H'; simp only [List.set_cons_zero] at H; go_simp)
    | ((with_reducible apply own_load rowE H); (case hgd => exact rfl); (case ho => exact rfl); (case hx => exact rfl); (case hi => first | exact at0 | exact at1 | exact at2 | exact at3 | exact at4 | exact at5 | exact at6 | exact at7 | exact at8 | exact at9); intro _ _; go_simp)
    | ((fail_if_success have := V2); (with_reducible refine (ladder_k _ (HT.out.below (HB0.out.trans (H.out.bel.mono HB0.out.size))) (by omega) ((S1.out.below H.out.bel).more H.out.bel.size) V1.out).mono ?_); rintro e wd ⟨h2, rfl, hv, hb⟩; replace H := Lib.hid (H.out.call hb); have V2 := Lib.hid (hR.out ▸ hv); clear hv hb)
    | ((fail_if_success have := g11); (with_reducible apply own_alloc nilE H); (case hgd => exact rfl); (case ho => exact rfl); intro w11 g11 H' _ _; replace H := H'; clear H'; go_simp)
    | ((with_reducible refine (zero_k _ V2.out).mono ?_); rintro e wd ⟨rfl, hb⟩; replace H := Lib.hid (H.out.call hb); clear hb; rw [HD.out]))
  go_ret2
  exact ⟨rfl, (HB0.out.trans (H.out.bel.mono HB0.out.size))⟩
set_option maxRecDepth 8000 in
set_option maxHeartbeats 3200000 in
theorem x448_row {a b : Option Addr} {c d x y : Nat} {R : K} (w : World) (hT : Tp w) (hx : Sb w w.heap.size a 56 c x) (hy : Sb w w.heap.size b 56 d y) (hR : ldV (cN pN y) (clN x) = R) (h0 : R ≠ 0) :
    Calls Tryd.prog 19 #[.slice a 56 c, .slice b 56 d] w fun e w' => ∃ g c' o, e = .returned (.tuple #[.slice (some ⟨g, 0, none⟩) 56 c', .int .i64 0]) ∧ w.heap.size ≤ g ∧ w'.heap[g]? = some o ∧ (∀ W : World, W.heap[g]? = some o → Sb W W.heap.size (some ⟨g, 0, none⟩) 56 c' R.val) ∧ Below w.heap.size w w' := by
  have HZ : Hid (szX 56 56 = 0) := Lib.hid (if_pos ⟨rfl, rfl⟩)
  have HD : Hid (decide (R = 0) = false) := Lib.hid (decide_eq_false h0)
  replace hR := Lib.hid hR
  have HT := Lib.hid hT
  clear hT
  have HX := Lib.hid hx
  have HY := Lib.hid hy
  have H0 := Lib.hid h0
  clear hx hy h0
  have H := Lib.hid (Ow.start w)
  go_enter Tryd.func19, Tryd.ntmps19
  go_wp2_with (first
    | ((with_reducible apply lay_two H); (case hgd => exact rfl); (case ho => exact rfl); (case h0 => exact rfl); (case h1 => exact rfl); intro w15 g15 H' _ _; replace H := H'; clear H'; go_simp)
    | ((with_reducible refine (lsized_k _ (H.out.row 0 rfl)).mono ?_); rintro e wc ⟨rfl, hww⟩; have hww' := hww.symm; subst hww'; rw [HZ.out])
    | ((fail_if_success have := m1); (with_reducible refine (clamp_x _ ((HX.out.below H.out.bel).more H.out.bel.size)).mono ?_); rintro e wc ⟨a1, c1, rfl, hs, hb⟩; have HB0 := Lib.hid (H.out.call hb).bel; have S1 := Lib.hid hs; have m1 := trivial; clear hb hs H; have H := Lib.hid (Ow.start wc))
    | ((fail_if_success have := V1); (with_reducible refine (of_x _ ((HY.out.below (HB0.out.trans (H.out.bel.mono HB0.out.size))).more (HB0.out.trans (H.out.bel.mono HB0.out.size)).size)).mono ?_); rintro e wd ⟨h1, rfl, hv, hb⟩; replace H := Lib.hid (H.out.call hb); have V1 := Lib.hid hv; clear hv hb)
    | ((fail_if_success have := g9); (with_reducible apply own_alloc nilE H); (case hgd => exact rfl); (case ho => exact rfl); intro w9 g9 H' _ _; replace H := H'; clear H'; go_simp)
    | ((with_reducible apply own_store rowE H); (case hgd => exact rfl); (case ho => exact rfl); (case hx => exact rfl); (case hy => exact rfl); (case hi => first | exact at0 | exact at1 | exact at2 | exact at3 | exact at4 | exact at5 | exact at6 | exact at7 | exact at8 | exact at9); intro ws H' _ _; replace H := H'; clear H'; simp only [List.set_cons_zero] at H; go_simp)
    | ((with_reducible apply own_load rowE H); (case hgd => exact rfl); (case ho => exact rfl); (case hx => exact rfl); (case hi => first | exact at0 | exact at1 | exact at2 | exact at3 | exact at4 | exact at5 | exact at6 | exact at7 | exact at8 | exact at9); intro _ _; go_simp)
    | ((fail_if_success have := V2); (with_reducible refine (ladder_k _ (HT.out.below (HB0.out.trans (H.out.bel.mono HB0.out.size))) (by omega) ((S1.out.below H.out.bel).more H.out.bel.size) V1.out).mono ?_); rintro e wd ⟨h2, rfl, hv, hb⟩; replace H := Lib.hid (H.out.call hb); have V2 := Lib.hid (hR.out ▸ hv); clear hv hb)
    | ((fail_if_success have := g11); (with_reducible apply own_alloc nilE H); (case hgd => exact rfl); (case ho => exact rfl); intro w11 g11 H' _ _; replace H := H'; clear H'; go_simp)
    | ((with_reducible refine (zero_k _ V2.out).mono ?_); rintro e wd ⟨rfl, hb⟩; replace H := Lib.hid (H.out.call hb); clear hb; rw [HD.out])
    | ((with_reducible refine (bytes_rk _ V2.out).mono ?_); rintro e wd ⟨gb, rfl, hg, hr, hb⟩; replace H := Lib.hid (H.out.add hb hg hr); clear hb hg hr))
  go_ret2
  refine ⟨gb, 56, _, rfl, Nat.le_trans HB0.out.size (H.out.ge 0 rfl), H.out.row 0 rfl, fun W hW => ⟨?_, k_fits R⟩, (HB0.out.trans (H.out.bel.mono HB0.out.size))⟩
  rw [← bX_bt]
  exact rowSl hW
theorem x448_k {a b : Option Addr} {c d x y : Nat} {R : K} (w : World) (hT : Tp w) (hx : Sb w w.heap.size a 56 c x) (hy : Sb w w.heap.size b 56 d y) (hR : ldV (cN pN y) (clN x) = R) :
    Calls Tryd.prog 19 #[.slice a 56 c, .slice b 56 d] w fun e w' => ∃ a' c', e = .returned (.tuple #[.slice a' (lnR R) c', .int .i64 (erR R)]) ∧ Sb w' w'.heap.size a' (lnR R) c' R.val ∧ Below w.heap.size w w' := by
  rcases res_or R with ⟨h, h1, h2⟩ | ⟨h, h1, h2⟩
  · refine (x448_nil w hT hx hy hR h).mono fun _ _ ⟨he, hb⟩ => ⟨none, 0, ?_, ?_, hb⟩
    · rw [h1, h2]
      exact he
    · rw [h1, h]
      exact ⟨⟨Nat.le_refl _, fun _ => rfl, fun _ e _ => by cases e⟩, by decide⟩
  · rw [h1, h2]
    exact (x448_row w hT hx hy hR h).mono fun _ w' ⟨g, c', o, he, _, hr, hs, hb⟩ => ⟨_, c', he, hs w' hr, hb⟩
set_option maxRecDepth 8000 in
set_option maxHeartbeats 3200000 in
theorem public_bad {a : Option Addr} {n c : Nat} (w : World) (hT : Tp w) (hn : n ≠ 56) :
    Calls Tryd.prog 20 #[.slice a n c] w fun e w' => ∃ a' c', e = .returned (.tuple #[.slice a' 0 c', .int .i64 11]) ∧ Below w.heap.size w w' := by
  have HT := Lib.hid hT
  clear hT
  have HN := Lib.hid hn
  clear hn
  have H := Lib.hid (Ow.start w)
  go_enter Tryd.func20, Tryd.ntmps20
  go_wp2_with (first
    | ((fail_if_success have := V1); (with_reducible refine (int_k 5 _ (HT.out.below H.out.bel) (by omega) (by omega)).mono ?_); rintro e wc ⟨h1, rfl, hv, hb⟩; replace H := Lib.hid (H.out.call hb); clear hb; have V1 := Lib.hid hv; clear hv)
    | ((fail_if_success have := m1); (with_reducible refine (bytes_sb _ V1.out).mono ?_); rintro e wc ⟨gy, cy, rfl, hs, hb⟩; replace H := Lib.hid (H.out.call hb); have S1 := Lib.hid hs; have m1 := trivial; clear hb hs)
    | ((with_reducible refine (x448_bad _ (HT.out.below H.out.bel) (.inl HN.out)).mono ?_); rintro e wc ⟨ax, cx, rfl, hb⟩; replace H := Lib.hid (H.out.call hb); clear hb))
  go_ret2
  exact ⟨ax, cx, rfl, H.out.bel⟩
set_option maxRecDepth 8000 in
set_option maxHeartbeats 3200000 in
theorem public_k {a : Option Addr} {c x : Nat} {R : K} (w : World) (hT : Tp w) (hx : Sb w w.heap.size a 56 c x) (hR : ldV (ofZ 5) (clN x) = R) :
    Calls Tryd.prog 20 #[.slice a 56 c] w fun e w' => ∃ a' c', e = .returned (.tuple #[.slice a' (lnR R) c', .int .i64 (erR R)]) ∧ Sb w' w'.heap.size a' (lnR R) c' R.val ∧ Below w.heap.size w w' := by
  obtain ⟨F, hF⟩ : ∃ F : K, F = ofZ 5 := ⟨_, rfl⟩
  have HR : Hid (ldV (cN pN F.val) (clN x) = R) := Lib.hid (by rw [cN_val, hF]; exact hR)
  have HF := Lib.hid hF
  clear hR hF
  have HT := Lib.hid hT
  clear hT
  have HX := Lib.hid hx
  clear hx
  have H := Lib.hid (Ow.start w)
  go_enter Tryd.func20, Tryd.ntmps20
  go_wp2_with (first
    | ((fail_if_success have := V1); (with_reducible refine (int_k 5 _ (HT.out.below H.out.bel) (by omega) (by omega)).mono ?_); rintro e wc ⟨h1, rfl, hv, hb⟩; replace H := Lib.hid (H.out.call hb); clear hb; have V1 : Hid (EK h1 F) := Lib.hid (HF.out ▸ hv); clear hv)
    | ((fail_if_success have := m1); (with_reducible refine (bytes_sb _ V1.out).mono ?_); rintro e wc ⟨gy, cy, rfl, hs, hb⟩; replace H := Lib.hid (H.out.call hb); have S1 := Lib.hid hs; have m1 := trivial; clear hb hs)
    | ((with_reducible refine (x448_k _ (HT.out.below H.out.bel) ((HX.out.below H.out.bel).more H.out.bel.size) S1.out HR.out).mono ?_); rintro e wc ⟨ax, cx, rfl, hs, hb⟩; replace H := Lib.hid (H.out.call hb); have SR := Lib.hid hs; clear hb hs))
  go_ret2
  exact ⟨ax, cx, rfl, SR.out, H.out.bel⟩
end Go.Proofs.YtckmboebipbpbaaDoor
