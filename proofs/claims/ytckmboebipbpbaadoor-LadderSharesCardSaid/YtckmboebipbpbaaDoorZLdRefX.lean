/-
  The contract of chicoryref10's X448. No statement is proved here: lemmas for the walks.
-/
import Derived.Test.YtckmboebipbpbaaDoorZLdRefL
import Derived.Test.YtckmboebipbpbaaDoorBuV
import Derived.Test.YtckmboebipbpbaaDoorBuB
import Derived.Test.YtckmboebipbpbaaDoorBuE
import Derived.Deep.CutRange
namespace Go.Proofs.YtckmboebipbpbaaDoor
open Go.RowKit

section
variable {ops : Array Oper} {rest : List Oper} {o : Oper} {a : Act} {w : World} {Q : Exit → Act → World → Prop}
theorem lay_build_F0l {O : Fin pN} (hO : O = 0) (hgd : o.guard = none) (ho : o.op = .build 36 #[])
    (k : ∀ K : Act → World → Prop, (∀ a w, wpList Tryd.prog ops Q rest a w → K a w) → K (a.put o.dst (FV O.val)) w) : wpList Tryd.prog ops Q (o :: rest) a w :=
  wpList_plain hgd fun K hK => by
    unfold Oper.wp execOp
    simp only [ho, Array.map_empty, Sem.run_bind, built_F0, Result.andThen_ok]
    subst hO
    exact k K hK
end
theorem refOf_c {b : Option Addr} {d y : Nat} {u : K} (w : World) (hs : Sb w w.heap.size b 56 d y) (hu : cN pN y = u) :
    Calls Tryd.prog 43 #[.slice b 56 d] w fun e w' => e = .returned (FV u.val) ∧ Below w.heap.size w w' :=
  (refOf_any b d (bt y) w hs.sl).mono fun _ _ ⟨he, hb⟩ => ⟨by
    rw [he, nB_bt, Nat.mod_eq_of_lt hs.fits, ← hu]
    rfl, hb⟩
theorem refBytes_sb {x : K} (w : World) :
    Calls Tryd.prog 22 #[FV x.val] w fun e w' => ∃ a c, e = .returned (.slice a 56 c) ∧ Sb w' w'.heap.size a 56 c x.val ∧ Below w.heap.size w w' :=
  (refBytes_any x.val w).mono fun _ _ ⟨_, he, ⟨g, c, hv, _, hs⟩, hb⟩ => ⟨some ⟨g, 0, none⟩, c, by rw [he, hv], ⟨by rw [← bX_bt]; exact hs, k_fits x⟩, hb⟩
set_option maxRecDepth 8000 in
set_option maxHeartbeats 3200000 in
theorem refX_z {a b : Option Addr} {c d x y : Nat} {R : K} (w : World) (hx : Sb w w.heap.size a 56 c x) (hy : Sb w w.heap.size b 56 d y) (hR : ldV (cN pN y) (clN x) = R) (h0 : decide (R = 0) = true) :
    Calls Tryd.prog 21 #[.slice a 56 c, .slice b 56 d] w fun e w' => e = .returned (.slice none 0 0) ∧ Below w.heap.size w w' := by
  obtain ⟨O, hO⟩ : ∃ O : K, O = 0 := ⟨_, rfl⟩
  have ZO := Lib.hid hO
  rw [← hO] at h0
  have HZ := Lib.hid h0
  have HK := Lib.hid hx
  have HU := Lib.hid hy
  obtain ⟨u, hu⟩ : ∃ u : K, cN pN y = u := ⟨_, rfl⟩
  have UU := Lib.hid hu
  rw [hu] at hR
  have RR := Lib.hid hR
  clear hO h0 hx hy hu hR
  have H := Lib.hid (Ow.start w)
  go_enter Tryd.func21, Tryd.ntmps21
  go_wp2_with (first
    | ((fail_if_success have := SC); (with_reducible refine (rclamp_x _ ((HK.out.below H.out.bel).more H.out.bel.size)).mono ?_); rintro e wc ⟨ak, ck, rfl, hs, hb⟩; replace H := Lib.hid (H.out.call hb); have SC := Lib.hid hs; clear hb hs)
    | ((fail_if_success have := UF); (with_reducible refine (refOf_c _ ((HU.out.below H.out.bel).more H.out.bel.size) UU.out).mono ?_); rintro e wc ⟨rfl, hb⟩; replace H := Lib.hid (H.out.call hb); replace SC := Lib.hid (SC.out.call hb); clear hb; have UF := trivial)
    | ((with_reducible refine (refLadder_k _ _ _ _ _ (by omega) SC.out).mono ?_); rw [RR.out]; rintro e wc ⟨rfl, hb⟩; replace H := Lib.hid (H.out.call hb); clear hb)
    | ((fail_if_success have := g5); (fail_if_success have := g5); (with_reducible apply own_alloc intsF.zero H); (case hgd => exact rfl); (case ho => exact rfl); intro w5 g5 H' _ _; replace H := H'; clear H'; go_simp)
    | ((with_reducible apply own_store rowF H); (case hgd => exact rfl); (case ho => exact rfl); (case hx => exact rfl); (case hy => exact rfl); (case hi => first | exact at0 | exact at1 | exact at2 | exact at3 | exact at4 | exact at5 | exact at6 | exact at7 | exact at8 | exact at9); intro ws H' _ _; replace H := H'; clear H'; simp only [List.set_cons_zero] at H; go_simp)
    | ((with_reducible apply own_load rowF H); (case hgd => exact rfl); (case ho => exact rfl); (case hx => exact rfl); (case hi => first | exact at0 | exact at1 | exact at2 | exact at3 | exact at4 | exact at5 | exact at6 | exact at7 | exact at8 | exact at9); intro _ _; go_simp)
    | ((with_reducible apply lay_build_F0l ZO.out); (case hgd => exact rfl); (case ho => exact rfl); intro _ _; go_simp)
    | ((with_reducible refine (refSame_k _ _ _).mono ?_); rw [HZ.out]; rintro e wc ⟨rfl, hb⟩; replace H := Lib.hid (H.out.call hb); clear hb)
    | ((with_reducible refine (refBytes_sb _).mono ?_); rintro e wc ⟨av, cv, rfl, hs, hb⟩; replace H := Lib.hid (H.out.call hb); have SV := Lib.hid hs; clear hb hs))
  go_ret
  exact ⟨rfl, H.out.bel⟩
set_option maxRecDepth 8000 in
set_option maxHeartbeats 3200000 in
theorem refX_n {a b : Option Addr} {c d x y : Nat} {R : K} (w : World) (hx : Sb w w.heap.size a 56 c x) (hy : Sb w w.heap.size b 56 d y) (hR : ldV (cN pN y) (clN x) = R) (h0 : decide (R = 0) = false) :
    Calls Tryd.prog 21 #[.slice a 56 c, .slice b 56 d] w fun e w' => ∃ a' c', e = .returned (.slice a' 56 c') ∧ Sb w' w'.heap.size a' 56 c' R.val ∧ Below w.heap.size w w' := by
  obtain ⟨O, hO⟩ : ∃ O : K, O = 0 := ⟨_, rfl⟩
  have ZO := Lib.hid hO
  rw [← hO] at h0
  have HZ := Lib.hid h0
  have HK := Lib.hid hx
  have HU := Lib.hid hy
  obtain ⟨u, hu⟩ : ∃ u : K, cN pN y = u := ⟨_, rfl⟩
  have UU := Lib.hid hu
  rw [hu] at hR
  have RR := Lib.hid hR
  clear hO h0 hx hy hu hR
  have H := Lib.hid (Ow.start w)
  go_enter Tryd.func21, Tryd.ntmps21
  go_wp2_with (first
    | ((fail_if_success have := SC); (with_reducible refine (rclamp_x _ ((HK.out.below H.out.bel).more H.out.bel.size)).mono ?_); rintro e wc ⟨ak, ck, rfl, hs, hb⟩; replace H := Lib.hid (H.out.call hb); have SC := Lib.hid hs; clear hb hs)
    | ((fail_if_success have := UF); (with_reducible refine (refOf_c _ ((HU.out.below H.out.bel).more H.out.bel.size) UU.out).mono ?_); rintro e wc ⟨rfl, hb⟩; replace H := Lib.hid (H.out.call hb); replace SC := Lib.hid (SC.out.call hb); clear hb; have UF := trivial)
    | ((with_reducible refine (refLadder_k _ _ _ _ _ (by omega) SC.out).mono ?_); rw [RR.out]; rintro e wc ⟨rfl, hb⟩; replace H := Lib.hid (H.out.call hb); clear hb)
    | ((fail_if_success have := g5); (fail_if_success have := g5); (with_reducible apply own_alloc intsF.zero H); (case hgd => exact rfl); (case ho => exact rfl); intro w5 g5 H' _ _; replace H := H'; clear H'; go_simp)
    | ((with_reducible apply own_store rowF H); (case hgd => exact rfl); (case ho => exact rfl); (case hx => exact rfl); (case hy => exact rfl); (case hi => first | exact at0 | exact at1 | exact at2 | exact at3 | exact at4 | exact at5 | exact at6 | exact at7 | exact at8 | exact at9); intro ws H' _ _; replace H := H'; clear H'; simp only [List.set_cons_zero] at H; go_simp)
    | ((with_reducible apply own_load rowF H); (case hgd => exact rfl); (case ho => exact rfl); (case hx => exact rfl); (case hi => first | exact at0 | exact at1 | exact at2 | exact at3 | exact at4 | exact at5 | exact at6 | exact at7 | exact at8 | exact at9); intro _ _; go_simp)
    | ((with_reducible apply lay_build_F0l ZO.out); (case hgd => exact rfl); (case ho => exact rfl); intro _ _; go_simp)
    | ((with_reducible refine (refSame_k _ _ _).mono ?_); rw [HZ.out]; rintro e wc ⟨rfl, hb⟩; replace H := Lib.hid (H.out.call hb); clear hb)
    | ((with_reducible refine (refBytes_sb _).mono ?_); rintro e wc ⟨av, cv, rfl, hs, hb⟩; replace H := Lib.hid (H.out.call hb); have SV := Lib.hid hs; clear hb hs))
  go_ret
  exact ⟨_, _, rfl, SV.out, H.out.bel⟩










end Go.Proofs.YtckmboebipbpbaaDoor
