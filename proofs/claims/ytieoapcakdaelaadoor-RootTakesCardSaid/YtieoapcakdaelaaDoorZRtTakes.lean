/-
  The walk of RootTakes. No statement is proved here: lemmas for the walks.
-/
import Derived.Test.YtieoapcakdaelaaDoorZRtAwk
import Derived.Test.YtieoapcakdaelaaDoorZRtRroot
namespace Go.Proofs.YtieoapcakdaelaaDoor
open Go.RowKit

theorem root_kt {f : Nat → Nat} {a : K} (w : World) (hT : Tp w) (hf : EK f a) (h : a ^ (eC + 1) * a ^ (eC + 1) = a) :
    Calls Tryd.prog 37 #[EV f] w fun e w' => ∃ h, e = .returned (.tuple #[EV h, .int .i64 0]) ∧ EK h (ab (a ^ (eC + 1))) ∧ Below w.heap.size w w' :=
  (root_k w hT hf).mono fun _ _ ⟨h1, hb⟩ => by
    rcases h1 with ⟨_, k, he, hv⟩ | ⟨hn, _⟩
    · exact ⟨k, he, hv, hb⟩
    · exact absurd h hn
theorem root_kf {f : Nat → Nat} {a : K} (w : World) (hT : Tp w) (hf : EK f a) (h : a ^ (eC + 1) * a ^ (eC + 1) ≠ a) :
    Calls Tryd.prog 37 #[EV f] w fun e w' => e = .returned (.tuple #[EV (fun _ => 0), .int .i64 17]) ∧ Below w.heap.size w w' :=
  (root_k w hT hf).mono fun _ _ ⟨h1, hb⟩ => by
    rcases h1 with ⟨hn, _⟩ | ⟨_, he⟩
    · exact absurd hn h
    · exact ⟨he, hb⟩
theorem refRoot_kt {a : K} (w : World) (h : a ^ (eC + 1) * a ^ (eC + 1) = a) :
    Calls Tryd.prog 38 #[FV a.val] w fun e w' => e = .returned (.tuple #[FV (ab (a ^ (eC + 1))).val, .bool true]) ∧ Below w.heap.size w w' :=
  (refRoot_k w).mono fun _ _ ⟨h1, hb⟩ => by
    rcases h1 with ⟨_, he⟩ | ⟨hn, _⟩
    · exact ⟨he, hb⟩
    · exact absurd h hn
theorem refRoot_kf {a : K} (w : World) (h : a ^ (eC + 1) * a ^ (eC + 1) ≠ a) :
    Calls Tryd.prog 38 #[FV a.val] w fun e w' => e = .returned (.tuple #[FV (0 : K).val, .bool false]) ∧ Below w.heap.size w w' :=
  (refRoot_k w).mono fun _ _ ⟨h1, hb⟩ => by
    rcases h1 with ⟨hn, _⟩ | ⟨_, he⟩
    · exact absurd hn h
    · exact ⟨he, hb⟩
set_option maxRecDepth 20000 in
set_option maxHeartbeats 12800000 in
theorem takes_walk (u : Nat → BitVec 8) (w : World) (hT : Tp w) :
    Calls Tryd.prog 6 #[.agg (AZ .u8 56 (UB u))] w fun e w' => e = .returned (.bool true) ∧ Below w.heap.size w w' := by
  obtain ⟨f, a, hm1, hp1, hv1⟩ := raw_k u
  have HM1 := Lib.hid hm1
  have HP1 := Lib.hid hp1
  have HV1 := Lib.hid hv1
  clear hm1 hp1 hv1
  have HT := Lib.hid hT
  clear hT
  obtain ⟨r, hr⟩ : ∃ r, a ^ (eC + 1) = r := ⟨_, rfl⟩
  by_cases hq : r * r = a
  · have HR := Lib.hid (fun w hT => root_kt w hT HV1.out (by rw [hr]; exact hq))
    have HF := Lib.hid (fun w => refRoot_kt (a := a) w (by rw [hr]; exact hq))
    rw [hr] at HR HF
    clear hr hq
    have H := Lib.hid (Ow.start w)
    go_enter Tryd.func6, Tryd.ntmps6
    go_wp2_with (first
      | ((fail_if_success have := g1); (with_reducible apply own_box H); (case hgd => exact rfl); (case ho => exact rfl); (case hx => exact rfl); intro w1 g1 H' _ _; replace H := H'; clear H'; go_simp)
      | ((with_reducible apply own_load rowB H); (case hgd => exact rfl); (case ho => exact rfl); (case hx => exact rfl); (case hi => first | exact at0 | exact at1 | exact at2 | exact at3 | exact at4 | exact at5 | exact at6 | exact at7 | exact at8 | exact at9); intro _ _; go_simp)
      | ((with_reducible apply own_load rowE H); (case hgd => exact rfl); (case ho => exact rfl); (case hx => exact rfl); (case hi => first | exact at0 | exact at1 | exact at2 | exact at3 | exact at4 | exact at5 | exact at6 | exact at7 | exact at8 | exact at9); intro _ _; go_simp)
      | ((with_reducible refine (HM1.out _).mono ?_); rintro e wc ⟨rfl, hb⟩; replace H := Lib.hid (H.out.call hb); clear hb)
      | ((with_reducible refine (HP1.out _).mono ?_); rintro e wc ⟨rfl, hb⟩; replace H := Lib.hid (H.out.call hb); clear hb)
      | ((fail_if_success have := g3); (with_reducible apply own_alloc nilE H); (case hgd => exact rfl); (case ho => exact rfl); intro w3 g3 H' _ _; replace H := H'; clear H'; go_simp)
      | ((fail_if_success have := g5); (with_reducible apply own_alloc nilE H); (case hgd => exact rfl); (case ho => exact rfl); intro w5 g5 H' _ _; replace H := H'; clear H'; go_simp)
      | ((fail_if_success have := g7); (with_reducible apply own_alloc intsF.zero H); (case hgd => exact rfl); (case ho => exact rfl); intro w7 g7 H' _ _; replace H := H'; clear H'; go_simp)
      | ((with_reducible apply own_store rowE H); (case hgd => exact rfl); (case ho => exact rfl); (case hx => exact rfl); (case hy => exact rfl); (case hi => first | exact at0 | exact at1 | exact at2 | exact at3 | exact at4 | exact at5 | exact at6 | exact at7 | exact at8 | exact at9); intro ws H' _ _; replace H := H'; clear H'; simp only [List.set_cons_zero] at H; go_simp)
      | ((with_reducible apply own_store rowF H); (case hgd => exact rfl); (case ho => exact rfl); (case hx => exact rfl); (case hy => exact rfl); (case hi => first | exact at0 | exact at1 | exact at2 | exact at3 | exact at4 | exact at5 | exact at6 | exact at7 | exact at8 | exact at9); intro ws H' _ _; replace H := H'; clear H'; simp only [List.set_cons_zero] at H; go_simp)
      | ((with_reducible apply own_loadg rowE H); (case hw => exact rfl); (case ho => exact rfl); (case hx => exact rfl); (case hi => first | exact at0 | exact at1 | exact at2 | exact at3 | exact at4 | exact at5 | exact at6 | exact at7 | exact at8 | exact at9); intro _ _; go_simp)
      | ((with_reducible apply own_loadg rowF H); (case hw => exact rfl); (case ho => exact rfl); (case hx => exact rfl); (case hi => first | exact at0 | exact at1 | exact at2 | exact at3 | exact at4 | exact at5 | exact at6 | exact at7 | exact at8 | exact at9); intro _ _; go_simp)
      | ((with_reducible refine (awake5 _ (HT.out.below H.out.bel)).mono ?_); rintro e wc ⟨rfl, hb⟩; replace H := Lib.hid (H.out.call hb); clear hb)
      | ((with_reducible refine (HR.out _ (HT.out.below H.out.bel)).mono ?_); rintro e wc ⟨h, rfl, hv, hb⟩; replace H := Lib.hid (H.out.call hb); clear hb; have HV2 := Lib.hid hv; clear hv)
      | ((with_reducible refine (HF.out _).mono ?_); rintro e wc ⟨rfl, hb⟩; replace H := Lib.hid (H.out.call hb); clear hb)
      | ((with_reducible refine (is_kt _ HV2.out rfl).mono ?_); rintro e wc ⟨rfl, hb⟩; replace H := Lib.hid (H.out.call hb); clear hb))
    go_ret
    exact ⟨rfl, H.out.bel⟩
  · have HR := Lib.hid (fun w hT => root_kf w hT HV1.out (by rw [hr]; exact hq))
    have HF := Lib.hid (fun w => refRoot_kf (a := a) w (by rw [hr]; exact hq))
    clear hr hq
    have H := Lib.hid (Ow.start w)
    go_enter Tryd.func6, Tryd.ntmps6
    go_wp2_with (first
      | ((fail_if_success have := g1); (with_reducible apply own_box H); (case hgd => exact rfl); (case ho => exact rfl); (case hx => exact rfl); intro w1 g1 H' _ _; replace H := H'; clear H'; go_simp)
      | ((with_reducible apply own_load rowB H); (case hgd => exact rfl); (case ho => exact rfl); (case hx => exact rfl); (case hi => first | exact at0 | exact at1 | exact at2 | exact at3 | exact at4 | exact at5 | exact at6 | exact at7 | exact at8 | exact at9); intro _ _; go_simp)
      | ((with_reducible apply own_load rowE H); (case hgd => exact rfl); (case ho => exact rfl); (case hx => exact rfl); (case hi => first | exact at0 | exact at1 | exact at2 | exact at3 | exact at4 | exact at5 | exact at6 | exact at7 | exact at8 | exact at9); intro _ _; go_simp)
      | ((with_reducible refine (HM1.out _).mono ?_); rintro e wc ⟨rfl, hb⟩; replace H := Lib.hid (H.out.call hb); clear hb)
      | ((with_reducible refine (HP1.out _).mono ?_); rintro e wc ⟨rfl, hb⟩; replace H := Lib.hid (H.out.call hb); clear hb)
      | ((fail_if_success have := g3); (with_reducible apply own_alloc nilE H); (case hgd => exact rfl); (case ho => exact rfl); intro w3 g3 H' _ _; replace H := H'; clear H'; go_simp)
      | ((fail_if_success have := g5); (with_reducible apply own_alloc nilE H); (case hgd => exact rfl); (case ho => exact rfl); intro w5 g5 H' _ _; replace H := H'; clear H'; go_simp)
      | ((fail_if_success have := g7); (with_reducible apply own_alloc intsF.zero H); (case hgd => exact rfl); (case ho => exact rfl); intro w7 g7 H' _ _; replace H := H'; clear H'; go_simp)
      | ((with_reducible apply own_store rowE H); (case hgd => exact rfl); (case ho => exact rfl); (case hx => exact rfl); (case hy => exact rfl); (case hi => first | exact at0 | exact at1 | exact at2 | exact at3 | exact at4 | exact at5 | exact at6 | exact at7 | exact at8 | exact at9); intro ws H' _ _; replace H := H'; clear H'; simp only [List.set_cons_zero] at H; go_simp)
      | ((with_reducible apply own_store rowF H); (case hgd => exact rfl); (case ho => exact rfl); (case hx => exact rfl); (case hy => exact rfl); (case hi => first | exact at0 | exact at1 | exact at2 | exact at3 | exact at4 | exact at5 | exact at6 | exact at7 | exact at8 | exact at9); intro ws H' _ _; replace H := H'; clear H'; simp only [List.set_cons_zero] at H; go_simp)
      | ((with_reducible apply own_loadg rowE H); (case hw => exact rfl); (case ho => exact rfl); (case hx => exact rfl); (case hi => first | exact at0 | exact at1 | exact at2 | exact at3 | exact at4 | exact at5 | exact at6 | exact at7 | exact at8 | exact at9); intro _ _; go_simp)
      | ((with_reducible apply own_loadg rowF H); (case hw => exact rfl); (case ho => exact rfl); (case hx => exact rfl); (case hi => first | exact at0 | exact at1 | exact at2 | exact at3 | exact at4 | exact at5 | exact at6 | exact at7 | exact at8 | exact at9); intro _ _; go_simp)
      | ((with_reducible refine (awake5 _ (HT.out.below H.out.bel)).mono ?_); rintro e wc ⟨rfl, hb⟩; replace H := Lib.hid (H.out.call hb); clear hb)
      | ((with_reducible refine (HR.out _ (HT.out.below H.out.bel)).mono ?_); rintro e wc ⟨rfl, hb⟩; replace H := Lib.hid (H.out.call hb); clear hb)
      | ((with_reducible refine (HF.out _).mono ?_); rintro e wc ⟨rfl, hb⟩; replace H := Lib.hid (H.out.call hb); clear hb)
      | ((with_reducible refine (zero_kt _ zero_ek rfl).mono ?_); rintro e wc ⟨rfl, hb⟩; replace H := Lib.hid (H.out.call hb); clear hb))
    go_ret
    exact ⟨rfl, H.out.bel⟩
end Go.Proofs.YtieoapcakdaelaaDoor
