/-
  The walk of CodingReads. No statement is proved here: lemmas for the walks.
-/
import Derived.Test.YtanfobboeehiaaaDoorZClAwake
import Derived.Test.YtanfobboeehiaaaDoorZRfCd
import Derived.Test.YtanfobboeehiaaaDoorZPlIs
import Derived.Deep.CutRange
namespace Go.Proofs.YtanfobboeehiaaaDoor
open Go.RowKit

set_option maxRecDepth 20000 in
set_option maxHeartbeats 12800000 in
theorem reads_far {a : Option Addr} {n c : Nat} (w : World) (hT : Tp w) (hn : 80 < n) :
    Calls Tryd.prog 4 #[.slice a n c] w fun e w' => e = .returned (.bool true) ∧ Below w.heap.size w w' := by
  have hd : decide ((80 : Int) < (n : Int)) = true := by simp; omega
  clear hn
  have HT := Lib.hid hT
  clear hT
  have H := Lib.hid (Ow.start w)
  go_enter Tryd.func4, Tryd.ntmps4
  go_wp2_with (first
    | ((with_reducible refine (awake9_k _ (HT.out.below H.out.bel)).mono ?_); rintro e wc ⟨rfl, hb⟩; replace H := Lib.hid (H.out.call hb); clear hb))
  go_ret
  exact ⟨rfl, H.out.bel⟩
set_option maxRecDepth 20000 in
set_option maxHeartbeats 12800000 in
theorem reads_bad {a : Option Addr} {n c : Nat} (w : World) (hT : Tp w) (h80 : n ≤ 80) (hn : n ≠ 57) :
    Calls Tryd.prog 4 #[.slice a n c] w fun e w' => e = .returned (.bool true) ∧ Below w.heap.size w w' := by
  have hd : decide ((80 : Int) < (n : Int)) = false := by simp; omega
  have hd2 : ((n : Int) != 57) = true := by rw [bne_iff_ne]; omega
  have HN := Lib.hid hn
  clear hn h80
  have HT := Lib.hid hT
  clear hT
  have H := Lib.hid (Ow.start w)
  go_enter Tryd.func4, Tryd.ntmps4
  go_wp2_with (first
    | ((with_reducible refine (cdec_bad _ _ _ _ HN.out).mono ?_); rintro e wc ⟨rfl, hb⟩; replace H := Lib.hid (H.out.call hb); clear hb)
    | ((fail_if_success have := g3); (fail_if_success have := g3); (with_reducible apply own_alloc nilPt H); (case hgd => exact rfl); (case ho => exact rfl); intro w3 g3 H' _ _; replace H := H'; clear H'; go_simp)
    | ((with_reducible apply own_store rowPt H); (case hgd => exact rfl); (case ho => exact rfl); (case hx => exact rfl); (case hy => exact rfl); (case hi => first | exact at0 | exact at1 | exact at2 | exact at3 | exact at4 | exact at5 | exact at6 | exact at7 | exact at8 | exact at9); intro ws H' _ _; replace H := H'; clear H'; simp only [List.set_cons_zero] at H; go_simp)
    | ((with_reducible refine (awake9_k _ (HT.out.below H.out.bel)).mono ?_); rintro e wc ⟨rfl, hb⟩; replace H := Lib.hid (H.out.call hb); clear hb))
  go_ret
  exact ⟨rfl, H.out.bel⟩
set_option maxRecDepth 20000 in
set_option maxHeartbeats 12800000 in
theorem reads_off {a : Option Addr} {c x : Nat} (w : World) (hT : Tp w) (hs : Sb w w.heap.size a 57 c x) (hx : ∀ P, x ≠ cdN P) :
    Calls Tryd.prog 4 #[.slice a 57 c] w fun e w' => e = .returned (.bool true) ∧ Below w.heap.size w w' := by
  have HS := Lib.hid hs
  have HX := Lib.hid hx
  clear hs hx
  have HT := Lib.hid hT
  clear hT
  have H := Lib.hid (Ow.start w)
  go_enter Tryd.func4, Tryd.ntmps4
  go_wp2_with (first
    | ((with_reducible refine (decode_off _ (HT.out.below H.out.bel) ((HS.out.below H.out.bel).more H.out.bel.size) HX.out).mono ?_); rintro e wc ⟨rfl, hb⟩; replace H := Lib.hid (H.out.call hb); clear hb)
    | ((fail_if_success have := g3); (fail_if_success have := g3); (with_reducible apply own_alloc nilPt H); (case hgd => exact rfl); (case ho => exact rfl); intro w3 g3 H' _ _; replace H := H'; clear H'; go_simp)
    | ((with_reducible apply own_store rowPt H); (case hgd => exact rfl); (case ho => exact rfl); (case hx => exact rfl); (case hy => exact rfl); (case hi => first | exact at0 | exact at1 | exact at2 | exact at3 | exact at4 | exact at5 | exact at6 | exact at7 | exact at8 | exact at9); intro ws H' _ _; replace H := H'; clear H'; simp only [List.set_cons_zero] at H; go_simp)
    | ((with_reducible refine (refDecode_off _ ((HS.out.below H.out.bel).more H.out.bel.size) HX.out).mono ?_); rintro e wc ⟨rfl, hb⟩; replace H := Lib.hid (H.out.call hb); clear hb)
    | ((fail_if_success have := g5); (fail_if_success have := g5); (with_reducible apply own_alloc nilQt H); (case hgd => exact rfl); (case ho => exact rfl); intro w5 g5 H' _ _; replace H := H'; clear H'; go_simp)
    | ((with_reducible apply own_store rowQt H); (case hgd => exact rfl); (case ho => exact rfl); (case hx => exact rfl); (case hy => exact rfl); (case hi => first | exact at0 | exact at1 | exact at2 | exact at3 | exact at4 | exact at5 | exact at6 | exact at7 | exact at8 | exact at9); intro ws H' _ _; replace H := H'; clear H'; simp only [List.set_cons_zero] at H; go_simp)
    | ((with_reducible refine (awake9_k _ (HT.out.below H.out.bel)).mono ?_); rintro e wc ⟨rfl, hb⟩; replace H := Lib.hid (H.out.call hb); clear hb))
  go_ret
  exact ⟨rfl, H.out.bel⟩
set_option maxRecDepth 20000 in
set_option maxHeartbeats 12800000 in
theorem reads_on {a : Option Addr} {c x : Nat} {P1 : Pt pN dK} (w : World) (hT : Tp w) (hs : Sb w w.heap.size a 57 c x) (hx : x = cdN P1) :
    Calls Tryd.prog 4 #[.slice a 57 c] w fun e w' => e = .returned (.bool true) ∧ Below w.heap.size w w' := by
  have HS := Lib.hid hs
  have HX := Lib.hid hx
  clear hs hx
  have HT := Lib.hid hT
  clear hT
  have H := Lib.hid (Ow.start w)
  go_enter Tryd.func4, Tryd.ntmps4
  go_wp2_with (first
    | ((fail_if_success have := V1); (with_reducible refine (decode_on _ (HT.out.below H.out.bel) ((HS.out.below H.out.bel).more H.out.bel.size) HX.out).mono ?_); rintro e wc ⟨k1, rfl, hv, hb⟩; replace H := Lib.hid (H.out.call hb); clear hb; have V1 := Lib.hid hv; clear hv)
    | ((fail_if_success have := g3); (fail_if_success have := g3); (with_reducible apply own_alloc nilPt H); (case hgd => exact rfl); (case ho => exact rfl); intro w3 g3 H' _ _; replace H := H'; clear H'; go_simp)
    | ((with_reducible apply own_store rowPt H); (case hgd => exact rfl); (case ho => exact rfl); (case hx => exact rfl); (case hy => exact rfl); (case hi => first | exact at0 | exact at1 | exact at2 | exact at3 | exact at4 | exact at5 | exact at6 | exact at7 | exact at8 | exact at9); intro ws H' _ _; replace H := H'; clear H'; simp only [List.set_cons_zero] at H; go_simp)
    | ((fail_if_success have := W1); (with_reducible refine (refDecode_on _ ((HS.out.below H.out.bel).more H.out.bel.size) HX.out).mono ?_); rintro e wc ⟨r1, rfl, hv, hb⟩; replace H := Lib.hid (H.out.call hb); clear hb; have W1 := Lib.hid hv; clear hv)
    | ((fail_if_success have := g5); (fail_if_success have := g5); (with_reducible apply own_alloc nilQt H); (case hgd => exact rfl); (case ho => exact rfl); intro w5 g5 H' _ _; replace H := H'; clear H'; go_simp)
    | ((with_reducible apply own_store rowQt H); (case hgd => exact rfl); (case ho => exact rfl); (case hx => exact rfl); (case hy => exact rfl); (case hi => first | exact at0 | exact at1 | exact at2 | exact at3 | exact at4 | exact at5 | exact at6 | exact at7 | exact at8 | exact at9); intro ws H' _ _; replace H := H'; clear H'; simp only [List.set_cons_zero] at H; go_simp)
    | ((with_reducible apply own_load rowPt H); (case hgd => exact rfl); (case ho => exact rfl); (case hx => exact rfl); (case hi => first | exact at0 | exact at1 | exact at2 | exact at3 | exact at4 | exact at5 | exact at6 | exact at7 | exact at8 | exact at9); intro _ _; go_simp)
    | ((with_reducible apply own_loadg rowPt H); (case hw => exact rfl); (case ho => exact rfl); (case hx => exact rfl); (case hi => first | exact at0 | exact at1 | exact at2 | exact at3 | exact at4 | exact at5 | exact at6 | exact at7 | exact at8 | exact at9); intro _ _; go_simp)
    | ((with_reducible apply own_loadg rowQt H); (case hw => exact rfl); (case ho => exact rfl); (case hx => exact rfl); (case hi => first | exact at0 | exact at1 | exact at2 | exact at3 | exact at4 | exact at5 | exact at6 | exact at7 | exact at8 | exact at9); intro _ _; go_simp)
    | ((with_reducible refine (isPq_k _ V1.out W1.out (decide_eq_true rfl)).mono ?_); rintro e wc ⟨rfl, hb⟩; replace H := Lib.hid (H.out.call hb); clear hb)
    | ((with_reducible refine (awake9_k _ (HT.out.below H.out.bel)).mono ?_); rintro e wc ⟨rfl, hb⟩; replace H := Lib.hid (H.out.call hb); clear hb))
  go_ret
  exact ⟨rfl, H.out.bel⟩
theorem reads_walk {a : Option Addr} {n c x : Nat} (w : World) (hT : Tp w) (hs : Sb w w.heap.size a n c x) :
    Calls Tryd.prog 4 #[.slice a n c] w fun e w' => e = .returned (.bool true) ∧ Below w.heap.size w w' := by
  by_cases h80 : 80 < n
  · exact reads_far w hT h80
  by_cases hn : n = 57
  · subst hn
    by_cases h : ∃ P, x = cdN P
    · obtain ⟨P, h⟩ := h
      exact reads_on w hT hs h
    · exact reads_off w hT hs fun P e => h ⟨P, e⟩
  · exact reads_bad w hT (by omega) hn
end Go.Proofs.YtanfobboeehiaaaDoor
