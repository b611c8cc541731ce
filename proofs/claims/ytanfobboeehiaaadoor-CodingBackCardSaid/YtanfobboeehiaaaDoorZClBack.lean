/-
  The walk of CodingBack. No statement is proved here: lemmas for the walks.
-/
import Derived.Test.YtanfobboeehiaaaDoorZClAwake
import Derived.Test.YtanfobboeehiaaaDoorZPlMade
import Derived.Test.YtanfobboeehiaaaDoorBuH
import Derived.Deep.CutRange
namespace Go.Proofs.YtanfobboeehiaaaDoor
open Go.RowKit

set_option maxRecDepth 20000 in
set_option maxHeartbeats 12800000 in
theorem back_far (u : Nat → BitVec 8) (y : Int) {a : Option Addr} {n c : Nat} (w : World) (hT : Tp w) (hn : 80 < n) :
    Calls Tryd.prog 5 #[.agg (SpotA u y), .slice a n c] w fun e w' => e = .returned (.bool true) ∧ Below w.heap.size w w' := by
  have hd : decide ((80 : Int) < (n : Int)) = true := by simp; omega
  clear hn
  obtain ⟨x1, hx1⟩ := num57 u
  have M1 := Lib.hid (fun w hT => made8_k u y x1 w hT hx1)
  obtain ⟨P1, hP1⟩ : ∃ P, spot x1 (qn y) = P := ⟨_, rfl⟩
  rw [hP1] at M1
  clear hP1 hx1
  have HT := Lib.hid hT
  clear hT
  have H := Lib.hid (Ow.start w)
  go_enter Tryd.func5, Tryd.ntmps5
  go_wp2_with (first
    | ((fail_if_success have := g2); (with_reducible apply own_boxS H); (case hgd => exact rfl); (case ho => exact rfl); (case hx => exact rfl); intro w2 g2 H' _ _; replace H := H'; clear H'; go_simp)
    | ((with_reducible apply own_loadS H); (case hgd => exact rfl); (case ho => exact rfl); (case hx => exact rfl); (case hi => first | exact at0 | exact at1 | exact at2 | exact at3 | exact at4 | exact at5 | exact at6 | exact at7 | exact at8 | exact at9); intro _ _; go_simp)
    | ((fail_if_success have := V1); (with_reducible refine (M1.out _ (HT.out.below H.out.bel)).mono ?_); rintro e wc ⟨k1, rfl, hv, hb⟩; replace H := Lib.hid (H.out.call hb); clear hb; have V1 := Lib.hid hv; clear hv)
    | ((fail_if_success have := g5); (fail_if_success have := g5); (with_reducible apply own_alloc nilPt H); (case hgd => exact rfl); (case ho => exact rfl); intro w5 g5 H' _ _; replace H := H'; clear H'; go_simp)
    | ((with_reducible apply own_store rowPt H); (case hgd => exact rfl); (case ho => exact rfl); (case hx => exact rfl); (case hy => exact rfl); (case hi => first | exact at0 | exact at1 | exact at2 | exact at3 | exact at4 | exact at5 | exact at6 | exact at7 | exact at8 | exact at9); intro ws H' _ _; replace H := H'; clear H'; simp only [List.set_cons_zero] at H; go_simp)
    | ((with_reducible refine (awake9_k _ (HT.out.below H.out.bel)).mono ?_); rintro e wc ⟨rfl, hb⟩; replace H := Lib.hid (H.out.call hb); clear hb))
  go_ret
  exact ⟨rfl, H.out.bel⟩
set_option maxRecDepth 20000 in
set_option maxHeartbeats 12800000 in
theorem back_bad (u : Nat → BitVec 8) (y : Int) {a : Option Addr} {n c : Nat} (w : World) (hT : Tp w) (h80 : n ≤ 80) (hn : n ≠ 57) :
    Calls Tryd.prog 5 #[.agg (SpotA u y), .slice a n c] w fun e w' => e = .returned (.bool true) ∧ Below w.heap.size w w' := by
  have hd : decide ((80 : Int) < (n : Int)) = false := by simp; omega
  have HN := Lib.hid hn
  clear hn h80
  obtain ⟨x1, hx1⟩ := num57 u
  have M1 := Lib.hid (fun w hT => made8_k u y x1 w hT hx1)
  obtain ⟨P1, hP1⟩ : ∃ P, spot x1 (qn y) = P := ⟨_, rfl⟩
  rw [hP1] at M1
  clear hP1 hx1
  have HT := Lib.hid hT
  clear hT
  have H := Lib.hid (Ow.start w)
  go_enter Tryd.func5, Tryd.ntmps5
  go_wp2_with (first
    | ((fail_if_success have := g2); (with_reducible apply own_boxS H); (case hgd => exact rfl); (case ho => exact rfl); (case hx => exact rfl); intro w2 g2 H' _ _; replace H := H'; clear H'; go_simp)
    | ((with_reducible apply own_loadS H); (case hgd => exact rfl); (case ho => exact rfl); (case hx => exact rfl); (case hi => first | exact at0 | exact at1 | exact at2 | exact at3 | exact at4 | exact at5 | exact at6 | exact at7 | exact at8 | exact at9); intro _ _; go_simp)
    | ((fail_if_success have := V1); (with_reducible refine (M1.out _ (HT.out.below H.out.bel)).mono ?_); rintro e wc ⟨k1, rfl, hv, hb⟩; replace H := Lib.hid (H.out.call hb); clear hb; have V1 := Lib.hid hv; clear hv)
    | ((fail_if_success have := g5); (fail_if_success have := g5); (with_reducible apply own_alloc nilPt H); (case hgd => exact rfl); (case ho => exact rfl); intro w5 g5 H' _ _; replace H := H'; clear H'; go_simp)
    | ((with_reducible apply own_store rowPt H); (case hgd => exact rfl); (case ho => exact rfl); (case hx => exact rfl); (case hy => exact rfl); (case hi => first | exact at0 | exact at1 | exact at2 | exact at3 | exact at4 | exact at5 | exact at6 | exact at7 | exact at8 | exact at9); intro ws H' _ _; replace H := H'; clear H'; simp only [List.set_cons_zero] at H; go_simp)
    | ((with_reducible apply own_load rowPt H); (case hgd => exact rfl); (case ho => exact rfl); (case hx => exact rfl); (case hi => first | exact at0 | exact at1 | exact at2 | exact at3 | exact at4 | exact at5 | exact at6 | exact at7 | exact at8 | exact at9); intro _ _; go_simp)
    | ((fail_if_success have := L29); (with_reducible refine (encode_k _ V1.out).mono ?_); rintro e wc ⟨g29, c29, rfl, hc, hg, hr, hb⟩; replace H := Lib.hid (H.out.add hb hg hr); have L29 := Lib.hid hc; clear hb hg hr hc)
    | ((fail_if_success have := V2); (with_reducible refine (decode_on _ (HT.out.below H.out.bel) (code_sb (H.out.row 0 rfl) L29.out) rfl).mono ?_); rintro e wc ⟨k2, rfl, hv, hb⟩; replace H := Lib.hid (H.out.call hb); clear hb; have V2 := Lib.hid hv; clear hv)
    | ((fail_if_success have := g8); (fail_if_success have := g8); (with_reducible apply own_alloc nilPt H); (case hgd => exact rfl); (case ho => exact rfl); intro w8 g8 H' _ _; replace H := H'; clear H'; go_simp)
    | ((with_reducible apply own_loadg rowPt H); (case hw => exact rfl); (case ho => exact rfl); (case hx => exact rfl); (case hi => first | exact at0 | exact at1 | exact at2 | exact at3 | exact at4 | exact at5 | exact at6 | exact at7 | exact at8 | exact at9); intro _ _; go_simp)
    | ((fail_if_success have := Q1); (with_reducible refine (ptEqual_k _ (HT.out.below H.out.bel) V1.out V2.out (decide_eq_true rfl)).mono ?_); rintro e wc ⟨rfl, hb⟩; have Q1 := trivial; replace H := Lib.hid (H.out.call hb); clear hb)
    | ((with_reducible refine (cdec_bad _ _ _ _ HN.out).mono ?_); rintro e wc ⟨rfl, hb⟩; replace H := Lib.hid (H.out.call hb); clear hb)
    | ((fail_if_success have := g10); (fail_if_success have := g10); (with_reducible apply own_alloc nilPt H); (case hgd => exact rfl); (case ho => exact rfl); intro w10 g10 H' _ _; replace H := H'; clear H'; go_simp)
    | ((with_reducible refine (awake9_k _ (HT.out.below H.out.bel)).mono ?_); rintro e wc ⟨rfl, hb⟩; replace H := Lib.hid (H.out.call hb); clear hb))
  go_ret
  exact ⟨rfl, H.out.bel⟩
set_option maxRecDepth 20000 in
set_option maxHeartbeats 12800000 in
theorem back_off (u : Nat → BitVec 8) (y : Int) {a : Option Addr} {c x : Nat} (w : World) (hT : Tp w) (hs : Sb w w.heap.size a 57 c x) (hx : ∀ P, x ≠ cdN P) :
    Calls Tryd.prog 5 #[.agg (SpotA u y), .slice a 57 c] w fun e w' => e = .returned (.bool true) ∧ Below w.heap.size w w' := by
  have HS := Lib.hid hs
  have HX := Lib.hid hx
  clear hs hx
  obtain ⟨x1, hx1⟩ := num57 u
  have M1 := Lib.hid (fun w hT => made8_k u y x1 w hT hx1)
  obtain ⟨P1, hP1⟩ : ∃ P, spot x1 (qn y) = P := ⟨_, rfl⟩
  rw [hP1] at M1
  clear hP1 hx1
  have HT := Lib.hid hT
  clear hT
  have H := Lib.hid (Ow.start w)
  go_enter Tryd.func5, Tryd.ntmps5
  go_wp2_with (first
    | ((fail_if_success have := g2); (with_reducible apply own_boxS H); (case hgd => exact rfl); (case ho => exact rfl); (case hx => exact rfl); intro w2 g2 H' _ _; replace H := H'; clear H'; go_simp)
    | ((with_reducible apply own_loadS H); (case hgd => exact rfl); (case ho => exact rfl); (case hx => exact rfl); (case hi => first | exact at0 | exact at1 | exact at2 | exact at3 | exact at4 | exact at5 | exact at6 | exact at7 | exact at8 | exact at9); intro _ _; go_simp)
    | ((fail_if_success have := V1); (with_reducible refine (M1.out _ (HT.out.below H.out.bel)).mono ?_); rintro e wc ⟨k1, rfl, hv, hb⟩; replace H := Lib.hid (H.out.call hb); clear hb; have V1 := Lib.hid hv; clear hv)
    | ((fail_if_success have := g5); (fail_if_success have := g5); (with_reducible apply own_alloc nilPt H); (case hgd => exact rfl); (case ho => exact rfl); intro w5 g5 H' _ _; replace H := H'; clear H'; go_simp)
    | ((with_reducible apply own_store rowPt H); (case hgd => exact rfl); (case ho => exact rfl); (case hx => exact rfl); (case hy => exact rfl); (case hi => first | exact at0 | exact at1 | exact at2 | exact at3 | exact at4 | exact at5 | exact at6 | exact at7 | exact at8 | exact at9); intro ws H' _ _; replace H := H'; clear H'; simp only [List.set_cons_zero] at H; go_simp)
    | ((with_reducible apply own_load rowPt H); (case hgd => exact rfl); (case ho => exact rfl); (case hx => exact rfl); (case hi => first | exact at0 | exact at1 | exact at2 | exact at3 | exact at4 | exact at5 | exact at6 | exact at7 | exact at8 | exact at9); intro _ _; go_simp)
    | ((fail_if_success have := L29); (with_reducible refine (encode_k _ V1.out).mono ?_); rintro e wc ⟨g29, c29, rfl, hc, hg, hr, hb⟩; replace H := Lib.hid (H.out.add hb hg hr); have L29 := Lib.hid hc; clear hb hg hr hc)
    | ((fail_if_success have := V2); (with_reducible refine (decode_on _ (HT.out.below H.out.bel) (code_sb (H.out.row 0 rfl) L29.out) rfl).mono ?_); rintro e wc ⟨k2, rfl, hv, hb⟩; replace H := Lib.hid (H.out.call hb); clear hb; have V2 := Lib.hid hv; clear hv)
    | ((fail_if_success have := g8); (fail_if_success have := g8); (with_reducible apply own_alloc nilPt H); (case hgd => exact rfl); (case ho => exact rfl); intro w8 g8 H' _ _; replace H := H'; clear H'; go_simp)
    | ((with_reducible apply own_loadg rowPt H); (case hw => exact rfl); (case ho => exact rfl); (case hx => exact rfl); (case hi => first | exact at0 | exact at1 | exact at2 | exact at3 | exact at4 | exact at5 | exact at6 | exact at7 | exact at8 | exact at9); intro _ _; go_simp)
    | ((fail_if_success have := Q1); (with_reducible refine (ptEqual_k _ (HT.out.below H.out.bel) V1.out V2.out (decide_eq_true rfl)).mono ?_); rintro e wc ⟨rfl, hb⟩; have Q1 := trivial; replace H := Lib.hid (H.out.call hb); clear hb)
    | ((with_reducible refine (decode_off _ (HT.out.below H.out.bel) ((HS.out.below H.out.bel).more H.out.bel.size) HX.out).mono ?_); rintro e wc ⟨rfl, hb⟩; replace H := Lib.hid (H.out.call hb); clear hb)
    | ((fail_if_success have := g10); (fail_if_success have := g10); (with_reducible apply own_alloc nilPt H); (case hgd => exact rfl); (case ho => exact rfl); intro w10 g10 H' _ _; replace H := H'; clear H'; go_simp)
    | ((with_reducible refine (awake9_k _ (HT.out.below H.out.bel)).mono ?_); rintro e wc ⟨rfl, hb⟩; replace H := Lib.hid (H.out.call hb); clear hb))
  go_ret
  exact ⟨rfl, H.out.bel⟩
set_option maxRecDepth 20000 in
set_option maxHeartbeats 12800000 in
theorem back_on (u : Nat → BitVec 8) (y : Int) {a : Option Addr} {c x : Nat} {P2 : Pt pN dK} (w : World) (hT : Tp w) (hs : Sb w w.heap.size a 57 c x) (hx : x = cdN P2) :
    Calls Tryd.prog 5 #[.agg (SpotA u y), .slice a 57 c] w fun e w' => e = .returned (.bool true) ∧ Below w.heap.size w w' := by
  have HS := Lib.hid hs
  have HX := Lib.hid hx
  clear hs hx
  obtain ⟨x1, hx1⟩ := num57 u
  have M1 := Lib.hid (fun w hT => made8_k u y x1 w hT hx1)
  obtain ⟨P1, hP1⟩ : ∃ P, spot x1 (qn y) = P := ⟨_, rfl⟩
  rw [hP1] at M1
  clear hP1 hx1
  have HT := Lib.hid hT
  clear hT
  have H := Lib.hid (Ow.start w)
  go_enter Tryd.func5, Tryd.ntmps5
  go_wp2_with (first
    | ((fail_if_success have := g2); (with_reducible apply own_boxS H); (case hgd => exact rfl); (case ho => exact rfl); (case hx => exact rfl); intro w2 g2 H' _ _; replace H := H'; clear H'; go_simp)
    | ((with_reducible apply own_loadS H); (case hgd => exact rfl); (case ho => exact rfl); (case hx => exact rfl); (case hi => first | exact at0 | exact at1 | exact at2 | exact at3 | exact at4 | exact at5 | exact at6 | exact at7 | exact at8 | exact at9); intro _ _; go_simp)
    | ((fail_if_success have := V1); (with_reducible refine (M1.out _ (HT.out.below H.out.bel)).mono ?_); rintro e wc ⟨k1, rfl, hv, hb⟩; replace H := Lib.hid (H.out.call hb); clear hb; have V1 := Lib.hid hv; clear hv)
    | ((fail_if_success have := g5); (fail_if_success have := g5); (with_reducible apply own_alloc nilPt H); (case hgd => exact rfl); (case ho => exact rfl); intro w5 g5 H' _ _; replace H := H'; clear H'; go_simp)
    | ((with_reducible apply own_store rowPt H); (case hgd => exact rfl); (case ho => exact rfl); (case hx => exact rfl); (case hy => exact rfl); (case hi => first | exact at0 | exact at1 | exact at2 | exact at3 | exact at4 | exact at5 | exact at6 | exact at7 | exact at8 | exact at9); intro ws H' _ _; replace H := H'; clear H'; simp only [List.set_cons_zero] at H; go_simp)
    | ((with_reducible apply own_load rowPt H); (case hgd => exact rfl); (case ho => exact rfl); (case hx => exact rfl); (case hi => first | exact at0 | exact at1 | exact at2 | exact at3 | exact at4 | exact at5 | exact at6 | exact at7 | exact at8 | exact at9); intro _ _; go_simp)
    | ((fail_if_success have := L29); (with_reducible refine (encode_k _ V1.out).mono ?_); rintro e wc ⟨g29, c29, rfl, hc, hg, hr, hb⟩; replace H := Lib.hid (H.out.add hb hg hr); have L29 := Lib.hid hc; clear hb hg hr hc)
    | ((fail_if_success have := V2); (with_reducible refine (decode_on _ (HT.out.below H.out.bel) (code_sb (H.out.row 0 rfl) L29.out) rfl).mono ?_); rintro e wc ⟨k2, rfl, hv, hb⟩; replace H := Lib.hid (H.out.call hb); clear hb; have V2 := Lib.hid hv; clear hv)
    | ((fail_if_success have := g8); (fail_if_success have := g8); (with_reducible apply own_alloc nilPt H); (case hgd => exact rfl); (case ho => exact rfl); intro w8 g8 H' _ _; replace H := H'; clear H'; go_simp)
    | ((with_reducible apply own_loadg rowPt H); (case hw => exact rfl); (case ho => exact rfl); (case hx => exact rfl); (case hi => first | exact at0 | exact at1 | exact at2 | exact at3 | exact at4 | exact at5 | exact at6 | exact at7 | exact at8 | exact at9); intro _ _; go_simp)
    | ((fail_if_success have := Q1); (with_reducible refine (ptEqual_k _ (HT.out.below H.out.bel) V1.out V2.out (decide_eq_true rfl)).mono ?_); rintro e wc ⟨rfl, hb⟩; have Q1 := trivial; replace H := Lib.hid (H.out.call hb); clear hb)
    | ((fail_if_success have := V3); (with_reducible refine (decode_on _ (HT.out.below H.out.bel) ((HS.out.below H.out.bel).more H.out.bel.size) HX.out).mono ?_); rintro e wc ⟨k3, rfl, hv, hb⟩; replace H := Lib.hid (H.out.call hb); clear hb; have V3 := Lib.hid hv; clear hv)
    | ((fail_if_success have := g10); (fail_if_success have := g10); (with_reducible apply own_alloc nilPt H); (case hgd => exact rfl); (case ho => exact rfl); intro w10 g10 H' _ _; replace H := H'; clear H'; go_simp)
    | ((fail_if_success have := L65); (with_reducible refine (encode_k _ V3.out).mono ?_); rintro e wc ⟨g65, c65, rfl, hc, hg, hr, hb⟩; replace H := Lib.hid (H.out.add hb hg hr); have L65 := Lib.hid hc; clear hb hg hr hc)
    | ((with_reducible refine (cmp_dec _ _ _ _ _ _ _ _ (by omega) (code_sb (H.out.row 0 rfl) L65.out) ((HS.out.below H.out.bel).more H.out.bel.size) HX.out.symm).mono ?_); rintro e wc ⟨rfl, hb⟩; replace H := Lib.hid (H.out.call hb); clear hb)
    | ((with_reducible refine (awake9_k _ (HT.out.below H.out.bel)).mono ?_); rintro e wc ⟨rfl, hb⟩; replace H := Lib.hid (H.out.call hb); clear hb))
  go_ret
  exact ⟨rfl, H.out.bel⟩
theorem back_walk {a : Option Addr} {n c x : Nat} (u : Nat → BitVec 8) (y : Int) (w : World) (hT : Tp w) (hs : Sb w w.heap.size a n c x) :
    Calls Tryd.prog 5 #[.agg (SpotA u y), .slice a n c] w fun e w' => e = .returned (.bool true) ∧ Below w.heap.size w w' := by
  by_cases h80 : 80 < n
  · exact back_far u y w hT h80
  by_cases hn : n = 57
  · subst hn
    by_cases h : ∃ P, x = cdN P
    · obtain ⟨P, h⟩ := h
      exact back_on u y w hT hs h
    · exact back_off u y w hT hs fun P e => h ⟨P, e⟩
  · exact back_bad u y w hT (by omega) hn
end Go.Proofs.YtanfobboeehiaaaDoor
