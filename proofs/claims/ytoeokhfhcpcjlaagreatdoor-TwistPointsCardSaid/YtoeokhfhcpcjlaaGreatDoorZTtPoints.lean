/-
 The walk of TwistPoints. No statement is proved here: lemmas for the walks.
-/
import Derived.Test.YtoeokhfhcpcjlaaGreatDoorZTwAwake
import Derived.Deep.CutRange
namespace Go.Proofs.YtoeokhfhcpcjlaaGreatDoor
open Go.RowKit
theorem two13_any {a : Option Addr} {n c y : Nat} {b : Bool} (hb : decide (n = 56) = b) (w : World) (hT : Tp w) (hs : Sb w w.heap.size a n c y) :
  Calls Tryz.prog 8 #[.slice a n c] w fun e w' => ∃ f x, e = .returned (.tuple #[EV f, FV (x : K).val, .bool b]) ∧ EK f x ∧ Below w.heap.size w w' := by
 by_cases h : n = 56
 ·subst h
  obtain rfl : true = b := hb
  exact (two13_k w hs).mono fun _ _ ⟨f, he, hf, hb⟩ => ⟨f, _, he, hf, hb⟩
 ·rw [decide_eq_false h] at hb
  subst hb
  exact two13_bad a n c w hT h
set_option maxRecDepth 8000 in
set_option maxHeartbeats 3200000 in
theorem tpts_no1 {b1 b2 a : Option Addr} {m1 d1 y1 m2 d2 y2 n c x : Nat} {z : Int} (w : World) (hT : Tp w) (hy1 : Sb w w.heap.size b1 m1 d1 y1) (hy2 : Sb w w.heap.size b2 m2 d2 y2) (hs : Sb w w.heap.size a n c x) {q p : Bool} (e1 : decide (m1 = 56) = false) (e2 : decide (m2 = 56) = p) :
  Calls Tryz.prog 3 #[.agg #[.slice b1 m1 d1, .slice b2 m2 d2], .agg #[.slice a n c, .int .i64 z], .bool q] w fun e w' => e = .returned (.bool true) ∧ Below w.heap.size w w' := by
 have B1 := Lib.hid e1
 have B2 := Lib.hid e2
 have HY1 := Lib.hid hy1
 have HY2 := Lib.hid hy2
 have HS1 := Lib.hid hs
 clear e1 e2 hy1 hy2 hs
 have HT := Lib.hid hT
 clear hT
 have H := Lib.hid (Ow.start w)
 go_enter Tryz.func3, Tryz.ntmps3
 go_wp2_with (first
  | ((fail_if_success have := g3); (with_reducible apply own_boxC H); (case hgd | ho | hx => exact rfl); intro w3 g3 H' _ _; replace H := H'; clear H'; go_simp)
  | ((fail_if_success have := g4); (fail_if_success have := g4); (with_reducible apply own_boxC H); (case hgd | ho | hx => exact rfl); intro w4 g4 H' _ _; replace H := H'; clear H'; go_simp)
  | ((with_reducible apply own_loadC cellSb H); (case hgd | ho | hx => exact rfl); (case hi => first|exact at0|exact at1|exact at2|exact at3|exact at4|exact at5|exact at6|exact at7|exact at8|exact at9); (case hj => exact rfl); intro _ _; go_simp)
  | ((fail_if_success have := V1); (with_reducible refine (two13_any B1.out _ (HT.out.below H.out.bel) ((HY1.out.below H.out.bel).more H.out.bel.size)).mono ?_); rintro e wc ⟨f1, X1, rfl, hv, hb⟩; replace H := Lib.hid (H.out.call hb); clear hb; have V1 := Lib.hid hv; clear hv)
  | ((fail_if_success have := V2); (with_reducible refine (two13_any B2.out _ (HT.out.below H.out.bel) ((HY2.out.below H.out.bel).more H.out.bel.size)).mono ?_); rintro e wc ⟨f2, X2, rfl, hv, hb⟩; replace H := Lib.hid (H.out.call hb); clear hb; have V2 := Lib.hid hv; clear hv)
  | ((fail_if_success have := g7); (fail_if_success have := g7); (with_reducible apply own_alloc nilE H); (case hgd | ho => exact rfl); intro w7 g7 H' _ _; replace H := H'; clear H'; go_simp)
  | ((fail_if_success have := g8); (fail_if_success have := g8); (with_reducible apply own_alloc intsF.zero H); (case hgd | ho => exact rfl); intro w8 g8 H' _ _; replace H := H'; clear H'; go_simp)
  | ((fail_if_success have := g10); (fail_if_success have := g10); (with_reducible apply own_alloc nilE H); (case hgd | ho => exact rfl); intro w10 g10 H' _ _; replace H := H'; clear H'; go_simp)
  | ((fail_if_success have := g11); (fail_if_success have := g11); (with_reducible apply own_alloc intsF.zero H); (case hgd | ho => exact rfl); intro w11 g11 H' _ _; replace H := H'; clear H'; go_simp)
  | ((with_reducible apply own_store rowE H); (case hgd | ho | hx | hy => exact rfl); (case hi => first|exact at0|exact at1|exact at2|exact at3|exact at4|exact at5|exact at6|exact at7|exact at8|exact at9); intro ws H' _ _; replace H := H'; clear H'; simp only [List.set_cons_zero, List.set_cons_succ] at H; go_simp)
  | ((with_reducible apply own_store rowF H); (case hgd | ho | hx | hy => exact rfl); (case hi => first|exact at0|exact at1|exact at2|exact at3|exact at4|exact at5|exact at6|exact at7|exact at8|exact at9); intro ws H' _ _; replace H := H'; clear H'; simp only [List.set_cons_zero] at H; go_simp)
  | ((with_reducible refine cd_skip ?hw ?h); (case hw => exact rfl); intro _ _; go_simp)
  | ((with_reducible refine (awake13_k _ (HT.out.below H.out.bel)).mono ?_); rintro e wc ⟨rfl, hb⟩; replace H := Lib.hid (H.out.call hb); clear hb))
 go_ret
 exact ⟨rfl, H.out.bel⟩
set_option maxRecDepth 8000 in
set_option maxHeartbeats 3200000 in
theorem tpts_no2 {b1 b2 a : Option Addr} {m1 d1 y1 m2 d2 y2 n c x : Nat} {z : Int} (w : World) (hT : Tp w) (hy1 : Sb w w.heap.size b1 m1 d1 y1) (hy2 : Sb w w.heap.size b2 m2 d2 y2) (hs : Sb w w.heap.size a n c x) {q : Bool} (e1 : decide (m1 = 56) = true) (e2 : decide (m2 = 56) = false) :
  Calls Tryz.prog 3 #[.agg #[.slice b1 m1 d1, .slice b2 m2 d2], .agg #[.slice a n c, .int .i64 z], .bool q] w fun e w' => e = .returned (.bool true) ∧ Below w.heap.size w w' := by
 have B1 := Lib.hid e1
 have B2 := Lib.hid e2
 have HY1 := Lib.hid hy1
 have HY2 := Lib.hid hy2
 have HS1 := Lib.hid hs
 clear e1 e2 hy1 hy2 hs
 have HT := Lib.hid hT
 clear hT
 have H := Lib.hid (Ow.start w)
 go_enter Tryz.func3, Tryz.ntmps3
 go_wp2_with (first
  | ((fail_if_success have := g3); (with_reducible apply own_boxC H); (case hgd | ho | hx => exact rfl); intro w3 g3 H' _ _; replace H := H'; clear H'; go_simp)
  | ((fail_if_success have := g4); (fail_if_success have := g4); (with_reducible apply own_boxC H); (case hgd | ho | hx => exact rfl); intro w4 g4 H' _ _; replace H := H'; clear H'; go_simp)
  | ((with_reducible apply own_loadC cellSb H); (case hgd | ho | hx => exact rfl); (case hi => first|exact at0|exact at1|exact at2|exact at3|exact at4|exact at5|exact at6|exact at7|exact at8|exact at9); (case hj => exact rfl); intro _ _; go_simp)
  | ((fail_if_success have := V1); (with_reducible refine (two13_any B1.out _ (HT.out.below H.out.bel) ((HY1.out.below H.out.bel).more H.out.bel.size)).mono ?_); rintro e wc ⟨f1, X1, rfl, hv, hb⟩; replace H := Lib.hid (H.out.call hb); clear hb; have V1 := Lib.hid hv; clear hv)
  | ((fail_if_success have := V2); (with_reducible refine (two13_any B2.out _ (HT.out.below H.out.bel) ((HY2.out.below H.out.bel).more H.out.bel.size)).mono ?_); rintro e wc ⟨f2, X2, rfl, hv, hb⟩; replace H := Lib.hid (H.out.call hb); clear hb; have V2 := Lib.hid hv; clear hv)
  | ((fail_if_success have := g7); (fail_if_success have := g7); (with_reducible apply own_alloc nilE H); (case hgd | ho => exact rfl); intro w7 g7 H' _ _; replace H := H'; clear H'; go_simp)
  | ((fail_if_success have := g8); (fail_if_success have := g8); (with_reducible apply own_alloc intsF.zero H); (case hgd | ho => exact rfl); intro w8 g8 H' _ _; replace H := H'; clear H'; go_simp)
  | ((fail_if_success have := g10); (fail_if_success have := g10); (with_reducible apply own_alloc nilE H); (case hgd | ho => exact rfl); intro w10 g10 H' _ _; replace H := H'; clear H'; go_simp)
  | ((fail_if_success have := g11); (fail_if_success have := g11); (with_reducible apply own_alloc intsF.zero H); (case hgd | ho => exact rfl); intro w11 g11 H' _ _; replace H := H'; clear H'; go_simp)
  | ((with_reducible apply own_store rowE H); (case hgd | ho | hx | hy => exact rfl); (case hi => first|exact at0|exact at1|exact at2|exact at3|exact at4|exact at5|exact at6|exact at7|exact at8|exact at9); intro ws H' _ _; replace H := H'; clear H'; simp only [List.set_cons_zero, List.set_cons_succ] at H; go_simp)
  | ((with_reducible apply own_store rowF H); (case hgd | ho | hx | hy => exact rfl); (case hi => first|exact at0|exact at1|exact at2|exact at3|exact at4|exact at5|exact at6|exact at7|exact at8|exact at9); intro ws H' _ _; replace H := H'; clear H'; simp only [List.set_cons_zero] at H; go_simp)
  | ((with_reducible refine cd_skip ?hw ?h); (case hw => exact rfl); intro _ _; go_simp)
  | ((with_reducible refine (awake13_k _ (HT.out.below H.out.bel)).mono ?_); rintro e wc ⟨rfl, hb⟩; replace H := Lib.hid (H.out.call hb); clear hb))
 go_ret
 exact ⟨rfl, H.out.bel⟩
set_option maxRecDepth 8000 in
set_option maxHeartbeats 3200000 in
theorem tpts_f {b1 b2 a : Option Addr} {m1 d1 y1 m2 d2 y2 n c x : Nat} {z : Int} (w : World) (hT : Tp w) (hy1 : Sb w w.heap.size b1 m1 d1 y1) (hy2 : Sb w w.heap.size b2 m2 d2 y2) (hs : Sb w w.heap.size a n c x) (e1 : decide (m1 = 56) = true) (e2 : decide (m2 = 56) = true) :
  Calls Tryz.prog 3 #[.agg #[.slice b1 m1 d1, .slice b2 m2 d2], .agg #[.slice a n c, .int .i64 z], .bool false] w fun e w' => e = .returned (.bool true) ∧ Below w.heap.size w w' := by
 have B1 := Lib.hid e1
 have B2 := Lib.hid e2
 have HY1 := Lib.hid hy1
 have HY2 := Lib.hid hy2
 have HS1 := Lib.hid hs
 clear e1 e2 hy1 hy2 hs
 have HT := Lib.hid hT
 clear hT
 have H := Lib.hid (Ow.start w)
 go_enter Tryz.func3, Tryz.ntmps3
 go_upto_region 12 with (first
  | ((fail_if_success have := g3); (with_reducible apply own_boxC H); (case hgd | ho | hx => exact rfl); intro w3 g3 H' _ _; replace H := H'; clear H'; go_simp)
  | ((fail_if_success have := g4); (fail_if_success have := g4); (with_reducible apply own_boxC H); (case hgd | ho | hx => exact rfl); intro w4 g4 H' _ _; replace H := H'; clear H'; go_simp)
  | ((with_reducible apply own_loadC cellSb H); (case hgd | ho | hx => exact rfl); (case hi => first|exact at0|exact at1|exact at2|exact at3|exact at4|exact at5|exact at6|exact at7|exact at8|exact at9); (case hj => exact rfl); intro _ _; go_simp)
  | ((fail_if_success have := V1); (with_reducible refine (two13_any B1.out _ (HT.out.below H.out.bel) ((HY1.out.below H.out.bel).more H.out.bel.size)).mono ?_); rintro e wc ⟨f1, X1, rfl, hv, hb⟩; replace H := Lib.hid (H.out.call hb); clear hb; have V1 := Lib.hid hv; clear hv)
  | ((fail_if_success have := V2); (with_reducible refine (two13_any B2.out _ (HT.out.below H.out.bel) ((HY2.out.below H.out.bel).more H.out.bel.size)).mono ?_); rintro e wc ⟨f2, X2, rfl, hv, hb⟩; replace H := Lib.hid (H.out.call hb); clear hb; have V2 := Lib.hid hv; clear hv)
  | ((fail_if_success have := g7); (fail_if_success have := g7); (with_reducible apply own_alloc nilE H); (case hgd | ho => exact rfl); intro w7 g7 H' _ _; replace H := H'; clear H'; go_simp)
  | ((fail_if_success have := g8); (fail_if_success have := g8); (with_reducible apply own_alloc intsF.zero H); (case hgd | ho => exact rfl); intro w8 g8 H' _ _; replace H := H'; clear H'; go_simp)
  | ((fail_if_success have := g10); (fail_if_success have := g10); (with_reducible apply own_alloc nilE H); (case hgd | ho => exact rfl); intro w10 g10 H' _ _; replace H := H'; clear H'; go_simp)
  | ((fail_if_success have := g11); (fail_if_success have := g11); (with_reducible apply own_alloc intsF.zero H); (case hgd | ho => exact rfl); intro w11 g11 H' _ _; replace H := H'; clear H'; go_simp)
  | ((with_reducible apply own_store rowE H); (case hgd | ho | hx | hy => exact rfl); (case hi => first|exact at0|exact at1|exact at2|exact at3|exact at4|exact at5|exact at6|exact at7|exact at8|exact at9); intro ws H' _ _; replace H := H'; clear H'; simp only [List.set_cons_zero, List.set_cons_succ] at H; go_simp)
  | ((with_reducible apply own_store rowF H); (case hgd | ho | hx | hy => exact rfl); (case hi => first|exact at0|exact at1|exact at2|exact at3|exact at4|exact at5|exact at6|exact at7|exact at8|exact at9); intro ws H' _ _; replace H := H'; clear H'; simp only [List.set_cons_zero] at H; go_simp)
  | ((with_reducible refine cd_skip ?hw ?h); (case hw => exact rfl); intro _ _; go_simp)
  | ((with_reducible apply own_load rowF H); (case hgd | ho | hx => exact rfl); (case hi => first|exact at0|exact at1|exact at2|exact at3|exact at4|exact at5|exact at6|exact at7|exact at8|exact at9); intro _ _; go_simp)
  | ((with_reducible apply lay_build_T2); (case hgd | ho | hx | hy => exact rfl); intro _ _; go_simp)
  | ((fail_if_success have := g13); (fail_if_success have := g13); (with_reducible apply own_alloc nilT2 H); (case hgd | ho => exact rfl); intro w13 g13 H' _ _; replace H := H'; clear H'; go_simp)
  | ((with_reducible apply own_store rowT2 H); (case hgd | ho | hx | hy => exact rfl); (case hi => first|exact at0|exact at1|exact at2|exact at3|exact at4|exact at5|exact at6|exact at7|exact at8|exact at9); intro ws H' _ _; replace H := H'; clear H'; simp only [List.set_cons_zero] at H; go_simp))
 by_cases hc : tOn X1 X2
 ·have HC := Lib.hid hc
  have HON := Lib.hid (decide_eq_true hc)
  clear hc
  go_wp2_with (first
   | ((with_reducible apply own_load rowE H); (case hgd | ho | hx => exact rfl); (case hi => first|exact at0|exact at1|exact at2|exact at3|exact at4|exact at5|exact at6|exact at7|exact at8|exact at9); intro _ _; go_simp)
   | ((fail_if_success have := VO); (with_reducible refine (twOf_on _ (HT.out.below H.out.bel) V1.out V2.out HC.out).mono ?_); rintro e wc ⟨kVO, rfl, hv, hb⟩; replace H := Lib.hid (H.out.call hb); clear hb; have VO := Lib.hid hv; clear hv)
   | ((fail_if_success have := g17); (fail_if_success have := g17); (with_reducible apply own_alloc nilTO H); (case hgd | ho => exact rfl); intro w17 g17 H' _ _; replace H := H'; clear H'; go_simp)
   | ((with_reducible apply own_store rowTO H); (case hgd | ho | hx | hy => exact rfl); (case hi => first|exact at0|exact at1|exact at2|exact at3|exact at4|exact at5|exact at6|exact at7|exact at8|exact at9); intro ws H' _ _; replace H := H'; clear H'; simp only [List.set_cons_zero] at H; go_simp)
   | ((with_reducible apply own_load rowT2 H); (case hgd | ho | hx => exact rfl); (case hi => first|exact at0|exact at1|exact at2|exact at3|exact at4|exact at5|exact at6|exact at7|exact at8|exact at9); intro _ _; go_simp)
   | ((with_reducible apply own_loadg rowTO H); (case hw | ho | hx => exact rfl); (case hi => first|exact at0|exact at1|exact at2|exact at3|exact at4|exact at5|exact at6|exact at7|exact at8|exact at9); intro _ _; go_simp)
   | ((with_reducible apply own_loadg rowT2 H); (case hw | ho | hx => exact rfl); (case hi => first|exact at0|exact at1|exact at2|exact at3|exact at4|exact at5|exact at6|exact at7|exact at8|exact at9); intro _ _; go_simp)
   | ((fail_if_success have := mo1); (with_reducible refine (refOn_k _ HON.out).mono ?_); rintro e wc ⟨rfl, hb⟩; replace H := Lib.hid (H.out.call hb); clear hb; have mo1 := trivial)
   | ((fail_if_success have := ms1); (with_reducible refine (same13_k _ VO.out).mono ?_); rintro e wc ⟨rfl, hb⟩; replace H := Lib.hid (H.out.call hb); clear hb; have ms1 := trivial)
   | ((with_reducible refine cd_skip ?hw ?h); (case hw => exact rfl); intro _ _; go_simp)
   | ((with_reducible refine (awake13_k _ (HT.out.below H.out.bel)).mono ?_); rintro e wc ⟨rfl, hb⟩; replace H := Lib.hid (H.out.call hb); clear hb))
  go_ret
  exact ⟨rfl, H.out.bel⟩
 ·have HC := Lib.hid hc
  have HON := Lib.hid (decide_eq_false hc)
  clear hc
  go_wp2_with (first
   | ((with_reducible apply own_load rowE H); (case hgd | ho | hx => exact rfl); (case hi => first|exact at0|exact at1|exact at2|exact at3|exact at4|exact at5|exact at6|exact at7|exact at8|exact at9); intro _ _; go_simp)
   | ((fail_if_success have := mf1); (with_reducible refine (twOf_off _ (HT.out.below H.out.bel) V1.out V2.out HC.out).mono ?_); rintro e wc ⟨rfl, hb⟩; replace H := Lib.hid (H.out.call hb); clear hb; have mf1 := trivial)
   | ((fail_if_success have := g17); (fail_if_success have := g17); (with_reducible apply own_alloc nilTO H); (case hgd | ho => exact rfl); intro w17 g17 H' _ _; replace H := H'; clear H'; go_simp)
   | ((with_reducible apply own_store rowTO H); (case hgd | ho | hx | hy => exact rfl); (case hi => first|exact at0|exact at1|exact at2|exact at3|exact at4|exact at5|exact at6|exact at7|exact at8|exact at9); intro ws H' _ _; replace H := H'; clear H'; simp only [List.set_cons_zero] at H; go_simp)
   | ((with_reducible apply own_load rowT2 H); (case hgd | ho | hx => exact rfl); (case hi => first|exact at0|exact at1|exact at2|exact at3|exact at4|exact at5|exact at6|exact at7|exact at8|exact at9); intro _ _; go_simp)
   | ((with_reducible apply own_loadg rowTO H); (case hw | ho | hx => exact rfl); (case hi => first|exact at0|exact at1|exact at2|exact at3|exact at4|exact at5|exact at6|exact at7|exact at8|exact at9); intro _ _; go_simp)
   | ((with_reducible apply own_loadg rowT2 H); (case hw | ho | hx => exact rfl); (case hi => first|exact at0|exact at1|exact at2|exact at3|exact at4|exact at5|exact at6|exact at7|exact at8|exact at9); intro _ _; go_simp)
   | ((fail_if_success have := mo1); (with_reducible refine (refOn_k _ HON.out).mono ?_); rintro e wc ⟨rfl, hb⟩; replace H := Lib.hid (H.out.call hb); clear hb; have mo1 := trivial)
   | ((with_reducible refine cd_skip ?hw ?h); (case hw => exact rfl); intro _ _; go_simp)
   | ((with_reducible refine (awake13_k _ (HT.out.below H.out.bel)).mono ?_); rintro e wc ⟨rfl, hb⟩; replace H := Lib.hid (H.out.call hb); clear hb))
  go_ret
  exact ⟨rfl, H.out.bel⟩
set_option maxRecDepth 8000 in
set_option maxHeartbeats 3200000 in
theorem tpts_t0 {b1 b2 a : Option Addr} {m1 d1 y1 m2 d2 y2 n c x : Nat} {z : Int} (w : World) (hT : Tp w) (hy1 : Sb w w.heap.size b1 m1 d1 y1) (hy2 : Sb w w.heap.size b2 m2 d2 y2) (hs : Sb w w.heap.size a n c x) (e1 : decide (m1 = 56) = true) (e2 : decide (m2 = 56) = true) (ok : okS n z = false) :
  Calls Tryz.prog 3 #[.agg #[.slice b1 m1 d1, .slice b2 m2 d2], .agg #[.slice a n c, .int .i64 z], .bool true] w fun e w' => e = .returned (.bool true) ∧ Below w.heap.size w w' := by
 have B1 := Lib.hid e1
 have B2 := Lib.hid e2
 have OK1 := Lib.hid ok
 have HY1 := Lib.hid hy1
 have HY2 := Lib.hid hy2
 have HS1 := Lib.hid hs
 clear e1 e2 ok hy1 hy2 hs
 have HT := Lib.hid hT
 clear hT
 have H := Lib.hid (Ow.start w)
 go_enter Tryz.func3, Tryz.ntmps3
 go_wp2_with (first
  | ((fail_if_success have := g3); (with_reducible apply own_boxC H); (case hgd | ho | hx => exact rfl); intro w3 g3 H' _ _; replace H := H'; clear H'; go_simp)
  | ((fail_if_success have := g4); (fail_if_success have := g4); (with_reducible apply own_boxC H); (case hgd | ho | hx => exact rfl); intro w4 g4 H' _ _; replace H := H'; clear H'; go_simp)
  | ((with_reducible apply own_loadC cellSb H); (case hgd | ho | hx => exact rfl); (case hi => first|exact at0|exact at1|exact at2|exact at3|exact at4|exact at5|exact at6|exact at7|exact at8|exact at9); (case hj => exact rfl); intro _ _; go_simp)
  | ((fail_if_success have := U1); (with_reducible refine (two13_any B1.out _ (HT.out.below H.out.bel) ((HY1.out.below H.out.bel).more H.out.bel.size)).mono ?_); rintro e wc ⟨f1, X1, rfl, hv, hb⟩; replace H := Lib.hid (H.out.call hb); clear hb; have U1 := Lib.hid hv; clear hv)
  | ((fail_if_success have := V2); (with_reducible refine (two13_any B2.out _ (HT.out.below H.out.bel) ((HY2.out.below H.out.bel).more H.out.bel.size)).mono ?_); rintro e wc ⟨f2, X2, rfl, hv, hb⟩; replace H := Lib.hid (H.out.call hb); clear hb; have V2 := Lib.hid hv; clear hv)
  | ((fail_if_success have := g7); (fail_if_success have := g7); (with_reducible apply own_alloc nilE H); (case hgd | ho => exact rfl); intro w7 g7 H' _ _; replace H := H'; clear H'; go_simp)
  | ((fail_if_success have := g8); (fail_if_success have := g8); (with_reducible apply own_alloc intsF.zero H); (case hgd | ho => exact rfl); intro w8 g8 H' _ _; replace H := H'; clear H'; go_simp)
  | ((fail_if_success have := g10); (fail_if_success have := g10); (with_reducible apply own_alloc nilE H); (case hgd | ho => exact rfl); intro w10 g10 H' _ _; replace H := H'; clear H'; go_simp)
  | ((fail_if_success have := g11); (fail_if_success have := g11); (with_reducible apply own_alloc intsF.zero H); (case hgd | ho => exact rfl); intro w11 g11 H' _ _; replace H := H'; clear H'; go_simp)
  | ((with_reducible apply own_store rowE H); (case hgd | ho | hx | hy => exact rfl); (case hi => first|exact at0|exact at1|exact at2|exact at3|exact at4|exact at5|exact at6|exact at7|exact at8|exact at9); intro ws H' _ _; replace H := H'; clear H'; simp only [List.set_cons_zero, List.set_cons_succ] at H; go_simp)
  | ((with_reducible apply own_store rowF H); (case hgd | ho | hx | hy => exact rfl); (case hi => first|exact at0|exact at1|exact at2|exact at3|exact at4|exact at5|exact at6|exact at7|exact at8|exact at9); intro ws H' _ _; replace H := H'; clear H'; simp only [List.set_cons_zero] at H; go_simp)
  | ((with_reducible refine cd_skip ?hw ?h); (case hw => exact rfl); intro _ _; go_simp)
  | ((with_reducible apply own_load rowF H); (case hgd | ho | hx => exact rfl); (case hi => first|exact at0|exact at1|exact at2|exact at3|exact at4|exact at5|exact at6|exact at7|exact at8|exact at9); intro _ _; go_simp)
  | ((with_reducible apply lay_build_T2); (case hgd | ho | hx | hy => exact rfl); intro _ _; go_simp)
  | ((fail_if_success have := g13); (fail_if_success have := g13); (with_reducible apply own_alloc nilT2 H); (case hgd | ho => exact rfl); intro w13 g13 H' _ _; replace H := H'; clear H'; go_simp)
  | ((with_reducible apply own_store rowT2 H); (case hgd | ho | hx | hy => exact rfl); (case hi => first|exact at0|exact at1|exact at2|exact at3|exact at4|exact at5|exact at6|exact at7|exact at8|exact at9); intro ws H' _ _; replace H := H'; clear H'; simp only [List.set_cons_zero] at H; go_simp)
  | ((with_reducible apply own_loadA rowSpK ?hC H); (case hgd | ho | hx => exact rfl); (case hi => first|exact at0|exact at1|exact at2|exact at3|exact at4|exact at5|exact at6|exact at7|exact at8|exact at9); (case hC => exact rfl); intro _ _; go_simp)
  | ((fail_if_success have := mk1); (with_reducible refine (made11_any OK1.out _ (HT.out.below H.out.bel) ((HS1.out.below H.out.bel).more H.out.bel.size)).mono ?_); rintro e wc ⟨v1, r1, P1, rfl, hv, hw, hb⟩; replace H := Lib.hid (H.out.call hb); have V1 := Lib.hid hv; have W1 := Lib.hid hw; have mk1 := trivial; clear hb hv hw)
  | ((fail_if_success have := g14); (fail_if_success have := g14); (with_reducible apply own_alloc nilPt H); (case hgd | ho => exact rfl); intro w14 g14 H' _ _; replace H := H'; clear H'; go_simp)
  | ((fail_if_success have := g15); (fail_if_success have := g15); (with_reducible apply own_alloc nilQt H); (case hgd | ho => exact rfl); intro w15 g15 H' _ _; replace H := H'; clear H'; go_simp)
  | ((with_reducible apply own_store rowPt H); (case hgd | ho | hx | hy => exact rfl); (case hi => first|exact at0|exact at1|exact at2|exact at3|exact at4|exact at5|exact at6|exact at7|exact at8|exact at9); intro ws H' _ _; replace H := H'; clear H'; simp only [List.set_cons_zero, List.set_cons_succ] at H; go_simp)
  | ((with_reducible apply own_store rowQt H); (case hgd | ho | hx | hy => exact rfl); (case hi => first|exact at0|exact at1|exact at2|exact at3|exact at4|exact at5|exact at6|exact at7|exact at8|exact at9); intro ws H' _ _; replace H := H'; clear H'; simp only [List.set_cons_zero] at H; go_simp)
  | ((with_reducible refine (awake13_k _ (HT.out.below H.out.bel)).mono ?_); rintro e wc ⟨rfl, hb⟩; replace H := Lib.hid (H.out.call hb); clear hb))
 go_ret
 exact ⟨rfl, H.out.bel⟩
set_option maxRecDepth 8000 in
set_option maxHeartbeats 3200000 in
theorem tpts_t1 {b1 b2 a : Option Addr} {m1 d1 y1 m2 d2 y2 n c x : Nat} {z : Int} (w : World) (hT : Tp w) (hy1 : Sb w w.heap.size b1 m1 d1 y1) (hy2 : Sb w w.heap.size b2 m2 d2 y2) (hs : Sb w w.heap.size a n c x) (e1 : decide (m1 = 56) = true) (e2 : decide (m2 = 56) = true) (ok : okS n z = true) :
  Calls Tryz.prog 3 #[.agg #[.slice b1 m1 d1, .slice b2 m2 d2], .agg #[.slice a n c, .int .i64 z], .bool true] w fun e w' => e = .returned (.bool true) ∧ Below w.heap.size w w' := by
 have B1 := Lib.hid e1
 have B2 := Lib.hid e2
 have OK1 := Lib.hid ok
 have HY1 := Lib.hid hy1
 have HY2 := Lib.hid hy2
 have HS1 := Lib.hid hs
 clear e1 e2 ok hy1 hy2 hs
 have HT := Lib.hid hT
 clear hT
 have H := Lib.hid (Ow.start w)
 go_enter Tryz.func3, Tryz.ntmps3
 go_upto_region 12 with (first
  | ((fail_if_success have := g3); (with_reducible apply own_boxC H); (case hgd | ho | hx => exact rfl); intro w3 g3 H' _ _; replace H := H'; clear H'; go_simp)
  | ((fail_if_success have := g4); (fail_if_success have := g4); (with_reducible apply own_boxC H); (case hgd | ho | hx => exact rfl); intro w4 g4 H' _ _; replace H := H'; clear H'; go_simp)
  | ((with_reducible apply own_loadC cellSb H); (case hgd | ho | hx => exact rfl); (case hi => first|exact at0|exact at1|exact at2|exact at3|exact at4|exact at5|exact at6|exact at7|exact at8|exact at9); (case hj => exact rfl); intro _ _; go_simp)
  | ((fail_if_success have := U1); (with_reducible refine (two13_any B1.out _ (HT.out.below H.out.bel) ((HY1.out.below H.out.bel).more H.out.bel.size)).mono ?_); rintro e wc ⟨f1, X1, rfl, hv, hb⟩; replace H := Lib.hid (H.out.call hb); clear hb; have U1 := Lib.hid hv; clear hv)
  | ((fail_if_success have := V2); (with_reducible refine (two13_any B2.out _ (HT.out.below H.out.bel) ((HY2.out.below H.out.bel).more H.out.bel.size)).mono ?_); rintro e wc ⟨f2, X2, rfl, hv, hb⟩; replace H := Lib.hid (H.out.call hb); clear hb; have V2 := Lib.hid hv; clear hv)
  | ((fail_if_success have := g7); (fail_if_success have := g7); (with_reducible apply own_alloc nilE H); (case hgd | ho => exact rfl); intro w7 g7 H' _ _; replace H := H'; clear H'; go_simp)
  | ((fail_if_success have := g8); (fail_if_success have := g8); (with_reducible apply own_alloc intsF.zero H); (case hgd | ho => exact rfl); intro w8 g8 H' _ _; replace H := H'; clear H'; go_simp)
  | ((fail_if_success have := g10); (fail_if_success have := g10); (with_reducible apply own_alloc nilE H); (case hgd | ho => exact rfl); intro w10 g10 H' _ _; replace H := H'; clear H'; go_simp)
  | ((fail_if_success have := g11); (fail_if_success have := g11); (with_reducible apply own_alloc intsF.zero H); (case hgd | ho => exact rfl); intro w11 g11 H' _ _; replace H := H'; clear H'; go_simp)
  | ((with_reducible apply own_store rowE H); (case hgd | ho | hx | hy => exact rfl); (case hi => first|exact at0|exact at1|exact at2|exact at3|exact at4|exact at5|exact at6|exact at7|exact at8|exact at9); intro ws H' _ _; replace H := H'; clear H'; simp only [List.set_cons_zero, List.set_cons_succ] at H; go_simp)
  | ((with_reducible apply own_store rowF H); (case hgd | ho | hx | hy => exact rfl); (case hi => first|exact at0|exact at1|exact at2|exact at3|exact at4|exact at5|exact at6|exact at7|exact at8|exact at9); intro ws H' _ _; replace H := H'; clear H'; simp only [List.set_cons_zero] at H; go_simp)
  | ((with_reducible refine cd_skip ?hw ?h); (case hw => exact rfl); intro _ _; go_simp)
  | ((with_reducible apply own_load rowF H); (case hgd | ho | hx => exact rfl); (case hi => first|exact at0|exact at1|exact at2|exact at3|exact at4|exact at5|exact at6|exact at7|exact at8|exact at9); intro _ _; go_simp)
  | ((with_reducible apply lay_build_T2); (case hgd | ho | hx | hy => exact rfl); intro _ _; go_simp)
  | ((fail_if_success have := g13); (fail_if_success have := g13); (with_reducible apply own_alloc nilT2 H); (case hgd | ho => exact rfl); intro w13 g13 H' _ _; replace H := H'; clear H'; go_simp)
  | ((with_reducible apply own_store rowT2 H); (case hgd | ho | hx | hy => exact rfl); (case hi => first|exact at0|exact at1|exact at2|exact at3|exact at4|exact at5|exact at6|exact at7|exact at8|exact at9); intro ws H' _ _; replace H := H'; clear H'; simp only [List.set_cons_zero, List.set_cons_succ] at H; go_simp)
  | ((with_reducible apply own_loadA rowSpK ?hC H); (case hgd | ho | hx => exact rfl); (case hi => first|exact at0|exact at1|exact at2|exact at3|exact at4|exact at5|exact at6|exact at7|exact at8|exact at9); (case hC => exact rfl); intro _ _; go_simp)
  | ((fail_if_success have := mk1); (with_reducible refine (made11_any OK1.out _ (HT.out.below H.out.bel) ((HS1.out.below H.out.bel).more H.out.bel.size)).mono ?_); rintro e wc ⟨v1, r1, P1, rfl, hv, hw, hb⟩; replace H := Lib.hid (H.out.call hb); have V1 := Lib.hid hv; have W1 := Lib.hid hw; have mk1 := trivial; clear hb hv hw)
  | ((fail_if_success have := g14); (fail_if_success have := g14); (with_reducible apply own_alloc nilPt H); (case hgd | ho => exact rfl); intro w14 g14 H' _ _; replace H := H'; clear H'; go_simp)
  | ((fail_if_success have := g15); (fail_if_success have := g15); (with_reducible apply own_alloc nilQt H); (case hgd | ho => exact rfl); intro w15 g15 H' _ _; replace H := H'; clear H'; go_simp)
  | ((with_reducible apply own_store rowPt H); (case hgd | ho | hx | hy => exact rfl); (case hi => first|exact at0|exact at1|exact at2|exact at3|exact at4|exact at5|exact at6|exact at7|exact at8|exact at9); intro ws H' _ _; replace H := H'; clear H'; simp only [List.set_cons_zero, List.set_cons_succ] at H; go_simp)
  | ((with_reducible apply own_store rowQt H); (case hgd | ho | hx | hy => exact rfl); (case hi => first|exact at0|exact at1|exact at2|exact at3|exact at4|exact at5|exact at6|exact at7|exact at8|exact at9); intro ws H' _ _; replace H := H'; clear H'; simp only [List.set_cons_zero] at H; go_simp)
  | ((with_reducible apply own_load rowPt H); (case hgd | ho | hx => exact rfl); (case hi => first|exact at0|exact at1|exact at2|exact at3|exact at4|exact at5|exact at6|exact at7|exact at8|exact at9); intro _ _; go_simp)
  | ((with_reducible apply own_load rowQt H); (case hgd | ho | hx => exact rfl); (case hi => first|exact at0|exact at1|exact at2|exact at3|exact at4|exact at5|exact at6|exact at7|exact at8|exact at9); intro _ _; go_simp)
  | ((fail_if_success have := VA); (with_reducible refine (twTo_k _ (HT.out.below H.out.bel) V1.out).mono ?_); rintro e wc ⟨kVA, rfl, hv, hb⟩; replace H := Lib.hid (H.out.call hb); clear hb; have VA := Lib.hid hv; clear hv)
  | ((fail_if_success have := VX); (with_reducible refine (twAffine_k _ VA.out).mono ?_); rintro e wc ⟨hx, hy, rfl, hv, hu, hb⟩; replace H := Lib.hid (H.out.call hb); clear hb; have VX := Lib.hid hv; have VY := Lib.hid hu; clear hv hu)
  | ((fail_if_success have := mr1); (with_reducible refine (refTTo_k _ W1.out).mono ?_); rintro e wc ⟨rfl, hb⟩; replace H := Lib.hid (H.out.call hb); clear hb; have mr1 := trivial))
 have HC := Lib.hid (ax_is P1)
 have HON := Lib.hid (decide_eq_true (ax_is P1))
 go_wp2_with (first
  | ((with_reducible apply own_load rowE H); (case hgd | ho | hx => exact rfl); (case hi => first|exact at0|exact at1|exact at2|exact at3|exact at4|exact at5|exact at6|exact at7|exact at8|exact at9); intro _ _; go_simp)
  | ((fail_if_success have := VO); (with_reducible refine (twOf_on _ (HT.out.below H.out.bel) VX.out VY.out HC.out).mono ?_); rintro e wc ⟨kVO, rfl, hv, hb⟩; replace H := Lib.hid (H.out.call hb); clear hb; have VO := Lib.hid hv; clear hv)
  | ((fail_if_success have := g17); (fail_if_success have := g17); (with_reducible apply own_alloc nilTO H); (case hgd | ho => exact rfl); intro w17 g17 H' _ _; replace H := H'; clear H'; go_simp)
  | ((with_reducible apply own_store rowTO H); (case hgd | ho | hx | hy => exact rfl); (case hi => first|exact at0|exact at1|exact at2|exact at3|exact at4|exact at5|exact at6|exact at7|exact at8|exact at9); intro ws H' _ _; replace H := H'; clear H'; simp only [List.set_cons_zero] at H; go_simp)
  | ((with_reducible apply own_load rowT2 H); (case hgd | ho | hx => exact rfl); (case hi => first|exact at0|exact at1|exact at2|exact at3|exact at4|exact at5|exact at6|exact at7|exact at8|exact at9); intro _ _; go_simp)
  | ((with_reducible apply own_loadg rowTO H); (case hw | ho | hx => exact rfl); (case hi => first|exact at0|exact at1|exact at2|exact at3|exact at4|exact at5|exact at6|exact at7|exact at8|exact at9); intro _ _; go_simp)
  | ((with_reducible apply own_loadg rowT2 H); (case hw | ho | hx => exact rfl); (case hi => first|exact at0|exact at1|exact at2|exact at3|exact at4|exact at5|exact at6|exact at7|exact at8|exact at9); intro _ _; go_simp)
  | ((fail_if_success have := mo1); (with_reducible refine (refOn_k _ HON.out).mono ?_); rintro e wc ⟨rfl, hb⟩; replace H := Lib.hid (H.out.call hb); clear hb; have mo1 := trivial)
  | ((fail_if_success have := ms1); (with_reducible refine (same13_k _ VO.out).mono ?_); rintro e wc ⟨rfl, hb⟩; replace H := Lib.hid (H.out.call hb); clear hb; have ms1 := trivial)
  | ((with_reducible refine cd_skip ?hw ?h); (case hw => exact rfl); intro _ _; go_simp)
  | ((with_reducible refine (awake13_k _ (HT.out.below H.out.bel)).mono ?_); rintro e wc ⟨rfl, hb⟩; replace H := Lib.hid (H.out.call hb); clear hb))
 go_ret
 exact ⟨rfl, H.out.bel⟩
theorem tpts_walk (q : Bool) {b1 b2 a : Option Addr} {m1 d1 y1 m2 d2 y2 n c x : Nat} {z : Int} (w : World) (hT : Tp w) (hy1 : Sb w w.heap.size b1 m1 d1 y1) (hy2 : Sb w w.heap.size b2 m2 d2 y2) (hs : Sb w w.heap.size a n c x) :
  Calls Tryz.prog 3 #[.agg #[.slice b1 m1 d1, .slice b2 m2 d2], .agg #[.slice a n c, .int .i64 z], .bool q] w fun e w' => e = .returned (.bool true) ∧ Below w.heap.size w w' := by
 cases e1 : decide (m1 = 56) with
 | false => exact tpts_no1 w hT hy1 hy2 hs e1 rfl
 | true =>
  cases e2 : decide (m2 = 56) with
  | false => exact tpts_no2 w hT hy1 hy2 hs e1 e2
  | true =>
   cases q with
   | false => exact tpts_f w hT hy1 hy2 hs e1 e2
   | true =>
    cases ok : okS n z with
    | false => exact tpts_t0 w hT hy1 hy2 hs e1 e2 ok
    | true => exact tpts_t1 w hT hy1 hy2 hs e1 e2 ok
end Go.Proofs.YtoeokhfhcpcjlaaGreatDoor
