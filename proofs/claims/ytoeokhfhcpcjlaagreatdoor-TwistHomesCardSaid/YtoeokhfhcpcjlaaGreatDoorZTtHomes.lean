/-
 The walk of TwistHomes. No statement is proved here: lemmas for the walks.
-/
import Derived.Test.YtoeokhfhcpcjlaaGreatDoorZTwAwake
import Derived.Test.YtoeokhfhcpcjlaaGreatDoorZPtAdd
import Derived.Deep.CutRange
namespace Go.Proofs.YtoeokhfhcpcjlaaGreatDoor
open Go.RowKit
set_option maxRecDepth 8000 in
set_option maxHeartbeats 3200000 in
theorem thomes_no1 {a1 a2 a3 : Option Addr} {n1 c1 x1 n2 c2 x2 n3 c3 x3 : Nat} {z1 z2 z3 : Int} (w : World) (hT : Tp w) (hs1 : Sb w w.heap.size a1 n1 c1 x1) (hs2 : Sb w w.heap.size a2 n2 c2 x2) (hs3 : Sb w w.heap.size a3 n3 c3 x3) {o3 : Bool} (ok : (okS n1 z1 && okS n2 z2) = false) (ok3 : okS n3 z3 = o3) :
  Calls Tryz.prog 6 #[.agg #[.slice a1 n1 c1, .int .i64 z1, .slice a2 n2 c2, .int .i64 z2], .agg #[.slice a3 n3 c3, .int .i64 z3]] w fun e w' => e = .returned (.bool true) ∧ Below w.heap.size w w' := by
 have HS1 := Lib.hid hs1
 have HS2 := Lib.hid hs2
 have HS3 := Lib.hid hs3
 have HO := Lib.hid ok
 have OK3 := Lib.hid ok3
 clear hs1 hs2 hs3 ok ok3
 have HT := Lib.hid hT
 clear hT
 have H := Lib.hid (Ow.start w)
 go_enter Tryz.func6, Tryz.ntmps6
 go_wp2_with (first
  | ((fail_if_success have := g2); (with_reducible apply own_boxC H); (case hgd | ho | hx => exact rfl); intro w2 g2 H' _ _; replace H := H'; clear H'; go_simp)
  | ((fail_if_success have := g3); (fail_if_success have := g3); (with_reducible apply own_boxC H); (case hgd | ho | hx => exact rfl); intro w3 g3 H' _ _; replace H := H'; clear H'; go_simp)
  | ((with_reducible apply own_loadA rowS2 ?hC H); (case hgd | ho | hx => exact rfl); (case hi => first|exact at0|exact at1|exact at2|exact at3|exact at4|exact at5|exact at6|exact at7|exact at8|exact at9); (case hC => exact rfl); intro _ _; go_simp)
  | ((fail_if_success have := mk1); (with_reducible refine (spots13_k HO.out rfl rfl _ (HT.out.below H.out.bel) ((HS1.out.below H.out.bel).more H.out.bel.size) ((HS2.out.below H.out.bel).more H.out.bel.size)).mono ?_); rintro e wc ⟨v1, v2, r1, r2, P1, P2, rfl, hv, hu, hw, hx, hb⟩; replace H := Lib.hid (H.out.call hb); have V1 := Lib.hid hv; have V2 := Lib.hid hu; have W1 := Lib.hid hw; have W2 := Lib.hid hx; have mk1 := trivial; clear hb hv hu hw hx)
  | ((fail_if_success have := g5); (fail_if_success have := g5); (with_reducible apply own_alloc nilPP H); (case hgd | ho => exact rfl); intro w5 g5 H' _ _; replace H := H'; clear H'; go_simp)
  | ((fail_if_success have := g6); (fail_if_success have := g6); (with_reducible apply own_alloc nilQQ H); (case hgd | ho => exact rfl); intro w6 g6 H' _ _; replace H := H'; clear H'; go_simp)
  | ((with_reducible apply own_store rowPP H); (case hgd | ho | hx | hy => exact rfl); (case hi => first|exact at0|exact at1|exact at2|exact at3|exact at4|exact at5|exact at6|exact at7|exact at8|exact at9); intro ws H' _ _; replace H := H'; clear H'; simp only [List.set_cons_zero, List.set_cons_succ] at H; go_simp)
  | ((with_reducible apply own_store rowQQ H); (case hgd | ho | hx | hy => exact rfl); (case hi => first|exact at0|exact at1|exact at2|exact at3|exact at4|exact at5|exact at6|exact at7|exact at8|exact at9); intro ws H' _ _; replace H := H'; clear H'; simp only [List.set_cons_zero] at H; go_simp)
  | ((with_reducible apply own_loadA rowSpK ?hC H); (case hgd | ho | hx => exact rfl); (case hi => first|exact at0|exact at1|exact at2|exact at3|exact at4|exact at5|exact at6|exact at7|exact at8|exact at9); (case hC => exact rfl); intro _ _; go_simp)
  | ((fail_if_success have := mk3); (with_reducible refine (made11_any OK3.out _ (HT.out.below H.out.bel) ((HS3.out.below H.out.bel).more H.out.bel.size)).mono ?_); rintro e wc ⟨v3, r3, P3, rfl, hv, hw, hb⟩; replace H := Lib.hid (H.out.call hb); have V3 := Lib.hid hv; have W3 := Lib.hid hw; have mk3 := trivial; clear hb hv hw)
  | ((fail_if_success have := g8); (fail_if_success have := g8); (with_reducible apply own_alloc nilPt H); (case hgd | ho => exact rfl); intro w8 g8 H' _ _; replace H := H'; clear H'; go_simp)
  | ((fail_if_success have := g9); (fail_if_success have := g9); (with_reducible apply own_alloc nilQt H); (case hgd | ho => exact rfl); intro w9 g9 H' _ _; replace H := H'; clear H'; go_simp)
  | ((with_reducible apply own_store rowPt H); (case hgd | ho | hx | hy => exact rfl); (case hi => first|exact at0|exact at1|exact at2|exact at3|exact at4|exact at5|exact at6|exact at7|exact at8|exact at9); intro ws H' _ _; replace H := H'; clear H'; simp only [List.set_cons_zero, List.set_cons_succ] at H; go_simp)
  | ((with_reducible apply own_store rowQt H); (case hgd | ho | hx | hy => exact rfl); (case hi => first|exact at0|exact at1|exact at2|exact at3|exact at4|exact at5|exact at6|exact at7|exact at8|exact at9); intro ws H' _ _; replace H := H'; clear H'; simp only [List.set_cons_zero] at H; go_simp)
  | ((with_reducible refine cd_skip ?hw ?h); (case hw => exact rfl); intro _ _; go_simp)
  | ((with_reducible refine (awake13_k _ (HT.out.below H.out.bel)).mono ?_); rintro e wc ⟨rfl, hb⟩; replace H := Lib.hid (H.out.call hb); clear hb))
 go_ret
 exact ⟨rfl, H.out.bel⟩
set_option maxRecDepth 8000 in
set_option maxHeartbeats 3200000 in
theorem thomes_no3 {a1 a2 a3 : Option Addr} {n1 c1 x1 n2 c2 x2 n3 c3 x3 : Nat} {z1 z2 z3 : Int} (w : World) (hT : Tp w) (hs1 : Sb w w.heap.size a1 n1 c1 x1) (hs2 : Sb w w.heap.size a2 n2 c2 x2) (hs3 : Sb w w.heap.size a3 n3 c3 x3) (ok : (okS n1 z1 && okS n2 z2) = true) (ok3 : okS n3 z3 = false) :
  Calls Tryz.prog 6 #[.agg #[.slice a1 n1 c1, .int .i64 z1, .slice a2 n2 c2, .int .i64 z2], .agg #[.slice a3 n3 c3, .int .i64 z3]] w fun e w' => e = .returned (.bool true) ∧ Below w.heap.size w w' := by
 have HS1 := Lib.hid hs1
 have HS2 := Lib.hid hs2
 have HS3 := Lib.hid hs3
 have HO := Lib.hid ok
 have OK3 := Lib.hid ok3
 clear hs1 hs2 hs3 ok ok3
 have HT := Lib.hid hT
 clear hT
 have H := Lib.hid (Ow.start w)
 go_enter Tryz.func6, Tryz.ntmps6
 go_wp2_with (first
  | ((fail_if_success have := g2); (with_reducible apply own_boxC H); (case hgd | ho | hx => exact rfl); intro w2 g2 H' _ _; replace H := H'; clear H'; go_simp)
  | ((fail_if_success have := g3); (fail_if_success have := g3); (with_reducible apply own_boxC H); (case hgd | ho | hx => exact rfl); intro w3 g3 H' _ _; replace H := H'; clear H'; go_simp)
  | ((with_reducible apply own_loadA rowS2 ?hC H); (case hgd | ho | hx => exact rfl); (case hi => first|exact at0|exact at1|exact at2|exact at3|exact at4|exact at5|exact at6|exact at7|exact at8|exact at9); (case hC => exact rfl); intro _ _; go_simp)
  | ((fail_if_success have := mk1); (with_reducible refine (spots13_k HO.out rfl rfl _ (HT.out.below H.out.bel) ((HS1.out.below H.out.bel).more H.out.bel.size) ((HS2.out.below H.out.bel).more H.out.bel.size)).mono ?_); rintro e wc ⟨v1, v2, r1, r2, P1, P2, rfl, hv, hu, hw, hx, hb⟩; replace H := Lib.hid (H.out.call hb); have V1 := Lib.hid hv; have V2 := Lib.hid hu; have W1 := Lib.hid hw; have W2 := Lib.hid hx; have mk1 := trivial; clear hb hv hu hw hx)
  | ((fail_if_success have := g5); (fail_if_success have := g5); (with_reducible apply own_alloc nilPP H); (case hgd | ho => exact rfl); intro w5 g5 H' _ _; replace H := H'; clear H'; go_simp)
  | ((fail_if_success have := g6); (fail_if_success have := g6); (with_reducible apply own_alloc nilQQ H); (case hgd | ho => exact rfl); intro w6 g6 H' _ _; replace H := H'; clear H'; go_simp)
  | ((with_reducible apply own_store rowPP H); (case hgd | ho | hx | hy => exact rfl); (case hi => first|exact at0|exact at1|exact at2|exact at3|exact at4|exact at5|exact at6|exact at7|exact at8|exact at9); intro ws H' _ _; replace H := H'; clear H'; simp only [List.set_cons_zero, List.set_cons_succ] at H; go_simp)
  | ((with_reducible apply own_store rowQQ H); (case hgd | ho | hx | hy => exact rfl); (case hi => first|exact at0|exact at1|exact at2|exact at3|exact at4|exact at5|exact at6|exact at7|exact at8|exact at9); intro ws H' _ _; replace H := H'; clear H'; simp only [List.set_cons_zero] at H; go_simp)
  | ((with_reducible apply own_loadA rowSpK ?hC H); (case hgd | ho | hx => exact rfl); (case hi => first|exact at0|exact at1|exact at2|exact at3|exact at4|exact at5|exact at6|exact at7|exact at8|exact at9); (case hC => exact rfl); intro _ _; go_simp)
  | ((fail_if_success have := mk3); (with_reducible refine (made11_any OK3.out _ (HT.out.below H.out.bel) ((HS3.out.below H.out.bel).more H.out.bel.size)).mono ?_); rintro e wc ⟨v3, r3, P3, rfl, hv, hw, hb⟩; replace H := Lib.hid (H.out.call hb); have V3 := Lib.hid hv; have W3 := Lib.hid hw; have mk3 := trivial; clear hb hv hw)
  | ((fail_if_success have := g8); (fail_if_success have := g8); (with_reducible apply own_alloc nilPt H); (case hgd | ho => exact rfl); intro w8 g8 H' _ _; replace H := H'; clear H'; go_simp)
  | ((fail_if_success have := g9); (fail_if_success have := g9); (with_reducible apply own_alloc nilQt H); (case hgd | ho => exact rfl); intro w9 g9 H' _ _; replace H := H'; clear H'; go_simp)
  | ((with_reducible apply own_store rowPt H); (case hgd | ho | hx | hy => exact rfl); (case hi => first|exact at0|exact at1|exact at2|exact at3|exact at4|exact at5|exact at6|exact at7|exact at8|exact at9); intro ws H' _ _; replace H := H'; clear H'; simp only [List.set_cons_zero, List.set_cons_succ] at H; go_simp)
  | ((with_reducible apply own_store rowQt H); (case hgd | ho | hx | hy => exact rfl); (case hi => first|exact at0|exact at1|exact at2|exact at3|exact at4|exact at5|exact at6|exact at7|exact at8|exact at9); intro ws H' _ _; replace H := H'; clear H'; simp only [List.set_cons_zero] at H; go_simp)
  | ((with_reducible refine cd_skip ?hw ?h); (case hw => exact rfl); intro _ _; go_simp)
  | ((with_reducible refine (awake13_k _ (HT.out.below H.out.bel)).mono ?_); rintro e wc ⟨rfl, hb⟩; replace H := Lib.hid (H.out.call hb); clear hb))
 go_ret
 exact ⟨rfl, H.out.bel⟩
set_option maxRecDepth 8000 in
set_option maxHeartbeats 3200000 in
theorem thomes_k {a1 a2 a3 : Option Addr} {n1 c1 x1 n2 c2 x2 n3 c3 x3 : Nat} {z1 z2 z3 : Int} (w : World) (hT : Tp w) (hs1 : Sb w w.heap.size a1 n1 c1 x1) (hs2 : Sb w w.heap.size a2 n2 c2 x2) (hs3 : Sb w w.heap.size a3 n3 c3 x3) (ok : (okS n1 z1 && okS n2 z2) = true) (ok3 : okS n3 z3 = true) :
  Calls Tryz.prog 6 #[.agg #[.slice a1 n1 c1, .int .i64 z1, .slice a2 n2 c2, .int .i64 z2], .agg #[.slice a3 n3 c3, .int .i64 z3]] w fun e w' => e = .returned (.bool true) ∧ Below w.heap.size w w' := by
 have HS1 := Lib.hid hs1
 have HS2 := Lib.hid hs2
 have HS3 := Lib.hid hs3
 have HO := Lib.hid ok
 have OK3 := Lib.hid ok3
 clear hs1 hs2 hs3 ok ok3
 have HT := Lib.hid hT
 clear hT
 have H := Lib.hid (Ow.start w)
 go_enter Tryz.func6, Tryz.ntmps6
 go_upto_region 8 with (first
  | ((fail_if_success have := g2); (with_reducible apply own_boxC H); (case hgd | ho | hx => exact rfl); intro w2 g2 H' _ _; replace H := H'; clear H'; go_simp)
  | ((fail_if_success have := g3); (fail_if_success have := g3); (with_reducible apply own_boxC H); (case hgd | ho | hx => exact rfl); intro w3 g3 H' _ _; replace H := H'; clear H'; go_simp)
  | ((with_reducible apply own_loadA rowS2 ?hC H); (case hgd | ho | hx => exact rfl); (case hi => first|exact at0|exact at1|exact at2|exact at3|exact at4|exact at5|exact at6|exact at7|exact at8|exact at9); (case hC => exact rfl); intro _ _; go_simp)
  | ((fail_if_success have := mk1); (with_reducible refine (spots13_k HO.out rfl rfl _ (HT.out.below H.out.bel) ((HS1.out.below H.out.bel).more H.out.bel.size) ((HS2.out.below H.out.bel).more H.out.bel.size)).mono ?_); rintro e wc ⟨v1, v2, r1, r2, P1, P2, rfl, hv, hu, hw, hx, hb⟩; replace H := Lib.hid (H.out.call hb); have V1 := Lib.hid hv; have V2 := Lib.hid hu; have W1 := Lib.hid hw; have W2 := Lib.hid hx; have mk1 := trivial; clear hb hv hu hw hx)
  | ((fail_if_success have := g5); (fail_if_success have := g5); (with_reducible apply own_alloc nilPP H); (case hgd | ho => exact rfl); intro w5 g5 H' _ _; replace H := H'; clear H'; go_simp)
  | ((fail_if_success have := g6); (fail_if_success have := g6); (with_reducible apply own_alloc nilQQ H); (case hgd | ho => exact rfl); intro w6 g6 H' _ _; replace H := H'; clear H'; go_simp)
  | ((with_reducible apply own_store rowPP H); (case hgd | ho | hx | hy => exact rfl); (case hi => first|exact at0|exact at1|exact at2|exact at3|exact at4|exact at5|exact at6|exact at7|exact at8|exact at9); intro ws H' _ _; replace H := H'; clear H'; simp only [List.set_cons_zero, List.set_cons_succ] at H; go_simp)
  | ((with_reducible apply own_store rowQQ H); (case hgd | ho | hx | hy => exact rfl); (case hi => first|exact at0|exact at1|exact at2|exact at3|exact at4|exact at5|exact at6|exact at7|exact at8|exact at9); intro ws H' _ _; replace H := H'; clear H'; simp only [List.set_cons_zero] at H; go_simp)
  | ((with_reducible apply own_loadA rowSpK ?hC H); (case hgd | ho | hx => exact rfl); (case hi => first|exact at0|exact at1|exact at2|exact at3|exact at4|exact at5|exact at6|exact at7|exact at8|exact at9); (case hC => exact rfl); intro _ _; go_simp)
  | ((fail_if_success have := mk3); (with_reducible refine (made11_any OK3.out _ (HT.out.below H.out.bel) ((HS3.out.below H.out.bel).more H.out.bel.size)).mono ?_); rintro e wc ⟨v3, r3, P3, rfl, hv, hw, hb⟩; replace H := Lib.hid (H.out.call hb); have V3 := Lib.hid hv; have W3 := Lib.hid hw; have mk3 := trivial; clear hb hv hw)
  | ((fail_if_success have := g8); (fail_if_success have := g8); (with_reducible apply own_alloc nilPt H); (case hgd | ho => exact rfl); intro w8 g8 H' _ _; replace H := H'; clear H'; go_simp)
  | ((fail_if_success have := g9); (fail_if_success have := g9); (with_reducible apply own_alloc nilQt H); (case hgd | ho => exact rfl); intro w9 g9 H' _ _; replace H := H'; clear H'; go_simp)
  | ((with_reducible apply own_store rowPt H); (case hgd | ho | hx | hy => exact rfl); (case hi => first|exact at0|exact at1|exact at2|exact at3|exact at4|exact at5|exact at6|exact at7|exact at8|exact at9); intro ws H' _ _; replace H := H'; clear H'; simp only [List.set_cons_zero, List.set_cons_succ] at H; go_simp)
  | ((with_reducible apply own_store rowQt H); (case hgd | ho | hx | hy => exact rfl); (case hi => first|exact at0|exact at1|exact at2|exact at3|exact at4|exact at5|exact at6|exact at7|exact at8|exact at9); intro ws H' _ _; replace H := H'; clear H'; simp only [List.set_cons_zero] at H; go_simp)
  | ((with_reducible apply own_load_p rowPt H); (case hgd | ho | hx => exact rfl); (case hi => first|exact at0|exact at1|exact at2|exact at3|exact at4|exact at5|exact at6|exact at7|exact at8|exact at9); (case hp => first | exact partP_0 | exact partP_1); intro _ _; go_simp)
  | ((fail_if_success have := VA); (with_reducible refine (twTo_k _ (HT.out.below H.out.bel) V1.out).mono ?_); rintro e wc ⟨kVA, rfl, hv, hb⟩; replace H := Lib.hid (H.out.call hb); clear hb; have VA := Lib.hid hv; clear hv)
  | ((fail_if_success have := VB); (with_reducible refine (twTo_k _ (HT.out.below H.out.bel) V2.out).mono ?_); rintro e wc ⟨kVB, rfl, hv, hb⟩; replace H := Lib.hid (H.out.call hb); clear hb; have VB := Lib.hid hv; clear hv)
  | ((with_reducible apply own_load rowPt H); (case hgd | ho | hx => exact rfl); (case hi => first|exact at0|exact at1|exact at2|exact at3|exact at4|exact at5|exact at6|exact at7|exact at8|exact at9); intro _ _; go_simp)
  | ((fail_if_success have := VC); (with_reducible refine (twTo_k _ (HT.out.below H.out.bel) V3.out).mono ?_); rintro e wc ⟨kVC, rfl, hv, hb⟩; replace H := Lib.hid (H.out.call hb); clear hb; have VC := Lib.hid hv; clear hv)
  | ((fail_if_success have := g11); (fail_if_success have := g11); (with_reducible apply own_alloc nilTO H); (case hgd | ho => exact rfl); intro w11 g11 H' _ _; replace H := H'; clear H'; go_simp)
  | ((fail_if_success have := g12); (fail_if_success have := g12); (with_reducible apply own_alloc nilTO H); (case hgd | ho => exact rfl); intro w12 g12 H' _ _; replace H := H'; clear H'; go_simp)
  | ((fail_if_success have := g13); (fail_if_success have := g13); (with_reducible apply own_alloc nilTO H); (case hgd | ho => exact rfl); intro w13 g13 H' _ _; replace H := H'; clear H'; go_simp)
  | ((with_reducible apply own_store rowTO H); (case hgd | ho | hx | hy => exact rfl); (case hi => first|exact at0|exact at1|exact at2|exact at3|exact at4|exact at5|exact at6|exact at7|exact at8|exact at9); intro ws H' _ _; replace H := H'; clear H'; simp only [List.set_cons_zero] at H; go_simp))
 clear mk1 mk3
 go_cut [14] from 47 to 51 (fun v14 wx => ∃ g14 r51, v14 = .pointer (some ⟨g14, 0, none⟩) ∧ TwK r51 (padd edK (padd edK P1 P2) P3) ∧ Ow w wx [(g14, Blk 46 .u64 16 (r51)), (g13, Blk 46 .u64 16 (kVC)), (g12, Blk 46 .u64 16 (kVB)), (g11, Blk 46 .u64 16 (kVA)), (g9, Blk 40 .i64 48 (r3)), (g8, Blk 38 .u64 24 (v3)), (g6, Blk 57 .i64 96 ((t2 48 r1 r2))), (g5, Blk 56 .u64 48 ((t2 24 v1 v2))), (g3, Cs 25 #[.slice a3 n3 c3, .int .i64 z3]), (g2, Cs 55 #[.slice a1 n1 c1, .int .i64 z1, .slice a2 n2 c2, .int .i64 z2])])
 case first =>
  go_wp2_with fail
  refine wp_region_noPanic ?_
  refine wp_region_held_drew (S := fun W => W.heap[g11]? = some (Blk 46 .u64 16 (kVA)) ∧ W.heap[g12]? = some (Blk 46 .u64 16 (kVB)) ∧ W.heap[g13]? = some (Blk 46 .u64 16 (kVC))) (by kernel_rfl) (⟨H.out.drew.row 2 rfl, H.out.drew.row 1 rfl, H.out.drew.row 0 rfl⟩) (fun hH => ?_)
  replace H := Lib.hid H.out.drew
  generalize World.drew _ = w8 at *
  refine held_row 0 47 rowTO rfl rfl (by kernel_rfl) (by kernel_rfl) (by kernel_rfl) rfl hH rfl rfl (fun _ h => h.1) ?_
  try simp only [Act.put, List.setIfInBounds_toArray, List.set_cons_zero, List.set_cons_succ]
  refine held_row 1 48 rowTO rfl rfl (by kernel_rfl) (by kernel_rfl) (by kernel_rfl) rfl hH rfl rfl (fun _ h => h.2.1) ?_
  try simp only [Act.put, List.setIfInBounds_toArray, List.set_cons_zero, List.set_cons_succ]
  refine held_row 3 50 rowTO rfl rfl (by kernel_rfl) (by kernel_rfl) (by kernel_rfl) rfl hH rfl rfl (fun _ h => h.2.2) ?_
  try simp only [Act.put, List.setIfInBounds_toArray, List.set_cons_zero, List.set_cons_succ]
  refine wpAnyH_ready (rs := [2, 5]) (by kernel_rfl) (by simp) ?_
  refine AllReadyH.cons (o := _) rfl (fun K hK => ?_) (AllReadyH.cons (o := _) rfl (fun K hK => ?_) AllReadyH.nil)
  ·skip
   go_simp
   refine (twAdd_k _ (HT.out.below H.out.bel) VA.out VB.out).mono ?_
   rintro e wc ⟨r49, rfl, hv, hb⟩
   replace H := Lib.hid (H.out.call hb)
   have HV49 := Lib.hid hv
   refine hK.out _ _ (⟨H.out.row 2 rfl, H.out.row 1 rfl, H.out.row 0 rfl⟩) (fun hN => ?_)
   clear hK K hH hb hv
   have hH := hN
   clear hN
   try simp only [Act.put, List.setIfInBounds_toArray, List.set_cons_zero, List.set_cons_succ]
   refine wpAnyH_ready (rs := [4, 5]) (by kernel_rfl) (by simp) ?_
   refine AllReadyH.cons (o := _) rfl (fun K hK => ?_) (AllReadyH.cons (o := _) rfl (fun K hK => ?_) AllReadyH.nil)
   ·skip
    go_simp
    refine (twAdd_k _ (HT.out.below H.out.bel) HV49.out VC.out).mono ?_
    rintro e wc ⟨r51, rfl, hv, hb⟩
    replace H := Lib.hid (H.out.call hb)
    have HV51 := Lib.hid hv
    refine hK.out _ _ (⟨H.out.row 2 rfl, H.out.row 1 rfl, H.out.row 0 rfl⟩) (fun hN => ?_)
    clear hK K hH hb hv
    have hH := hN
    clear hN
    try simp only [Act.put, List.setIfInBounds_toArray, List.set_cons_zero, List.set_cons_succ]
    refine wpAnyH_ready (rs := [5]) (by kernel_rfl) (by simp) ?_
    refine AllReadyH.cons (o := _) rfl (fun K hK => ?_) AllReadyH.nil
    refine own_wp_allocB 14 rfl nilTO H.out rfl ?_
    intro w14 g14 H3 hb
    replace H := Lib.hid H3
    refine hK.out _ _ (⟨H.out.row 3 rfl, H.out.row 2 rfl, H.out.row 1 rfl⟩) (fun hN => ?_)
    clear hK K hH H3 hb
    have hH := hN
    clear hN
    try simp only [Act.put, List.setIfInBounds_toArray, List.set_cons_zero, List.set_cons_succ]
    refine wpAnyH_ready (rs := [6]) (by kernel_rfl) (by simp) ?_
    refine AllReadyH.cons (o := _) rfl (fun K hK => ?_) AllReadyH.nil
    refine own_st 0 rfl rowTO H.out rfl rfl rfl rfl ?_
    intro ws HS
    simp only [List.set_cons_zero] at HS
    replace H := Lib.hid HS
    refine hK.out _ _ (⟨H.out.row 3 rfl, H.out.row 2 rfl, H.out.row 1 rfl⟩) (fun hN => ?_)
    clear hK K HS hH
    have hH := hN
    clear hN
    try simp only [List.setIfInBounds_toArray]
    try simp only [Act.put]
    refine wpAnyH_done (by kernel_rfl) ?_ _
    refine NoPanic.normal ?_
    clear hH
    go_wp2_with fail
    go_meet
    exact ⟨g14, r51, rfl, HV51.out, H.out⟩
   ·skip
    refine own_wp_allocB 14 rfl nilTO H.out rfl ?_
    intro w14 g14 H3 hb
    replace H := Lib.hid H3
    refine hK.out _ _ (⟨H.out.row 3 rfl, H.out.row 2 rfl, H.out.row 1 rfl⟩) (fun hN => ?_)
    clear hK K hH H3 hb
    have hH := hN
    clear hN
    try simp only [Act.put, List.setIfInBounds_toArray, List.set_cons_zero, List.set_cons_succ]
    refine wpAnyH_ready (rs := [4]) (by kernel_rfl) (by simp) ?_
    refine AllReadyH.cons (o := _) rfl (fun K hK => ?_) AllReadyH.nil
    go_simp
    refine (twAdd_k _ (HT.out.below H.out.bel) HV49.out VC.out).mono ?_
    rintro e wc ⟨r51, rfl, hv, hb⟩
    replace H := Lib.hid (H.out.call hb)
    have HV51 := Lib.hid hv
    refine hK.out _ _ (⟨H.out.row 3 rfl, H.out.row 2 rfl, H.out.row 1 rfl⟩) (fun hN => ?_)
    clear hK K hH hb hv
    have hH := hN
    clear hN
    try simp only [Act.put, List.setIfInBounds_toArray, List.set_cons_zero, List.set_cons_succ]
    refine wpAnyH_ready (rs := [6]) (by kernel_rfl) (by simp) ?_
    refine AllReadyH.cons (o := _) rfl (fun K hK => ?_) AllReadyH.nil
    refine own_st 0 rfl rowTO H.out rfl rfl rfl rfl ?_
    intro ws HS
    simp only [List.set_cons_zero] at HS
    replace H := Lib.hid HS
    refine hK.out _ _ (⟨H.out.row 3 rfl, H.out.row 2 rfl, H.out.row 1 rfl⟩) (fun hN => ?_)
    clear hK K HS hH
    have hH := hN
    clear hN
    try simp only [List.setIfInBounds_toArray]
    try simp only [Act.put]
    refine wpAnyH_done (by kernel_rfl) ?_ _
    refine NoPanic.normal ?_
    clear hH
    go_wp2_with fail
    go_meet
    exact ⟨g14, r51, rfl, HV51.out, H.out⟩
  ·skip
   refine own_wp_allocB 14 rfl nilTO H.out rfl ?_
   intro w14 g14 H3 hb
   replace H := Lib.hid H3
   refine hK.out _ _ (⟨H.out.row 3 rfl, H.out.row 2 rfl, H.out.row 1 rfl⟩) (fun hN => ?_)
   clear hK K hH H3 hb
   have hH := hN
   clear hN
   try simp only [Act.put, List.setIfInBounds_toArray, List.set_cons_zero, List.set_cons_succ]
   refine wpAnyH_ready (rs := [2]) (by kernel_rfl) (by simp) ?_
   refine AllReadyH.cons (o := _) rfl (fun K hK => ?_) AllReadyH.nil
   go_simp
   refine (twAdd_k _ (HT.out.below H.out.bel) VA.out VB.out).mono ?_
   rintro e wc ⟨r49, rfl, hv, hb⟩
   replace H := Lib.hid (H.out.call hb)
   have HV49 := Lib.hid hv
   refine hK.out _ _ (⟨H.out.row 3 rfl, H.out.row 2 rfl, H.out.row 1 rfl⟩) (fun hN => ?_)
   clear hK K hH hb hv
   have hH := hN
   clear hN
   try simp only [Act.put, List.setIfInBounds_toArray, List.set_cons_zero, List.set_cons_succ]
   refine wpAnyH_ready (rs := [4]) (by kernel_rfl) (by simp) ?_
   refine AllReadyH.cons (o := _) rfl (fun K hK => ?_) AllReadyH.nil
   go_simp
   refine (twAdd_k _ (HT.out.below H.out.bel) HV49.out VC.out).mono ?_
   rintro e wc ⟨r51, rfl, hv, hb⟩
   replace H := Lib.hid (H.out.call hb)
   have HV51 := Lib.hid hv
   refine hK.out _ _ (⟨H.out.row 3 rfl, H.out.row 2 rfl, H.out.row 1 rfl⟩) (fun hN => ?_)
   clear hK K hH hb hv
   have hH := hN
   clear hN
   try simp only [Act.put, List.setIfInBounds_toArray, List.set_cons_zero, List.set_cons_succ]
   refine wpAnyH_ready (rs := [6]) (by kernel_rfl) (by simp) ?_
   refine AllReadyH.cons (o := _) rfl (fun K hK => ?_) AllReadyH.nil
   refine own_st 0 rfl rowTO H.out rfl rfl rfl rfl ?_
   intro ws HS
   simp only [List.set_cons_zero] at HS
   replace H := Lib.hid HS
   refine hK.out _ _ (⟨H.out.row 3 rfl, H.out.row 2 rfl, H.out.row 1 rfl⟩) (fun hN => ?_)
   clear hK K HS hH
   have hH := hN
   clear hN
   try simp only [List.setIfInBounds_toArray]
   try simp only [Act.put]
   refine wpAnyH_done (by kernel_rfl) ?_ _
   refine NoPanic.normal ?_
   clear hH
   go_wp2_with fail
   go_meet
   exact ⟨g14, r51, rfl, HV51.out, H.out⟩
 clear H
 obtain ⟨g14, r51, rfl, hv51, HRR⟩ := hcut
 have HV51 := Lib.hid hv51
 have H := Lib.hid HRR
 clear HRR hv51
 go_upto_region 9 with fail
 go_cut [15] from 52 to 56 (fun v15 wx => ∃ g15 r56, v15 = .pointer (some ⟨g15, 0, none⟩) ∧ TwK r56 (padd edK P1 (padd edK P2 P3)) ∧ Ow w wx [(g15, Blk 46 .u64 16 (r56)), (g14, Blk 46 .u64 16 (r51)), (g13, Blk 46 .u64 16 (kVC)), (g12, Blk 46 .u64 16 (kVB)), (g11, Blk 46 .u64 16 (kVA)), (g9, Blk 40 .i64 48 (r3)), (g8, Blk 38 .u64 24 (v3)), (g6, Blk 57 .i64 96 ((t2 48 r1 r2))), (g5, Blk 56 .u64 48 ((t2 24 v1 v2))), (g3, Cs 25 #[.slice a3 n3 c3, .int .i64 z3]), (g2, Cs 55 #[.slice a1 n1 c1, .int .i64 z1, .slice a2 n2 c2, .int .i64 z2])])
 case first =>
  go_wp2_with fail
  refine wp_region_noPanic ?_
  refine wp_region_held_drew (S := fun W => W.heap[g11]? = some (Blk 46 .u64 16 (kVA)) ∧ W.heap[g12]? = some (Blk 46 .u64 16 (kVB)) ∧ W.heap[g13]? = some (Blk 46 .u64 16 (kVC))) (by kernel_rfl) (⟨H.out.drew.row 3 rfl, H.out.drew.row 2 rfl, H.out.drew.row 1 rfl⟩) (fun hH => ?_)
  replace H := Lib.hid H.out.drew
  generalize World.drew _ = w8 at *
  refine held_row 0 52 rowTO rfl rfl (by kernel_rfl) (by kernel_rfl) (by kernel_rfl) rfl hH rfl rfl (fun _ h => h.1) ?_
  try simp only [Act.put, List.setIfInBounds_toArray, List.set_cons_zero, List.set_cons_succ]
  refine held_row 1 53 rowTO rfl rfl (by kernel_rfl) (by kernel_rfl) (by kernel_rfl) rfl hH rfl rfl (fun _ h => h.2.1) ?_
  try simp only [Act.put, List.setIfInBounds_toArray, List.set_cons_zero, List.set_cons_succ]
  refine held_row 2 54 rowTO rfl rfl (by kernel_rfl) (by kernel_rfl) (by kernel_rfl) rfl hH rfl rfl (fun _ h => h.2.2) ?_
  try simp only [Act.put, List.setIfInBounds_toArray, List.set_cons_zero, List.set_cons_succ]
  refine wpAnyH_ready (rs := [3, 5]) (by kernel_rfl) (by simp) ?_
  refine AllReadyH.cons (o := _) rfl (fun K hK => ?_) (AllReadyH.cons (o := _) rfl (fun K hK => ?_) AllReadyH.nil)
  ·skip
   go_simp
   refine (twAdd_k _ (HT.out.below H.out.bel) VB.out VC.out).mono ?_
   rintro e wc ⟨r55, rfl, hv, hb⟩
   replace H := Lib.hid (H.out.call hb)
   have HV55 := Lib.hid hv
   refine hK.out _ _ (⟨H.out.row 3 rfl, H.out.row 2 rfl, H.out.row 1 rfl⟩) (fun hN => ?_)
   clear hK K hH hb hv
   have hH := hN
   clear hN
   try simp only [Act.put, List.setIfInBounds_toArray, List.set_cons_zero, List.set_cons_succ]
   refine wpAnyH_ready (rs := [4, 5]) (by kernel_rfl) (by simp) ?_
   refine AllReadyH.cons (o := _) rfl (fun K hK => ?_) (AllReadyH.cons (o := _) rfl (fun K hK => ?_) AllReadyH.nil)
   ·skip
    go_simp
    refine (twAdd_k _ (HT.out.below H.out.bel) VA.out HV55.out).mono ?_
    rintro e wc ⟨r56, rfl, hv, hb⟩
    replace H := Lib.hid (H.out.call hb)
    have HV56 := Lib.hid hv
    refine hK.out _ _ (⟨H.out.row 3 rfl, H.out.row 2 rfl, H.out.row 1 rfl⟩) (fun hN => ?_)
    clear hK K hH hb hv
    have hH := hN
    clear hN
    try simp only [Act.put, List.setIfInBounds_toArray, List.set_cons_zero, List.set_cons_succ]
    refine wpAnyH_ready (rs := [5]) (by kernel_rfl) (by simp) ?_
    refine AllReadyH.cons (o := _) rfl (fun K hK => ?_) AllReadyH.nil
    refine own_wp_allocB 15 rfl nilTO H.out rfl ?_
    intro w15 g15 H3 hb
    replace H := Lib.hid H3
    refine hK.out _ _ (⟨H.out.row 4 rfl, H.out.row 3 rfl, H.out.row 2 rfl⟩) (fun hN => ?_)
    clear hK K hH H3 hb
    have hH := hN
    clear hN
    try simp only [Act.put, List.setIfInBounds_toArray, List.set_cons_zero, List.set_cons_succ]
    refine wpAnyH_ready (rs := [6]) (by kernel_rfl) (by simp) ?_
    refine AllReadyH.cons (o := _) rfl (fun K hK => ?_) AllReadyH.nil
    refine own_st 0 rfl rowTO H.out rfl rfl rfl rfl ?_
    intro ws HS
    simp only [List.set_cons_zero] at HS
    replace H := Lib.hid HS
    refine hK.out _ _ (⟨H.out.row 4 rfl, H.out.row 3 rfl, H.out.row 2 rfl⟩) (fun hN => ?_)
    clear hK K HS hH
    have hH := hN
    clear hN
    try simp only [List.setIfInBounds_toArray]
    try simp only [Act.put]
    refine wpAnyH_done (by kernel_rfl) ?_ _
    refine NoPanic.normal ?_
    clear hH
    go_wp2_with fail
    go_meet
    exact ⟨g15, r56, rfl, HV56.out, H.out⟩
   ·skip
    refine own_wp_allocB 15 rfl nilTO H.out rfl ?_
    intro w15 g15 H3 hb
    replace H := Lib.hid H3
    refine hK.out _ _ (⟨H.out.row 4 rfl, H.out.row 3 rfl, H.out.row 2 rfl⟩) (fun hN => ?_)
    clear hK K hH H3 hb
    have hH := hN
    clear hN
    try simp only [Act.put, List.setIfInBounds_toArray, List.set_cons_zero, List.set_cons_succ]
    refine wpAnyH_ready (rs := [4]) (by kernel_rfl) (by simp) ?_
    refine AllReadyH.cons (o := _) rfl (fun K hK => ?_) AllReadyH.nil
    go_simp
    refine (twAdd_k _ (HT.out.below H.out.bel) VA.out HV55.out).mono ?_
    rintro e wc ⟨r56, rfl, hv, hb⟩
    replace H := Lib.hid (H.out.call hb)
    have HV56 := Lib.hid hv
    refine hK.out _ _ (⟨H.out.row 4 rfl, H.out.row 3 rfl, H.out.row 2 rfl⟩) (fun hN => ?_)
    clear hK K hH hb hv
    have hH := hN
    clear hN
    try simp only [Act.put, List.setIfInBounds_toArray, List.set_cons_zero, List.set_cons_succ]
    refine wpAnyH_ready (rs := [6]) (by kernel_rfl) (by simp) ?_
    refine AllReadyH.cons (o := _) rfl (fun K hK => ?_) AllReadyH.nil
    refine own_st 0 rfl rowTO H.out rfl rfl rfl rfl ?_
    intro ws HS
    simp only [List.set_cons_zero] at HS
    replace H := Lib.hid HS
    refine hK.out _ _ (⟨H.out.row 4 rfl, H.out.row 3 rfl, H.out.row 2 rfl⟩) (fun hN => ?_)
    clear hK K HS hH
    have hH := hN
    clear hN
    try simp only [List.setIfInBounds_toArray]
    try simp only [Act.put]
    refine wpAnyH_done (by kernel_rfl) ?_ _
    refine NoPanic.normal ?_
    clear hH
    go_wp2_with fail
    go_meet
    exact ⟨g15, r56, rfl, HV56.out, H.out⟩
  ·skip
   refine own_wp_allocB 15 rfl nilTO H.out rfl ?_
   intro w15 g15 H3 hb
   replace H := Lib.hid H3
   refine hK.out _ _ (⟨H.out.row 4 rfl, H.out.row 3 rfl, H.out.row 2 rfl⟩) (fun hN => ?_)
   clear hK K hH H3 hb
   have hH := hN
   clear hN
   try simp only [Act.put, List.setIfInBounds_toArray, List.set_cons_zero, List.set_cons_succ]
   refine wpAnyH_ready (rs := [3]) (by kernel_rfl) (by simp) ?_
   refine AllReadyH.cons (o := _) rfl (fun K hK => ?_) AllReadyH.nil
   go_simp
   refine (twAdd_k _ (HT.out.below H.out.bel) VB.out VC.out).mono ?_
   rintro e wc ⟨r55, rfl, hv, hb⟩
   replace H := Lib.hid (H.out.call hb)
   have HV55 := Lib.hid hv
   refine hK.out _ _ (⟨H.out.row 4 rfl, H.out.row 3 rfl, H.out.row 2 rfl⟩) (fun hN => ?_)
   clear hK K hH hb hv
   have hH := hN
   clear hN
   try simp only [Act.put, List.setIfInBounds_toArray, List.set_cons_zero, List.set_cons_succ]
   refine wpAnyH_ready (rs := [4]) (by kernel_rfl) (by simp) ?_
   refine AllReadyH.cons (o := _) rfl (fun K hK => ?_) AllReadyH.nil
   go_simp
   refine (twAdd_k _ (HT.out.below H.out.bel) VA.out HV55.out).mono ?_
   rintro e wc ⟨r56, rfl, hv, hb⟩
   replace H := Lib.hid (H.out.call hb)
   have HV56 := Lib.hid hv
   refine hK.out _ _ (⟨H.out.row 4 rfl, H.out.row 3 rfl, H.out.row 2 rfl⟩) (fun hN => ?_)
   clear hK K hH hb hv
   have hH := hN
   clear hN
   try simp only [Act.put, List.setIfInBounds_toArray, List.set_cons_zero, List.set_cons_succ]
   refine wpAnyH_ready (rs := [6]) (by kernel_rfl) (by simp) ?_
   refine AllReadyH.cons (o := _) rfl (fun K hK => ?_) AllReadyH.nil
   refine own_st 0 rfl rowTO H.out rfl rfl rfl rfl ?_
   intro ws HS
   simp only [List.set_cons_zero] at HS
   replace H := Lib.hid HS
   refine hK.out _ _ (⟨H.out.row 4 rfl, H.out.row 3 rfl, H.out.row 2 rfl⟩) (fun hN => ?_)
   clear hK K HS hH
   have hH := hN
   clear hN
   try simp only [List.setIfInBounds_toArray]
   try simp only [Act.put]
   refine wpAnyH_done (by kernel_rfl) ?_ _
   refine NoPanic.normal ?_
   clear hH
   go_wp2_with fail
   go_meet
   exact ⟨g15, r56, rfl, HV56.out, H.out⟩
 clear H
 obtain ⟨g15, r56, rfl, hv56, HRR⟩ := hcut
 have HV56 := Lib.hid hv56
 have H := Lib.hid HRR
 clear HRR hv56
 go_upto_region 12 with (first
  | ((with_reducible apply own_load rowTO H); (case hgd | ho | hx => exact rfl); (case hi => first|exact at0|exact at1|exact at2|exact at3|exact at4|exact at5|exact at6|exact at7|exact at8|exact at9); intro _ _; go_simp)
  | ((fail_if_success have := VX); (with_reducible refine (twAffine_k _ VA.out).mono ?_); rintro e wc ⟨hx, hy, rfl, hv, hu, hb⟩; replace H := Lib.hid (H.out.call hb); clear hb; have VX := Lib.hid hv; have VY := Lib.hid hu; clear hv hu)
  | ((fail_if_success have := g16); (fail_if_success have := g16); (with_reducible apply own_alloc nilE H); (case hgd | ho => exact rfl); intro w16 g16 H' _ _; replace H := H'; clear H'; go_simp)
  | ((fail_if_success have := g17); (fail_if_success have := g17); (with_reducible apply own_alloc nilE H); (case hgd | ho => exact rfl); intro w17 g17 H' _ _; replace H := H'; clear H'; go_simp)
  | ((with_reducible apply own_store rowE H); (case hgd | ho | hx | hy => exact rfl); (case hi => first|exact at0|exact at1|exact at2|exact at3|exact at4|exact at5|exact at6|exact at7|exact at8|exact at9); intro ws H' _ _; replace H := H'; clear H'; simp only [List.set_cons_zero, List.set_cons_succ] at H; go_simp)
  | ((with_reducible apply own_load rowE H); (case hgd | ho | hx => exact rfl); (case hi => first|exact at0|exact at1|exact at2|exact at3|exact at4|exact at5|exact at6|exact at7|exact at8|exact at9); intro _ _; go_simp)
  | ((fail_if_success have := VO); (with_reducible refine (twOf_on _ (HT.out.below H.out.bel) VX.out VY.out (ax_is P1)).mono ?_); rintro e wc ⟨kVO, rfl, hv, hb⟩; replace H := Lib.hid (H.out.call hb); clear hb; have VO := Lib.hid hv; clear hv)
  | ((fail_if_success have := g18); (fail_if_success have := g18); (with_reducible apply own_alloc nilTO H); (case hgd | ho => exact rfl); intro w18 g18 H' _ _; replace H := H'; clear H'; go_simp)
  | ((with_reducible apply own_store rowTO H); (case hgd | ho | hx | hy => exact rfl); (case hi => first|exact at0|exact at1|exact at2|exact at3|exact at4|exact at5|exact at6|exact at7|exact at8|exact at9); intro ws H' _ _; replace H := H'; clear H'; simp only [List.set_cons_zero] at H; go_simp))
 refine wp_region_noPanic ?_
 refine wp_region_held_drew (S := fun W => W.heap[g5]? = some (Blk 56 .u64 48 ((t2 24 v1 v2))) ∧ W.heap[g11]? = some (Blk 46 .u64 16 (kVA)) ∧ W.heap[g12]? = some (Blk 46 .u64 16 (kVB)) ∧ W.heap[g14]? = some (Blk 46 .u64 16 (r51)) ∧ W.heap[g15]? = some (Blk 46 .u64 16 (r56))) (by kernel_rfl) (⟨H.out.drew.row 11 rfl, H.out.drew.row 7 rfl, H.out.drew.row 6 rfl, H.out.drew.row 4 rfl, H.out.drew.row 3 rfl⟩) (fun hH => ?_)
 replace H := Lib.hid H.out.drew
 generalize World.drew _ = w8 at *
 refine held_value 0 68 (.int .i64 0) rfl rfl (by kernel_rfl) (by kernel_rfl) (by kernel_rfl) rfl hH (fun w hw => by go_simp) ?_
 try simp only [Act.put, List.setIfInBounds_toArray, List.set_cons_zero, List.set_cons_succ]
 refine held_value 1 69 (.bool true) rfl rfl (by kernel_rfl) (by kernel_rfl) (by kernel_rfl) rfl hH (fun w hw => by go_simp) ?_
 try simp only [Act.put, List.setIfInBounds_toArray, List.set_cons_zero, List.set_cons_succ]
 refine held_value 2 70 (.bool true) rfl rfl (by kernel_rfl) (by kernel_rfl) (by kernel_rfl) rfl hH (fun w hw => by go_simp) ?_
 try simp only [Act.put, List.setIfInBounds_toArray, List.set_cons_zero, List.set_cons_succ]
 refine held_value 3 71 (.pointer (some ⟨g5, 0, none⟩)) rfl rfl (by kernel_rfl) (by kernel_rfl) (by kernel_rfl) rfl hH (fun w hw => by go_simp) ?_
 try simp only [Act.put, List.setIfInBounds_toArray, List.set_cons_zero, List.set_cons_succ]
 refine held_part 4 72 rowPt rfl rfl (by kernel_rfl) (by kernel_rfl) (by kernel_rfl) rfl hH rfl rfl partP_0 (fun _ h => h.1) ?_
 try simp only [Act.put, List.setIfInBounds_toArray, List.set_cons_zero, List.set_cons_succ]
 refine held_value 5 73 (.pointer (some ⟨g5, 24, none⟩)) rfl rfl (by kernel_rfl) (by kernel_rfl) (by kernel_rfl) rfl hH (fun w hw => by go_simp) ?_
 try simp only [Act.put, List.setIfInBounds_toArray, List.set_cons_zero, List.set_cons_succ]
 refine held_part 6 74 rowPt rfl rfl (by kernel_rfl) (by kernel_rfl) (by kernel_rfl) rfl hH rfl rfl partP_1 (fun _ h => h.1) ?_
 try simp only [Act.put, List.setIfInBounds_toArray, List.set_cons_zero, List.set_cons_succ]
 refine held_row 9 77 rowTO rfl rfl (by kernel_rfl) (by kernel_rfl) (by kernel_rfl) rfl hH rfl rfl (fun _ h => h.2.1) ?_
 try simp only [Act.put, List.setIfInBounds_toArray, List.set_cons_zero, List.set_cons_succ]
 refine held_row 10 78 rowTO rfl rfl (by kernel_rfl) (by kernel_rfl) (by kernel_rfl) rfl hH rfl rfl (fun _ h => h.2.2.1) ?_
 try simp only [Act.put, List.setIfInBounds_toArray, List.set_cons_zero, List.set_cons_succ]
 refine wpAnyH_ready (rs := [7]) (by kernel_rfl) (by simp) ?_
 refine AllReadyH.cons (o := _) rfl (fun K hK => ?_) AllReadyH.nil
 go_simp
 refine (ptAdd_k _ (HT.out.below H.out.bel) V1.out V2.out).mono ?_
 rintro e wc ⟨r75, rfl, hv, hb⟩
 replace H := Lib.hid (H.out.call hb)
 have HV75 := Lib.hid hv
 refine hK.out _ _ (⟨H.out.row 11 rfl, H.out.row 7 rfl, H.out.row 6 rfl, H.out.row 4 rfl, H.out.row 3 rfl⟩) (fun hN => ?_)
 clear hK K hH hb hv
 have hH := hN
 clear hN
 try simp only [Act.put, List.setIfInBounds_toArray, List.set_cons_zero, List.set_cons_succ]
 refine wpAnyH_ready (rs := [8]) (by kernel_rfl) (by simp) ?_
 refine AllReadyH.cons (o := _) rfl (fun K hK => ?_) AllReadyH.nil
 go_simp
 refine (twTo_k _ (HT.out.below H.out.bel) HV75.out).mono ?_
 rintro e wc ⟨r76, rfl, hv, hb⟩
 replace H := Lib.hid (H.out.call hb)
 have HV76 := Lib.hid hv
 refine hK.out _ _ (⟨H.out.row 11 rfl, H.out.row 7 rfl, H.out.row 6 rfl, H.out.row 4 rfl, H.out.row 3 rfl⟩) (fun hN => ?_)
 clear hK K hH hb hv
 have hH := hN
 clear hN
 try simp only [Act.put, List.setIfInBounds_toArray, List.set_cons_zero, List.set_cons_succ]
 refine wpAnyH_ready (rs := [11]) (by kernel_rfl) (by simp) ?_
 refine AllReadyH.cons (o := _) rfl (fun K hK => ?_) AllReadyH.nil
 go_simp
 refine (twAdd_k _ (HT.out.below H.out.bel) VA.out VB.out).mono ?_
 rintro e wc ⟨r79, rfl, hv, hb⟩
 replace H := Lib.hid (H.out.call hb)
 have HV79 := Lib.hid hv
 refine hK.out _ _ (⟨H.out.row 11 rfl, H.out.row 7 rfl, H.out.row 6 rfl, H.out.row 4 rfl, H.out.row 3 rfl⟩) (fun hN => ?_)
 clear hK K hH hb hv
 have hH := hN
 clear hN
 try simp only [Act.put, List.setIfInBounds_toArray, List.set_cons_zero, List.set_cons_succ]
 refine wpAnyH_ready (rs := [12]) (by kernel_rfl) (by simp) ?_
 refine AllReadyH.cons (o := _) rfl (fun K hK => ?_) AllReadyH.nil
 go_simp
 refine (twEqual_x _ (HT.out.below H.out.bel) HV76.out HV79.out (eq_pt rfl)).mono ?_
 rintro e wc ⟨rfl, hb⟩
 replace H := Lib.hid (H.out.call hb)
 refine hK.out _ _ (⟨H.out.row 11 rfl, H.out.row 7 rfl, H.out.row 6 rfl, H.out.row 4 rfl, H.out.row 3 rfl⟩) (fun hN => ?_)
 clear hK K hH hb
 have hH := hN
 clear hN
 try simp only [Act.put, List.setIfInBounds_toArray, List.set_cons_zero, List.set_cons_succ]
 refine held_value 13 81 (.bool true) rfl rfl (by kernel_rfl) (by kernel_rfl) (by kernel_rfl) rfl hH (fun w hw => by go_simp) ?_
 try simp only [Act.put, List.setIfInBounds_toArray, List.set_cons_zero, List.set_cons_succ]
 refine held_value 14 82 (.bool true) rfl rfl (by kernel_rfl) (by kernel_rfl) (by kernel_rfl) rfl hH (fun w hw => by go_simp) ?_
 try simp only [Act.put, List.setIfInBounds_toArray, List.set_cons_zero, List.set_cons_succ]
 refine held_value 15 83 (.pointer (some ⟨g5, 0, none⟩)) rfl rfl (by kernel_rfl) (by kernel_rfl) (by kernel_rfl) rfl hH (fun w hw => by go_simp) ?_
 try simp only [Act.put, List.setIfInBounds_toArray, List.set_cons_zero, List.set_cons_succ]
 refine held_part 16 84 rowPt rfl rfl (by kernel_rfl) (by kernel_rfl) (by kernel_rfl) rfl hH rfl rfl partP_0 (fun _ h => h.1) ?_
 try simp only [Act.put, List.setIfInBounds_toArray, List.set_cons_zero, List.set_cons_succ]
 refine held_row 19 87 rowTO rfl rfl (by kernel_rfl) (by kernel_rfl) (by kernel_rfl) rfl hH rfl rfl (fun _ h => h.2.1) ?_
 try simp only [Act.put, List.setIfInBounds_toArray, List.set_cons_zero, List.set_cons_succ]
 refine wpAnyH_ready (rs := [17]) (by kernel_rfl) (by simp) ?_
 refine AllReadyH.cons (o := _) rfl (fun K hK => ?_) AllReadyH.nil
 go_simp
 refine (ptNeg_k _ (HT.out.below H.out.bel) V1.out).mono ?_
 rintro e wc ⟨r85, rfl, hv, hb⟩
 replace H := Lib.hid (H.out.call hb)
 have HV85 := Lib.hid hv
 refine hK.out _ _ (⟨H.out.row 11 rfl, H.out.row 7 rfl, H.out.row 6 rfl, H.out.row 4 rfl, H.out.row 3 rfl⟩) (fun hN => ?_)
 clear hK K hH hb hv
 have hH := hN
 clear hN
 try simp only [Act.put, List.setIfInBounds_toArray, List.set_cons_zero, List.set_cons_succ]
 refine wpAnyH_ready (rs := [18]) (by kernel_rfl) (by simp) ?_
 refine AllReadyH.cons (o := _) rfl (fun K hK => ?_) AllReadyH.nil
 go_simp
 refine (twTo_k _ (HT.out.below H.out.bel) HV85.out).mono ?_
 rintro e wc ⟨r86, rfl, hv, hb⟩
 replace H := Lib.hid (H.out.call hb)
 have HV86 := Lib.hid hv
 refine hK.out _ _ (⟨H.out.row 11 rfl, H.out.row 7 rfl, H.out.row 6 rfl, H.out.row 4 rfl, H.out.row 3 rfl⟩) (fun hN => ?_)
 clear hK K hH hb hv
 have hH := hN
 clear hN
 try simp only [Act.put, List.setIfInBounds_toArray, List.set_cons_zero, List.set_cons_succ]
 refine wpAnyH_ready (rs := [20]) (by kernel_rfl) (by simp) ?_
 refine AllReadyH.cons (o := _) rfl (fun K hK => ?_) AllReadyH.nil
 go_simp
 refine (twNeg_k _ (HT.out.below H.out.bel) VA.out).mono ?_
 rintro e wc ⟨r88, rfl, hv, hb⟩
 replace H := Lib.hid (H.out.call hb)
 have HV88 := Lib.hid hv
 refine hK.out _ _ (⟨H.out.row 11 rfl, H.out.row 7 rfl, H.out.row 6 rfl, H.out.row 4 rfl, H.out.row 3 rfl⟩) (fun hN => ?_)
 clear hK K hH hb hv
 have hH := hN
 clear hN
 try simp only [Act.put, List.setIfInBounds_toArray, List.set_cons_zero, List.set_cons_succ]
 refine wpAnyH_ready (rs := [21]) (by kernel_rfl) (by simp) ?_
 refine AllReadyH.cons (o := _) rfl (fun K hK => ?_) AllReadyH.nil
 go_simp
 refine (twEqual_x _ (HT.out.below H.out.bel) HV86.out HV88.out (eq_pt rfl)).mono ?_
 rintro e wc ⟨rfl, hb⟩
 replace H := Lib.hid (H.out.call hb)
 refine hK.out _ _ (⟨H.out.row 11 rfl, H.out.row 7 rfl, H.out.row 6 rfl, H.out.row 4 rfl, H.out.row 3 rfl⟩) (fun hN => ?_)
 clear hK K hH hb
 have hH := hN
 clear hN
 try simp only [Act.put, List.setIfInBounds_toArray, List.set_cons_zero, List.set_cons_succ]
 refine held_value 22 90 (.bool true) rfl rfl (by kernel_rfl) (by kernel_rfl) (by kernel_rfl) rfl hH (fun w hw => by go_simp) ?_
 try simp only [Act.put, List.setIfInBounds_toArray, List.set_cons_zero, List.set_cons_succ]
 refine held_value 23 91 (.bool true) rfl rfl (by kernel_rfl) (by kernel_rfl) (by kernel_rfl) rfl hH (fun w hw => by go_simp) ?_
 try simp only [Act.put, List.setIfInBounds_toArray, List.set_cons_zero, List.set_cons_succ]
 refine held_row 24 92 rowTO rfl rfl (by kernel_rfl) (by kernel_rfl) (by kernel_rfl) rfl hH rfl rfl (fun _ h => h.2.1) ?_
 try simp only [Act.put, List.setIfInBounds_toArray, List.set_cons_zero, List.set_cons_succ]
 refine held_row 25 93 rowTO rfl rfl (by kernel_rfl) (by kernel_rfl) (by kernel_rfl) rfl hH rfl rfl (fun _ h => h.2.2.1) ?_
 try simp only [Act.put, List.setIfInBounds_toArray, List.set_cons_zero, List.set_cons_succ]
 refine held_row 27 95 rowTO rfl rfl (by kernel_rfl) (by kernel_rfl) (by kernel_rfl) rfl hH rfl rfl (fun _ h => h.2.2.1) ?_
 try simp only [Act.put, List.setIfInBounds_toArray, List.set_cons_zero, List.set_cons_succ]
 refine held_row 28 96 rowTO rfl rfl (by kernel_rfl) (by kernel_rfl) (by kernel_rfl) rfl hH rfl rfl (fun _ h => h.2.1) ?_
 try simp only [Act.put, List.setIfInBounds_toArray, List.set_cons_zero, List.set_cons_succ]
 refine wpAnyH_ready (rs := [26]) (by kernel_rfl) (by simp) ?_
 refine AllReadyH.cons (o := _) rfl (fun K hK => ?_) AllReadyH.nil
 go_simp
 refine (twAdd_k _ (HT.out.below H.out.bel) VA.out VB.out).mono ?_
 rintro e wc ⟨r94, rfl, hv, hb⟩
 replace H := Lib.hid (H.out.call hb)
 have HV94 := Lib.hid hv
 refine hK.out _ _ (⟨H.out.row 11 rfl, H.out.row 7 rfl, H.out.row 6 rfl, H.out.row 4 rfl, H.out.row 3 rfl⟩) (fun hN => ?_)
 clear hK K hH hb hv
 have hH := hN
 clear hN
 try simp only [Act.put, List.setIfInBounds_toArray, List.set_cons_zero, List.set_cons_succ]
 refine wpAnyH_ready (rs := [29]) (by kernel_rfl) (by simp) ?_
 refine AllReadyH.cons (o := _) rfl (fun K hK => ?_) AllReadyH.nil
 go_simp
 refine (twAdd_k _ (HT.out.below H.out.bel) VB.out VA.out).mono ?_
 rintro e wc ⟨r97, rfl, hv, hb⟩
 replace H := Lib.hid (H.out.call hb)
 have HV97 := Lib.hid hv
 refine hK.out _ _ (⟨H.out.row 11 rfl, H.out.row 7 rfl, H.out.row 6 rfl, H.out.row 4 rfl, H.out.row 3 rfl⟩) (fun hN => ?_)
 clear hK K hH hb hv
 have hH := hN
 clear hN
 try simp only [Act.put, List.setIfInBounds_toArray, List.set_cons_zero, List.set_cons_succ]
 refine wpAnyH_ready (rs := [30]) (by kernel_rfl) (by simp) ?_
 refine AllReadyH.cons (o := _) rfl (fun K hK => ?_) AllReadyH.nil
 go_simp
 refine (twEqual_x _ (HT.out.below H.out.bel) HV94.out HV97.out (eq_pt (padd_comm edK P1 P2))).mono ?_
 rintro e wc ⟨rfl, hb⟩
 replace H := Lib.hid (H.out.call hb)
 refine hK.out _ _ (⟨H.out.row 11 rfl, H.out.row 7 rfl, H.out.row 6 rfl, H.out.row 4 rfl, H.out.row 3 rfl⟩) (fun hN => ?_)
 clear hK K hH hb
 have hH := hN
 clear hN
 try simp only [Act.put, List.setIfInBounds_toArray, List.set_cons_zero, List.set_cons_succ]
 refine held_value 31 99 (.bool true) rfl rfl (by kernel_rfl) (by kernel_rfl) (by kernel_rfl) rfl hH (fun w hw => by go_simp) ?_
 try simp only [Act.put, List.setIfInBounds_toArray, List.set_cons_zero, List.set_cons_succ]
 refine held_value 32 100 (.bool true) rfl rfl (by kernel_rfl) (by kernel_rfl) (by kernel_rfl) rfl hH (fun w hw => by go_simp) ?_
 try simp only [Act.put, List.setIfInBounds_toArray, List.set_cons_zero, List.set_cons_succ]
 refine held_row 33 101 rowTO rfl rfl (by kernel_rfl) (by kernel_rfl) (by kernel_rfl) rfl hH rfl rfl (fun _ h => h.2.2.2.1) ?_
 try simp only [Act.put, List.setIfInBounds_toArray, List.set_cons_zero, List.set_cons_succ]
 refine held_row 34 102 rowTO rfl rfl (by kernel_rfl) (by kernel_rfl) (by kernel_rfl) rfl hH rfl rfl (fun _ h => h.2.2.2.2) ?_
 try simp only [Act.put, List.setIfInBounds_toArray, List.set_cons_zero, List.set_cons_succ]
 refine wpAnyH_ready (rs := [35]) (by kernel_rfl) (by simp) ?_
 refine AllReadyH.cons (o := _) rfl (fun K hK => ?_) AllReadyH.nil
 go_simp
 refine (twEqual_x _ (HT.out.below H.out.bel) HV51.out HV56.out (eq_pt (padd_assoc edK P1 P2 P3))).mono ?_
 rintro e wc ⟨rfl, hb⟩
 replace H := Lib.hid (H.out.call hb)
 refine hK.out _ _ (⟨H.out.row 11 rfl, H.out.row 7 rfl, H.out.row 6 rfl, H.out.row 4 rfl, H.out.row 3 rfl⟩) (fun hN => ?_)
 clear hK K hH hb
 have hH := hN
 clear hN
 try simp only [Act.put, List.setIfInBounds_toArray, List.set_cons_zero, List.set_cons_succ]
 refine held_value 36 104 (.bool true) rfl rfl (by kernel_rfl) (by kernel_rfl) (by kernel_rfl) rfl hH (fun w hw => by go_simp) ?_
 try simp only [Act.put, List.setIfInBounds_toArray, List.set_cons_zero, List.set_cons_succ]
 refine held_value 37 105 (.bool true) rfl rfl (by kernel_rfl) (by kernel_rfl) (by kernel_rfl) rfl hH (fun w hw => by go_simp) ?_
 try simp only [Act.put, List.setIfInBounds_toArray, List.set_cons_zero, List.set_cons_succ]
 refine held_row 38 106 rowTO rfl rfl (by kernel_rfl) (by kernel_rfl) (by kernel_rfl) rfl hH rfl rfl (fun _ h => h.2.1) ?_
 try simp only [Act.put, List.setIfInBounds_toArray, List.set_cons_zero, List.set_cons_succ]
 refine held_row 41 109 rowTO rfl rfl (by kernel_rfl) (by kernel_rfl) (by kernel_rfl) rfl hH rfl rfl (fun _ h => h.2.1) ?_
 try simp only [Act.put, List.setIfInBounds_toArray, List.set_cons_zero, List.set_cons_succ]
 refine wpAnyH_ready (rs := [39]) (by kernel_rfl) (by simp) ?_
 refine AllReadyH.cons (o := _) rfl (fun K hK => ?_) AllReadyH.nil
 go_simp
 refine (twIdentity_k _ (HT.out.below H.out.bel)).mono ?_
 rintro e wc ⟨r107, rfl, hv, hb⟩
 replace H := Lib.hid (H.out.call hb)
 have HV107 := Lib.hid hv
 refine hK.out _ _ (⟨H.out.row 11 rfl, H.out.row 7 rfl, H.out.row 6 rfl, H.out.row 4 rfl, H.out.row 3 rfl⟩) (fun hN => ?_)
 clear hK K hH hb hv
 have hH := hN
 clear hN
 try simp only [Act.put, List.setIfInBounds_toArray, List.set_cons_zero, List.set_cons_succ]
 refine wpAnyH_ready (rs := [40]) (by kernel_rfl) (by simp) ?_
 refine AllReadyH.cons (o := _) rfl (fun K hK => ?_) AllReadyH.nil
 go_simp
 refine (twAdd_k _ (HT.out.below H.out.bel) VA.out HV107.out).mono ?_
 rintro e wc ⟨r108, rfl, hv, hb⟩
 replace H := Lib.hid (H.out.call hb)
 have HV108 := Lib.hid hv
 refine hK.out _ _ (⟨H.out.row 11 rfl, H.out.row 7 rfl, H.out.row 6 rfl, H.out.row 4 rfl, H.out.row 3 rfl⟩) (fun hN => ?_)
 clear hK K hH hb hv
 have hH := hN
 clear hN
 try simp only [Act.put, List.setIfInBounds_toArray, List.set_cons_zero, List.set_cons_succ]
 refine wpAnyH_ready (rs := [42]) (by kernel_rfl) (by simp) ?_
 refine AllReadyH.cons (o := _) rfl (fun K hK => ?_) AllReadyH.nil
 go_simp
 refine (twEqual_x _ (HT.out.below H.out.bel) HV108.out VA.out (eq_pt (padd_zero edK P1))).mono ?_
 rintro e wc ⟨rfl, hb⟩
 replace H := Lib.hid (H.out.call hb)
 refine hK.out _ _ (⟨H.out.row 11 rfl, H.out.row 7 rfl, H.out.row 6 rfl, H.out.row 4 rfl, H.out.row 3 rfl⟩) (fun hN => ?_)
 clear hK K hH hb
 have hH := hN
 clear hN
 try simp only [Act.put, List.setIfInBounds_toArray, List.set_cons_zero, List.set_cons_succ]
 refine held_value 43 111 (.bool true) rfl rfl (by kernel_rfl) (by kernel_rfl) (by kernel_rfl) rfl hH (fun w hw => by go_simp) ?_
 try simp only [Act.put, List.setIfInBounds_toArray, List.set_cons_zero, List.set_cons_succ]
 refine held_value 44 112 (.bool true) rfl rfl (by kernel_rfl) (by kernel_rfl) (by kernel_rfl) rfl hH (fun w hw => by go_simp) ?_
 try simp only [Act.put, List.setIfInBounds_toArray, List.set_cons_zero, List.set_cons_succ]
 refine held_row 45 113 rowTO rfl rfl (by kernel_rfl) (by kernel_rfl) (by kernel_rfl) rfl hH rfl rfl (fun _ h => h.2.1) ?_
 try simp only [Act.put, List.setIfInBounds_toArray, List.set_cons_zero, List.set_cons_succ]
 refine held_row 46 114 rowTO rfl rfl (by kernel_rfl) (by kernel_rfl) (by kernel_rfl) rfl hH rfl rfl (fun _ h => h.2.1) ?_
 try simp only [Act.put, List.setIfInBounds_toArray, List.set_cons_zero, List.set_cons_succ]
 refine wpAnyH_ready (rs := [47]) (by kernel_rfl) (by simp) ?_
 refine AllReadyH.cons (o := _) rfl (fun K hK => ?_) AllReadyH.nil
 go_simp
 refine (twNeg_k _ (HT.out.below H.out.bel) VA.out).mono ?_
 rintro e wc ⟨r115, rfl, hv, hb⟩
 replace H := Lib.hid (H.out.call hb)
 have HV115 := Lib.hid hv
 refine hK.out _ _ (⟨H.out.row 11 rfl, H.out.row 7 rfl, H.out.row 6 rfl, H.out.row 4 rfl, H.out.row 3 rfl⟩) (fun hN => ?_)
 clear hK K hH hb hv
 have hH := hN
 clear hN
 try simp only [Act.put, List.setIfInBounds_toArray, List.set_cons_zero, List.set_cons_succ]
 refine wpAnyH_ready (rs := [48]) (by kernel_rfl) (by simp) ?_
 refine AllReadyH.cons (o := _) rfl (fun K hK => ?_) AllReadyH.nil
 go_simp
 refine (twAdd_k _ (HT.out.below H.out.bel) VA.out HV115.out).mono ?_
 rintro e wc ⟨r116, rfl, hv, hb⟩
 replace H := Lib.hid (H.out.call hb)
 have HV116 := Lib.hid hv
 refine hK.out _ _ (⟨H.out.row 11 rfl, H.out.row 7 rfl, H.out.row 6 rfl, H.out.row 4 rfl, H.out.row 3 rfl⟩) (fun hN => ?_)
 clear hK K hH hb hv
 have hH := hN
 clear hN
 try simp only [Act.put, List.setIfInBounds_toArray, List.set_cons_zero, List.set_cons_succ]
 refine wpAnyH_ready (rs := [49]) (by kernel_rfl) (by simp) ?_
 refine AllReadyH.cons (o := _) rfl (fun K hK => ?_) AllReadyH.nil
 go_simp
 refine (twIdentity_k _ (HT.out.below H.out.bel)).mono ?_
 rintro e wc ⟨r117, rfl, hv, hb⟩
 replace H := Lib.hid (H.out.call hb)
 have HV117 := Lib.hid hv
 refine hK.out _ _ (⟨H.out.row 11 rfl, H.out.row 7 rfl, H.out.row 6 rfl, H.out.row 4 rfl, H.out.row 3 rfl⟩) (fun hN => ?_)
 clear hK K hH hb hv
 have hH := hN
 clear hN
 try simp only [Act.put, List.setIfInBounds_toArray, List.set_cons_zero, List.set_cons_succ]
 refine wpAnyH_ready (rs := [50]) (by kernel_rfl) (by simp) ?_
 refine AllReadyH.cons (o := _) rfl (fun K hK => ?_) AllReadyH.nil
 go_simp
 refine (twEqual_x _ (HT.out.below H.out.bel) HV116.out HV117.out (eq_pt (padd_neg edK P1))).mono ?_
 rintro e wc ⟨rfl, hb⟩
 replace H := Lib.hid (H.out.call hb)
 refine hK.out _ _ (⟨H.out.row 11 rfl, H.out.row 7 rfl, H.out.row 6 rfl, H.out.row 4 rfl, H.out.row 3 rfl⟩) (fun hN => ?_)
 clear hK K hH hb
 have hH := hN
 clear hN
 try simp only [Act.put, List.setIfInBounds_toArray, List.set_cons_zero, List.set_cons_succ]
 refine held_value 51 119 (.bool true) rfl rfl (by kernel_rfl) (by kernel_rfl) (by kernel_rfl) rfl hH (fun w hw => by go_simp) ?_
 try simp only [Act.put, List.setIfInBounds_toArray, List.set_cons_zero, List.set_cons_succ]
 refine held_value 52 120 (.bool true) rfl rfl (by kernel_rfl) (by kernel_rfl) (by kernel_rfl) rfl hH (fun w hw => by go_simp) ?_
 try simp only [Act.put, List.setIfInBounds_toArray, List.set_cons_zero, List.set_cons_succ]
 refine wpAnyH_ready (rs := [53]) (by kernel_rfl) (by simp) ?_
 refine AllReadyH.cons (o := _) rfl (fun K hK => ?_) AllReadyH.nil
 go_simp
 refine (awake13_k _ (HT.out.below H.out.bel)).mono ?_
 rintro e wc ⟨rfl, hb⟩
 replace H := Lib.hid (H.out.call hb)
 refine hK.out _ _ (⟨H.out.row 11 rfl, H.out.row 7 rfl, H.out.row 6 rfl, H.out.row 4 rfl, H.out.row 3 rfl⟩) (fun hN => ?_)
 clear hK K hH hb
 have hH := hN
 clear hN
 try simp only [Act.put, List.setIfInBounds_toArray, List.set_cons_zero, List.set_cons_succ]
 refine held_value 54 122 (.bool true) rfl rfl (by kernel_rfl) (by kernel_rfl) (by kernel_rfl) rfl hH (fun w hw => by go_simp) ?_
 try simp only [Act.put, List.setIfInBounds_toArray, List.set_cons_zero, List.set_cons_succ]
 refine held_value 55 4 (.bool true) rfl rfl (by kernel_rfl) (by kernel_rfl) (by kernel_rfl) rfl hH (fun w hw => by go_simp) ?_
 try simp only [Act.put, List.setIfInBounds_toArray, List.set_cons_zero, List.set_cons_succ]
 try simp only [Act.put]
 refine wpAnyH_done (by kernel_rfl) ?_ _
 refine NoPanic.normal ?_
 clear hH
 go_wp2_with fail
 go_ret
 exact ⟨rfl, H.out.bel⟩
theorem thomes_walk {a1 a2 a3 : Option Addr} {n1 c1 x1 n2 c2 x2 n3 c3 x3 : Nat} {z1 z2 z3 : Int} (w : World) (hT : Tp w) (hs1 : Sb w w.heap.size a1 n1 c1 x1) (hs2 : Sb w w.heap.size a2 n2 c2 x2) (hs3 : Sb w w.heap.size a3 n3 c3 x3) :
  Calls Tryz.prog 6 #[.agg #[.slice a1 n1 c1, .int .i64 z1, .slice a2 n2 c2, .int .i64 z2], .agg #[.slice a3 n3 c3, .int .i64 z3]] w fun e w' => e = .returned (.bool true) ∧ Below w.heap.size w w' := by
 cases ok : (okS n1 z1 && okS n2 z2) with
 | false => exact thomes_no1 w hT hs1 hs2 hs3 ok rfl
 | true =>
  cases ok3 : okS n3 z3 with
  | false => exact thomes_no3 w hT hs1 hs2 hs3 ok ok3
  | true => exact thomes_k w hT hs1 hs2 hs3 ok ok3
end Go.Proofs.YtoeokhfhcpcjlaaGreatDoor
