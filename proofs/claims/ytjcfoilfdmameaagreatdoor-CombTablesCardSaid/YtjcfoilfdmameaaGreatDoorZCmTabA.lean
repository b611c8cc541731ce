/-
  The walk of CombTables: where there is no such comb, or it is not asked. No statement is proved here: lemmas for the walks.
-/
import Derived.Test.YtjcfoilfdmameaaGreatDoorZCbAwake
import Derived.Test.YtjcfoilfdmameaaGreatDoorZCbWorth
import Derived.Deep.CutRange
namespace Go.Proofs.YtjcfoilfdmameaaGreatDoor
open Go.RowKit

set_option maxRecDepth 8000 in
set_option maxHeartbeats 3200000 in
theorem tabs_none {a : Option Addr} {n c x : Nat} {z : Int} {k s i : Int} (w : World) (hT : Tp w) (hs : Sb w w.heap.size a n c x) (ok : okS n z = false) :
    Calls Tryz.prog 5 #[.agg #[.slice a n c, .int .i64 z], .agg #[.int .i64 k, .int .i64 s], .int .i64 i] w fun e w' => e = .returned (.bool true) ∧ Below w.heap.size w w' := by
  have HS := Lib.hid hs
  have OK := Lib.hid ok
  clear hs ok
  have HT := Lib.hid hT
  clear hT
  have H := Lib.hid (Ow.start w)
  go_enter Tryz.func5, Tryz.ntmps5
  go_upto_region 2 with (first
    | ((fail_if_success have := g3); (with_reducible apply own_boxC H); (case hgd => exact rfl); (case ho => exact rfl); (case hx => exact rfl); intro w3 g3 H' _ _; replace H := H'; clear H'; go_simp)
    | ((fail_if_success have := g4); (with_reducible apply own_boxC H); (case hgd => exact rfl); (case ho => exact rfl); (case hx => exact rfl); intro w4 g4 H' _ _; replace H := H'; clear H'; go_simp)
    | ((with_reducible apply own_loadA rowSpK ?hC H); (case hgd => exact rfl); (case ho => exact rfl); (case hx => exact rfl); (case hi => first | exact at0 | exact at1 | exact at2 | exact at3 | exact at4 | exact at5 | exact at6 | exact at7 | exact at8 | exact at9); (case hC => exact rfl); intro _ _; go_simp)
    | ((fail_if_success have := mk1); (with_reducible refine (made11_any OK.out _ (HT.out.below H.out.bel) ((HS.out.below H.out.bel).more H.out.bel.size)).mono ?_); rintro e wc ⟨v1, r1, P, rfl, hv, hw, hb⟩; replace H := Lib.hid (H.out.call hb); have V1 := Lib.hid hv; have W1 := Lib.hid hw; have mk1 := trivial; clear hb hv hw)
    | ((fail_if_success have := g7); (with_reducible apply own_alloc nilPt H); (case hgd => exact rfl); (case ho => exact rfl); intro w7 g7 H' _ _; replace H := H'; clear H'; go_simp)
    | ((fail_if_success have := g8); (with_reducible apply own_alloc nilQt H); (case hgd => exact rfl); (case ho => exact rfl); intro w8 g8 H' _ _; replace H := H'; clear H'; go_simp)
    | ((with_reducible apply own_store rowPt H); (case hgd => exact rfl); (case ho => exact rfl); (case hx => exact rfl); (case hy => exact rfl); (case hi => first | exact at0 | exact at1 | exact at2 | exact at3 | exact at4 | exact at5 | exact at6 | exact at7 | exact at8 | exact at9); intro ws H' _ _; replace H := H'; clear H'; simp only [List.set_cons_zero, List.set_cons_succ] at H; go_simp)
    | ((with_reducible apply own_store rowQt H); (case hgd => exact rfl); (case ho => exact rfl); (case hx => exact rfl); (case hy => exact rfl); (case hi => first | exact at0 | exact at1 | exact at2 | exact at3 | exact at4 | exact at5 | exact at6 | exact at7 | exact at8 | exact at9); intro ws H' _ _; replace H := H'; clear H'; simp only [List.set_cons_zero] at H; go_simp)
    | ((with_reducible refine cd_undef ?_ ?_ ?_ ?_); (· exact rfl); (· exact rfl); (· exact rfl); intro _ _; go_simp)
    | ((with_reducible refine cd_other ?_ ?_ ?_ ?_); (· exact rfl); (· exact rfl); (· exact rfl); intro _ _; go_simp)
    | ((with_reducible apply own_loadC cellIn H); (case hgd => exact rfl); (case ho => exact rfl); (case hx => exact rfl); (case hi => first | exact at0 | exact at1 | exact at2 | exact at3 | exact at4 | exact at5 | exact at6 | exact at7 | exact at8 | exact at9); (case hj => exact rfl); intro _ _; go_simp)
    | ((with_reducible apply own_loadCg cellIn H); (case hw => exact rfl); (case ho => exact rfl); (case hx => exact rfl); (case hi => first | exact at0 | exact at1 | exact at2 | exact at3 | exact at4 | exact at5 | exact at6 | exact at7 | exact at8 | exact at9); (case hj => exact rfl); intro _ _; go_simp)
    | ((with_reducible apply own_load rowPt H); (case hgd => exact rfl); (case ho => exact rfl); (case hx => exact rfl); (case hi => first | exact at0 | exact at1 | exact at2 | exact at3 | exact at4 | exact at5 | exact at6 | exact at7 | exact at8 | exact at9); intro _ _; go_simp)
    | ((with_reducible refine (awake11_k _ (HT.out.below H.out.bel)).mono ?_); rintro e wc ⟨rfl, hb⟩; replace H := Lib.hid (H.out.call hb); clear hb))
  repeat (first
    | ((with_reducible refine cd_other (want := false) (j := 2) (s := 24) ?_ ?_ ?_ ?_); (· exact rfl); (· exact rfl); (· exact rfl); intro K hK; simp only [Act.put, List.setIfInBounds_toArray, List.set_cons_zero, List.set_cons_succ]; (with_reducible refine hK _ _ ?_); clear hK K)
    | ((with_reducible refine cd_undef (want := true) (j := 6) (s := 28) ?_ ?_ ?_ ?_); (· exact rfl); (· exact rfl); (· exact rfl); intro K hK; simp only [Act.put, List.setIfInBounds_toArray, List.set_cons_zero, List.set_cons_succ]; (with_reducible refine hK _ _ ?_); clear hK K)
    | ((with_reducible refine cd_other (want := false) (j := 12) (s := 34) ?_ ?_ ?_ ?_); (· exact rfl); (· exact rfl); (· exact rfl); intro K hK; simp only [Act.put, List.setIfInBounds_toArray, List.set_cons_zero, List.set_cons_succ]; (with_reducible refine hK _ _ ?_); clear hK K)
    | ((with_reducible refine cd_undef (want := true) (j := 16) (s := 38) ?_ ?_ ?_ ?_); (· exact rfl); (· exact rfl); (· exact rfl); intro K hK; simp only [Act.put, List.setIfInBounds_toArray, List.set_cons_zero, List.set_cons_succ]; (with_reducible refine hK _ _ ?_); clear hK K)
    | ((with_reducible apply own_loadCg cellIn H); (case hw => exact rfl); (case ho => exact rfl); (case hx => exact rfl); (case hi => first | exact at0 | exact at1 | exact at2 | exact at3 | exact at4 | exact at5 | exact at6 | exact at7 | exact at8 | exact at9); (case hj => exact rfl); intro _ _; go_simp)
    | go_step)
  go_wp2_with (first
    | ((with_reducible refine (awake11_k _ (HT.out.below H.out.bel)).mono ?_); rintro e wc ⟨rfl, hb⟩; replace H := Lib.hid (H.out.call hb); clear hb))
  go_ret
  exact ⟨rfl, H.out.bel⟩
set_option maxRecDepth 8000 in
set_option maxHeartbeats 3200000 in
theorem tabs_kgap {a : Option Addr} {n c x : Nat} {z : Int} {k s i : Int} (w : World) (hT : Tp w) (hs : Sb w w.heap.size a n c x) (ok : okS n z = true) (h1 : 4 < k) (h2 : k ≤ 7) :
    Calls Tryz.prog 5 #[.agg #[.slice a n c, .int .i64 z], .agg #[.int .i64 k, .int .i64 s], .int .i64 i] w fun e w' => e = .returned (.bool true) ∧ Below w.heap.size w w' := by
  have d0 : decide (4 < k) = true := by first | (simp; done) | (simp; omega)
  have d1 : decide (k ≤ 7) = true := by first | (simp; done) | (simp; omega)
  have HS := Lib.hid hs
  have OK := Lib.hid ok
  clear hs ok
  clear h1 h2
  have HT := Lib.hid hT
  clear hT
  have H := Lib.hid (Ow.start w)
  go_enter Tryz.func5, Tryz.ntmps5
  go_upto_region 2 with (first
    | ((fail_if_success have := g3); (with_reducible apply own_boxC H); (case hgd => exact rfl); (case ho => exact rfl); (case hx => exact rfl); intro w3 g3 H' _ _; replace H := H'; clear H'; go_simp)
    | ((fail_if_success have := g4); (with_reducible apply own_boxC H); (case hgd => exact rfl); (case ho => exact rfl); (case hx => exact rfl); intro w4 g4 H' _ _; replace H := H'; clear H'; go_simp)
    | ((with_reducible apply own_loadA rowSpK ?hC H); (case hgd => exact rfl); (case ho => exact rfl); (case hx => exact rfl); (case hi => first | exact at0 | exact at1 | exact at2 | exact at3 | exact at4 | exact at5 | exact at6 | exact at7 | exact at8 | exact at9); (case hC => exact rfl); intro _ _; go_simp)
    | ((fail_if_success have := mk1); (with_reducible refine (made11_any OK.out _ (HT.out.below H.out.bel) ((HS.out.below H.out.bel).more H.out.bel.size)).mono ?_); rintro e wc ⟨v1, r1, P, rfl, hv, hw, hb⟩; replace H := Lib.hid (H.out.call hb); have V1 := Lib.hid hv; have W1 := Lib.hid hw; have mk1 := trivial; clear hb hv hw)
    | ((fail_if_success have := g7); (with_reducible apply own_alloc nilPt H); (case hgd => exact rfl); (case ho => exact rfl); intro w7 g7 H' _ _; replace H := H'; clear H'; go_simp)
    | ((fail_if_success have := g8); (with_reducible apply own_alloc nilQt H); (case hgd => exact rfl); (case ho => exact rfl); intro w8 g8 H' _ _; replace H := H'; clear H'; go_simp)
    | ((with_reducible apply own_store rowPt H); (case hgd => exact rfl); (case ho => exact rfl); (case hx => exact rfl); (case hy => exact rfl); (case hi => first | exact at0 | exact at1 | exact at2 | exact at3 | exact at4 | exact at5 | exact at6 | exact at7 | exact at8 | exact at9); intro ws H' _ _; replace H := H'; clear H'; simp only [List.set_cons_zero, List.set_cons_succ] at H; go_simp)
    | ((with_reducible apply own_store rowQt H); (case hgd => exact rfl); (case ho => exact rfl); (case hx => exact rfl); (case hy => exact rfl); (case hi => first | exact at0 | exact at1 | exact at2 | exact at3 | exact at4 | exact at5 | exact at6 | exact at7 | exact at8 | exact at9); intro ws H' _ _; replace H := H'; clear H'; simp only [List.set_cons_zero] at H; go_simp)
    | ((with_reducible refine cd_undef ?_ ?_ ?_ ?_); (· exact rfl); (· exact rfl); (· exact rfl); intro _ _; go_simp)
    | ((with_reducible refine cd_other ?_ ?_ ?_ ?_); (· exact rfl); (· exact rfl); (· exact rfl); intro _ _; go_simp)
    | ((with_reducible apply own_loadC cellIn H); (case hgd => exact rfl); (case ho => exact rfl); (case hx => exact rfl); (case hi => first | exact at0 | exact at1 | exact at2 | exact at3 | exact at4 | exact at5 | exact at6 | exact at7 | exact at8 | exact at9); (case hj => exact rfl); intro _ _; go_simp)
    | ((with_reducible apply own_loadCg cellIn H); (case hw => exact rfl); (case ho => exact rfl); (case hx => exact rfl); (case hi => first | exact at0 | exact at1 | exact at2 | exact at3 | exact at4 | exact at5 | exact at6 | exact at7 | exact at8 | exact at9); (case hj => exact rfl); intro _ _; go_simp)
    | ((with_reducible apply own_load rowPt H); (case hgd => exact rfl); (case ho => exact rfl); (case hx => exact rfl); (case hi => first | exact at0 | exact at1 | exact at2 | exact at3 | exact at4 | exact at5 | exact at6 | exact at7 | exact at8 | exact at9); intro _ _; go_simp)
    | ((with_reducible refine (awake11_k _ (HT.out.below H.out.bel)).mono ?_); rintro e wc ⟨rfl, hb⟩; replace H := Lib.hid (H.out.call hb); clear hb))
  repeat (first
    | ((with_reducible refine cd_other (want := false) (j := 2) (s := 24) ?_ ?_ ?_ ?_); (· exact rfl); (· exact rfl); (· exact rfl); intro K hK; simp only [Act.put, List.setIfInBounds_toArray, List.set_cons_zero, List.set_cons_succ]; (with_reducible refine hK _ _ ?_); clear hK K)
    | ((with_reducible refine cd_undef (want := true) (j := 6) (s := 28) ?_ ?_ ?_ ?_); (· exact rfl); (· exact rfl); (· exact rfl); intro K hK; simp only [Act.put, List.setIfInBounds_toArray, List.set_cons_zero, List.set_cons_succ]; (with_reducible refine hK _ _ ?_); clear hK K)
    | ((with_reducible refine cd_other (want := false) (j := 12) (s := 34) ?_ ?_ ?_ ?_); (· exact rfl); (· exact rfl); (· exact rfl); intro K hK; simp only [Act.put, List.setIfInBounds_toArray, List.set_cons_zero, List.set_cons_succ]; (with_reducible refine hK _ _ ?_); clear hK K)
    | ((with_reducible refine cd_undef (want := true) (j := 16) (s := 38) ?_ ?_ ?_ ?_); (· exact rfl); (· exact rfl); (· exact rfl); intro K hK; simp only [Act.put, List.setIfInBounds_toArray, List.set_cons_zero, List.set_cons_succ]; (with_reducible refine hK _ _ ?_); clear hK K)
    | ((with_reducible apply own_loadCg cellIn H); (case hw => exact rfl); (case ho => exact rfl); (case hx => exact rfl); (case hi => first | exact at0 | exact at1 | exact at2 | exact at3 | exact at4 | exact at5 | exact at6 | exact at7 | exact at8 | exact at9); (case hj => exact rfl); intro _ _; go_simp)
    | go_step)
  go_wp2_with (first
    | ((with_reducible refine (awake11_k _ (HT.out.below H.out.bel)).mono ?_); rintro e wc ⟨rfl, hb⟩; replace H := Lib.hid (H.out.call hb); clear hb))
  go_ret
  exact ⟨rfl, H.out.bel⟩
set_option maxRecDepth 8000 in
set_option maxHeartbeats 3200000 in
theorem tabs_sgap1 {a : Option Addr} {n c x : Nat} {z : Int} {k s i : Int} (w : World) (hT : Tp w) (hs : Sb w w.heap.size a n c x) (ok : okS n z = true) (h1 : k ≤ 4) (h2 : 8 < s) (h3 : s ≤ 64) :
    Calls Tryz.prog 5 #[.agg #[.slice a n c, .int .i64 z], .agg #[.int .i64 k, .int .i64 s], .int .i64 i] w fun e w' => e = .returned (.bool true) ∧ Below w.heap.size w w' := by
  have d0 : decide (4 < k) = false := by first | (simp; done) | (simp; omega)
  have d1 : decide (8 < s) = true := by first | (simp; done) | (simp; omega)
  have d2 : decide (s ≤ 64) = true := by first | (simp; done) | (simp; omega)
  have HS := Lib.hid hs
  have OK := Lib.hid ok
  clear hs ok
  clear h1 h2 h3
  have HT := Lib.hid hT
  clear hT
  have H := Lib.hid (Ow.start w)
  go_enter Tryz.func5, Tryz.ntmps5
  go_wp2_with (first
    | ((fail_if_success have := g3); (with_reducible apply own_boxC H); (case hgd => exact rfl); (case ho => exact rfl); (case hx => exact rfl); intro w3 g3 H' _ _; replace H := H'; clear H'; go_simp)
    | ((fail_if_success have := g4); (with_reducible apply own_boxC H); (case hgd => exact rfl); (case ho => exact rfl); (case hx => exact rfl); intro w4 g4 H' _ _; replace H := H'; clear H'; go_simp)
    | ((with_reducible apply own_loadA rowSpK ?hC H); (case hgd => exact rfl); (case ho => exact rfl); (case hx => exact rfl); (case hi => first | exact at0 | exact at1 | exact at2 | exact at3 | exact at4 | exact at5 | exact at6 | exact at7 | exact at8 | exact at9); (case hC => exact rfl); intro _ _; go_simp)
    | ((fail_if_success have := mk1); (with_reducible refine (made11_any OK.out _ (HT.out.below H.out.bel) ((HS.out.below H.out.bel).more H.out.bel.size)).mono ?_); rintro e wc ⟨v1, r1, P, rfl, hv, hw, hb⟩; replace H := Lib.hid (H.out.call hb); have V1 := Lib.hid hv; have W1 := Lib.hid hw; have mk1 := trivial; clear hb hv hw)
    | ((fail_if_success have := g7); (with_reducible apply own_alloc nilPt H); (case hgd => exact rfl); (case ho => exact rfl); intro w7 g7 H' _ _; replace H := H'; clear H'; go_simp)
    | ((fail_if_success have := g8); (with_reducible apply own_alloc nilQt H); (case hgd => exact rfl); (case ho => exact rfl); intro w8 g8 H' _ _; replace H := H'; clear H'; go_simp)
    | ((with_reducible apply own_store rowPt H); (case hgd => exact rfl); (case ho => exact rfl); (case hx => exact rfl); (case hy => exact rfl); (case hi => first | exact at0 | exact at1 | exact at2 | exact at3 | exact at4 | exact at5 | exact at6 | exact at7 | exact at8 | exact at9); intro ws H' _ _; replace H := H'; clear H'; simp only [List.set_cons_zero, List.set_cons_succ] at H; go_simp)
    | ((with_reducible apply own_store rowQt H); (case hgd => exact rfl); (case ho => exact rfl); (case hx => exact rfl); (case hy => exact rfl); (case hi => first | exact at0 | exact at1 | exact at2 | exact at3 | exact at4 | exact at5 | exact at6 | exact at7 | exact at8 | exact at9); intro ws H' _ _; replace H := H'; clear H'; simp only [List.set_cons_zero] at H; go_simp)
    | ((with_reducible refine cd_undef ?_ ?_ ?_ ?_); (· exact rfl); (· exact rfl); (· exact rfl); intro _ _; go_simp)
    | ((with_reducible refine cd_other ?_ ?_ ?_ ?_); (· exact rfl); (· exact rfl); (· exact rfl); intro _ _; go_simp)
    | ((with_reducible apply own_loadC cellIn H); (case hgd => exact rfl); (case ho => exact rfl); (case hx => exact rfl); (case hi => first | exact at0 | exact at1 | exact at2 | exact at3 | exact at4 | exact at5 | exact at6 | exact at7 | exact at8 | exact at9); (case hj => exact rfl); intro _ _; go_simp)
    | ((with_reducible apply own_loadCg cellIn H); (case hw => exact rfl); (case ho => exact rfl); (case hx => exact rfl); (case hi => first | exact at0 | exact at1 | exact at2 | exact at3 | exact at4 | exact at5 | exact at6 | exact at7 | exact at8 | exact at9); (case hj => exact rfl); intro _ _; go_simp)
    | ((with_reducible apply own_load rowPt H); (case hgd => exact rfl); (case ho => exact rfl); (case hx => exact rfl); (case hi => first | exact at0 | exact at1 | exact at2 | exact at3 | exact at4 | exact at5 | exact at6 | exact at7 | exact at8 | exact at9); intro _ _; go_simp)
    | ((with_reducible refine (awake11_k _ (HT.out.below H.out.bel)).mono ?_); rintro e wc ⟨rfl, hb⟩; replace H := Lib.hid (H.out.call hb); clear hb))
  go_ret
  exact ⟨rfl, H.out.bel⟩
set_option maxRecDepth 8000 in
set_option maxHeartbeats 3200000 in
theorem tabs_sgap2 {a : Option Addr} {n c x : Nat} {z : Int} {k s i : Int} (w : World) (hT : Tp w) (hs : Sb w w.heap.size a n c x) (ok : okS n z = true) (h1 : 7 < k) (h2 : 8 < s) (h3 : s ≤ 64) :
    Calls Tryz.prog 5 #[.agg #[.slice a n c, .int .i64 z], .agg #[.int .i64 k, .int .i64 s], .int .i64 i] w fun e w' => e = .returned (.bool true) ∧ Below w.heap.size w w' := by
  have d0 : decide (4 < k) = true := by first | (simp; done) | (simp; omega)
  have d1 : decide (k ≤ 7) = false := by first | (simp; done) | (simp; omega)
  have d2 : decide (8 < s) = true := by first | (simp; done) | (simp; omega)
  have d3 : decide (s ≤ 64) = true := by first | (simp; done) | (simp; omega)
  have HS := Lib.hid hs
  have OK := Lib.hid ok
  clear hs ok
  clear h1 h2 h3
  have HT := Lib.hid hT
  clear hT
  have H := Lib.hid (Ow.start w)
  go_enter Tryz.func5, Tryz.ntmps5
  go_wp2_with (first
    | ((fail_if_success have := g3); (with_reducible apply own_boxC H); (case hgd => exact rfl); (case ho => exact rfl); (case hx => exact rfl); intro w3 g3 H' _ _; replace H := H'; clear H'; go_simp)
    | ((fail_if_success have := g4); (with_reducible apply own_boxC H); (case hgd => exact rfl); (case ho => exact rfl); (case hx => exact rfl); intro w4 g4 H' _ _; replace H := H'; clear H'; go_simp)
    | ((with_reducible apply own_loadA rowSpK ?hC H); (case hgd => exact rfl); (case ho => exact rfl); (case hx => exact rfl); (case hi => first | exact at0 | exact at1 | exact at2 | exact at3 | exact at4 | exact at5 | exact at6 | exact at7 | exact at8 | exact at9); (case hC => exact rfl); intro _ _; go_simp)
    | ((fail_if_success have := mk1); (with_reducible refine (made11_any OK.out _ (HT.out.below H.out.bel) ((HS.out.below H.out.bel).more H.out.bel.size)).mono ?_); rintro e wc ⟨v1, r1, P, rfl, hv, hw, hb⟩; replace H := Lib.hid (H.out.call hb); have V1 := Lib.hid hv; have W1 := Lib.hid hw; have mk1 := trivial; clear hb hv hw)
    | ((fail_if_success have := g7); (with_reducible apply own_alloc nilPt H); (case hgd => exact rfl); (case ho => exact rfl); intro w7 g7 H' _ _; replace H := H'; clear H'; go_simp)
    | ((fail_if_success have := g8); (with_reducible apply own_alloc nilQt H); (case hgd => exact rfl); (case ho => exact rfl); intro w8 g8 H' _ _; replace H := H'; clear H'; go_simp)
    | ((with_reducible apply own_store rowPt H); (case hgd => exact rfl); (case ho => exact rfl); (case hx => exact rfl); (case hy => exact rfl); (case hi => first | exact at0 | exact at1 | exact at2 | exact at3 | exact at4 | exact at5 | exact at6 | exact at7 | exact at8 | exact at9); intro ws H' _ _; replace H := H'; clear H'; simp only [List.set_cons_zero, List.set_cons_succ] at H; go_simp)
    | ((with_reducible apply own_store rowQt H); (case hgd => exact rfl); (case ho => exact rfl); (case hx => exact rfl); (case hy => exact rfl); (case hi => first | exact at0 | exact at1 | exact at2 | exact at3 | exact at4 | exact at5 | exact at6 | exact at7 | exact at8 | exact at9); intro ws H' _ _; replace H := H'; clear H'; simp only [List.set_cons_zero] at H; go_simp)
    | ((with_reducible refine cd_undef ?_ ?_ ?_ ?_); (· exact rfl); (· exact rfl); (· exact rfl); intro _ _; go_simp)
    | ((with_reducible refine cd_other ?_ ?_ ?_ ?_); (· exact rfl); (· exact rfl); (· exact rfl); intro _ _; go_simp)
    | ((with_reducible apply own_loadC cellIn H); (case hgd => exact rfl); (case ho => exact rfl); (case hx => exact rfl); (case hi => first | exact at0 | exact at1 | exact at2 | exact at3 | exact at4 | exact at5 | exact at6 | exact at7 | exact at8 | exact at9); (case hj => exact rfl); intro _ _; go_simp)
    | ((with_reducible apply own_loadCg cellIn H); (case hw => exact rfl); (case ho => exact rfl); (case hx => exact rfl); (case hi => first | exact at0 | exact at1 | exact at2 | exact at3 | exact at4 | exact at5 | exact at6 | exact at7 | exact at8 | exact at9); (case hj => exact rfl); intro _ _; go_simp)
    | ((with_reducible apply own_load rowPt H); (case hgd => exact rfl); (case ho => exact rfl); (case hx => exact rfl); (case hi => first | exact at0 | exact at1 | exact at2 | exact at3 | exact at4 | exact at5 | exact at6 | exact at7 | exact at8 | exact at9); intro _ _; go_simp)
    | ((with_reducible refine (awake11_k _ (HT.out.below H.out.bel)).mono ?_); rintro e wc ⟨rfl, hb⟩; replace H := Lib.hid (H.out.call hb); clear hb))
  go_ret
  exact ⟨rfl, H.out.bel⟩
set_option maxRecDepth 8000 in
set_option maxHeartbeats 3200000 in
theorem tabs_ell {a : Option Addr} {n c x : Nat} {z : Int} {k s i : Int} (w : World) (hT : Tp w) (hs : Sb w w.heap.size a n c x) (ok : okS n z = true) (h1 : k < 1) (h2 : s < 1) :
    Calls Tryz.prog 5 #[.agg #[.slice a n c, .int .i64 z], .agg #[.int .i64 k, .int .i64 s], .int .i64 i] w fun e w' => e = .returned (.bool true) ∧ Below w.heap.size w w' := by
  have d0 : decide (4 < k) = false := by first | (simp; done) | (simp; omega)
  have d1 : decide (8 < s) = false := by first | (simp; done) | (simp; omega)
  have d2 : decide (k < 1) = true := by first | (simp; done) | (simp; omega)
  have d3 : decide (s < 1) = true := by first | (simp; done) | (simp; omega)
  have HB := Lib.hid (show k < 1 ∨ 7 < k ∨ s < 1 ∨ 64 < s by omega)
  have HS := Lib.hid hs
  have OK := Lib.hid ok
  clear hs ok
  clear h1 h2
  have HT := Lib.hid hT
  clear hT
  have H := Lib.hid (Ow.start w)
  go_enter Tryz.func5, Tryz.ntmps5
  go_wp2_with (first
    | ((fail_if_success have := g3); (with_reducible apply own_boxC H); (case hgd => exact rfl); (case ho => exact rfl); (case hx => exact rfl); intro w3 g3 H' _ _; replace H := H'; clear H'; go_simp)
    | ((fail_if_success have := g4); (with_reducible apply own_boxC H); (case hgd => exact rfl); (case ho => exact rfl); (case hx => exact rfl); intro w4 g4 H' _ _; replace H := H'; clear H'; go_simp)
    | ((with_reducible apply own_loadA rowSpK ?hC H); (case hgd => exact rfl); (case ho => exact rfl); (case hx => exact rfl); (case hi => first | exact at0 | exact at1 | exact at2 | exact at3 | exact at4 | exact at5 | exact at6 | exact at7 | exact at8 | exact at9); (case hC => exact rfl); intro _ _; go_simp)
    | ((fail_if_success have := mk1); (with_reducible refine (made11_any OK.out _ (HT.out.below H.out.bel) ((HS.out.below H.out.bel).more H.out.bel.size)).mono ?_); rintro e wc ⟨v1, r1, P, rfl, hv, hw, hb⟩; replace H := Lib.hid (H.out.call hb); have V1 := Lib.hid hv; have W1 := Lib.hid hw; have mk1 := trivial; clear hb hv hw)
    | ((fail_if_success have := g7); (with_reducible apply own_alloc nilPt H); (case hgd => exact rfl); (case ho => exact rfl); intro w7 g7 H' _ _; replace H := H'; clear H'; go_simp)
    | ((fail_if_success have := g8); (with_reducible apply own_alloc nilQt H); (case hgd => exact rfl); (case ho => exact rfl); intro w8 g8 H' _ _; replace H := H'; clear H'; go_simp)
    | ((with_reducible apply own_store rowPt H); (case hgd => exact rfl); (case ho => exact rfl); (case hx => exact rfl); (case hy => exact rfl); (case hi => first | exact at0 | exact at1 | exact at2 | exact at3 | exact at4 | exact at5 | exact at6 | exact at7 | exact at8 | exact at9); intro ws H' _ _; replace H := H'; clear H'; simp only [List.set_cons_zero, List.set_cons_succ] at H; go_simp)
    | ((with_reducible apply own_store rowQt H); (case hgd => exact rfl); (case ho => exact rfl); (case hx => exact rfl); (case hy => exact rfl); (case hi => first | exact at0 | exact at1 | exact at2 | exact at3 | exact at4 | exact at5 | exact at6 | exact at7 | exact at8 | exact at9); intro ws H' _ _; replace H := H'; clear H'; simp only [List.set_cons_zero] at H; go_simp)
    | ((with_reducible refine cd_undef ?_ ?_ ?_ ?_); (· exact rfl); (· exact rfl); (· exact rfl); intro _ _; go_simp)
    | ((with_reducible refine cd_other ?_ ?_ ?_ ?_); (· exact rfl); (· exact rfl); (· exact rfl); intro _ _; go_simp)
    | ((with_reducible apply own_loadC cellIn H); (case hgd => exact rfl); (case ho => exact rfl); (case hx => exact rfl); (case hi => first | exact at0 | exact at1 | exact at2 | exact at3 | exact at4 | exact at5 | exact at6 | exact at7 | exact at8 | exact at9); (case hj => exact rfl); intro _ _; go_simp)
    | ((with_reducible apply own_loadCg cellIn H); (case hw => exact rfl); (case ho => exact rfl); (case hx => exact rfl); (case hi => first | exact at0 | exact at1 | exact at2 | exact at3 | exact at4 | exact at5 | exact at6 | exact at7 | exact at8 | exact at9); (case hj => exact rfl); intro _ _; go_simp)
    | ((with_reducible apply own_load rowPt H); (case hgd => exact rfl); (case ho => exact rfl); (case hx => exact rfl); (case hi => first | exact at0 | exact at1 | exact at2 | exact at3 | exact at4 | exact at5 | exact at6 | exact at7 | exact at8 | exact at9); intro _ _; go_simp)
    | ((with_reducible refine (awake11_k _ (HT.out.below H.out.bel)).mono ?_); rintro e wc ⟨rfl, hb⟩; replace H := Lib.hid (H.out.call hb); clear hb)
    | ((fail_if_success have := mk2); (with_reducible refine (cnew_bad _ (HT.out.below H.out.bel) V1.out k s HB.out).mono ?_); rintro e wc ⟨rfl, hb⟩; replace H := Lib.hid (H.out.call hb); have mk2 := trivial; clear hb))
  go_ret
  exact ⟨rfl, H.out.bel⟩
set_option maxRecDepth 8000 in
set_option maxHeartbeats 3200000 in
theorem tabs_elm {a : Option Addr} {n c x : Nat} {z : Int} {k s i : Int} (w : World) (hT : Tp w) (hs : Sb w w.heap.size a n c x) (ok : okS n z = true) (h1 : k < 1) (h3 : 1 ≤ s) (h2 : s ≤ 8) :
    Calls Tryz.prog 5 #[.agg #[.slice a n c, .int .i64 z], .agg #[.int .i64 k, .int .i64 s], .int .i64 i] w fun e w' => e = .returned (.bool true) ∧ Below w.heap.size w w' := by
  have d0 : decide (4 < k) = false := by first | (simp; done) | (simp; omega)
  have d1 : decide (8 < s) = false := by first | (simp; done) | (simp; omega)
  have d2 : decide (k < 1) = true := by first | (simp; done) | (simp; omega)
  have d3 : decide (s < 1) = false := by first | (simp; done) | (simp; omega)
  have d4 : decide (64 < s) = false := by first | (simp; done) | (simp; omega)
  have HB := Lib.hid (show k < 1 ∨ 7 < k ∨ s < 1 ∨ 64 < s by omega)
  have HS := Lib.hid hs
  have OK := Lib.hid ok
  clear hs ok
  clear h1 h3 h2
  have HT := Lib.hid hT
  clear hT
  have H := Lib.hid (Ow.start w)
  go_enter Tryz.func5, Tryz.ntmps5
  go_wp2_with (first
    | ((fail_if_success have := g3); (with_reducible apply own_boxC H); (case hgd => exact rfl); (case ho => exact rfl); (case hx => exact rfl); intro w3 g3 H' _ _; replace H := H'; clear H'; go_simp)
    | ((fail_if_success have := g4); (with_reducible apply own_boxC H); (case hgd => exact rfl); (case ho => exact rfl); (case hx => exact rfl); intro w4 g4 H' _ _; replace H := H'; clear H'; go_simp)
    | ((with_reducible apply own_loadA rowSpK ?hC H); (case hgd => exact rfl); (case ho => exact rfl); (case hx => exact rfl); (case hi => first | exact at0 | exact at1 | exact at2 | exact at3 | exact at4 | exact at5 | exact at6 | exact at7 | exact at8 | exact at9); (case hC => exact rfl); intro _ _; go_simp)
    | ((fail_if_success have := mk1); (with_reducible refine (made11_any OK.out _ (HT.out.below H.out.bel) ((HS.out.below H.out.bel).more H.out.bel.size)).mono ?_); rintro e wc ⟨v1, r1, P, rfl, hv, hw, hb⟩; replace H := Lib.hid (H.out.call hb); have V1 := Lib.hid hv; have W1 := Lib.hid hw; have mk1 := trivial; clear hb hv hw)
    | ((fail_if_success have := g7); (with_reducible apply own_alloc nilPt H); (case hgd => exact rfl); (case ho => exact rfl); intro w7 g7 H' _ _; replace H := H'; clear H'; go_simp)
    | ((fail_if_success have := g8); (with_reducible apply own_alloc nilQt H); (case hgd => exact rfl); (case ho => exact rfl); intro w8 g8 H' _ _; replace H := H'; clear H'; go_simp)
    | ((with_reducible apply own_store rowPt H); (case hgd => exact rfl); (case ho => exact rfl); (case hx => exact rfl); (case hy => exact rfl); (case hi => first | exact at0 | exact at1 | exact at2 | exact at3 | exact at4 | exact at5 | exact at6 | exact at7 | exact at8 | exact at9); intro ws H' _ _; replace H := H'; clear H'; simp only [List.set_cons_zero, List.set_cons_succ] at H; go_simp)
    | ((with_reducible apply own_store rowQt H); (case hgd => exact rfl); (case ho => exact rfl); (case hx => exact rfl); (case hy => exact rfl); (case hi => first | exact at0 | exact at1 | exact at2 | exact at3 | exact at4 | exact at5 | exact at6 | exact at7 | exact at8 | exact at9); intro ws H' _ _; replace H := H'; clear H'; simp only [List.set_cons_zero] at H; go_simp)
    | ((with_reducible refine cd_undef ?_ ?_ ?_ ?_); (· exact rfl); (· exact rfl); (· exact rfl); intro _ _; go_simp)
    | ((with_reducible refine cd_other ?_ ?_ ?_ ?_); (· exact rfl); (· exact rfl); (· exact rfl); intro _ _; go_simp)
    | ((with_reducible apply own_loadC cellIn H); (case hgd => exact rfl); (case ho => exact rfl); (case hx => exact rfl); (case hi => first | exact at0 | exact at1 | exact at2 | exact at3 | exact at4 | exact at5 | exact at6 | exact at7 | exact at8 | exact at9); (case hj => exact rfl); intro _ _; go_simp)
    | ((with_reducible apply own_loadCg cellIn H); (case hw => exact rfl); (case ho => exact rfl); (case hx => exact rfl); (case hi => first | exact at0 | exact at1 | exact at2 | exact at3 | exact at4 | exact at5 | exact at6 | exact at7 | exact at8 | exact at9); (case hj => exact rfl); intro _ _; go_simp)
    | ((with_reducible apply own_load rowPt H); (case hgd => exact rfl); (case ho => exact rfl); (case hx => exact rfl); (case hi => first | exact at0 | exact at1 | exact at2 | exact at3 | exact at4 | exact at5 | exact at6 | exact at7 | exact at8 | exact at9); intro _ _; go_simp)
    | ((with_reducible refine (awake11_k _ (HT.out.below H.out.bel)).mono ?_); rintro e wc ⟨rfl, hb⟩; replace H := Lib.hid (H.out.call hb); clear hb)
    | ((fail_if_success have := mk2); (with_reducible refine (cnew_bad _ (HT.out.below H.out.bel) V1.out k s HB.out).mono ?_); rintro e wc ⟨rfl, hb⟩; replace H := Lib.hid (H.out.call hb); have mk2 := trivial; clear hb))
  go_ret
  exact ⟨rfl, H.out.bel⟩
set_option maxRecDepth 8000 in
set_option maxHeartbeats 3200000 in
theorem tabs_elb {a : Option Addr} {n c x : Nat} {z : Int} {k s i : Int} (w : World) (hT : Tp w) (hs : Sb w w.heap.size a n c x) (ok : okS n z = true) (h1 : k < 1) (h2 : 64 < s) :
    Calls Tryz.prog 5 #[.agg #[.slice a n c, .int .i64 z], .agg #[.int .i64 k, .int .i64 s], .int .i64 i] w fun e w' => e = .returned (.bool true) ∧ Below w.heap.size w w' := by
  have d0 : decide (4 < k) = false := by first | (simp; done) | (simp; omega)
  have d1 : decide (8 < s) = true := by first | (simp; done) | (simp; omega)
  have d2 : decide (s ≤ 64) = false := by first | (simp; done) | (simp; omega)
  have d3 : decide (k < 1) = true := by first | (simp; done) | (simp; omega)
  have d4 : decide (s < 1) = false := by first | (simp; done) | (simp; omega)
  have d5 : decide (64 < s) = true := by first | (simp; done) | (simp; omega)
  have HB := Lib.hid (show k < 1 ∨ 7 < k ∨ s < 1 ∨ 64 < s by omega)
  have HS := Lib.hid hs
  have OK := Lib.hid ok
  clear hs ok
  clear h1 h2
  have HT := Lib.hid hT
  clear hT
  have H := Lib.hid (Ow.start w)
  go_enter Tryz.func5, Tryz.ntmps5
  go_wp2_with (first
    | ((fail_if_success have := g3); (with_reducible apply own_boxC H); (case hgd => exact rfl); (case ho => exact rfl); (case hx => exact rfl); intro w3 g3 H' _ _; replace H := H'; clear H'; go_simp)
    | ((fail_if_success have := g4); (with_reducible apply own_boxC H); (case hgd => exact rfl); (case ho => exact rfl); (case hx => exact rfl); intro w4 g4 H' _ _; replace H := H'; clear H'; go_simp)
    | ((with_reducible apply own_loadA rowSpK ?hC H); (case hgd => exact rfl); (case ho => exact rfl); (case hx => exact rfl); (case hi => first | exact at0 | exact at1 | exact at2 | exact at3 | exact at4 | exact at5 | exact at6 | exact at7 | exact at8 | exact at9); (case hC => exact rfl); intro _ _; go_simp)
    | ((fail_if_success have := mk1); (with_reducible refine (made11_any OK.out _ (HT.out.below H.out.bel) ((HS.out.below H.out.bel).more H.out.bel.size)).mono ?_); rintro e wc ⟨v1, r1, P, rfl, hv, hw, hb⟩; replace H := Lib.hid (H.out.call hb); have V1 := Lib.hid hv; have W1 := Lib.hid hw; have mk1 := trivial; clear hb hv hw)
    | ((fail_if_success have := g7); (with_reducible apply own_alloc nilPt H); (case hgd => exact rfl); (case ho => exact rfl); intro w7 g7 H' _ _; replace H := H'; clear H'; go_simp)
    | ((fail_if_success have := g8); (with_reducible apply own_alloc nilQt H); (case hgd => exact rfl); (case ho => exact rfl); intro w8 g8 H' _ _; replace H := H'; clear H'; go_simp)
    | ((with_reducible apply own_store rowPt H); (case hgd => exact rfl); (case ho => exact rfl); (case hx => exact rfl); (case hy => exact rfl); (case hi => first | exact at0 | exact at1 | exact at2 | exact at3 | exact at4 | exact at5 | exact at6 | exact at7 | exact at8 | exact at9); intro ws H' _ _; replace H := H'; clear H'; simp only [List.set_cons_zero, List.set_cons_succ] at H; go_simp)
    | ((with_reducible apply own_store rowQt H); (case hgd => exact rfl); (case ho => exact rfl); (case hx => exact rfl); (case hy => exact rfl); (case hi => first | exact at0 | exact at1 | exact at2 | exact at3 | exact at4 | exact at5 | exact at6 | exact at7 | exact at8 | exact at9); intro ws H' _ _; replace H := H'; clear H'; simp only [List.set_cons_zero] at H; go_simp)
    | ((with_reducible refine cd_undef ?_ ?_ ?_ ?_); (· exact rfl); (· exact rfl); (· exact rfl); intro _ _; go_simp)
    | ((with_reducible refine cd_other ?_ ?_ ?_ ?_); (· exact rfl); (· exact rfl); (· exact rfl); intro _ _; go_simp)
    | ((with_reducible apply own_loadC cellIn H); (case hgd => exact rfl); (case ho => exact rfl); (case hx => exact rfl); (case hi => first | exact at0 | exact at1 | exact at2 | exact at3 | exact at4 | exact at5 | exact at6 | exact at7 | exact at8 | exact at9); (case hj => exact rfl); intro _ _; go_simp)
    | ((with_reducible apply own_loadCg cellIn H); (case hw => exact rfl); (case ho => exact rfl); (case hx => exact rfl); (case hi => first | exact at0 | exact at1 | exact at2 | exact at3 | exact at4 | exact at5 | exact at6 | exact at7 | exact at8 | exact at9); (case hj => exact rfl); intro _ _; go_simp)
    | ((with_reducible apply own_load rowPt H); (case hgd => exact rfl); (case ho => exact rfl); (case hx => exact rfl); (case hi => first | exact at0 | exact at1 | exact at2 | exact at3 | exact at4 | exact at5 | exact at6 | exact at7 | exact at8 | exact at9); intro _ _; go_simp)
    | ((with_reducible refine (awake11_k _ (HT.out.below H.out.bel)).mono ?_); rintro e wc ⟨rfl, hb⟩; replace H := Lib.hid (H.out.call hb); clear hb)
    | ((fail_if_success have := mk2); (with_reducible refine (cnew_bad _ (HT.out.below H.out.bel) V1.out k s HB.out).mono ?_); rintro e wc ⟨rfl, hb⟩; replace H := Lib.hid (H.out.call hb); have mk2 := trivial; clear hb))
  go_ret
  exact ⟨rfl, H.out.bel⟩
set_option maxRecDepth 8000 in
set_option maxHeartbeats 3200000 in
theorem tabs_eml {a : Option Addr} {n c x : Nat} {z : Int} {k s i : Int} (w : World) (hT : Tp w) (hs : Sb w w.heap.size a n c x) (ok : okS n z = true) (h0 : 1 ≤ k) (h1 : k ≤ 4) (h2 : s < 1) :
    Calls Tryz.prog 5 #[.agg #[.slice a n c, .int .i64 z], .agg #[.int .i64 k, .int .i64 s], .int .i64 i] w fun e w' => e = .returned (.bool true) ∧ Below w.heap.size w w' := by
  have d0 : decide (4 < k) = false := by first | (simp; done) | (simp; omega)
  have d1 : decide (8 < s) = false := by first | (simp; done) | (simp; omega)
  have d2 : decide (k < 1) = false := by first | (simp; done) | (simp; omega)
  have d3 : decide (7 < k) = false := by first | (simp; done) | (simp; omega)
  have d4 : decide (s < 1) = true := by first | (simp; done) | (simp; omega)
  have HB := Lib.hid (show k < 1 ∨ 7 < k ∨ s < 1 ∨ 64 < s by omega)
  have HS := Lib.hid hs
  have OK := Lib.hid ok
  clear hs ok
  clear h0 h1 h2
  have HT := Lib.hid hT
  clear hT
  have H := Lib.hid (Ow.start w)
  go_enter Tryz.func5, Tryz.ntmps5
  go_wp2_with (first
    | ((fail_if_success have := g3); (with_reducible apply own_boxC H); (case hgd => exact rfl); (case ho => exact rfl); (case hx => exact rfl); intro w3 g3 H' _ _; replace H := H'; clear H'; go_simp)
    | ((fail_if_success have := g4); (with_reducible apply own_boxC H); (case hgd => exact rfl); (case ho => exact rfl); (case hx => exact rfl); intro w4 g4 H' _ _; replace H := H'; clear H'; go_simp)
    | ((with_reducible apply own_loadA rowSpK ?hC H); (case hgd => exact rfl); (case ho => exact rfl); (case hx => exact rfl); (case hi => first | exact at0 | exact at1 | exact at2 | exact at3 | exact at4 | exact at5 | exact at6 | exact at7 | exact at8 | exact at9); (case hC => exact rfl); intro _ _; go_simp)
    | ((fail_if_success have := mk1); (with_reducible refine (made11_any OK.out _ (HT.out.below H.out.bel) ((HS.out.below H.out.bel).more H.out.bel.size)).mono ?_); rintro e wc ⟨v1, r1, P, rfl, hv, hw, hb⟩; replace H := Lib.hid (H.out.call hb); have V1 := Lib.hid hv; have W1 := Lib.hid hw; have mk1 := trivial; clear hb hv hw)
    | ((fail_if_success have := g7); (with_reducible apply own_alloc nilPt H); (case hgd => exact rfl); (case ho => exact rfl); intro w7 g7 H' _ _; replace H := H'; clear H'; go_simp)
    | ((fail_if_success have := g8); (with_reducible apply own_alloc nilQt H); (case hgd => exact rfl); (case ho => exact rfl); intro w8 g8 H' _ _; replace H := H'; clear H'; go_simp)
    | ((with_reducible apply own_store rowPt H); (case hgd => exact rfl); (case ho => exact rfl); (case hx => exact rfl); (case hy => exact rfl); (case hi => first | exact at0 | exact at1 | exact at2 | exact at3 | exact at4 | exact at5 | exact at6 | exact at7 | exact at8 | exact at9); intro ws H' _ _; replace H := H'; clear H'; simp only [List.set_cons_zero, List.set_cons_succ] at H; go_simp)
    | ((with_reducible apply own_store rowQt H); (case hgd => exact rfl); (case ho => exact rfl); (case hx => exact rfl); (case hy => exact rfl); (case hi => first | exact at0 | exact at1 | exact at2 | exact at3 | exact at4 | exact at5 | exact at6 | exact at7 | exact at8 | exact at9); intro ws H' _ _; replace H := H'; clear H'; simp only [List.set_cons_zero] at H; go_simp)
    | ((with_reducible refine cd_undef ?_ ?_ ?_ ?_); (· exact rfl); (· exact rfl); (· exact rfl); intro _ _; go_simp)
    | ((with_reducible refine cd_other ?_ ?_ ?_ ?_); (· exact rfl); (· exact rfl); (· exact rfl); intro _ _; go_simp)
    | ((with_reducible apply own_loadC cellIn H); (case hgd => exact rfl); (case ho => exact rfl); (case hx => exact rfl); (case hi => first | exact at0 | exact at1 | exact at2 | exact at3 | exact at4 | exact at5 | exact at6 | exact at7 | exact at8 | exact at9); (case hj => exact rfl); intro _ _; go_simp)
    | ((with_reducible apply own_loadCg cellIn H); (case hw => exact rfl); (case ho => exact rfl); (case hx => exact rfl); (case hi => first | exact at0 | exact at1 | exact at2 | exact at3 | exact at4 | exact at5 | exact at6 | exact at7 | exact at8 | exact at9); (case hj => exact rfl); intro _ _; go_simp)
    | ((with_reducible apply own_load rowPt H); (case hgd => exact rfl); (case ho => exact rfl); (case hx => exact rfl); (case hi => first | exact at0 | exact at1 | exact at2 | exact at3 | exact at4 | exact at5 | exact at6 | exact at7 | exact at8 | exact at9); intro _ _; go_simp)
    | ((with_reducible refine (awake11_k _ (HT.out.below H.out.bel)).mono ?_); rintro e wc ⟨rfl, hb⟩; replace H := Lib.hid (H.out.call hb); clear hb)
    | ((fail_if_success have := mk2); (with_reducible refine (cnew_bad _ (HT.out.below H.out.bel) V1.out k s HB.out).mono ?_); rintro e wc ⟨rfl, hb⟩; replace H := Lib.hid (H.out.call hb); have mk2 := trivial; clear hb))
  go_ret
  exact ⟨rfl, H.out.bel⟩
set_option maxRecDepth 8000 in
set_option maxHeartbeats 3200000 in
theorem tabs_emb {a : Option Addr} {n c x : Nat} {z : Int} {k s i : Int} (w : World) (hT : Tp w) (hs : Sb w w.heap.size a n c x) (ok : okS n z = true) (h0 : 1 ≤ k) (h1 : k ≤ 4) (h2 : 64 < s) :
    Calls Tryz.prog 5 #[.agg #[.slice a n c, .int .i64 z], .agg #[.int .i64 k, .int .i64 s], .int .i64 i] w fun e w' => e = .returned (.bool true) ∧ Below w.heap.size w w' := by
  have d0 : decide (4 < k) = false := by first | (simp; done) | (simp; omega)
  have d1 : decide (8 < s) = true := by first | (simp; done) | (simp; omega)
  have d2 : decide (s ≤ 64) = false := by first | (simp; done) | (simp; omega)
  have d3 : decide (k < 1) = false := by first | (simp; done) | (simp; omega)
  have d4 : decide (7 < k) = false := by first | (simp; done) | (simp; omega)
  have d5 : decide (s < 1) = false := by first | (simp; done) | (simp; omega)
  have d6 : decide (64 < s) = true := by first | (simp; done) | (simp; omega)
  have HB := Lib.hid (show k < 1 ∨ 7 < k ∨ s < 1 ∨ 64 < s by omega)
  have HS := Lib.hid hs
  have OK := Lib.hid ok
  clear hs ok
  clear h0 h1 h2
  have HT := Lib.hid hT
  clear hT
  have H := Lib.hid (Ow.start w)
  go_enter Tryz.func5, Tryz.ntmps5
  go_wp2_with (first
    | ((fail_if_success have := g3); (with_reducible apply own_boxC H); (case hgd => exact rfl); (case ho => exact rfl); (case hx => exact rfl); intro w3 g3 H' _ _; replace H := H'; clear H'; go_simp)
    | ((fail_if_success have := g4); (with_reducible apply own_boxC H); (case hgd => exact rfl); (case ho => exact rfl); (case hx => exact rfl); intro w4 g4 H' _ _; replace H := H'; clear H'; go_simp)
    | ((with_reducible apply own_loadA rowSpK ?hC H); (case hgd => exact rfl); (case ho => exact rfl); (case hx => exact rfl); (case hi => first | exact at0 | exact at1 | exact at2 | exact at3 | exact at4 | exact at5 | exact at6 | exact at7 | exact at8 | exact at9); (case hC => exact rfl); intro _ _; go_simp)
    | ((fail_if_success have := mk1); (with_reducible refine (made11_any OK.out _ (HT.out.below H.out.bel) ((HS.out.below H.out.bel).more H.out.bel.size)).mono ?_); rintro e wc ⟨v1, r1, P, rfl, hv, hw, hb⟩; replace H := Lib.hid (H.out.call hb); have V1 := Lib.hid hv; have W1 := Lib.hid hw; have mk1 := trivial; clear hb hv hw)
    | ((fail_if_success have := g7); (with_reducible apply own_alloc nilPt H); (case hgd => exact rfl); (case ho => exact rfl); intro w7 g7 H' _ _; replace H := H'; clear H'; go_simp)
    | ((fail_if_success have := g8); (with_reducible apply own_alloc nilQt H); (case hgd => exact rfl); (case ho => exact rfl); intro w8 g8 H' _ _; replace H := H'; clear H'; go_simp)
    | ((with_reducible apply own_store rowPt H); (case hgd => exact rfl); (case ho => exact rfl); (case hx => exact rfl); (case hy => exact rfl); (case hi => first | exact at0 | exact at1 | exact at2 | exact at3 | exact at4 | exact at5 | exact at6 | exact at7 | exact at8 | exact at9); intro ws H' _ _; replace H := H'; clear H'; simp only [List.set_cons_zero, List.set_cons_succ] at H; go_simp)
    | ((with_reducible apply own_store rowQt H); (case hgd => exact rfl); (case ho => exact rfl); (case hx => exact rfl); (case hy => exact rfl); (case hi => first | exact at0 | exact at1 | exact at2 | exact at3 | exact at4 | exact at5 | exact at6 | exact at7 | exact at8 | exact at9); intro ws H' _ _; replace H := H'; clear H'; simp only [List.set_cons_zero] at H; go_simp)
    | ((with_reducible refine cd_undef ?_ ?_ ?_ ?_); (· exact rfl); (· exact rfl); (· exact rfl); intro _ _; go_simp)
    | ((with_reducible refine cd_other ?_ ?_ ?_ ?_); (· exact rfl); (· exact rfl); (· exact rfl); intro _ _; go_simp)
    | ((with_reducible apply own_loadC cellIn H); (case hgd => exact rfl); (case ho => exact rfl); (case hx => exact rfl); (case hi => first | exact at0 | exact at1 | exact at2 | exact at3 | exact at4 | exact at5 | exact at6 | exact at7 | exact at8 | exact at9); (case hj => exact rfl); intro _ _; go_simp)
    | ((with_reducible apply own_loadCg cellIn H); (case hw => exact rfl); (case ho => exact rfl); (case hx => exact rfl); (case hi => first | exact at0 | exact at1 | exact at2 | exact at3 | exact at4 | exact at5 | exact at6 | exact at7 | exact at8 | exact at9); (case hj => exact rfl); intro _ _; go_simp)
    | ((with_reducible apply own_load rowPt H); (case hgd => exact rfl); (case ho => exact rfl); (case hx => exact rfl); (case hi => first | exact at0 | exact at1 | exact at2 | exact at3 | exact at4 | exact at5 | exact at6 | exact at7 | exact at8 | exact at9); intro _ _; go_simp)
    | ((with_reducible refine (awake11_k _ (HT.out.below H.out.bel)).mono ?_); rintro e wc ⟨rfl, hb⟩; replace H := Lib.hid (H.out.call hb); clear hb)
    | ((fail_if_success have := mk2); (with_reducible refine (cnew_bad _ (HT.out.below H.out.bel) V1.out k s HB.out).mono ?_); rintro e wc ⟨rfl, hb⟩; replace H := Lib.hid (H.out.call hb); have mk2 := trivial; clear hb))
  go_ret
  exact ⟨rfl, H.out.bel⟩
set_option maxRecDepth 8000 in
set_option maxHeartbeats 3200000 in
theorem tabs_ebl {a : Option Addr} {n c x : Nat} {z : Int} {k s i : Int} (w : World) (hT : Tp w) (hs : Sb w w.heap.size a n c x) (ok : okS n z = true) (h1 : 7 < k) (h2 : s < 1) :
    Calls Tryz.prog 5 #[.agg #[.slice a n c, .int .i64 z], .agg #[.int .i64 k, .int .i64 s], .int .i64 i] w fun e w' => e = .returned (.bool true) ∧ Below w.heap.size w w' := by
  have d0 : decide (4 < k) = true := by first | (simp; done) | (simp; omega)
  have d1 : decide (k ≤ 7) = false := by first | (simp; done) | (simp; omega)
  have d2 : decide (8 < s) = false := by first | (simp; done) | (simp; omega)
  have d3 : decide (k < 1) = false := by first | (simp; done) | (simp; omega)
  have d4 : decide (7 < k) = true := by first | (simp; done) | (simp; omega)
  have d5 : decide (s < 1) = true := by first | (simp; done) | (simp; omega)
  have HB := Lib.hid (show k < 1 ∨ 7 < k ∨ s < 1 ∨ 64 < s by omega)
  have HS := Lib.hid hs
  have OK := Lib.hid ok
  clear hs ok
  clear h1 h2
  have HT := Lib.hid hT
  clear hT
  have H := Lib.hid (Ow.start w)
  go_enter Tryz.func5, Tryz.ntmps5
  go_wp2_with (first
    | ((fail_if_success have := g3); (with_reducible apply own_boxC H); (case hgd => exact rfl); (case ho => exact rfl); (case hx => exact rfl); intro w3 g3 H' _ _; replace H := H'; clear H'; go_simp)
    | ((fail_if_success have := g4); (with_reducible apply own_boxC H); (case hgd => exact rfl); (case ho => exact rfl); (case hx => exact rfl); intro w4 g4 H' _ _; replace H := H'; clear H'; go_simp)
    | ((with_reducible apply own_loadA rowSpK ?hC H); (case hgd => exact rfl); (case ho => exact rfl); (case hx => exact rfl); (case hi => first | exact at0 | exact at1 | exact at2 | exact at3 | exact at4 | exact at5 | exact at6 | exact at7 | exact at8 | exact at9); (case hC => exact rfl); intro _ _; go_simp)
    | ((fail_if_success have := mk1); (with_reducible refine (made11_any OK.out _ (HT.out.below H.out.bel) ((HS.out.below H.out.bel).more H.out.bel.size)).mono ?_); rintro e wc ⟨v1, r1, P, rfl, hv, hw, hb⟩; replace H := Lib.hid (H.out.call hb); have V1 := Lib.hid hv; have W1 := Lib.hid hw; have mk1 := trivial; clear hb hv hw)
    | ((fail_if_success have := g7); (with_reducible apply own_alloc nilPt H); (case hgd => exact rfl); (case ho => exact rfl); intro w7 g7 H' _ _; replace H := H'; clear H'; go_simp)
    | ((fail_if_success have := g8); (with_reducible apply own_alloc nilQt H); (case hgd => exact rfl); (case ho => exact rfl); intro w8 g8 H' _ _; replace H := H'; clear H'; go_simp)
    | ((with_reducible apply own_store rowPt H); (case hgd => exact rfl); (case ho => exact rfl); (case hx => exact rfl); (case hy => exact rfl); (case hi => first | exact at0 | exact at1 | exact at2 | exact at3 | exact at4 | exact at5 | exact at6 | exact at7 | exact at8 | exact at9); intro ws H' _ _; replace H := H'; clear H'; simp only [List.set_cons_zero, List.set_cons_succ] at H; go_simp)
    | ((with_reducible apply own_store rowQt H); (case hgd => exact rfl); (case ho => exact rfl); (case hx => exact rfl); (case hy => exact rfl); (case hi => first | exact at0 | exact at1 | exact at2 | exact at3 | exact at4 | exact at5 | exact at6 | exact at7 | exact at8 | exact at9); intro ws H' _ _; replace H := H'; clear H'; simp only [List.set_cons_zero] at H; go_simp)
    | ((with_reducible refine cd_undef ?_ ?_ ?_ ?_); (· exact rfl); (· exact rfl); (· exact rfl); intro _ _; go_simp)
    | ((with_reducible refine cd_other ?_ ?_ ?_ ?_); (· exact rfl); (· exact rfl); (· exact rfl); intro _ _; go_simp)
    | ((with_reducible apply own_loadC cellIn H); (case hgd => exact rfl); (case ho => exact rfl); (case hx => exact rfl); (case hi => first | exact at0 | exact at1 | exact at2 | exact at3 | exact at4 | exact at5 | exact at6 | exact at7 | exact at8 | exact at9); (case hj => exact rfl); intro _ _; go_simp)
    | ((with_reducible apply own_loadCg cellIn H); (case hw => exact rfl); (case ho => exact rfl); (case hx => exact rfl); (case hi => first | exact at0 | exact at1 | exact at2 | exact at3 | exact at4 | exact at5 | exact at6 | exact at7 | exact at8 | exact at9); (case hj => exact rfl); intro _ _; go_simp)
    | ((with_reducible apply own_load rowPt H); (case hgd => exact rfl); (case ho => exact rfl); (case hx => exact rfl); (case hi => first | exact at0 | exact at1 | exact at2 | exact at3 | exact at4 | exact at5 | exact at6 | exact at7 | exact at8 | exact at9); intro _ _; go_simp)
    | ((with_reducible refine (awake11_k _ (HT.out.below H.out.bel)).mono ?_); rintro e wc ⟨rfl, hb⟩; replace H := Lib.hid (H.out.call hb); clear hb)
    | ((fail_if_success have := mk2); (with_reducible refine (cnew_bad _ (HT.out.below H.out.bel) V1.out k s HB.out).mono ?_); rintro e wc ⟨rfl, hb⟩; replace H := Lib.hid (H.out.call hb); have mk2 := trivial; clear hb))
  go_ret
  exact ⟨rfl, H.out.bel⟩
set_option maxRecDepth 8000 in
set_option maxHeartbeats 3200000 in
theorem tabs_ebm {a : Option Addr} {n c x : Nat} {z : Int} {k s i : Int} (w : World) (hT : Tp w) (hs : Sb w w.heap.size a n c x) (ok : okS n z = true) (h1 : 7 < k) (h3 : 1 ≤ s) (h2 : s ≤ 8) :
    Calls Tryz.prog 5 #[.agg #[.slice a n c, .int .i64 z], .agg #[.int .i64 k, .int .i64 s], .int .i64 i] w fun e w' => e = .returned (.bool true) ∧ Below w.heap.size w w' := by
  have d0 : decide (4 < k) = true := by first | (simp; done) | (simp; omega)
  have d1 : decide (k ≤ 7) = false := by first | (simp; done) | (simp; omega)
  have d2 : decide (8 < s) = false := by first | (simp; done) | (simp; omega)
  have d3 : decide (k < 1) = false := by first | (simp; done) | (simp; omega)
  have d4 : decide (7 < k) = true := by first | (simp; done) | (simp; omega)
  have d5 : decide (s < 1) = false := by first | (simp; done) | (simp; omega)
  have d6 : decide (64 < s) = false := by first | (simp; done) | (simp; omega)
  have HB := Lib.hid (show k < 1 ∨ 7 < k ∨ s < 1 ∨ 64 < s by omega)
  have HS := Lib.hid hs
  have OK := Lib.hid ok
  clear hs ok
  clear h1 h3 h2
  have HT := Lib.hid hT
  clear hT
  have H := Lib.hid (Ow.start w)
  go_enter Tryz.func5, Tryz.ntmps5
  go_wp2_with (first
    | ((fail_if_success have := g3); (with_reducible apply own_boxC H); (case hgd => exact rfl); (case ho => exact rfl); (case hx => exact rfl); intro w3 g3 H' _ _; replace H := H'; clear H'; go_simp)
    | ((fail_if_success have := g4); (with_reducible apply own_boxC H); (case hgd => exact rfl); (case ho => exact rfl); (case hx => exact rfl); intro w4 g4 H' _ _; replace H := H'; clear H'; go_simp)
    | ((with_reducible apply own_loadA rowSpK ?hC H); (case hgd => exact rfl); (case ho => exact rfl); (case hx => exact rfl); (case hi => first | exact at0 | exact at1 | exact at2 | exact at3 | exact at4 | exact at5 | exact at6 | exact at7 | exact at8 | exact at9); (case hC => exact rfl); intro _ _; go_simp)
    | ((fail_if_success have := mk1); (with_reducible refine (made11_any OK.out _ (HT.out.below H.out.bel) ((HS.out.below H.out.bel).more H.out.bel.size)).mono ?_); rintro e wc ⟨v1, r1, P, rfl, hv, hw, hb⟩; replace H := Lib.hid (H.out.call hb); have V1 := Lib.hid hv; have W1 := Lib.hid hw; have mk1 := trivial; clear hb hv hw)
    | ((fail_if_success have := g7); (with_reducible apply own_alloc nilPt H); (case hgd => exact rfl); (case ho => exact rfl); intro w7 g7 H' _ _; replace H := H'; clear H'; go_simp)
    | ((fail_if_success have := g8); (with_reducible apply own_alloc nilQt H); (case hgd => exact rfl); (case ho => exact rfl); intro w8 g8 H' _ _; replace H := H'; clear H'; go_simp)
    | ((with_reducible apply own_store rowPt H); (case hgd => exact rfl); (case ho => exact rfl); (case hx => exact rfl); (case hy => exact rfl); (case hi => first | exact at0 | exact at1 | exact at2 | exact at3 | exact at4 | exact at5 | exact at6 | exact at7 | exact at8 | exact at9); intro ws H' _ _; replace H := H'; clear H'; simp only [List.set_cons_zero, List.set_cons_succ] at H; go_simp)
    | ((with_reducible apply own_store rowQt H); (case hgd => exact rfl); (case ho => exact rfl); (case hx => exact rfl); (case hy => exact rfl); (case hi => first | exact at0 | exact at1 | exact at2 | exact at3 | exact at4 | exact at5 | exact at6 | exact at7 | exact at8 | exact at9); intro ws H' _ _; replace H := H'; clear H'; simp only [List.set_cons_zero] at H; go_simp)
    | ((with_reducible refine cd_undef ?_ ?_ ?_ ?_); (· exact rfl); (· exact rfl); (· exact rfl); intro _ _; go_simp)
    | ((with_reducible refine cd_other ?_ ?_ ?_ ?_); (· exact rfl); (· exact rfl); (· exact rfl); intro _ _; go_simp)
    | ((with_reducible apply own_loadC cellIn H); (case hgd => exact rfl); (case ho => exact rfl); (case hx => exact rfl); (case hi => first | exact at0 | exact at1 | exact at2 | exact at3 | exact at4 | exact at5 | exact at6 | exact at7 | exact at8 | exact at9); (case hj => exact rfl); intro _ _; go_simp)
    | ((with_reducible apply own_loadCg cellIn H); (case hw => exact rfl); (case ho => exact rfl); (case hx => exact rfl); (case hi => first | exact at0 | exact at1 | exact at2 | exact at3 | exact at4 | exact at5 | exact at6 | exact at7 | exact at8 | exact at9); (case hj => exact rfl); intro _ _; go_simp)
    | ((with_reducible apply own_load rowPt H); (case hgd => exact rfl); (case ho => exact rfl); (case hx => exact rfl); (case hi => first | exact at0 | exact at1 | exact at2 | exact at3 | exact at4 | exact at5 | exact at6 | exact at7 | exact at8 | exact at9); intro _ _; go_simp)
    | ((with_reducible refine (awake11_k _ (HT.out.below H.out.bel)).mono ?_); rintro e wc ⟨rfl, hb⟩; replace H := Lib.hid (H.out.call hb); clear hb)
    | ((fail_if_success have := mk2); (with_reducible refine (cnew_bad _ (HT.out.below H.out.bel) V1.out k s HB.out).mono ?_); rintro e wc ⟨rfl, hb⟩; replace H := Lib.hid (H.out.call hb); have mk2 := trivial; clear hb))
  go_ret
  exact ⟨rfl, H.out.bel⟩
set_option maxRecDepth 8000 in
set_option maxHeartbeats 3200000 in
theorem tabs_ebb {a : Option Addr} {n c x : Nat} {z : Int} {k s i : Int} (w : World) (hT : Tp w) (hs : Sb w w.heap.size a n c x) (ok : okS n z = true) (h1 : 7 < k) (h2 : 64 < s) :
    Calls Tryz.prog 5 #[.agg #[.slice a n c, .int .i64 z], .agg #[.int .i64 k, .int .i64 s], .int .i64 i] w fun e w' => e = .returned (.bool true) ∧ Below w.heap.size w w' := by
  have d0 : decide (4 < k) = true := by first | (simp; done) | (simp; omega)
  have d1 : decide (k ≤ 7) = false := by first | (simp; done) | (simp; omega)
  have d2 : decide (8 < s) = true := by first | (simp; done) | (simp; omega)
  have d3 : decide (s ≤ 64) = false := by first | (simp; done) | (simp; omega)
  have d4 : decide (k < 1) = false := by first | (simp; done) | (simp; omega)
  have d5 : decide (7 < k) = true := by first | (simp; done) | (simp; omega)
  have d6 : decide (s < 1) = false := by first | (simp; done) | (simp; omega)
  have d7 : decide (64 < s) = true := by first | (simp; done) | (simp; omega)
  have HB := Lib.hid (show k < 1 ∨ 7 < k ∨ s < 1 ∨ 64 < s by omega)
  have HS := Lib.hid hs
  have OK := Lib.hid ok
  clear hs ok
  clear h1 h2
  have HT := Lib.hid hT
  clear hT
  have H := Lib.hid (Ow.start w)
  go_enter Tryz.func5, Tryz.ntmps5
  go_wp2_with (first
    | ((fail_if_success have := g3); (with_reducible apply own_boxC H); (case hgd => exact rfl); (case ho => exact rfl); (case hx => exact rfl); intro w3 g3 H' _ _; replace H := H'; clear H'; go_simp)
    | ((fail_if_success have := g4); (with_reducible apply own_boxC H); (case hgd => exact rfl); (case ho => exact rfl); (case hx => exact rfl); intro w4 g4 H' _ _; replace H := H'; clear H'; go_simp)
    | ((with_reducible apply own_loadA rowSpK ?hC H); (case hgd => exact rfl); (case ho => exact rfl); (case hx => exact rfl); (case hi => first | exact at0 | exact at1 | exact at2 | exact at3 | exact at4 | exact at5 | exact at6 | exact at7 | exact at8 | exact at9); (case hC => exact rfl); intro _ _; go_simp)
    | ((fail_if_success have := mk1); (with_reducible refine (made11_any OK.out _ (HT.out.below H.out.bel) ((HS.out.below H.out.bel).more H.out.bel.size)).mono ?_); rintro e wc ⟨v1, r1, P, rfl, hv, hw, hb⟩; replace H := Lib.hid (H.out.call hb); have V1 := Lib.hid hv; have W1 := Lib.hid hw; have mk1 := trivial; clear hb hv hw)
    | ((fail_if_success have := g7); (with_reducible apply own_alloc nilPt H); (case hgd => exact rfl); (case ho => exact rfl); intro w7 g7 H' _ _; replace H := H'; clear H'; go_simp)
    | ((fail_if_success have := g8); (with_reducible apply own_alloc nilQt H); (case hgd => exact rfl); (case ho => exact rfl); intro w8 g8 H' _ _; replace H := H'; clear H'; go_simp)
    | ((with_reducible apply own_store rowPt H); (case hgd => exact rfl); (case ho => exact rfl); (case hx => exact rfl); (case hy => exact rfl); (case hi => first | exact at0 | exact at1 | exact at2 | exact at3 | exact at4 | exact at5 | exact at6 | exact at7 | exact at8 | exact at9); intro ws H' _ _; replace H := H'; clear H'; simp only [List.set_cons_zero, List.set_cons_succ] at H; go_simp)
    | ((with_reducible apply own_store rowQt H); (case hgd => exact rfl); (case ho => exact rfl); (case hx => exact rfl); (case hy => exact rfl); (case hi => first | exact at0 | exact at1 | exact at2 | exact at3 | exact at4 | exact at5 | exact at6 | exact at7 | exact at8 | exact at9); intro ws H' _ _; replace H := H'; clear H'; simp only [List.set_cons_zero] at H; go_simp)
    | ((with_reducible refine cd_undef ?_ ?_ ?_ ?_); (· exact rfl); (· exact rfl); (· exact rfl); intro _ _; go_simp)
    | ((with_reducible refine cd_other ?_ ?_ ?_ ?_); (· exact rfl); (· exact rfl); (· exact rfl); intro _ _; go_simp)
    | ((with_reducible apply own_loadC cellIn H); (case hgd => exact rfl); (case ho => exact rfl); (case hx => exact rfl); (case hi => first | exact at0 | exact at1 | exact at2 | exact at3 | exact at4 | exact at5 | exact at6 | exact at7 | exact at8 | exact at9); (case hj => exact rfl); intro _ _; go_simp)
    | ((with_reducible apply own_loadCg cellIn H); (case hw => exact rfl); (case ho => exact rfl); (case hx => exact rfl); (case hi => first | exact at0 | exact at1 | exact at2 | exact at3 | exact at4 | exact at5 | exact at6 | exact at7 | exact at8 | exact at9); (case hj => exact rfl); intro _ _; go_simp)
    | ((with_reducible apply own_load rowPt H); (case hgd => exact rfl); (case ho => exact rfl); (case hx => exact rfl); (case hi => first | exact at0 | exact at1 | exact at2 | exact at3 | exact at4 | exact at5 | exact at6 | exact at7 | exact at8 | exact at9); intro _ _; go_simp)
    | ((with_reducible refine (awake11_k _ (HT.out.below H.out.bel)).mono ?_); rintro e wc ⟨rfl, hb⟩; replace H := Lib.hid (H.out.call hb); clear hb)
    | ((fail_if_success have := mk2); (with_reducible refine (cnew_bad _ (HT.out.below H.out.bel) V1.out k s HB.out).mono ?_); rintro e wc ⟨rfl, hb⟩; replace H := Lib.hid (H.out.call hb); have mk2 := trivial; clear hb))
  go_ret
  exact ⟨rfl, H.out.bel⟩
end Go.Proofs.YtjcfoilfdmameaaGreatDoor
