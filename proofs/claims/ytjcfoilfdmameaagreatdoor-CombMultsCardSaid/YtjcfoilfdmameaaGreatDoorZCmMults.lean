/-
  The walk of CombMults. No statement is proved here: lemmas for the walks.
-/
import Derived.Test.YtjcfoilfdmameaaGreatDoorZCbAwake
import Derived.Deep.CutRange
namespace Go.Proofs.YtjcfoilfdmameaaGreatDoor
open Go.RowKit

set_option maxRecDepth 8000 in
set_option maxHeartbeats 3200000 in
theorem mults_none {a a2 : Option Addr} {n c x n2 c2 : Nat} {z : Int} {k s : Int} (w : World) (hT : Tp w) (hs : Sb w w.heap.size a n c x) (ok : okS n z = false) :
    Calls Tryz.prog 6 #[.agg #[.slice a n c, .int .i64 z], .agg #[.int .i64 k, .int .i64 s], .slice a2 n2 c2] w fun e w' => e = .returned (.bool true) ∧ Below w.heap.size w w' := by
  have HS := Lib.hid hs
  have OK := Lib.hid ok
  clear hs ok
  have HT := Lib.hid hT
  clear hT
  have H := Lib.hid (Ow.start w)
  go_enter Tryz.func6, Tryz.ntmps6
  go_wp2_with (first
    | ((fail_if_success have := g3); (with_reducible apply own_boxC H); (case hgd => exact rfl); (case ho => exact rfl); (case hx => exact rfl); intro w3 g3 H' _ _; replace H := H'; clear H'; go_simp)
    | ((fail_if_success have := g4); (with_reducible apply own_boxC H); (case hgd => exact rfl); (case ho => exact rfl); (case hx => exact rfl); intro w4 g4 H' _ _; replace H := H'; clear H'; go_simp)
    | ((with_reducible apply own_loadA rowSpK ?hC H); (case hgd => exact rfl); (case ho => exact rfl); (case hx => exact rfl); (case hi => first | exact at0 | exact at1 | exact at2 | exact at3 | exact at4 | exact at5 | exact at6 | exact at7 | exact at8 | exact at9); (case hC => exact rfl); intro _ _; go_simp)
    | ((fail_if_success have := mk1); (with_reducible refine (made11_any OK.out _ (HT.out.below H.out.bel) ((HS.out.below H.out.bel).more H.out.bel.size)).mono ?_); rintro e wc ⟨v1, r1, P, rfl, hv, hw, hb⟩; replace H := Lib.hid (H.out.call hb); have V1 := Lib.hid hv; have W1 := Lib.hid hw; have mk1 := trivial; clear hb hv hw)
    | ((fail_if_success have := g7); (with_reducible apply own_alloc nilPt H); (case hgd => exact rfl); (case ho => exact rfl); intro w7 g7 H' _ _; replace H := H'; clear H'; go_simp)
    | ((fail_if_success have := g8); (with_reducible apply own_alloc nilQt H); (case hgd => exact rfl); (case ho => exact rfl); intro w8 g8 H' _ _; replace H := H'; clear H'; go_simp)
    | ((with_reducible apply own_store rowPt H); (case hgd => exact rfl); (case ho => exact rfl); (case hx => exact rfl); (case hy => exact rfl); (case hi => first | exact at0 | exact at1 | exact at2 | exact at3 | exact at4 | exact at5 | exact at6 | exact at7 | exact at8 | exact at9); intro ws H' _ _; replace H := H'; clear H'; simp only [List.set_cons_zero, List.set_cons_succ] at H; go_simp)
    | ((with_reducible apply own_store rowQt H); (case hgd => exact rfl); (case ho => exact rfl); (case hx => exact rfl); (case hy => exact rfl); (case hi => first | exact at0 | exact at1 | exact at2 | exact at3 | exact at4 | exact at5 | exact at6 | exact at7 | exact at8 | exact at9); intro ws H' _ _; replace H := H'; clear H'; simp only [List.set_cons_zero] at H; go_simp)
    | ((with_reducible apply own_loadC cellIn H); (case hgd => exact rfl); (case ho => exact rfl); (case hx => exact rfl); (case hi => first | exact at0 | exact at1 | exact at2 | exact at3 | exact at4 | exact at5 | exact at6 | exact at7 | exact at8 | exact at9); (case hj => exact rfl); intro _ _; go_simp)
    | ((with_reducible apply own_loadCg cellIn H); (case hw => exact rfl); (case ho => exact rfl); (case hx => exact rfl); (case hi => first | exact at0 | exact at1 | exact at2 | exact at3 | exact at4 | exact at5 | exact at6 | exact at7 | exact at8 | exact at9); (case hj => exact rfl); intro _ _; go_simp)
    | ((with_reducible apply own_load rowPt H); (case hgd => exact rfl); (case ho => exact rfl); (case hx => exact rfl); (case hi => first | exact at0 | exact at1 | exact at2 | exact at3 | exact at4 | exact at5 | exact at6 | exact at7 | exact at8 | exact at9); intro _ _; go_simp)
    | ((with_reducible refine cd_skip ?hw ?h); (case hw => exact rfl); intro _ _; go_simp)
    | ((with_reducible refine (awake11_k _ (HT.out.below H.out.bel)).mono ?_); rintro e wc ⟨rfl, hb⟩; replace H := Lib.hid (H.out.call hb); clear hb))
  go_ret
  exact ⟨rfl, H.out.bel⟩
set_option maxRecDepth 8000 in
set_option maxHeartbeats 3200000 in
theorem mults_out1 {a a2 : Option Addr} {n c x n2 c2 : Nat} {z : Int} {k s : Int} (w : World) (hT : Tp w) (hs : Sb w w.heap.size a n c x) (ok : okS n z = true) (h : k < 1) :
    Calls Tryz.prog 6 #[.agg #[.slice a n c, .int .i64 z], .agg #[.int .i64 k, .int .i64 s], .slice a2 n2 c2] w fun e w' => e = .returned (.bool true) ∧ Below w.heap.size w w' := by
  have d0 : decide (k < 1) = true := by simp; omega
  have HS := Lib.hid hs
  have OK := Lib.hid ok
  clear hs ok
  clear h
  have HT := Lib.hid hT
  clear hT
  have H := Lib.hid (Ow.start w)
  go_enter Tryz.func6, Tryz.ntmps6
  go_wp2_with (first
    | ((fail_if_success have := g3); (with_reducible apply own_boxC H); (case hgd => exact rfl); (case ho => exact rfl); (case hx => exact rfl); intro w3 g3 H' _ _; replace H := H'; clear H'; go_simp)
    | ((fail_if_success have := g4); (with_reducible apply own_boxC H); (case hgd => exact rfl); (case ho => exact rfl); (case hx => exact rfl); intro w4 g4 H' _ _; replace H := H'; clear H'; go_simp)
    | ((with_reducible apply own_loadA rowSpK ?hC H); (case hgd => exact rfl); (case ho => exact rfl); (case hx => exact rfl); (case hi => first | exact at0 | exact at1 | exact at2 | exact at3 | exact at4 | exact at5 | exact at6 | exact at7 | exact at8 | exact at9); (case hC => exact rfl); intro _ _; go_simp)
    | ((fail_if_success have := mk1); (with_reducible refine (made11_any OK.out _ (HT.out.below H.out.bel) ((HS.out.below H.out.bel).more H.out.bel.size)).mono ?_); rintro e wc ⟨v1, r1, P, rfl, hv, hw, hb⟩; replace H := Lib.hid (H.out.call hb); have V1 := Lib.hid hv; have W1 := Lib.hid hw; have mk1 := trivial; clear hb hv hw)
    | ((fail_if_success have := g7); (with_reducible apply own_alloc nilPt H); (case hgd => exact rfl); (case ho => exact rfl); intro w7 g7 H' _ _; replace H := H'; clear H'; go_simp)
    | ((fail_if_success have := g8); (with_reducible apply own_alloc nilQt H); (case hgd => exact rfl); (case ho => exact rfl); intro w8 g8 H' _ _; replace H := H'; clear H'; go_simp)
    | ((with_reducible apply own_store rowPt H); (case hgd => exact rfl); (case ho => exact rfl); (case hx => exact rfl); (case hy => exact rfl); (case hi => first | exact at0 | exact at1 | exact at2 | exact at3 | exact at4 | exact at5 | exact at6 | exact at7 | exact at8 | exact at9); intro ws H' _ _; replace H := H'; clear H'; simp only [List.set_cons_zero, List.set_cons_succ] at H; go_simp)
    | ((with_reducible apply own_store rowQt H); (case hgd => exact rfl); (case ho => exact rfl); (case hx => exact rfl); (case hy => exact rfl); (case hi => first | exact at0 | exact at1 | exact at2 | exact at3 | exact at4 | exact at5 | exact at6 | exact at7 | exact at8 | exact at9); intro ws H' _ _; replace H := H'; clear H'; simp only [List.set_cons_zero] at H; go_simp)
    | ((with_reducible apply own_loadC cellIn H); (case hgd => exact rfl); (case ho => exact rfl); (case hx => exact rfl); (case hi => first | exact at0 | exact at1 | exact at2 | exact at3 | exact at4 | exact at5 | exact at6 | exact at7 | exact at8 | exact at9); (case hj => exact rfl); intro _ _; go_simp)
    | ((with_reducible apply own_loadCg cellIn H); (case hw => exact rfl); (case ho => exact rfl); (case hx => exact rfl); (case hi => first | exact at0 | exact at1 | exact at2 | exact at3 | exact at4 | exact at5 | exact at6 | exact at7 | exact at8 | exact at9); (case hj => exact rfl); intro _ _; go_simp)
    | ((with_reducible apply own_load rowPt H); (case hgd => exact rfl); (case ho => exact rfl); (case hx => exact rfl); (case hi => first | exact at0 | exact at1 | exact at2 | exact at3 | exact at4 | exact at5 | exact at6 | exact at7 | exact at8 | exact at9); intro _ _; go_simp)
    | ((with_reducible refine cd_skip ?hw ?h); (case hw => exact rfl); intro _ _; go_simp)
    | ((with_reducible refine (awake11_k _ (HT.out.below H.out.bel)).mono ?_); rintro e wc ⟨rfl, hb⟩; replace H := Lib.hid (H.out.call hb); clear hb))
  go_ret
  exact ⟨rfl, H.out.bel⟩
set_option maxRecDepth 8000 in
set_option maxHeartbeats 3200000 in
theorem mults_out2 {a a2 : Option Addr} {n c x n2 c2 : Nat} {z : Int} {k s : Int} (w : World) (hT : Tp w) (hs : Sb w w.heap.size a n c x) (ok : okS n z = true) (h1 : 1 ≤ k) (h : 5 < k) :
    Calls Tryz.prog 6 #[.agg #[.slice a n c, .int .i64 z], .agg #[.int .i64 k, .int .i64 s], .slice a2 n2 c2] w fun e w' => e = .returned (.bool true) ∧ Below w.heap.size w w' := by
  have d0 : decide (k < 1) = false := by simp; omega
  have d1 : decide (5 < k) = true := by simp; omega
  have HS := Lib.hid hs
  have OK := Lib.hid ok
  clear hs ok
  clear h1 h
  have HT := Lib.hid hT
  clear hT
  have H := Lib.hid (Ow.start w)
  go_enter Tryz.func6, Tryz.ntmps6
  go_wp2_with (first
    | ((fail_if_success have := g3); (with_reducible apply own_boxC H); (case hgd => exact rfl); (case ho => exact rfl); (case hx => exact rfl); intro w3 g3 H' _ _; replace H := H'; clear H'; go_simp)
    | ((fail_if_success have := g4); (with_reducible apply own_boxC H); (case hgd => exact rfl); (case ho => exact rfl); (case hx => exact rfl); intro w4 g4 H' _ _; replace H := H'; clear H'; go_simp)
    | ((with_reducible apply own_loadA rowSpK ?hC H); (case hgd => exact rfl); (case ho => exact rfl); (case hx => exact rfl); (case hi => first | exact at0 | exact at1 | exact at2 | exact at3 | exact at4 | exact at5 | exact at6 | exact at7 | exact at8 | exact at9); (case hC => exact rfl); intro _ _; go_simp)
    | ((fail_if_success have := mk1); (with_reducible refine (made11_any OK.out _ (HT.out.below H.out.bel) ((HS.out.below H.out.bel).more H.out.bel.size)).mono ?_); rintro e wc ⟨v1, r1, P, rfl, hv, hw, hb⟩; replace H := Lib.hid (H.out.call hb); have V1 := Lib.hid hv; have W1 := Lib.hid hw; have mk1 := trivial; clear hb hv hw)
    | ((fail_if_success have := g7); (with_reducible apply own_alloc nilPt H); (case hgd => exact rfl); (case ho => exact rfl); intro w7 g7 H' _ _; replace H := H'; clear H'; go_simp)
    | ((fail_if_success have := g8); (with_reducible apply own_alloc nilQt H); (case hgd => exact rfl); (case ho => exact rfl); intro w8 g8 H' _ _; replace H := H'; clear H'; go_simp)
    | ((with_reducible apply own_store rowPt H); (case hgd => exact rfl); (case ho => exact rfl); (case hx => exact rfl); (case hy => exact rfl); (case hi => first | exact at0 | exact at1 | exact at2 | exact at3 | exact at4 | exact at5 | exact at6 | exact at7 | exact at8 | exact at9); intro ws H' _ _; replace H := H'; clear H'; simp only [List.set_cons_zero, List.set_cons_succ] at H; go_simp)
    | ((with_reducible apply own_store rowQt H); (case hgd => exact rfl); (case ho => exact rfl); (case hx => exact rfl); (case hy => exact rfl); (case hi => first | exact at0 | exact at1 | exact at2 | exact at3 | exact at4 | exact at5 | exact at6 | exact at7 | exact at8 | exact at9); intro ws H' _ _; replace H := H'; clear H'; simp only [List.set_cons_zero] at H; go_simp)
    | ((with_reducible apply own_loadC cellIn H); (case hgd => exact rfl); (case ho => exact rfl); (case hx => exact rfl); (case hi => first | exact at0 | exact at1 | exact at2 | exact at3 | exact at4 | exact at5 | exact at6 | exact at7 | exact at8 | exact at9); (case hj => exact rfl); intro _ _; go_simp)
    | ((with_reducible apply own_loadCg cellIn H); (case hw => exact rfl); (case ho => exact rfl); (case hx => exact rfl); (case hi => first | exact at0 | exact at1 | exact at2 | exact at3 | exact at4 | exact at5 | exact at6 | exact at7 | exact at8 | exact at9); (case hj => exact rfl); intro _ _; go_simp)
    | ((with_reducible apply own_load rowPt H); (case hgd => exact rfl); (case ho => exact rfl); (case hx => exact rfl); (case hi => first | exact at0 | exact at1 | exact at2 | exact at3 | exact at4 | exact at5 | exact at6 | exact at7 | exact at8 | exact at9); intro _ _; go_simp)
    | ((with_reducible refine cd_skip ?hw ?h); (case hw => exact rfl); intro _ _; go_simp)
    | ((with_reducible refine (awake11_k _ (HT.out.below H.out.bel)).mono ?_); rintro e wc ⟨rfl, hb⟩; replace H := Lib.hid (H.out.call hb); clear hb))
  go_ret
  exact ⟨rfl, H.out.bel⟩
set_option maxRecDepth 8000 in
set_option maxHeartbeats 3200000 in
theorem mults_out3 {a a2 : Option Addr} {n c x n2 c2 : Nat} {z : Int} {k s : Int} (w : World) (hT : Tp w) (hs : Sb w w.heap.size a n c x) (ok : okS n z = true) (h1 : 1 ≤ k) (h2 : k ≤ 5) (h : s < 1) :
    Calls Tryz.prog 6 #[.agg #[.slice a n c, .int .i64 z], .agg #[.int .i64 k, .int .i64 s], .slice a2 n2 c2] w fun e w' => e = .returned (.bool true) ∧ Below w.heap.size w w' := by
  have d0 : decide (k < 1) = false := by simp; omega
  have d1 : decide (5 < k) = false := by simp; omega
  have d2 : decide (s < 1) = true := by simp; omega
  have HS := Lib.hid hs
  have OK := Lib.hid ok
  clear hs ok
  clear h1 h2 h
  have HT := Lib.hid hT
  clear hT
  have H := Lib.hid (Ow.start w)
  go_enter Tryz.func6, Tryz.ntmps6
  go_wp2_with (first
    | ((fail_if_success have := g3); (with_reducible apply own_boxC H); (case hgd => exact rfl); (case ho => exact rfl); (case hx => exact rfl); intro w3 g3 H' _ _; replace H := H'; clear H'; go_simp)
    | ((fail_if_success have := g4); (with_reducible apply own_boxC H); (case hgd => exact rfl); (case ho => exact rfl); (case hx => exact rfl); intro w4 g4 H' _ _; replace H := H'; clear H'; go_simp)
    | ((with_reducible apply own_loadA rowSpK ?hC H); (case hgd => exact rfl); (case ho => exact rfl); (case hx => exact rfl); (case hi => first | exact at0 | exact at1 | exact at2 | exact at3 | exact at4 | exact at5 | exact at6 | exact at7 | exact at8 | exact at9); (case hC => exact rfl); intro _ _; go_simp)
    | ((fail_if_success have := mk1); (with_reducible refine (made11_any OK.out _ (HT.out.below H.out.bel) ((HS.out.below H.out.bel).more H.out.bel.size)).mono ?_); rintro e wc ⟨v1, r1, P, rfl, hv, hw, hb⟩; replace H := Lib.hid (H.out.call hb); have V1 := Lib.hid hv; have W1 := Lib.hid hw; have mk1 := trivial; clear hb hv hw)
    | ((fail_if_success have := g7); (with_reducible apply own_alloc nilPt H); (case hgd => exact rfl); (case ho => exact rfl); intro w7 g7 H' _ _; replace H := H'; clear H'; go_simp)
    | ((fail_if_success have := g8); (with_reducible apply own_alloc nilQt H); (case hgd => exact rfl); (case ho => exact rfl); intro w8 g8 H' _ _; replace H := H'; clear H'; go_simp)
    | ((with_reducible apply own_store rowPt H); (case hgd => exact rfl); (case ho => exact rfl); (case hx => exact rfl); (case hy => exact rfl); (case hi => first | exact at0 | exact at1 | exact at2 | exact at3 | exact at4 | exact at5 | exact at6 | exact at7 | exact at8 | exact at9); intro ws H' _ _; replace H := H'; clear H'; simp only [List.set_cons_zero, List.set_cons_succ] at H; go_simp)
    | ((with_reducible apply own_store rowQt H); (case hgd => exact rfl); (case ho => exact rfl); (case hx => exact rfl); (case hy => exact rfl); (case hi => first | exact at0 | exact at1 | exact at2 | exact at3 | exact at4 | exact at5 | exact at6 | exact at7 | exact at8 | exact at9); intro ws H' _ _; replace H := H'; clear H'; simp only [List.set_cons_zero] at H; go_simp)
    | ((with_reducible apply own_loadC cellIn H); (case hgd => exact rfl); (case ho => exact rfl); (case hx => exact rfl); (case hi => first | exact at0 | exact at1 | exact at2 | exact at3 | exact at4 | exact at5 | exact at6 | exact at7 | exact at8 | exact at9); (case hj => exact rfl); intro _ _; go_simp)
    | ((with_reducible apply own_loadCg cellIn H); (case hw => exact rfl); (case ho => exact rfl); (case hx => exact rfl); (case hi => first | exact at0 | exact at1 | exact at2 | exact at3 | exact at4 | exact at5 | exact at6 | exact at7 | exact at8 | exact at9); (case hj => exact rfl); intro _ _; go_simp)
    | ((with_reducible apply own_load rowPt H); (case hgd => exact rfl); (case ho => exact rfl); (case hx => exact rfl); (case hi => first | exact at0 | exact at1 | exact at2 | exact at3 | exact at4 | exact at5 | exact at6 | exact at7 | exact at8 | exact at9); intro _ _; go_simp)
    | ((with_reducible refine cd_skip ?hw ?h); (case hw => exact rfl); intro _ _; go_simp)
    | ((with_reducible refine (awake11_k _ (HT.out.below H.out.bel)).mono ?_); rintro e wc ⟨rfl, hb⟩; replace H := Lib.hid (H.out.call hb); clear hb))
  go_ret
  exact ⟨rfl, H.out.bel⟩
set_option maxRecDepth 8000 in
set_option maxHeartbeats 3200000 in
theorem mults_out4 {a a2 : Option Addr} {n c x n2 c2 : Nat} {z : Int} {k s : Int} (w : World) (hT : Tp w) (hs : Sb w w.heap.size a n c x) (ok : okS n z = true) (h1 : 1 ≤ k) (h2 : k ≤ 5) (h3 : 1 ≤ s) (h : 20 < s) :
    Calls Tryz.prog 6 #[.agg #[.slice a n c, .int .i64 z], .agg #[.int .i64 k, .int .i64 s], .slice a2 n2 c2] w fun e w' => e = .returned (.bool true) ∧ Below w.heap.size w w' := by
  have d0 : decide (k < 1) = false := by simp; omega
  have d1 : decide (5 < k) = false := by simp; omega
  have d2 : decide (s < 1) = false := by simp; omega
  have d3 : decide (20 < s) = true := by simp; omega
  have HS := Lib.hid hs
  have OK := Lib.hid ok
  clear hs ok
  clear h1 h2 h3 h
  have HT := Lib.hid hT
  clear hT
  have H := Lib.hid (Ow.start w)
  go_enter Tryz.func6, Tryz.ntmps6
  go_wp2_with (first
    | ((fail_if_success have := g3); (with_reducible apply own_boxC H); (case hgd => exact rfl); (case ho => exact rfl); (case hx => exact rfl); intro w3 g3 H' _ _; replace H := H'; clear H'; go_simp)
    | ((fail_if_success have := g4); (with_reducible apply own_boxC H); (case hgd => exact rfl); (case ho => exact rfl); (case hx => exact rfl); intro w4 g4 H' _ _; replace H := H'; clear H'; go_simp)
    | ((with_reducible apply own_loadA rowSpK ?hC H); (case hgd => exact rfl); (case ho => exact rfl); (case hx => exact rfl); (case hi => first | exact at0 | exact at1 | exact at2 | exact at3 | exact at4 | exact at5 | exact at6 | exact at7 | exact at8 | exact at9); (case hC => exact rfl); intro _ _; go_simp)
    | ((fail_if_success have := mk1); (with_reducible refine (made11_any OK.out _ (HT.out.below H.out.bel) ((HS.out.below H.out.bel).more H.out.bel.size)).mono ?_); rintro e wc ⟨v1, r1, P, rfl, hv, hw, hb⟩; replace H := Lib.hid (H.out.call hb); have V1 := Lib.hid hv; have W1 := Lib.hid hw; have mk1 := trivial; clear hb hv hw)
    | ((fail_if_success have := g7); (with_reducible apply own_alloc nilPt H); (case hgd => exact rfl); (case ho => exact rfl); intro w7 g7 H' _ _; replace H := H'; clear H'; go_simp)
    | ((fail_if_success have := g8); (with_reducible apply own_alloc nilQt H); (case hgd => exact rfl); (case ho => exact rfl); intro w8 g8 H' _ _; replace H := H'; clear H'; go_simp)
    | ((with_reducible apply own_store rowPt H); (case hgd => exact rfl); (case ho => exact rfl); (case hx => exact rfl); (case hy => exact rfl); (case hi => first | exact at0 | exact at1 | exact at2 | exact at3 | exact at4 | exact at5 | exact at6 | exact at7 | exact at8 | exact at9); intro ws H' _ _; replace H := H'; clear H'; simp only [List.set_cons_zero, List.set_cons_succ] at H; go_simp)
    | ((with_reducible apply own_store rowQt H); (case hgd => exact rfl); (case ho => exact rfl); (case hx => exact rfl); (case hy => exact rfl); (case hi => first | exact at0 | exact at1 | exact at2 | exact at3 | exact at4 | exact at5 | exact at6 | exact at7 | exact at8 | exact at9); intro ws H' _ _; replace H := H'; clear H'; simp only [List.set_cons_zero] at H; go_simp)
    | ((with_reducible apply own_loadC cellIn H); (case hgd => exact rfl); (case ho => exact rfl); (case hx => exact rfl); (case hi => first | exact at0 | exact at1 | exact at2 | exact at3 | exact at4 | exact at5 | exact at6 | exact at7 | exact at8 | exact at9); (case hj => exact rfl); intro _ _; go_simp)
    | ((with_reducible apply own_loadCg cellIn H); (case hw => exact rfl); (case ho => exact rfl); (case hx => exact rfl); (case hi => first | exact at0 | exact at1 | exact at2 | exact at3 | exact at4 | exact at5 | exact at6 | exact at7 | exact at8 | exact at9); (case hj => exact rfl); intro _ _; go_simp)
    | ((with_reducible apply own_load rowPt H); (case hgd => exact rfl); (case ho => exact rfl); (case hx => exact rfl); (case hi => first | exact at0 | exact at1 | exact at2 | exact at3 | exact at4 | exact at5 | exact at6 | exact at7 | exact at8 | exact at9); intro _ _; go_simp)
    | ((with_reducible refine cd_skip ?hw ?h); (case hw => exact rfl); intro _ _; go_simp)
    | ((with_reducible refine (awake11_k _ (HT.out.below H.out.bel)).mono ?_); rintro e wc ⟨rfl, hb⟩; replace H := Lib.hid (H.out.call hb); clear hb))
  go_ret
  exact ⟨rfl, H.out.bel⟩
set_option maxRecDepth 8000 in
set_option maxHeartbeats 3200000 in
theorem mults_out5 {a a2 : Option Addr} {n c x n2 c2 : Nat} {z : Int} {k s : Int} (w : World) (hT : Tp w) (hs : Sb w w.heap.size a n c x) (ok : okS n z = true) (h1 : 1 ≤ k) (h2 : k ≤ 5) (h3 : 1 ≤ s) (h4 : s ≤ 20) (h : 20 < n2) :
    Calls Tryz.prog 6 #[.agg #[.slice a n c, .int .i64 z], .agg #[.int .i64 k, .int .i64 s], .slice a2 n2 c2] w fun e w' => e = .returned (.bool true) ∧ Below w.heap.size w w' := by
  have d0 : decide (k < 1) = false := by simp; omega
  have d1 : decide (5 < k) = false := by simp; omega
  have d2 : decide (s < 1) = false := by simp; omega
  have d3 : decide (20 < s) = false := by simp; omega
  have d4 : decide ((20 : Int) < (n2 : Int)) = true := by simp; omega
  have HS := Lib.hid hs
  have OK := Lib.hid ok
  clear hs ok
  clear h1 h2 h3 h4 h
  have HT := Lib.hid hT
  clear hT
  have H := Lib.hid (Ow.start w)
  go_enter Tryz.func6, Tryz.ntmps6
  go_wp2_with (first
    | ((fail_if_success have := g3); (with_reducible apply own_boxC H); (case hgd => exact rfl); (case ho => exact rfl); (case hx => exact rfl); intro w3 g3 H' _ _; replace H := H'; clear H'; go_simp)
    | ((fail_if_success have := g4); (with_reducible apply own_boxC H); (case hgd => exact rfl); (case ho => exact rfl); (case hx => exact rfl); intro w4 g4 H' _ _; replace H := H'; clear H'; go_simp)
    | ((with_reducible apply own_loadA rowSpK ?hC H); (case hgd => exact rfl); (case ho => exact rfl); (case hx => exact rfl); (case hi => first | exact at0 | exact at1 | exact at2 | exact at3 | exact at4 | exact at5 | exact at6 | exact at7 | exact at8 | exact at9); (case hC => exact rfl); intro _ _; go_simp)
    | ((fail_if_success have := mk1); (with_reducible refine (made11_any OK.out _ (HT.out.below H.out.bel) ((HS.out.below H.out.bel).more H.out.bel.size)).mono ?_); rintro e wc ⟨v1, r1, P, rfl, hv, hw, hb⟩; replace H := Lib.hid (H.out.call hb); have V1 := Lib.hid hv; have W1 := Lib.hid hw; have mk1 := trivial; clear hb hv hw)
    | ((fail_if_success have := g7); (with_reducible apply own_alloc nilPt H); (case hgd => exact rfl); (case ho => exact rfl); intro w7 g7 H' _ _; replace H := H'; clear H'; go_simp)
    | ((fail_if_success have := g8); (with_reducible apply own_alloc nilQt H); (case hgd => exact rfl); (case ho => exact rfl); intro w8 g8 H' _ _; replace H := H'; clear H'; go_simp)
    | ((with_reducible apply own_store rowPt H); (case hgd => exact rfl); (case ho => exact rfl); (case hx => exact rfl); (case hy => exact rfl); (case hi => first | exact at0 | exact at1 | exact at2 | exact at3 | exact at4 | exact at5 | exact at6 | exact at7 | exact at8 | exact at9); intro ws H' _ _; replace H := H'; clear H'; simp only [List.set_cons_zero, List.set_cons_succ] at H; go_simp)
    | ((with_reducible apply own_store rowQt H); (case hgd => exact rfl); (case ho => exact rfl); (case hx => exact rfl); (case hy => exact rfl); (case hi => first | exact at0 | exact at1 | exact at2 | exact at3 | exact at4 | exact at5 | exact at6 | exact at7 | exact at8 | exact at9); intro ws H' _ _; replace H := H'; clear H'; simp only [List.set_cons_zero] at H; go_simp)
    | ((with_reducible apply own_loadC cellIn H); (case hgd => exact rfl); (case ho => exact rfl); (case hx => exact rfl); (case hi => first | exact at0 | exact at1 | exact at2 | exact at3 | exact at4 | exact at5 | exact at6 | exact at7 | exact at8 | exact at9); (case hj => exact rfl); intro _ _; go_simp)
    | ((with_reducible apply own_loadCg cellIn H); (case hw => exact rfl); (case ho => exact rfl); (case hx => exact rfl); (case hi => first | exact at0 | exact at1 | exact at2 | exact at3 | exact at4 | exact at5 | exact at6 | exact at7 | exact at8 | exact at9); (case hj => exact rfl); intro _ _; go_simp)
    | ((with_reducible apply own_load rowPt H); (case hgd => exact rfl); (case ho => exact rfl); (case hx => exact rfl); (case hi => first | exact at0 | exact at1 | exact at2 | exact at3 | exact at4 | exact at5 | exact at6 | exact at7 | exact at8 | exact at9); intro _ _; go_simp)
    | ((with_reducible refine cd_skip ?hw ?h); (case hw => exact rfl); intro _ _; go_simp)
    | ((with_reducible refine (awake11_k _ (HT.out.below H.out.bel)).mono ?_); rintro e wc ⟨rfl, hb⟩; replace H := Lib.hid (H.out.call hb); clear hb))
  go_ret
  exact ⟨rfl, H.out.bel⟩
set_option maxRecDepth 8000 in
set_option maxHeartbeats 3200000 in
theorem mults_size {a a2 : Option Addr} {n c x n2 c2 : Nat} {z : Int} {k s : Nat} (w : World) (hT : Tp w) (hs : Sb w w.heap.size a n c x) (ok : okS n z = true) (h1 : 1 ≤ k) (h2 : k ≤ 5) (h3 : 1 ≤ s) (h4 : s ≤ 20) (h5 : n2 ≤ 20) (hne : n2 ≠ s) :
    Calls Tryz.prog 6 #[.agg #[.slice a n c, .int .i64 z], .agg #[.int .i64 (k : Int), .int .i64 (s : Int)], .slice a2 n2 c2] w fun e w' => e = .returned (.bool true) ∧ Below w.heap.size w w' := by
  have d0 : decide ((k : Int) < 1) = false := by simp; omega
  have d1 : decide (5 < (k : Int)) = false := by simp; omega
  have d2 : decide ((s : Int) < 1) = false := by simp; omega
  have d3 : decide (20 < (s : Int)) = false := by simp; omega
  have d4 : decide ((20 : Int) < (n2 : Int)) = false := by simp; omega
  have d9 : ((n2 : Int) != (s : Int)) = true := by rw [bne_iff_ne]; omega
  have KB := Lib.hid (show 1 ≤ k ∧ k ≤ 5 ∧ 1 ≤ s ∧ s ≤ 20 from ⟨h1, h2, h3, h4⟩)
  have HS := Lib.hid hs
  have OK := Lib.hid ok
  have HNE := Lib.hid hne
  clear hs ok hne
  clear h1 h2 h3 h4 h5
  have HT := Lib.hid hT
  clear hT
  have H := Lib.hid (Ow.start w)
  go_enter Tryz.func6, Tryz.ntmps6
  go_wp2_with (first
    | ((fail_if_success have := g3); (with_reducible apply own_boxC H); (case hgd => exact rfl); (case ho => exact rfl); (case hx => exact rfl); intro w3 g3 H' _ _; replace H := H'; clear H'; go_simp)
    | ((fail_if_success have := g4); (with_reducible apply own_boxC H); (case hgd => exact rfl); (case ho => exact rfl); (case hx => exact rfl); intro w4 g4 H' _ _; replace H := H'; clear H'; go_simp)
    | ((with_reducible apply own_loadA rowSpK ?hC H); (case hgd => exact rfl); (case ho => exact rfl); (case hx => exact rfl); (case hi => first | exact at0 | exact at1 | exact at2 | exact at3 | exact at4 | exact at5 | exact at6 | exact at7 | exact at8 | exact at9); (case hC => exact rfl); intro _ _; go_simp)
    | ((fail_if_success have := mk1); (with_reducible refine (made11_any OK.out _ (HT.out.below H.out.bel) ((HS.out.below H.out.bel).more H.out.bel.size)).mono ?_); rintro e wc ⟨v1, r1, P, rfl, hv, hw, hb⟩; replace H := Lib.hid (H.out.call hb); have V1 := Lib.hid hv; have W1 := Lib.hid hw; have mk1 := trivial; clear hb hv hw)
    | ((fail_if_success have := g7); (with_reducible apply own_alloc nilPt H); (case hgd => exact rfl); (case ho => exact rfl); intro w7 g7 H' _ _; replace H := H'; clear H'; go_simp)
    | ((fail_if_success have := g8); (with_reducible apply own_alloc nilQt H); (case hgd => exact rfl); (case ho => exact rfl); intro w8 g8 H' _ _; replace H := H'; clear H'; go_simp)
    | ((with_reducible apply own_store rowPt H); (case hgd => exact rfl); (case ho => exact rfl); (case hx => exact rfl); (case hy => exact rfl); (case hi => first | exact at0 | exact at1 | exact at2 | exact at3 | exact at4 | exact at5 | exact at6 | exact at7 | exact at8 | exact at9); intro ws H' _ _; replace H := H'; clear H'; simp only [List.set_cons_zero, List.set_cons_succ] at H; go_simp)
    | ((with_reducible apply own_store rowQt H); (case hgd => exact rfl); (case ho => exact rfl); (case hx => exact rfl); (case hy => exact rfl); (case hi => first | exact at0 | exact at1 | exact at2 | exact at3 | exact at4 | exact at5 | exact at6 | exact at7 | exact at8 | exact at9); intro ws H' _ _; replace H := H'; clear H'; simp only [List.set_cons_zero] at H; go_simp)
    | ((with_reducible apply own_loadC cellIn H); (case hgd => exact rfl); (case ho => exact rfl); (case hx => exact rfl); (case hi => first | exact at0 | exact at1 | exact at2 | exact at3 | exact at4 | exact at5 | exact at6 | exact at7 | exact at8 | exact at9); (case hj => exact rfl); intro _ _; go_simp)
    | ((with_reducible apply own_loadCg cellIn H); (case hw => exact rfl); (case ho => exact rfl); (case hx => exact rfl); (case hi => first | exact at0 | exact at1 | exact at2 | exact at3 | exact at4 | exact at5 | exact at6 | exact at7 | exact at8 | exact at9); (case hj => exact rfl); intro _ _; go_simp)
    | ((with_reducible apply own_load rowPt H); (case hgd => exact rfl); (case ho => exact rfl); (case hx => exact rfl); (case hi => first | exact at0 | exact at1 | exact at2 | exact at3 | exact at4 | exact at5 | exact at6 | exact at7 | exact at8 | exact at9); intro _ _; go_simp)
    | ((with_reducible refine cd_skip ?hw ?h); (case hw => exact rfl); intro _ _; go_simp)
    | ((with_reducible refine (awake11_k _ (HT.out.below H.out.bel)).mono ?_); rintro e wc ⟨rfl, hb⟩; replace H := Lib.hid (H.out.call hb); clear hb)
    | ((fail_if_success have := mk2); (with_reducible refine (cnew_k _ (HT.out.below H.out.bel) V1.out k s _ _ rfl rfl KB.out.1 (Nat.le_trans KB.out.2.1 (by omega)) KB.out.2.2.1 (Nat.le_trans KB.out.2.2.2 (by omega))).mono ?_); rintro e wc ⟨gt, L, rfl, hn, ht, hb⟩; replace H := Lib.hid (H.out.append hb hn); have TB := Lib.hid ht; have mk2 := trivial; clear hb ht hn)
    | ((fail_if_success have := mk3); (with_reducible refine (tmult_bad _ (HT.out.below H.out.bel) (TB.out _ fun x hx => H.out.has x (by simp [hx])) HNE.out).mono ?_); rintro e wc ⟨q1, rfl, hb⟩; replace H := Lib.hid (H.out.call hb); have mk3 := trivial; clear hb)
    | ((fail_if_success have := g12); (with_reducible apply own_alloc nilPt H); (case hgd => exact rfl); (case ho => exact rfl); intro w12 g12 H' _ _; replace H := H'; clear H'; go_simp))
  go_ret
  exact ⟨rfl, H.out.bel⟩
set_option maxRecDepth 8000 in
set_option maxHeartbeats 3200000 in
theorem mults_k {a a2 : Option Addr} {n c x c2 y : Nat} {z : Int} {k s : Nat} (w : World) (hT : Tp w) (hs : Sb w w.heap.size a n c x) (hy : Sb w w.heap.size a2 s c2 y) (ok : okS n z = true) (h1 : 1 ≤ k) (h2 : k ≤ 5) (h3 : 1 ≤ s) (h4 : s ≤ 20) :
    Calls Tryz.prog 6 #[.agg #[.slice a n c, .int .i64 z], .agg #[.int .i64 (k : Int), .int .i64 (s : Int)], .slice a2 s c2] w fun e w' => e = .returned (.bool true) ∧ Below w.heap.size w w' := by
  have d0 : decide ((k : Int) < 1) = false := by simp; omega
  have d1 : decide (5 < (k : Int)) = false := by simp; omega
  have d2 : decide ((s : Int) < 1) = false := by simp; omega
  have d3 : decide (20 < (s : Int)) = false := by simp; omega
  have d4 : decide ((20 : Int) < (s : Int)) = false := by simp; omega
  have d9 : ((s : Int) != (s : Int)) = false := by simp
  have KB := Lib.hid (show 1 ≤ k ∧ k ≤ 5 ∧ 1 ≤ s ∧ s ≤ 20 from ⟨h1, h2, h3, h4⟩)
  have HS := Lib.hid hs
  have HY := Lib.hid hy
  have OK := Lib.hid ok
  clear hs hy ok
  clear h1 h2 h3 h4
  have HT := Lib.hid hT
  clear hT
  have H := Lib.hid (Ow.start w)
  go_enter Tryz.func6, Tryz.ntmps6
  go_upto_region 10 with (first
    | ((fail_if_success have := g3); (with_reducible apply own_boxC H); (case hgd => exact rfl); (case ho => exact rfl); (case hx => exact rfl); intro w3 g3 H' _ _; replace H := H'; clear H'; go_simp)
    | ((fail_if_success have := g4); (with_reducible apply own_boxC H); (case hgd => exact rfl); (case ho => exact rfl); (case hx => exact rfl); intro w4 g4 H' _ _; replace H := H'; clear H'; go_simp)
    | ((with_reducible apply own_loadA rowSpK ?hC H); (case hgd => exact rfl); (case ho => exact rfl); (case hx => exact rfl); (case hi => first | exact at0 | exact at1 | exact at2 | exact at3 | exact at4 | exact at5 | exact at6 | exact at7 | exact at8 | exact at9); (case hC => exact rfl); intro _ _; go_simp)
    | ((fail_if_success have := mk1); (with_reducible refine (made11_any OK.out _ (HT.out.below H.out.bel) ((HS.out.below H.out.bel).more H.out.bel.size)).mono ?_); rintro e wc ⟨v1, r1, P, rfl, hv, hw, hb⟩; replace H := Lib.hid (H.out.call hb); have V1 := Lib.hid hv; have W1 := Lib.hid hw; have mk1 := trivial; clear hb hv hw)
    | ((fail_if_success have := g7); (with_reducible apply own_alloc nilPt H); (case hgd => exact rfl); (case ho => exact rfl); intro w7 g7 H' _ _; replace H := H'; clear H'; go_simp)
    | ((fail_if_success have := g8); (with_reducible apply own_alloc nilQt H); (case hgd => exact rfl); (case ho => exact rfl); intro w8 g8 H' _ _; replace H := H'; clear H'; go_simp)
    | ((with_reducible apply own_store rowPt H); (case hgd => exact rfl); (case ho => exact rfl); (case hx => exact rfl); (case hy => exact rfl); (case hi => first | exact at0 | exact at1 | exact at2 | exact at3 | exact at4 | exact at5 | exact at6 | exact at7 | exact at8 | exact at9); intro ws H' _ _; replace H := H'; clear H'; simp only [List.set_cons_zero, List.set_cons_succ] at H; go_simp)
    | ((with_reducible apply own_store rowQt H); (case hgd => exact rfl); (case ho => exact rfl); (case hx => exact rfl); (case hy => exact rfl); (case hi => first | exact at0 | exact at1 | exact at2 | exact at3 | exact at4 | exact at5 | exact at6 | exact at7 | exact at8 | exact at9); intro ws H' _ _; replace H := H'; clear H'; simp only [List.set_cons_zero] at H; go_simp)
    | ((with_reducible apply own_loadC cellIn H); (case hgd => exact rfl); (case ho => exact rfl); (case hx => exact rfl); (case hi => first | exact at0 | exact at1 | exact at2 | exact at3 | exact at4 | exact at5 | exact at6 | exact at7 | exact at8 | exact at9); (case hj => exact rfl); intro _ _; go_simp)
    | ((with_reducible apply own_loadCg cellIn H); (case hw => exact rfl); (case ho => exact rfl); (case hx => exact rfl); (case hi => first | exact at0 | exact at1 | exact at2 | exact at3 | exact at4 | exact at5 | exact at6 | exact at7 | exact at8 | exact at9); (case hj => exact rfl); intro _ _; go_simp)
    | ((with_reducible apply own_load rowPt H); (case hgd => exact rfl); (case ho => exact rfl); (case hx => exact rfl); (case hi => first | exact at0 | exact at1 | exact at2 | exact at3 | exact at4 | exact at5 | exact at6 | exact at7 | exact at8 | exact at9); intro _ _; go_simp)
    | ((with_reducible refine cd_skip ?hw ?h); (case hw => exact rfl); intro _ _; go_simp)
    | ((fail_if_success have := mk2); (with_reducible refine (cnew_k _ (HT.out.below H.out.bel) V1.out k s _ _ rfl rfl KB.out.1 (Nat.le_trans KB.out.2.1 (by omega)) KB.out.2.2.1 (Nat.le_trans KB.out.2.2.2 (by omega))).mono ?_); rintro e wc ⟨gt, L, rfl, hn, ht, hb⟩; replace H := Lib.hid (H.out.append hb hn); have TB := Lib.hid ht; have mk2 := trivial; clear hb ht hn)
    | ((fail_if_success have := mk3); (with_reducible refine (tmult_k _ (HT.out.below H.out.bel) (TB.out _ fun x hx => H.out.has x (by simp [hx])) ((HY.out.below H.out.bel).more H.out.bel.size)).mono ?_); rintro e wc ⟨q1, rfl, hv, hb⟩; replace H := Lib.hid (H.out.call hb); have V2 := Lib.hid hv; have mk3 := trivial; clear hb hv)
    | ((fail_if_success have := g12); (with_reducible apply own_alloc nilPt H); (case hgd => exact rfl); (case ho => exact rfl); intro w12 g12 H' _ _; replace H := H'; clear H'; go_simp))
  clear mk1 mk2 mk3 TB
  refine wp_region_noPanic ?_
  refine wp_region_held_drew (S := fun W => W.heap[g12]? = some (Blk 32 .u64 24 (q1)) ∧ W.heap[g8]? = some (Blk 45 .i64 48 (r1))) (by kernel_rfl) (⟨H.out.drew.row 0 rfl, H.out.drew.row 1 rfl⟩) (fun hH => ?_)
  replace H := Lib.hid H.out.drew
  generalize World.drew _ = w8 at *
  refine held_value 0 79 (.int .i64 0) rfl rfl (by kernel_rfl) (by kernel_rfl) (by kernel_rfl) rfl hH (fun w hw => by go_simp) ?_
  try simp only [Act.put, List.setIfInBounds_toArray, List.set_cons_zero, List.set_cons_succ]
  refine held_value 1 80 (.bool true) rfl rfl (by kernel_rfl) (by kernel_rfl) (by kernel_rfl) rfl hH (fun w hw => by go_simp) ?_
  try simp only [Act.put, List.setIfInBounds_toArray, List.set_cons_zero, List.set_cons_succ]
  refine held_value 2 81 (.bool true) rfl rfl (by kernel_rfl) (by kernel_rfl) (by kernel_rfl) rfl hH (fun w hw => by go_simp) ?_
  try simp only [Act.put, List.setIfInBounds_toArray, List.set_cons_zero, List.set_cons_succ]
  refine held_row 3 82 rowPt rfl rfl (by kernel_rfl) (by kernel_rfl) (by kernel_rfl) rfl hH rfl rfl (fun _ h => h.1) ?_
  try simp only [Act.put, List.setIfInBounds_toArray, List.set_cons_zero, List.set_cons_succ]
  refine held_value 4 83 (.slice a2 s c2) rfl rfl (by kernel_rfl) (by kernel_rfl) (by kernel_rfl) rfl hH (fun w hw => by go_simp) ?_
  try simp only [Act.put, List.setIfInBounds_toArray, List.set_cons_zero, List.set_cons_succ]
  refine held_row 5 84 rowQt rfl rfl (by kernel_rfl) (by kernel_rfl) (by kernel_rfl) rfl hH rfl rfl (fun _ h => h.2) ?_
  try simp only [Act.put, List.setIfInBounds_toArray, List.set_cons_zero, List.set_cons_succ]
  refine wpAnyH_ready (rs := [6]) (by kernel_rfl) (by simp) ?_
  refine AllReadyH.cons (o := _) rfl (fun K hK => ?_) AllReadyH.nil
  go_simp
  refine (refTimes_k _ _ _ _ _ (Nat.le_trans KB.out.2.2.2 (by omega)) ((HY.out.below H.out.bel).more H.out.bel.size) W1.out).mono ?_
  rintro e wc ⟨r85, rfl, hv, hb⟩
  replace H := Lib.hid (H.out.call hb)
  have HV85 := Lib.hid hv
  refine hK.out _ _ (⟨H.out.row 0 rfl, H.out.row 1 rfl⟩) (fun hN => ?_)
  clear hK K hH hb hv
  have hH := hN
  clear hN
  try simp only [Act.put, List.setIfInBounds_toArray, List.set_cons_zero, List.set_cons_succ]
  refine wpAnyH_ready (rs := [7]) (by kernel_rfl) (by simp) ?_
  refine AllReadyH.cons (o := _) rfl (fun K hK => ?_) AllReadyH.nil
  go_simp
  refine (same11_k _ V2.out HV85.out).mono ?_
  rintro e wc ⟨rfl, hb⟩
  replace H := Lib.hid (H.out.call hb)
  refine hK.out _ _ (⟨H.out.row 0 rfl, H.out.row 1 rfl⟩) (fun hN => ?_)
  clear hK K hH hb
  have hH := hN
  clear hN
  try simp only [Act.put, List.setIfInBounds_toArray, List.set_cons_zero, List.set_cons_succ]
  refine held_value 8 87 (.bool true) rfl rfl (by kernel_rfl) (by kernel_rfl) (by kernel_rfl) rfl hH (fun w hw => by go_simp) ?_
  try simp only [Act.put, List.setIfInBounds_toArray, List.set_cons_zero, List.set_cons_succ]
  refine held_value 9 88 (.bool true) rfl rfl (by kernel_rfl) (by kernel_rfl) (by kernel_rfl) rfl hH (fun w hw => by go_simp) ?_
  try simp only [Act.put, List.setIfInBounds_toArray, List.set_cons_zero, List.set_cons_succ]
  refine wpAnyH_ready (rs := [10]) (by kernel_rfl) (by simp) ?_
  refine AllReadyH.cons (o := _) rfl (fun K hK => ?_) AllReadyH.nil
  go_simp
  refine (awake11_k _ (HT.out.below H.out.bel)).mono ?_
  rintro e wc ⟨rfl, hb⟩
  replace H := Lib.hid (H.out.call hb)
  refine hK.out _ _ (⟨H.out.row 0 rfl, H.out.row 1 rfl⟩) (fun hN => ?_)
  clear hK K hH hb
  have hH := hN
  clear hN
  try simp only [Act.put, List.setIfInBounds_toArray, List.set_cons_zero, List.set_cons_succ]
  refine held_value 11 90 (.bool true) rfl rfl (by kernel_rfl) (by kernel_rfl) (by kernel_rfl) rfl hH (fun w hw => by go_simp) ?_
  try simp only [Act.put, List.setIfInBounds_toArray, List.set_cons_zero, List.set_cons_succ]
  refine held_value 12 6 (.bool true) rfl rfl (by kernel_rfl) (by kernel_rfl) (by kernel_rfl) rfl hH (fun w hw => by go_simp) ?_
  try simp only [Act.put, List.setIfInBounds_toArray, List.set_cons_zero, List.set_cons_succ]
  try simp only [Act.put]
  refine wpAnyH_done (by kernel_rfl) ?_ _
  refine NoPanic.normal ?_
  clear hH
  go_wp2_with fail
  go_ret
  exact ⟨rfl, H.out.bel⟩
theorem mults_walk {a a2 : Option Addr} {n c x n2 c2 y : Nat} {z : Int} (k s : Int) (w : World) (hT : Tp w) (hs : Sb w w.heap.size a n c x) (hy : Sb w w.heap.size a2 n2 c2 y) :
    Calls Tryz.prog 6 #[.agg #[.slice a n c, .int .i64 z], .agg #[.int .i64 k, .int .i64 s], .slice a2 n2 c2] w fun e w' => e = .returned (.bool true) ∧ Below w.heap.size w w' := by
  cases ok : okS n z with
  | false => exact mults_none w hT hs ok
  | true =>
    by_cases h1 : k < 1
    · exact mults_out1 w hT hs ok h1
    by_cases h2 : 5 < k
    · exact mults_out2 w hT hs ok (by omega) h2
    by_cases h3 : s < 1
    · exact mults_out3 w hT hs ok (by omega) (by omega) h3
    by_cases h4 : 20 < s
    · exact mults_out4 w hT hs ok (by omega) (by omega) (by omega) h4
    by_cases h5 : 20 < n2
    · exact mults_out5 w hT hs ok (by omega) (by omega) (by omega) (by omega) h5
    obtain ⟨k, rfl⟩ := Int.eq_ofNat_of_zero_le (show 0 ≤ k by omega)
    obtain ⟨s, rfl⟩ := Int.eq_ofNat_of_zero_le (show 0 ≤ s by omega)
    by_cases h6 : n2 = s
    · subst h6
      exact mults_k w hT hs hy ok (by omega) (by omega) (by omega) (by omega)
    · exact mults_size w hT hs ok (by omega) (by omega) (by omega) (by omega) (by omega) h6
end Go.Proofs.YtjcfoilfdmameaaGreatDoor
