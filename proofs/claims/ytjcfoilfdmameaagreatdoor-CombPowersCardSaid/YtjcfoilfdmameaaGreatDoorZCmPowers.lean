/-
  The walk of CombPowers. No statement is proved here: lemmas for the walks.
-/
import Derived.Test.YtjcfoilfdmameaaGreatDoorZCbAwake
import Derived.Test.YtjcfoilfdmameaaGreatDoorBuM
import Derived.Deep.CutRange
import Derived.Deep.LoopGhost
namespace Go.Proofs.YtjcfoilfdmameaaGreatDoor
open Go.RowKit

theorem refPower_s (p N : Nat) (hN : p / 8 + 1 = N) (w : World) (hp : p ≤ 10000) :
    Calls Tryz.prog 17 #[.int .i64 (p : Int)] w fun e w' => ∃ g, e = .returned (.slice (some ⟨g, 0, none⟩) N N) ∧ Sb w' w'.heap.size (some ⟨g, 0, none⟩) N N (2 ^ p) ∧ Below w.heap.size w w' := by
  subst hN
  exact (refPower_x p w hp).mono fun _ _ ⟨g, he, _, hr, hb⟩ => ⟨g, he, ⟨(blk_rowB hr).sl, pow_fits p⟩, hb⟩
set_option maxRecDepth 8000 in
set_option maxHeartbeats 3200000 in
theorem pows_none {a : Option Addr} {n c x : Nat} {z : Int} {m q : Int} (w : World) (hT : Tp w) (hs : Sb w w.heap.size a n c x) (ok : okS n z = false) :
    Calls Tryz.prog 4 #[.agg #[.slice a n c, .int .i64 z], .int .i64 m, .int .i64 q] w fun e w' => e = .returned (.bool true) ∧ Below w.heap.size w w' := by
  have HS := Lib.hid hs
  have OK := Lib.hid ok
  clear hs ok
  have HT := Lib.hid hT
  clear hT
  have H := Lib.hid (Ow.start w)
  go_enter Tryz.func4, Tryz.ntmps4
  go_wp2_with (first
    | ((fail_if_success have := g3); (with_reducible apply own_boxC H); (case hgd => exact rfl); (case ho => exact rfl); (case hx => exact rfl); intro w3 g3 H' _ _; replace H := H'; clear H'; go_simp)
    | ((with_reducible apply own_loadA rowSpK ?hC H); (case hgd => exact rfl); (case ho => exact rfl); (case hx => exact rfl); (case hi => first | exact at0 | exact at1 | exact at2 | exact at3 | exact at4 | exact at5 | exact at6 | exact at7 | exact at8 | exact at9); (case hC => exact rfl); intro _ _; go_simp)
    | ((fail_if_success have := mk1); (with_reducible refine (made11_any OK.out _ (HT.out.below H.out.bel) ((HS.out.below H.out.bel).more H.out.bel.size)).mono ?_); rintro e wc ⟨v1, r1, P, rfl, hv, hw, hb⟩; replace H := Lib.hid (H.out.call hb); have V1 := Lib.hid hv; have W1 := Lib.hid hw; have mk1 := trivial; clear hb hv hw)
    | ((fail_if_success have := g7); (with_reducible apply own_alloc nilPt H); (case hgd => exact rfl); (case ho => exact rfl); intro w7 g7 H' _ _; replace H := H'; clear H'; go_simp)
    | ((fail_if_success have := g8); (with_reducible apply own_alloc nilQt H); (case hgd => exact rfl); (case ho => exact rfl); intro w8 g8 H' _ _; replace H := H'; clear H'; go_simp)
    | ((with_reducible apply own_store rowPt H); (case hgd => exact rfl); (case ho => exact rfl); (case hx => exact rfl); (case hy => exact rfl); (case hi => first | exact at0 | exact at1 | exact at2 | exact at3 | exact at4 | exact at5 | exact at6 | exact at7 | exact at8 | exact at9); intro ws H' _ _; replace H := H'; clear H'; simp only [List.set_cons_zero, List.set_cons_succ] at H; go_simp)
    | ((with_reducible apply own_store rowQt H); (case hgd => exact rfl); (case ho => exact rfl); (case hx => exact rfl); (case hy => exact rfl); (case hi => first | exact at0 | exact at1 | exact at2 | exact at3 | exact at4 | exact at5 | exact at6 | exact at7 | exact at8 | exact at9); intro ws H' _ _; replace H := H'; clear H'; simp only [List.set_cons_zero] at H; go_simp)
    | ((with_reducible apply own_load rowPt H); (case hgd => exact rfl); (case ho => exact rfl); (case hx => exact rfl); (case hi => first | exact at0 | exact at1 | exact at2 | exact at3 | exact at4 | exact at5 | exact at6 | exact at7 | exact at8 | exact at9); intro _ _; go_simp)
    | ((with_reducible refine cd_skip ?hw ?h); (case hw => exact rfl); intro _ _; go_simp)
    | ((with_reducible refine (awake11_k _ (HT.out.below H.out.bel)).mono ?_); rintro e wc ⟨rfl, hb⟩; replace H := Lib.hid (H.out.call hb); clear hb))
  go_ret
  exact ⟨rfl, H.out.bel⟩
set_option maxRecDepth 8000 in
set_option maxHeartbeats 3200000 in
theorem pows_b1 {a : Option Addr} {n c x : Nat} {z : Int} {m q : Int} (w : World) (hT : Tp w) (hs : Sb w w.heap.size a n c x) (ok : okS n z = true) (h1 : 6 < m) (h2 : m ≤ 64) :
    Calls Tryz.prog 4 #[.agg #[.slice a n c, .int .i64 z], .int .i64 m, .int .i64 q] w fun e w' => e = .returned (.bool true) ∧ Below w.heap.size w w' := by
  have d0 : decide (6 < m) = true := by first | (simp; done) | (simp; omega)
  have d1 : decide (m ≤ 64) = true := by first | (simp; done) | (simp; omega)
  have HS := Lib.hid hs
  have OK := Lib.hid ok
  clear hs ok
  clear h1 h2
  have HT := Lib.hid hT
  clear hT
  have H := Lib.hid (Ow.start w)
  go_enter Tryz.func4, Tryz.ntmps4
  go_wp2_with (first
    | ((fail_if_success have := g3); (with_reducible apply own_boxC H); (case hgd => exact rfl); (case ho => exact rfl); (case hx => exact rfl); intro w3 g3 H' _ _; replace H := H'; clear H'; go_simp)
    | ((with_reducible apply own_loadA rowSpK ?hC H); (case hgd => exact rfl); (case ho => exact rfl); (case hx => exact rfl); (case hi => first | exact at0 | exact at1 | exact at2 | exact at3 | exact at4 | exact at5 | exact at6 | exact at7 | exact at8 | exact at9); (case hC => exact rfl); intro _ _; go_simp)
    | ((fail_if_success have := mk1); (with_reducible refine (made11_any OK.out _ (HT.out.below H.out.bel) ((HS.out.below H.out.bel).more H.out.bel.size)).mono ?_); rintro e wc ⟨v1, r1, P, rfl, hv, hw, hb⟩; replace H := Lib.hid (H.out.call hb); have V1 := Lib.hid hv; have W1 := Lib.hid hw; have mk1 := trivial; clear hb hv hw)
    | ((fail_if_success have := g7); (with_reducible apply own_alloc nilPt H); (case hgd => exact rfl); (case ho => exact rfl); intro w7 g7 H' _ _; replace H := H'; clear H'; go_simp)
    | ((fail_if_success have := g8); (with_reducible apply own_alloc nilQt H); (case hgd => exact rfl); (case ho => exact rfl); intro w8 g8 H' _ _; replace H := H'; clear H'; go_simp)
    | ((with_reducible apply own_store rowPt H); (case hgd => exact rfl); (case ho => exact rfl); (case hx => exact rfl); (case hy => exact rfl); (case hi => first | exact at0 | exact at1 | exact at2 | exact at3 | exact at4 | exact at5 | exact at6 | exact at7 | exact at8 | exact at9); intro ws H' _ _; replace H := H'; clear H'; simp only [List.set_cons_zero, List.set_cons_succ] at H; go_simp)
    | ((with_reducible apply own_store rowQt H); (case hgd => exact rfl); (case ho => exact rfl); (case hx => exact rfl); (case hy => exact rfl); (case hi => first | exact at0 | exact at1 | exact at2 | exact at3 | exact at4 | exact at5 | exact at6 | exact at7 | exact at8 | exact at9); intro ws H' _ _; replace H := H'; clear H'; simp only [List.set_cons_zero] at H; go_simp)
    | ((with_reducible apply own_load rowPt H); (case hgd => exact rfl); (case ho => exact rfl); (case hx => exact rfl); (case hi => first | exact at0 | exact at1 | exact at2 | exact at3 | exact at4 | exact at5 | exact at6 | exact at7 | exact at8 | exact at9); intro _ _; go_simp)
    | ((with_reducible refine cd_skip ?hw ?h); (case hw => exact rfl); intro _ _; go_simp)
    | ((with_reducible refine (awake11_k _ (HT.out.below H.out.bel)).mono ?_); rintro e wc ⟨rfl, hb⟩; replace H := Lib.hid (H.out.call hb); clear hb))
  go_ret
  exact ⟨rfl, H.out.bel⟩
set_option maxRecDepth 8000 in
set_option maxHeartbeats 3200000 in
theorem pows_b2 {a : Option Addr} {n c x : Nat} {z : Int} {m q : Int} (w : World) (hT : Tp w) (hs : Sb w w.heap.size a n c x) (ok : okS n z = true) (h1 : m ≤ 6) (h2 : 40 < q) (h3 : q ≤ 512) :
    Calls Tryz.prog 4 #[.agg #[.slice a n c, .int .i64 z], .int .i64 m, .int .i64 q] w fun e w' => e = .returned (.bool true) ∧ Below w.heap.size w w' := by
  have d0 : decide (6 < m) = false := by first | (simp; done) | (simp; omega)
  have d1 : decide (40 < q) = true := by first | (simp; done) | (simp; omega)
  have d2 : decide (q ≤ 512) = true := by first | (simp; done) | (simp; omega)
  have HS := Lib.hid hs
  have OK := Lib.hid ok
  clear hs ok
  clear h1 h2 h3
  have HT := Lib.hid hT
  clear hT
  have H := Lib.hid (Ow.start w)
  go_enter Tryz.func4, Tryz.ntmps4
  go_wp2_with (first
    | ((fail_if_success have := g3); (with_reducible apply own_boxC H); (case hgd => exact rfl); (case ho => exact rfl); (case hx => exact rfl); intro w3 g3 H' _ _; replace H := H'; clear H'; go_simp)
    | ((with_reducible apply own_loadA rowSpK ?hC H); (case hgd => exact rfl); (case ho => exact rfl); (case hx => exact rfl); (case hi => first | exact at0 | exact at1 | exact at2 | exact at3 | exact at4 | exact at5 | exact at6 | exact at7 | exact at8 | exact at9); (case hC => exact rfl); intro _ _; go_simp)
    | ((fail_if_success have := mk1); (with_reducible refine (made11_any OK.out _ (HT.out.below H.out.bel) ((HS.out.below H.out.bel).more H.out.bel.size)).mono ?_); rintro e wc ⟨v1, r1, P, rfl, hv, hw, hb⟩; replace H := Lib.hid (H.out.call hb); have V1 := Lib.hid hv; have W1 := Lib.hid hw; have mk1 := trivial; clear hb hv hw)
    | ((fail_if_success have := g7); (with_reducible apply own_alloc nilPt H); (case hgd => exact rfl); (case ho => exact rfl); intro w7 g7 H' _ _; replace H := H'; clear H'; go_simp)
    | ((fail_if_success have := g8); (with_reducible apply own_alloc nilQt H); (case hgd => exact rfl); (case ho => exact rfl); intro w8 g8 H' _ _; replace H := H'; clear H'; go_simp)
    | ((with_reducible apply own_store rowPt H); (case hgd => exact rfl); (case ho => exact rfl); (case hx => exact rfl); (case hy => exact rfl); (case hi => first | exact at0 | exact at1 | exact at2 | exact at3 | exact at4 | exact at5 | exact at6 | exact at7 | exact at8 | exact at9); intro ws H' _ _; replace H := H'; clear H'; simp only [List.set_cons_zero, List.set_cons_succ] at H; go_simp)
    | ((with_reducible apply own_store rowQt H); (case hgd => exact rfl); (case ho => exact rfl); (case hx => exact rfl); (case hy => exact rfl); (case hi => first | exact at0 | exact at1 | exact at2 | exact at3 | exact at4 | exact at5 | exact at6 | exact at7 | exact at8 | exact at9); intro ws H' _ _; replace H := H'; clear H'; simp only [List.set_cons_zero] at H; go_simp)
    | ((with_reducible apply own_load rowPt H); (case hgd => exact rfl); (case ho => exact rfl); (case hx => exact rfl); (case hi => first | exact at0 | exact at1 | exact at2 | exact at3 | exact at4 | exact at5 | exact at6 | exact at7 | exact at8 | exact at9); intro _ _; go_simp)
    | ((with_reducible refine cd_skip ?hw ?h); (case hw => exact rfl); intro _ _; go_simp)
    | ((with_reducible refine (awake11_k _ (HT.out.below H.out.bel)).mono ?_); rintro e wc ⟨rfl, hb⟩; replace H := Lib.hid (H.out.call hb); clear hb))
  go_ret
  exact ⟨rfl, H.out.bel⟩
set_option maxRecDepth 8000 in
set_option maxHeartbeats 3200000 in
theorem pows_b3 {a : Option Addr} {n c x : Nat} {z : Int} {m q : Int} (w : World) (hT : Tp w) (hs : Sb w w.heap.size a n c x) (ok : okS n z = true) (h1 : 64 < m) (h2 : 40 < q) (h3 : q ≤ 512) :
    Calls Tryz.prog 4 #[.agg #[.slice a n c, .int .i64 z], .int .i64 m, .int .i64 q] w fun e w' => e = .returned (.bool true) ∧ Below w.heap.size w w' := by
  have d0 : decide (6 < m) = true := by first | (simp; done) | (simp; omega)
  have d1 : decide (m ≤ 64) = false := by first | (simp; done) | (simp; omega)
  have d2 : decide (40 < q) = true := by first | (simp; done) | (simp; omega)
  have d3 : decide (q ≤ 512) = true := by first | (simp; done) | (simp; omega)
  have HS := Lib.hid hs
  have OK := Lib.hid ok
  clear hs ok
  clear h1 h2 h3
  have HT := Lib.hid hT
  clear hT
  have H := Lib.hid (Ow.start w)
  go_enter Tryz.func4, Tryz.ntmps4
  go_wp2_with (first
    | ((fail_if_success have := g3); (with_reducible apply own_boxC H); (case hgd => exact rfl); (case ho => exact rfl); (case hx => exact rfl); intro w3 g3 H' _ _; replace H := H'; clear H'; go_simp)
    | ((with_reducible apply own_loadA rowSpK ?hC H); (case hgd => exact rfl); (case ho => exact rfl); (case hx => exact rfl); (case hi => first | exact at0 | exact at1 | exact at2 | exact at3 | exact at4 | exact at5 | exact at6 | exact at7 | exact at8 | exact at9); (case hC => exact rfl); intro _ _; go_simp)
    | ((fail_if_success have := mk1); (with_reducible refine (made11_any OK.out _ (HT.out.below H.out.bel) ((HS.out.below H.out.bel).more H.out.bel.size)).mono ?_); rintro e wc ⟨v1, r1, P, rfl, hv, hw, hb⟩; replace H := Lib.hid (H.out.call hb); have V1 := Lib.hid hv; have W1 := Lib.hid hw; have mk1 := trivial; clear hb hv hw)
    | ((fail_if_success have := g7); (with_reducible apply own_alloc nilPt H); (case hgd => exact rfl); (case ho => exact rfl); intro w7 g7 H' _ _; replace H := H'; clear H'; go_simp)
    | ((fail_if_success have := g8); (with_reducible apply own_alloc nilQt H); (case hgd => exact rfl); (case ho => exact rfl); intro w8 g8 H' _ _; replace H := H'; clear H'; go_simp)
    | ((with_reducible apply own_store rowPt H); (case hgd => exact rfl); (case ho => exact rfl); (case hx => exact rfl); (case hy => exact rfl); (case hi => first | exact at0 | exact at1 | exact at2 | exact at3 | exact at4 | exact at5 | exact at6 | exact at7 | exact at8 | exact at9); intro ws H' _ _; replace H := H'; clear H'; simp only [List.set_cons_zero, List.set_cons_succ] at H; go_simp)
    | ((with_reducible apply own_store rowQt H); (case hgd => exact rfl); (case ho => exact rfl); (case hx => exact rfl); (case hy => exact rfl); (case hi => first | exact at0 | exact at1 | exact at2 | exact at3 | exact at4 | exact at5 | exact at6 | exact at7 | exact at8 | exact at9); intro ws H' _ _; replace H := H'; clear H'; simp only [List.set_cons_zero] at H; go_simp)
    | ((with_reducible apply own_load rowPt H); (case hgd => exact rfl); (case ho => exact rfl); (case hx => exact rfl); (case hi => first | exact at0 | exact at1 | exact at2 | exact at3 | exact at4 | exact at5 | exact at6 | exact at7 | exact at8 | exact at9); intro _ _; go_simp)
    | ((with_reducible refine cd_skip ?hw ?h); (case hw => exact rfl); intro _ _; go_simp)
    | ((with_reducible refine (awake11_k _ (HT.out.below H.out.bel)).mono ?_); rintro e wc ⟨rfl, hb⟩; replace H := Lib.hid (H.out.call hb); clear hb))
  go_ret
  exact ⟨rfl, H.out.bel⟩
set_option maxRecDepth 8000 in
set_option maxHeartbeats 3200000 in
theorem pows_enn {a : Option Addr} {n c x : Nat} {z : Int} {m q : Int} (w : World) (hT : Tp w) (hs : Sb w w.heap.size a n c x) (ok : okS n z = true) (h1 : m < 0) (h2 : q < 0) :
    Calls Tryz.prog 4 #[.agg #[.slice a n c, .int .i64 z], .int .i64 m, .int .i64 q] w fun e w' => e = .returned (.bool true) ∧ Below w.heap.size w w' := by
  have d0 : decide (6 < m) = false := by first | (simp; done) | (simp; omega)
  have d1 : decide (40 < q) = false := by first | (simp; done) | (simp; omega)
  have d2 : decide (m < 0) = true := by first | (simp; done) | (simp; omega)
  have d3 : decide (q < 0) = true := by first | (simp; done) | (simp; omega)
  have HS := Lib.hid hs
  have OK := Lib.hid ok
  clear hs ok
  have HB := Lib.hid (show m < 0 ∨ 64 < m ∨ q < 0 ∨ 512 < q by omega)
  clear h1 h2
  have HT := Lib.hid hT
  clear hT
  have H := Lib.hid (Ow.start w)
  go_enter Tryz.func4, Tryz.ntmps4
  go_wp2_with (first
    | ((fail_if_success have := g3); (with_reducible apply own_boxC H); (case hgd => exact rfl); (case ho => exact rfl); (case hx => exact rfl); intro w3 g3 H' _ _; replace H := H'; clear H'; go_simp)
    | ((with_reducible apply own_loadA rowSpK ?hC H); (case hgd => exact rfl); (case ho => exact rfl); (case hx => exact rfl); (case hi => first | exact at0 | exact at1 | exact at2 | exact at3 | exact at4 | exact at5 | exact at6 | exact at7 | exact at8 | exact at9); (case hC => exact rfl); intro _ _; go_simp)
    | ((fail_if_success have := mk1); (with_reducible refine (made11_any OK.out _ (HT.out.below H.out.bel) ((HS.out.below H.out.bel).more H.out.bel.size)).mono ?_); rintro e wc ⟨v1, r1, P, rfl, hv, hw, hb⟩; replace H := Lib.hid (H.out.call hb); have V1 := Lib.hid hv; have W1 := Lib.hid hw; have mk1 := trivial; clear hb hv hw)
    | ((fail_if_success have := g7); (with_reducible apply own_alloc nilPt H); (case hgd => exact rfl); (case ho => exact rfl); intro w7 g7 H' _ _; replace H := H'; clear H'; go_simp)
    | ((fail_if_success have := g8); (with_reducible apply own_alloc nilQt H); (case hgd => exact rfl); (case ho => exact rfl); intro w8 g8 H' _ _; replace H := H'; clear H'; go_simp)
    | ((with_reducible apply own_store rowPt H); (case hgd => exact rfl); (case ho => exact rfl); (case hx => exact rfl); (case hy => exact rfl); (case hi => first | exact at0 | exact at1 | exact at2 | exact at3 | exact at4 | exact at5 | exact at6 | exact at7 | exact at8 | exact at9); intro ws H' _ _; replace H := H'; clear H'; simp only [List.set_cons_zero, List.set_cons_succ] at H; go_simp)
    | ((with_reducible apply own_store rowQt H); (case hgd => exact rfl); (case ho => exact rfl); (case hx => exact rfl); (case hy => exact rfl); (case hi => first | exact at0 | exact at1 | exact at2 | exact at3 | exact at4 | exact at5 | exact at6 | exact at7 | exact at8 | exact at9); intro ws H' _ _; replace H := H'; clear H'; simp only [List.set_cons_zero] at H; go_simp)
    | ((with_reducible apply own_load rowPt H); (case hgd => exact rfl); (case ho => exact rfl); (case hx => exact rfl); (case hi => first | exact at0 | exact at1 | exact at2 | exact at3 | exact at4 | exact at5 | exact at6 | exact at7 | exact at8 | exact at9); intro _ _; go_simp)
    | ((with_reducible refine cd_skip ?hw ?h); (case hw => exact rfl); intro _ _; go_simp)
    | ((with_reducible refine (awake11_k _ (HT.out.below H.out.bel)).mono ?_); rintro e wc ⟨rfl, hb⟩; replace H := Lib.hid (H.out.call hb); clear hb)
    | ((fail_if_success have := mk2); (with_reducible refine (powers_bad _ (HT.out.below H.out.bel) V1.out m q HB.out).mono ?_); rintro e wc ⟨ad, cd, rfl, hb⟩; replace H := Lib.hid (H.out.call hb); have mk2 := trivial; clear hb))
  go_ret
  exact ⟨rfl, H.out.bel⟩
set_option maxRecDepth 8000 in
set_option maxHeartbeats 3200000 in
theorem pows_enm {a : Option Addr} {n c x : Nat} {z : Int} {m q : Int} (w : World) (hT : Tp w) (hs : Sb w w.heap.size a n c x) (ok : okS n z = true) (h1 : m < 0) (h3 : 0 ≤ q) (h2 : q ≤ 40) :
    Calls Tryz.prog 4 #[.agg #[.slice a n c, .int .i64 z], .int .i64 m, .int .i64 q] w fun e w' => e = .returned (.bool true) ∧ Below w.heap.size w w' := by
  have d0 : decide (6 < m) = false := by first | (simp; done) | (simp; omega)
  have d1 : decide (40 < q) = false := by first | (simp; done) | (simp; omega)
  have d2 : decide (m < 0) = true := by first | (simp; done) | (simp; omega)
  have d3 : decide (q < 0) = false := by first | (simp; done) | (simp; omega)
  have d4 : decide (512 < q) = false := by first | (simp; done) | (simp; omega)
  have HS := Lib.hid hs
  have OK := Lib.hid ok
  clear hs ok
  have HB := Lib.hid (show m < 0 ∨ 64 < m ∨ q < 0 ∨ 512 < q by omega)
  clear h1 h3 h2
  have HT := Lib.hid hT
  clear hT
  have H := Lib.hid (Ow.start w)
  go_enter Tryz.func4, Tryz.ntmps4
  go_wp2_with (first
    | ((fail_if_success have := g3); (with_reducible apply own_boxC H); (case hgd => exact rfl); (case ho => exact rfl); (case hx => exact rfl); intro w3 g3 H' _ _; replace H := H'; clear H'; go_simp)
    | ((with_reducible apply own_loadA rowSpK ?hC H); (case hgd => exact rfl); (case ho => exact rfl); (case hx => exact rfl); (case hi => first | exact at0 | exact at1 | exact at2 | exact at3 | exact at4 | exact at5 | exact at6 | exact at7 | exact at8 | exact at9); (case hC => exact rfl); intro _ _; go_simp)
    | ((fail_if_success have := mk1); (with_reducible refine (made11_any OK.out _ (HT.out.below H.out.bel) ((HS.out.below H.out.bel).more H.out.bel.size)).mono ?_); rintro e wc ⟨v1, r1, P, rfl, hv, hw, hb⟩; replace H := Lib.hid (H.out.call hb); have V1 := Lib.hid hv; have W1 := Lib.hid hw; have mk1 := trivial; clear hb hv hw)
    | ((fail_if_success have := g7); (with_reducible apply own_alloc nilPt H); (case hgd => exact rfl); (case ho => exact rfl); intro w7 g7 H' _ _; replace H := H'; clear H'; go_simp)
    | ((fail_if_success have := g8); (with_reducible apply own_alloc nilQt H); (case hgd => exact rfl); (case ho => exact rfl); intro w8 g8 H' _ _; replace H := H'; clear H'; go_simp)
    | ((with_reducible apply own_store rowPt H); (case hgd => exact rfl); (case ho => exact rfl); (case hx => exact rfl); (case hy => exact rfl); (case hi => first | exact at0 | exact at1 | exact at2 | exact at3 | exact at4 | exact at5 | exact at6 | exact at7 | exact at8 | exact at9); intro ws H' _ _; replace H := H'; clear H'; simp only [List.set_cons_zero, List.set_cons_succ] at H; go_simp)
    | ((with_reducible apply own_store rowQt H); (case hgd => exact rfl); (case ho => exact rfl); (case hx => exact rfl); (case hy => exact rfl); (case hi => first | exact at0 | exact at1 | exact at2 | exact at3 | exact at4 | exact at5 | exact at6 | exact at7 | exact at8 | exact at9); intro ws H' _ _; replace H := H'; clear H'; simp only [List.set_cons_zero] at H; go_simp)
    | ((with_reducible apply own_load rowPt H); (case hgd => exact rfl); (case ho => exact rfl); (case hx => exact rfl); (case hi => first | exact at0 | exact at1 | exact at2 | exact at3 | exact at4 | exact at5 | exact at6 | exact at7 | exact at8 | exact at9); intro _ _; go_simp)
    | ((with_reducible refine cd_skip ?hw ?h); (case hw => exact rfl); intro _ _; go_simp)
    | ((with_reducible refine (awake11_k _ (HT.out.below H.out.bel)).mono ?_); rintro e wc ⟨rfl, hb⟩; replace H := Lib.hid (H.out.call hb); clear hb)
    | ((fail_if_success have := mk2); (with_reducible refine (powers_bad _ (HT.out.below H.out.bel) V1.out m q HB.out).mono ?_); rintro e wc ⟨ad, cd, rfl, hb⟩; replace H := Lib.hid (H.out.call hb); have mk2 := trivial; clear hb))
  go_ret
  exact ⟨rfl, H.out.bel⟩
set_option maxRecDepth 8000 in
set_option maxHeartbeats 3200000 in
theorem pows_enb {a : Option Addr} {n c x : Nat} {z : Int} {m q : Int} (w : World) (hT : Tp w) (hs : Sb w w.heap.size a n c x) (ok : okS n z = true) (h1 : m < 0) (h2 : 512 < q) :
    Calls Tryz.prog 4 #[.agg #[.slice a n c, .int .i64 z], .int .i64 m, .int .i64 q] w fun e w' => e = .returned (.bool true) ∧ Below w.heap.size w w' := by
  have d0 : decide (6 < m) = false := by first | (simp; done) | (simp; omega)
  have d1 : decide (40 < q) = true := by first | (simp; done) | (simp; omega)
  have d2 : decide (q ≤ 512) = false := by first | (simp; done) | (simp; omega)
  have d3 : decide (m < 0) = true := by first | (simp; done) | (simp; omega)
  have d4 : decide (q < 0) = false := by first | (simp; done) | (simp; omega)
  have d5 : decide (512 < q) = true := by first | (simp; done) | (simp; omega)
  have HS := Lib.hid hs
  have OK := Lib.hid ok
  clear hs ok
  have HB := Lib.hid (show m < 0 ∨ 64 < m ∨ q < 0 ∨ 512 < q by omega)
  clear h1 h2
  have HT := Lib.hid hT
  clear hT
  have H := Lib.hid (Ow.start w)
  go_enter Tryz.func4, Tryz.ntmps4
  go_wp2_with (first
    | ((fail_if_success have := g3); (with_reducible apply own_boxC H); (case hgd => exact rfl); (case ho => exact rfl); (case hx => exact rfl); intro w3 g3 H' _ _; replace H := H'; clear H'; go_simp)
    | ((with_reducible apply own_loadA rowSpK ?hC H); (case hgd => exact rfl); (case ho => exact rfl); (case hx => exact rfl); (case hi => first | exact at0 | exact at1 | exact at2 | exact at3 | exact at4 | exact at5 | exact at6 | exact at7 | exact at8 | exact at9); (case hC => exact rfl); intro _ _; go_simp)
    | ((fail_if_success have := mk1); (with_reducible refine (made11_any OK.out _ (HT.out.below H.out.bel) ((HS.out.below H.out.bel).more H.out.bel.size)).mono ?_); rintro e wc ⟨v1, r1, P, rfl, hv, hw, hb⟩; replace H := Lib.hid (H.out.call hb); have V1 := Lib.hid hv; have W1 := Lib.hid hw; have mk1 := trivial; clear hb hv hw)
    | ((fail_if_success have := g7); (with_reducible apply own_alloc nilPt H); (case hgd => exact rfl); (case ho => exact rfl); intro w7 g7 H' _ _; replace H := H'; clear H'; go_simp)
    | ((fail_if_success have := g8); (with_reducible apply own_alloc nilQt H); (case hgd => exact rfl); (case ho => exact rfl); intro w8 g8 H' _ _; replace H := H'; clear H'; go_simp)
    | ((with_reducible apply own_store rowPt H); (case hgd => exact rfl); (case ho => exact rfl); (case hx => exact rfl); (case hy => exact rfl); (case hi => first | exact at0 | exact at1 | exact at2 | exact at3 | exact at4 | exact at5 | exact at6 | exact at7 | exact at8 | exact at9); intro ws H' _ _; replace H := H'; clear H'; simp only [List.set_cons_zero, List.set_cons_succ] at H; go_simp)
    | ((with_reducible apply own_store rowQt H); (case hgd => exact rfl); (case ho => exact rfl); (case hx => exact rfl); (case hy => exact rfl); (case hi => first | exact at0 | exact at1 | exact at2 | exact at3 | exact at4 | exact at5 | exact at6 | exact at7 | exact at8 | exact at9); intro ws H' _ _; replace H := H'; clear H'; simp only [List.set_cons_zero] at H; go_simp)
    | ((with_reducible apply own_load rowPt H); (case hgd => exact rfl); (case ho => exact rfl); (case hx => exact rfl); (case hi => first | exact at0 | exact at1 | exact at2 | exact at3 | exact at4 | exact at5 | exact at6 | exact at7 | exact at8 | exact at9); intro _ _; go_simp)
    | ((with_reducible refine cd_skip ?hw ?h); (case hw => exact rfl); intro _ _; go_simp)
    | ((with_reducible refine (awake11_k _ (HT.out.below H.out.bel)).mono ?_); rintro e wc ⟨rfl, hb⟩; replace H := Lib.hid (H.out.call hb); clear hb)
    | ((fail_if_success have := mk2); (with_reducible refine (powers_bad _ (HT.out.below H.out.bel) V1.out m q HB.out).mono ?_); rintro e wc ⟨ad, cd, rfl, hb⟩; replace H := Lib.hid (H.out.call hb); have mk2 := trivial; clear hb))
  go_ret
  exact ⟨rfl, H.out.bel⟩
set_option maxRecDepth 8000 in
set_option maxHeartbeats 3200000 in
theorem pows_emn {a : Option Addr} {n c x : Nat} {z : Int} {m q : Int} (w : World) (hT : Tp w) (hs : Sb w w.heap.size a n c x) (ok : okS n z = true) (h0 : 0 ≤ m) (h1 : m ≤ 6) (h2 : q < 0) :
    Calls Tryz.prog 4 #[.agg #[.slice a n c, .int .i64 z], .int .i64 m, .int .i64 q] w fun e w' => e = .returned (.bool true) ∧ Below w.heap.size w w' := by
  have d0 : decide (6 < m) = false := by first | (simp; done) | (simp; omega)
  have d1 : decide (40 < q) = false := by first | (simp; done) | (simp; omega)
  have d2 : decide (m < 0) = false := by first | (simp; done) | (simp; omega)
  have d3 : decide (64 < m) = false := by first | (simp; done) | (simp; omega)
  have d4 : decide (q < 0) = true := by first | (simp; done) | (simp; omega)
  have HS := Lib.hid hs
  have OK := Lib.hid ok
  clear hs ok
  have HB := Lib.hid (show m < 0 ∨ 64 < m ∨ q < 0 ∨ 512 < q by omega)
  clear h0 h1 h2
  have HT := Lib.hid hT
  clear hT
  have H := Lib.hid (Ow.start w)
  go_enter Tryz.func4, Tryz.ntmps4
  go_wp2_with (first
    | ((fail_if_success have := g3); (with_reducible apply own_boxC H); (case hgd => exact rfl); (case ho => exact rfl); (case hx => exact rfl); intro w3 g3 H' _ _; replace H := H'; clear H'; go_simp)
    | ((with_reducible apply own_loadA rowSpK ?hC H); (case hgd => exact rfl); (case ho => exact rfl); (case hx => exact rfl); (case hi => first | exact at0 | exact at1 | exact at2 | exact at3 | exact at4 | exact at5 | exact at6 | exact at7 | exact at8 | exact at9); (case hC => exact rfl); intro _ _; go_simp)
    | ((fail_if_success have := mk1); (with_reducible refine (made11_any OK.out _ (HT.out.below H.out.bel) ((HS.out.below H.out.bel).more H.out.bel.size)).mono ?_); rintro e wc ⟨v1, r1, P, rfl, hv, hw, hb⟩; replace H := Lib.hid (H.out.call hb); have V1 := Lib.hid hv; have W1 := Lib.hid hw; have mk1 := trivial; clear hb hv hw)
    | ((fail_if_success have := g7); (with_reducible apply own_alloc nilPt H); (case hgd => exact rfl); (case ho => exact rfl); intro w7 g7 H' _ _; replace H := H'; clear H'; go_simp)
    | ((fail_if_success have := g8); (with_reducible apply own_alloc nilQt H); (case hgd => exact rfl); (case ho => exact rfl); intro w8 g8 H' _ _; replace H := H'; clear H'; go_simp)
    | ((with_reducible apply own_store rowPt H); (case hgd => exact rfl); (case ho => exact rfl); (case hx => exact rfl); (case hy => exact rfl); (case hi => first | exact at0 | exact at1 | exact at2 | exact at3 | exact at4 | exact at5 | exact at6 | exact at7 | exact at8 | exact at9); intro ws H' _ _; replace H := H'; clear H'; simp only [List.set_cons_zero, List.set_cons_succ] at H; go_simp)
    | ((with_reducible apply own_store rowQt H); (case hgd => exact rfl); (case ho => exact rfl); (case hx => exact rfl); (case hy => exact rfl); (case hi => first | exact at0 | exact at1 | exact at2 | exact at3 | exact at4 | exact at5 | exact at6 | exact at7 | exact at8 | exact at9); intro ws H' _ _; replace H := H'; clear H'; simp only [List.set_cons_zero] at H; go_simp)
    | ((with_reducible apply own_load rowPt H); (case hgd => exact rfl); (case ho => exact rfl); (case hx => exact rfl); (case hi => first | exact at0 | exact at1 | exact at2 | exact at3 | exact at4 | exact at5 | exact at6 | exact at7 | exact at8 | exact at9); intro _ _; go_simp)
    | ((with_reducible refine cd_skip ?hw ?h); (case hw => exact rfl); intro _ _; go_simp)
    | ((with_reducible refine (awake11_k _ (HT.out.below H.out.bel)).mono ?_); rintro e wc ⟨rfl, hb⟩; replace H := Lib.hid (H.out.call hb); clear hb)
    | ((fail_if_success have := mk2); (with_reducible refine (powers_bad _ (HT.out.below H.out.bel) V1.out m q HB.out).mono ?_); rintro e wc ⟨ad, cd, rfl, hb⟩; replace H := Lib.hid (H.out.call hb); have mk2 := trivial; clear hb))
  go_ret
  exact ⟨rfl, H.out.bel⟩
set_option maxRecDepth 8000 in
set_option maxHeartbeats 3200000 in
theorem pows_emb {a : Option Addr} {n c x : Nat} {z : Int} {m q : Int} (w : World) (hT : Tp w) (hs : Sb w w.heap.size a n c x) (ok : okS n z = true) (h0 : 0 ≤ m) (h1 : m ≤ 6) (h2 : 512 < q) :
    Calls Tryz.prog 4 #[.agg #[.slice a n c, .int .i64 z], .int .i64 m, .int .i64 q] w fun e w' => e = .returned (.bool true) ∧ Below w.heap.size w w' := by
  have d0 : decide (6 < m) = false := by first | (simp; done) | (simp; omega)
  have d1 : decide (40 < q) = true := by first | (simp; done) | (simp; omega)
  have d2 : decide (q ≤ 512) = false := by first | (simp; done) | (simp; omega)
  have d3 : decide (m < 0) = false := by first | (simp; done) | (simp; omega)
  have d4 : decide (64 < m) = false := by first | (simp; done) | (simp; omega)
  have d5 : decide (q < 0) = false := by first | (simp; done) | (simp; omega)
  have d6 : decide (512 < q) = true := by first | (simp; done) | (simp; omega)
  have HS := Lib.hid hs
  have OK := Lib.hid ok
  clear hs ok
  have HB := Lib.hid (show m < 0 ∨ 64 < m ∨ q < 0 ∨ 512 < q by omega)
  clear h0 h1 h2
  have HT := Lib.hid hT
  clear hT
  have H := Lib.hid (Ow.start w)
  go_enter Tryz.func4, Tryz.ntmps4
  go_wp2_with (first
    | ((fail_if_success have := g3); (with_reducible apply own_boxC H); (case hgd => exact rfl); (case ho => exact rfl); (case hx => exact rfl); intro w3 g3 H' _ _; replace H := H'; clear H'; go_simp)
    | ((with_reducible apply own_loadA rowSpK ?hC H); (case hgd => exact rfl); (case ho => exact rfl); (case hx => exact rfl); (case hi => first | exact at0 | exact at1 | exact at2 | exact at3 | exact at4 | exact at5 | exact at6 | exact at7 | exact at8 | exact at9); (case hC => exact rfl); intro _ _; go_simp)
    | ((fail_if_success have := mk1); (with_reducible refine (made11_any OK.out _ (HT.out.below H.out.bel) ((HS.out.below H.out.bel).more H.out.bel.size)).mono ?_); rintro e wc ⟨v1, r1, P, rfl, hv, hw, hb⟩; replace H := Lib.hid (H.out.call hb); have V1 := Lib.hid hv; have W1 := Lib.hid hw; have mk1 := trivial; clear hb hv hw)
    | ((fail_if_success have := g7); (with_reducible apply own_alloc nilPt H); (case hgd => exact rfl); (case ho => exact rfl); intro w7 g7 H' _ _; replace H := H'; clear H'; go_simp)
    | ((fail_if_success have := g8); (with_reducible apply own_alloc nilQt H); (case hgd => exact rfl); (case ho => exact rfl); intro w8 g8 H' _ _; replace H := H'; clear H'; go_simp)
    | ((with_reducible apply own_store rowPt H); (case hgd => exact rfl); (case ho => exact rfl); (case hx => exact rfl); (case hy => exact rfl); (case hi => first | exact at0 | exact at1 | exact at2 | exact at3 | exact at4 | exact at5 | exact at6 | exact at7 | exact at8 | exact at9); intro ws H' _ _; replace H := H'; clear H'; simp only [List.set_cons_zero, List.set_cons_succ] at H; go_simp)
    | ((with_reducible apply own_store rowQt H); (case hgd => exact rfl); (case ho => exact rfl); (case hx => exact rfl); (case hy => exact rfl); (case hi => first | exact at0 | exact at1 | exact at2 | exact at3 | exact at4 | exact at5 | exact at6 | exact at7 | exact at8 | exact at9); intro ws H' _ _; replace H := H'; clear H'; simp only [List.set_cons_zero] at H; go_simp)
    | ((with_reducible apply own_load rowPt H); (case hgd => exact rfl); (case ho => exact rfl); (case hx => exact rfl); (case hi => first | exact at0 | exact at1 | exact at2 | exact at3 | exact at4 | exact at5 | exact at6 | exact at7 | exact at8 | exact at9); intro _ _; go_simp)
    | ((with_reducible refine cd_skip ?hw ?h); (case hw => exact rfl); intro _ _; go_simp)
    | ((with_reducible refine (awake11_k _ (HT.out.below H.out.bel)).mono ?_); rintro e wc ⟨rfl, hb⟩; replace H := Lib.hid (H.out.call hb); clear hb)
    | ((fail_if_success have := mk2); (with_reducible refine (powers_bad _ (HT.out.below H.out.bel) V1.out m q HB.out).mono ?_); rintro e wc ⟨ad, cd, rfl, hb⟩; replace H := Lib.hid (H.out.call hb); have mk2 := trivial; clear hb))
  go_ret
  exact ⟨rfl, H.out.bel⟩
set_option maxRecDepth 8000 in
set_option maxHeartbeats 3200000 in
theorem pows_ebn {a : Option Addr} {n c x : Nat} {z : Int} {m q : Int} (w : World) (hT : Tp w) (hs : Sb w w.heap.size a n c x) (ok : okS n z = true) (h1 : 64 < m) (h2 : q < 0) :
    Calls Tryz.prog 4 #[.agg #[.slice a n c, .int .i64 z], .int .i64 m, .int .i64 q] w fun e w' => e = .returned (.bool true) ∧ Below w.heap.size w w' := by
  have d0 : decide (6 < m) = true := by first | (simp; done) | (simp; omega)
  have d1 : decide (m ≤ 64) = false := by first | (simp; done) | (simp; omega)
  have d2 : decide (40 < q) = false := by first | (simp; done) | (simp; omega)
  have d3 : decide (m < 0) = false := by first | (simp; done) | (simp; omega)
  have d4 : decide (64 < m) = true := by first | (simp; done) | (simp; omega)
  have d5 : decide (q < 0) = true := by first | (simp; done) | (simp; omega)
  have HS := Lib.hid hs
  have OK := Lib.hid ok
  clear hs ok
  have HB := Lib.hid (show m < 0 ∨ 64 < m ∨ q < 0 ∨ 512 < q by omega)
  clear h1 h2
  have HT := Lib.hid hT
  clear hT
  have H := Lib.hid (Ow.start w)
  go_enter Tryz.func4, Tryz.ntmps4
  go_wp2_with (first
    | ((fail_if_success have := g3); (with_reducible apply own_boxC H); (case hgd => exact rfl); (case ho => exact rfl); (case hx => exact rfl); intro w3 g3 H' _ _; replace H := H'; clear H'; go_simp)
    | ((with_reducible apply own_loadA rowSpK ?hC H); (case hgd => exact rfl); (case ho => exact rfl); (case hx => exact rfl); (case hi => first | exact at0 | exact at1 | exact at2 | exact at3 | exact at4 | exact at5 | exact at6 | exact at7 | exact at8 | exact at9); (case hC => exact rfl); intro _ _; go_simp)
    | ((fail_if_success have := mk1); (with_reducible refine (made11_any OK.out _ (HT.out.below H.out.bel) ((HS.out.below H.out.bel).more H.out.bel.size)).mono ?_); rintro e wc ⟨v1, r1, P, rfl, hv, hw, hb⟩; replace H := Lib.hid (H.out.call hb); have V1 := Lib.hid hv; have W1 := Lib.hid hw; have mk1 := trivial; clear hb hv hw)
    | ((fail_if_success have := g7); (with_reducible apply own_alloc nilPt H); (case hgd => exact rfl); (case ho => exact rfl); intro w7 g7 H' _ _; replace H := H'; clear H'; go_simp)
    | ((fail_if_success have := g8); (with_reducible apply own_alloc nilQt H); (case hgd => exact rfl); (case ho => exact rfl); intro w8 g8 H' _ _; replace H := H'; clear H'; go_simp)
    | ((with_reducible apply own_store rowPt H); (case hgd => exact rfl); (case ho => exact rfl); (case hx => exact rfl); (case hy => exact rfl); (case hi => first | exact at0 | exact at1 | exact at2 | exact at3 | exact at4 | exact at5 | exact at6 | exact at7 | exact at8 | exact at9); intro ws H' _ _; replace H := H'; clear H'; simp only [List.set_cons_zero, List.set_cons_succ] at H; go_simp)
    | ((with_reducible apply own_store rowQt H); (case hgd => exact rfl); (case ho => exact rfl); (case hx => exact rfl); (case hy => exact rfl); (case hi => first | exact at0 | exact at1 | exact at2 | exact at3 | exact at4 | exact at5 | exact at6 | exact at7 | exact at8 | exact at9); intro ws H' _ _; replace H := H'; clear H'; simp only [List.set_cons_zero] at H; go_simp)
    | ((with_reducible apply own_load rowPt H); (case hgd => exact rfl); (case ho => exact rfl); (case hx => exact rfl); (case hi => first | exact at0 | exact at1 | exact at2 | exact at3 | exact at4 | exact at5 | exact at6 | exact at7 | exact at8 | exact at9); intro _ _; go_simp)
    | ((with_reducible refine cd_skip ?hw ?h); (case hw => exact rfl); intro _ _; go_simp)
    | ((with_reducible refine (awake11_k _ (HT.out.below H.out.bel)).mono ?_); rintro e wc ⟨rfl, hb⟩; replace H := Lib.hid (H.out.call hb); clear hb)
    | ((fail_if_success have := mk2); (with_reducible refine (powers_bad _ (HT.out.below H.out.bel) V1.out m q HB.out).mono ?_); rintro e wc ⟨ad, cd, rfl, hb⟩; replace H := Lib.hid (H.out.call hb); have mk2 := trivial; clear hb))
  go_ret
  exact ⟨rfl, H.out.bel⟩
set_option maxRecDepth 8000 in
set_option maxHeartbeats 3200000 in
theorem pows_ebm {a : Option Addr} {n c x : Nat} {z : Int} {m q : Int} (w : World) (hT : Tp w) (hs : Sb w w.heap.size a n c x) (ok : okS n z = true) (h1 : 64 < m) (h3 : 0 ≤ q) (h2 : q ≤ 40) :
    Calls Tryz.prog 4 #[.agg #[.slice a n c, .int .i64 z], .int .i64 m, .int .i64 q] w fun e w' => e = .returned (.bool true) ∧ Below w.heap.size w w' := by
  have d0 : decide (6 < m) = true := by first | (simp; done) | (simp; omega)
  have d1 : decide (m ≤ 64) = false := by first | (simp; done) | (simp; omega)
  have d2 : decide (40 < q) = false := by first | (simp; done) | (simp; omega)
  have d3 : decide (m < 0) = false := by first | (simp; done) | (simp; omega)
  have d4 : decide (64 < m) = true := by first | (simp; done) | (simp; omega)
  have d5 : decide (q < 0) = false := by first | (simp; done) | (simp; omega)
  have d6 : decide (512 < q) = false := by first | (simp; done) | (simp; omega)
  have HS := Lib.hid hs
  have OK := Lib.hid ok
  clear hs ok
  have HB := Lib.hid (show m < 0 ∨ 64 < m ∨ q < 0 ∨ 512 < q by omega)
  clear h1 h3 h2
  have HT := Lib.hid hT
  clear hT
  have H := Lib.hid (Ow.start w)
  go_enter Tryz.func4, Tryz.ntmps4
  go_wp2_with (first
    | ((fail_if_success have := g3); (with_reducible apply own_boxC H); (case hgd => exact rfl); (case ho => exact rfl); (case hx => exact rfl); intro w3 g3 H' _ _; replace H := H'; clear H'; go_simp)
    | ((with_reducible apply own_loadA rowSpK ?hC H); (case hgd => exact rfl); (case ho => exact rfl); (case hx => exact rfl); (case hi => first | exact at0 | exact at1 | exact at2 | exact at3 | exact at4 | exact at5 | exact at6 | exact at7 | exact at8 | exact at9); (case hC => exact rfl); intro _ _; go_simp)
    | ((fail_if_success have := mk1); (with_reducible refine (made11_any OK.out _ (HT.out.below H.out.bel) ((HS.out.below H.out.bel).more H.out.bel.size)).mono ?_); rintro e wc ⟨v1, r1, P, rfl, hv, hw, hb⟩; replace H := Lib.hid (H.out.call hb); have V1 := Lib.hid hv; have W1 := Lib.hid hw; have mk1 := trivial; clear hb hv hw)
    | ((fail_if_success have := g7); (with_reducible apply own_alloc nilPt H); (case hgd => exact rfl); (case ho => exact rfl); intro w7 g7 H' _ _; replace H := H'; clear H'; go_simp)
    | ((fail_if_success have := g8); (with_reducible apply own_alloc nilQt H); (case hgd => exact rfl); (case ho => exact rfl); intro w8 g8 H' _ _; replace H := H'; clear H'; go_simp)
    | ((with_reducible apply own_store rowPt H); (case hgd => exact rfl); (case ho => exact rfl); (case hx => exact rfl); (case hy => exact rfl); (case hi => first | exact at0 | exact at1 | exact at2 | exact at3 | exact at4 | exact at5 | exact at6 | exact at7 | exact at8 | exact at9); intro ws H' _ _; replace H := H'; clear H'; simp only [List.set_cons_zero, List.set_cons_succ] at H; go_simp)
    | ((with_reducible apply own_store rowQt H); (case hgd => exact rfl); (case ho => exact rfl); (case hx => exact rfl); (case hy => exact rfl); (case hi => first | exact at0 | exact at1 | exact at2 | exact at3 | exact at4 | exact at5 | exact at6 | exact at7 | exact at8 | exact at9); intro ws H' _ _; replace H := H'; clear H'; simp only [List.set_cons_zero] at H; go_simp)
    | ((with_reducible apply own_load rowPt H); (case hgd => exact rfl); (case ho => exact rfl); (case hx => exact rfl); (case hi => first | exact at0 | exact at1 | exact at2 | exact at3 | exact at4 | exact at5 | exact at6 | exact at7 | exact at8 | exact at9); intro _ _; go_simp)
    | ((with_reducible refine cd_skip ?hw ?h); (case hw => exact rfl); intro _ _; go_simp)
    | ((with_reducible refine (awake11_k _ (HT.out.below H.out.bel)).mono ?_); rintro e wc ⟨rfl, hb⟩; replace H := Lib.hid (H.out.call hb); clear hb)
    | ((fail_if_success have := mk2); (with_reducible refine (powers_bad _ (HT.out.below H.out.bel) V1.out m q HB.out).mono ?_); rintro e wc ⟨ad, cd, rfl, hb⟩; replace H := Lib.hid (H.out.call hb); have mk2 := trivial; clear hb))
  go_ret
  exact ⟨rfl, H.out.bel⟩
set_option maxRecDepth 8000 in
set_option maxHeartbeats 3200000 in
theorem pows_ebb {a : Option Addr} {n c x : Nat} {z : Int} {m q : Int} (w : World) (hT : Tp w) (hs : Sb w w.heap.size a n c x) (ok : okS n z = true) (h1 : 64 < m) (h2 : 512 < q) :
    Calls Tryz.prog 4 #[.agg #[.slice a n c, .int .i64 z], .int .i64 m, .int .i64 q] w fun e w' => e = .returned (.bool true) ∧ Below w.heap.size w w' := by
  have d0 : decide (6 < m) = true := by first | (simp; done) | (simp; omega)
  have d1 : decide (m ≤ 64) = false := by first | (simp; done) | (simp; omega)
  have d2 : decide (40 < q) = true := by first | (simp; done) | (simp; omega)
  have d3 : decide (q ≤ 512) = false := by first | (simp; done) | (simp; omega)
  have d4 : decide (m < 0) = false := by first | (simp; done) | (simp; omega)
  have d5 : decide (64 < m) = true := by first | (simp; done) | (simp; omega)
  have d6 : decide (q < 0) = false := by first | (simp; done) | (simp; omega)
  have d7 : decide (512 < q) = true := by first | (simp; done) | (simp; omega)
  have HS := Lib.hid hs
  have OK := Lib.hid ok
  clear hs ok
  have HB := Lib.hid (show m < 0 ∨ 64 < m ∨ q < 0 ∨ 512 < q by omega)
  clear h1 h2
  have HT := Lib.hid hT
  clear hT
  have H := Lib.hid (Ow.start w)
  go_enter Tryz.func4, Tryz.ntmps4
  go_wp2_with (first
    | ((fail_if_success have := g3); (with_reducible apply own_boxC H); (case hgd => exact rfl); (case ho => exact rfl); (case hx => exact rfl); intro w3 g3 H' _ _; replace H := H'; clear H'; go_simp)
    | ((with_reducible apply own_loadA rowSpK ?hC H); (case hgd => exact rfl); (case ho => exact rfl); (case hx => exact rfl); (case hi => first | exact at0 | exact at1 | exact at2 | exact at3 | exact at4 | exact at5 | exact at6 | exact at7 | exact at8 | exact at9); (case hC => exact rfl); intro _ _; go_simp)
    | ((fail_if_success have := mk1); (with_reducible refine (made11_any OK.out _ (HT.out.below H.out.bel) ((HS.out.below H.out.bel).more H.out.bel.size)).mono ?_); rintro e wc ⟨v1, r1, P, rfl, hv, hw, hb⟩; replace H := Lib.hid (H.out.call hb); have V1 := Lib.hid hv; have W1 := Lib.hid hw; have mk1 := trivial; clear hb hv hw)
    | ((fail_if_success have := g7); (with_reducible apply own_alloc nilPt H); (case hgd => exact rfl); (case ho => exact rfl); intro w7 g7 H' _ _; replace H := H'; clear H'; go_simp)
    | ((fail_if_success have := g8); (with_reducible apply own_alloc nilQt H); (case hgd => exact rfl); (case ho => exact rfl); intro w8 g8 H' _ _; replace H := H'; clear H'; go_simp)
    | ((with_reducible apply own_store rowPt H); (case hgd => exact rfl); (case ho => exact rfl); (case hx => exact rfl); (case hy => exact rfl); (case hi => first | exact at0 | exact at1 | exact at2 | exact at3 | exact at4 | exact at5 | exact at6 | exact at7 | exact at8 | exact at9); intro ws H' _ _; replace H := H'; clear H'; simp only [List.set_cons_zero, List.set_cons_succ] at H; go_simp)
    | ((with_reducible apply own_store rowQt H); (case hgd => exact rfl); (case ho => exact rfl); (case hx => exact rfl); (case hy => exact rfl); (case hi => first | exact at0 | exact at1 | exact at2 | exact at3 | exact at4 | exact at5 | exact at6 | exact at7 | exact at8 | exact at9); intro ws H' _ _; replace H := H'; clear H'; simp only [List.set_cons_zero] at H; go_simp)
    | ((with_reducible apply own_load rowPt H); (case hgd => exact rfl); (case ho => exact rfl); (case hx => exact rfl); (case hi => first | exact at0 | exact at1 | exact at2 | exact at3 | exact at4 | exact at5 | exact at6 | exact at7 | exact at8 | exact at9); intro _ _; go_simp)
    | ((with_reducible refine cd_skip ?hw ?h); (case hw => exact rfl); intro _ _; go_simp)
    | ((with_reducible refine (awake11_k _ (HT.out.below H.out.bel)).mono ?_); rintro e wc ⟨rfl, hb⟩; replace H := Lib.hid (H.out.call hb); clear hb)
    | ((fail_if_success have := mk2); (with_reducible refine (powers_bad _ (HT.out.below H.out.bel) V1.out m q HB.out).mono ?_); rintro e wc ⟨ad, cd, rfl, hb⟩; replace H := Lib.hid (H.out.call hb); have mk2 := trivial; clear hb))
  go_ret
  exact ⟨rfl, H.out.bel⟩
set_option maxRecDepth 8000 in
set_option maxHeartbeats 3200000 in
theorem pows_k {a : Option Addr} {n c x : Nat} {z : Int} {m q : Nat} (w : World) (hT : Tp w) (hs : Sb w w.heap.size a n c x) (ok : okS n z = true) (hm : m ≤ 6) (hq : q ≤ 40) :
    Calls Tryz.prog 4 #[.agg #[.slice a n c, .int .i64 z], .int .i64 (m : Int), .int .i64 (q : Int)] w fun e w' => e = .returned (.bool true) ∧ Below w.heap.size w w' := by
  have d0 : decide (6 < (m : Int)) = false := by first | (simp; done) | (simp; omega)
  have d1 : decide (40 < (q : Int)) = false := by first | (simp; done) | (simp; omega)
  have d2 : decide ((m : Int) < 0) = false := by first | (simp; done) | (simp; omega)
  have d3 : decide (64 < (m : Int)) = false := by first | (simp; done) | (simp; omega)
  have d4 : decide ((q : Int) < 0) = false := by first | (simp; done) | (simp; omega)
  have d5 : decide (512 < (q : Int)) = false := by first | (simp; done) | (simp; omega)
  have d9 : ((m : Int) != (m : Int)) = false := by simp
  have HS := Lib.hid hs
  have OK := Lib.hid ok
  have HM := Lib.hid hm
  have HQ := Lib.hid hq
  clear hs ok hm hq
  have HT := Lib.hid hT
  clear hT
  have H := Lib.hid (Ow.start w)
  go_enter Tryz.func4, Tryz.ntmps4
  go_wp2_with (first
    | ((fail_if_success have := g3); (with_reducible apply own_boxC H); (case hgd => exact rfl); (case ho => exact rfl); (case hx => exact rfl); intro w3 g3 H' _ _; replace H := H'; clear H'; go_simp)
    | ((with_reducible apply own_loadA rowSpK ?hC H); (case hgd => exact rfl); (case ho => exact rfl); (case hx => exact rfl); (case hi => first | exact at0 | exact at1 | exact at2 | exact at3 | exact at4 | exact at5 | exact at6 | exact at7 | exact at8 | exact at9); (case hC => exact rfl); intro _ _; go_simp)
    | ((fail_if_success have := mk1); (with_reducible refine (made11_any OK.out _ (HT.out.below H.out.bel) ((HS.out.below H.out.bel).more H.out.bel.size)).mono ?_); rintro e wc ⟨v1, r1, P, rfl, hv, hw, hb⟩; replace H := Lib.hid (H.out.call hb); have V1 := Lib.hid hv; have W1 := Lib.hid hw; have mk1 := trivial; clear hb hv hw)
    | ((fail_if_success have := g7); (with_reducible apply own_alloc nilPt H); (case hgd => exact rfl); (case ho => exact rfl); intro w7 g7 H' _ _; replace H := H'; clear H'; go_simp)
    | ((fail_if_success have := g8); (with_reducible apply own_alloc nilQt H); (case hgd => exact rfl); (case ho => exact rfl); intro w8 g8 H' _ _; replace H := H'; clear H'; go_simp)
    | ((with_reducible apply own_store rowPt H); (case hgd => exact rfl); (case ho => exact rfl); (case hx => exact rfl); (case hy => exact rfl); (case hi => first | exact at0 | exact at1 | exact at2 | exact at3 | exact at4 | exact at5 | exact at6 | exact at7 | exact at8 | exact at9); intro ws H' _ _; replace H := H'; clear H'; simp only [List.set_cons_zero, List.set_cons_succ] at H; go_simp)
    | ((with_reducible apply own_store rowQt H); (case hgd => exact rfl); (case ho => exact rfl); (case hx => exact rfl); (case hy => exact rfl); (case hi => first | exact at0 | exact at1 | exact at2 | exact at3 | exact at4 | exact at5 | exact at6 | exact at7 | exact at8 | exact at9); intro ws H' _ _; replace H := H'; clear H'; simp only [List.set_cons_zero] at H; go_simp)
    | ((with_reducible apply own_load rowPt H); (case hgd => exact rfl); (case ho => exact rfl); (case hx => exact rfl); (case hi => first | exact at0 | exact at1 | exact at2 | exact at3 | exact at4 | exact at5 | exact at6 | exact at7 | exact at8 | exact at9); intro _ _; go_simp)
    | ((with_reducible refine cd_skip ?hw ?h); (case hw => exact rfl); intro _ _; go_simp)
    | ((fail_if_success have := mk2); (with_reducible refine (powers_k _ (HT.out.below H.out.bel) V1.out m q _ _ rfl rfl (Nat.le_trans HM.out (by omega)) (Nat.le_trans HQ.out (by omega))).mono ?_); rintro e wc ⟨ad, cd, rfl, hp, hb⟩; replace H := Lib.hid (H.out.call hb); have PL := Lib.hid hp; have mk2 := trivial; clear hb hp))
  clear mk1 mk2 d0 d1 d2 d3 d4 d5 d9
  go_loopw [12] (fun v wr => ∃ i : Nat, i ≤ m ∧ v = .int .i64 i ∧ Ow w wr [(g8, Blk 45 .i64 48 r1), (g7, Blk 32 .u64 24 v1), (g3, Cs 41 #[.slice a n c, .int .i64 z])] ∧ Pts wr wr.heap.size ad m cd (fun i => pmul edK (2 ^ (i * q)) P)) (fun v _ => m - (intOf v).toNat)
  case atStart => exact ⟨0, Nat.zero_le _, rfl, H.out, PL.out⟩
  case round =>
    clear H PL
    obtain ⟨i, hi, rfl, HR, HPL⟩ := hrel
    by_cases hlt : i < m
    · have hid : decide ((i : Int) < (m : Int)) = true := by simp; omega
      have hm6 := HM.out
      have hq40 := HQ.out
      obtain ⟨b, o, v, rfl, hbB, hv, hc⟩ := HPL.get i hlt
      obtain ⟨p, hp⟩ : ∃ p, i * q = p := ⟨_, rfl⟩
      have hp2 : p ≤ 240 := by
        rw [← hp]
        exact Nat.mul_le_mul (show i ≤ 6 by omega) hq40
      have e1 : (i : Int) * (q : Int) = (p : Int) := by rw [← hp]; exact (Int.natCast_mul _ _).symm
      have f1 : IntKind.i64.wrap (p : Int) = (p : Int) := IntWalk.i64_in _ (by omega)
      obtain ⟨N, hN⟩ : ∃ N, p / 8 + 1 = N := ⟨_, rfl⟩
      have HN := Lib.hid hN
      have N100 := Lib.hid (show N ≤ 100 by omega)
      have HP := Lib.hid (show p ≤ 10000 by omega)
      simp only [hp] at hv
      have HV := Lib.hid hv
      have PA := Lib.hid (PtAt.mk hbB hc)
      have PL := Lib.hid HPL
      have H := Lib.hid HR
      have im : (i : Int) < (m : Int) := by omega
      have HL := Lib.hid hlt
      have fi : IntKind.i64.wrap ((i : Int) + 1) = (i : Int) + 1 := IntWalk.i64_in _ (by omega)
      clear HR HPL hv hc hbB hi hlt hN hp hp2 hm6 hq40
      go_wp2_with fail
      refine wp_region_noPanic ?_
      refine wp_region_held_drew (S := fun W => W.heap[g8]? = some (Blk 45 .i64 48 (r1)) ∧ (∀ j, j < 24 → W.cell? ⟨b, o + i * 24 + j, none⟩ = some (.int .u64 (v j)))) (by kernel_rfl) (⟨H.out.drew.row 0 rfl, PA.out.has⟩) (fun hH => ?_)
      replace H := Lib.hid H.out.drew
      replace PA := Lib.hid PA.out.drew
      replace PL := Lib.hid PL.out.drew
      generalize World.drew _ = w8 at *
      refine held_value 0 82 (.slice (some ⟨b, o, none⟩) m cd) rfl rfl (by kernel_rfl) (by kernel_rfl) (by kernel_rfl) rfl hH (fun w hw => by go_simp) ?_
      try simp only [Act.put, List.setIfInBounds_toArray, List.set_cons_zero, List.set_cons_succ]
      refine held_value 1 83 (.int .i64 (i : Int)) rfl rfl (by kernel_rfl) (by kernel_rfl) (by kernel_rfl) rfl hH (fun w hw => by go_simp) ?_
      try simp only [Act.put, List.setIfInBounds_toArray, List.set_cons_zero, List.set_cons_succ]
      refine held_value 2 84 (.pointer (some ⟨b, o + i * 24, none⟩)) rfl rfl (by kernel_rfl) (by kernel_rfl) (by kernel_rfl) rfl hH (fun w hw => by go_simp) ?_
      try simp only [Act.put, List.setIfInBounds_toArray, List.set_cons_zero, List.set_cons_succ]
      refine held_pat 3 85 rowPt rfl rfl (by kernel_rfl) (by kernel_rfl) (by kernel_rfl) rfl hH rfl rfl (fun _ h => h.2) ?_
      try simp only [Act.put, List.setIfInBounds_toArray, List.set_cons_zero, List.set_cons_succ]
      refine held_value 4 86 (.int .i64 (i : Int)) rfl rfl (by kernel_rfl) (by kernel_rfl) (by kernel_rfl) rfl hH (fun w hw => by go_simp) ?_
      try simp only [Act.put, List.setIfInBounds_toArray, List.set_cons_zero, List.set_cons_succ]
      refine held_value 5 87 (.int .i64 (q : Int)) rfl rfl (by kernel_rfl) (by kernel_rfl) (by kernel_rfl) rfl hH (fun w hw => by go_simp) ?_
      try simp only [Act.put, List.setIfInBounds_toArray, List.set_cons_zero, List.set_cons_succ]
      refine held_value 6 88 (.int .i64 (p : Int)) rfl rfl (by kernel_rfl) (by kernel_rfl) (by kernel_rfl) rfl hH (fun w hw => by go_simp) ?_
      try simp only [Act.put, List.setIfInBounds_toArray, List.set_cons_zero, List.set_cons_succ]
      refine held_row 8 90 rowQt rfl rfl (by kernel_rfl) (by kernel_rfl) (by kernel_rfl) rfl hH rfl rfl (fun _ h => h.1) ?_
      try simp only [Act.put, List.setIfInBounds_toArray, List.set_cons_zero, List.set_cons_succ]
      refine wpAnyH_ready (rs := [7]) (by kernel_rfl) (by simp) ?_
      refine AllReadyH.cons (o := _) rfl (fun K hK => ?_) AllReadyH.nil
      go_simp
      refine (refPower_s p N HN.out _ HP.out).mono ?_
      rintro e wc ⟨ge89, rfl, hs, hb⟩
      replace PA := Lib.hid (PA.out.call hb)
      replace PL := Lib.hid (PL.out.call hb)
      replace H := Lib.hid (H.out.call hb)
      have SE89 := Lib.hid hs
      refine hK.out _ _ (⟨H.out.row 0 rfl, PA.out.has⟩) (fun hN => ?_)
      clear hK K hH hb hs
      have hH := hN
      clear hN
      try simp only [Act.put, List.setIfInBounds_toArray, List.set_cons_zero, List.set_cons_succ]
      refine wpAnyH_ready (rs := [9]) (by kernel_rfl) (by simp) ?_
      refine AllReadyH.cons (o := _) rfl (fun K hK => ?_) AllReadyH.nil
      go_simp
      refine (refTimes_k _ _ _ _ _ N100.out SE89.out W1.out).mono ?_
      rintro e wc ⟨r91, rfl, hv, hb⟩
      replace PA := Lib.hid (PA.out.call hb)
      replace PL := Lib.hid (PL.out.call hb)
      replace SE89 := Lib.hid (SE89.out.call hb)
      replace H := Lib.hid (H.out.call hb)
      have HV91 := Lib.hid hv
      refine hK.out _ _ (⟨H.out.row 0 rfl, PA.out.has⟩) (fun hN => ?_)
      clear hK K hH hb hv
      have hH := hN
      clear hN
      try simp only [Act.put, List.setIfInBounds_toArray, List.set_cons_zero, List.set_cons_succ]
      refine wpAnyH_ready (rs := [10]) (by kernel_rfl) (by simp) ?_
      refine AllReadyH.cons (o := _) rfl (fun K hK => ?_) AllReadyH.nil
      go_simp
      refine (same11_k _ HV.out HV91.out).mono ?_
      rintro e wc ⟨rfl, hb⟩
      replace PA := Lib.hid (PA.out.call hb)
      replace PL := Lib.hid (PL.out.call hb)
      replace SE89 := Lib.hid (SE89.out.call hb)
      replace H := Lib.hid (H.out.call hb)
      refine hK.out _ _ (⟨H.out.row 0 rfl, PA.out.has⟩) (fun hN => ?_)
      clear hK K hH hb
      have hH := hN
      clear hN
      try simp only [Act.put, List.setIfInBounds_toArray, List.set_cons_zero, List.set_cons_succ]
      refine held_value 11 93 (.bool false) rfl rfl (by kernel_rfl) (by kernel_rfl) (by kernel_rfl) rfl hH (fun w hw => by go_simp) ?_
      try simp only [Act.put, List.setIfInBounds_toArray, List.set_cons_zero, List.set_cons_succ]
      try simp only [Act.put]
      refine wpAnyH_done (by kernel_rfl) ?_ _
      refine NoPanic.normal ?_
      clear hH
      go_wp2_with fail
      go_roundw
      case rel => exact ⟨i + 1, by have := HL.out; omega, by go_num, H.out, PL.out⟩
      case measure => have := HL.out; (simp [intOf] <;> omega)
    · obtain rfl : i = m := by omega
      have hid : decide ((i : Int) < (i : Int)) = false := by simp
      have H := Lib.hid HR
      clear HR HPL hi hlt
      go_wp2_with (first
        | ((with_reducible refine (awake11_k _ (HT.out.below H.out.bel)).mono ?_); rintro e wc ⟨rfl, hb⟩; replace H := Lib.hid (H.out.call hb); clear hb))
      go_ret
      exact ⟨rfl, H.out.bel⟩
theorem pows_walk {a : Option Addr} {n c x : Nat} {z : Int} (m q : Int) (w : World) (hT : Tp w) (hs : Sb w w.heap.size a n c x) :
    Calls Tryz.prog 4 #[.agg #[.slice a n c, .int .i64 z], .int .i64 m, .int .i64 q] w fun e w' => e = .returned (.bool true) ∧ Below w.heap.size w w' := by
  cases ok : okS n z with
  | false => exact pows_none w hT hs ok
  | true =>
    rcases (by omega : m < 0 ∨ (0 ≤ m ∧ m ≤ 6) ∨ (6 < m ∧ m ≤ 64) ∨ 64 < m) with h1 | ⟨h0, h1⟩ | ⟨h1, h1'⟩ | h1
    · rcases (by omega : q < 0 ∨ (0 ≤ q ∧ q ≤ 40) ∨ (40 < q ∧ q ≤ 512) ∨ 512 < q) with h2 | ⟨h3, h2⟩ | ⟨h2, h2'⟩ | h2
      · exact pows_enn w hT hs ok h1 h2
      · exact pows_enm w hT hs ok h1 h3 h2
      · exact pows_b2 w hT hs ok (by omega) h2 h2'
      · exact pows_enb w hT hs ok h1 h2
    · rcases (by omega : q < 0 ∨ (0 ≤ q ∧ q ≤ 40) ∨ (40 < q ∧ q ≤ 512) ∨ 512 < q) with h2 | ⟨h3, h2⟩ | ⟨h2, h2'⟩ | h2
      · exact pows_emn w hT hs ok h0 h1 h2
      · obtain ⟨m, rfl⟩ := Int.eq_ofNat_of_zero_le h0
        obtain ⟨q, rfl⟩ := Int.eq_ofNat_of_zero_le h3
        exact pows_k w hT hs ok (by omega) (by omega)
      · exact pows_b2 w hT hs ok h1 h2 h2'
      · exact pows_emb w hT hs ok h0 h1 h2
    · exact pows_b1 w hT hs ok h1 h1'
    · rcases (by omega : q < 0 ∨ (0 ≤ q ∧ q ≤ 40) ∨ (40 < q ∧ q ≤ 512) ∨ 512 < q) with h2 | ⟨h3, h2⟩ | ⟨h2, h2'⟩ | h2
      · exact pows_ebn w hT hs ok h1 h2
      · exact pows_ebm w hT hs ok h1 h3 h2
      · exact pows_b3 w hT hs ok h1 h2 h2'
      · exact pows_ebb w hT hs ok h1 h2
end Go.Proofs.YtjcfoilfdmameaaGreatDoor
