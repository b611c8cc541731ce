/-
  The walk of MultSwaps. No statement is proved here: lemmas for the walks.
-/
import Derived.Test.YtkkmjlkeohkgnaaGreatDoorZMtAwake
import Derived.Test.YtkkmjlkeohkgnaaGreatDoorBuR
import Derived.Test.YtkkmjlkeohkgnaaGreatDoorZPutZ
import Derived.Test.YtkkmjlkeohkgnaaGreatDoorZOwnNew
import Derived.Deep.CutRange
namespace Go.Proofs.YtkkmjlkeohkgnaaGreatDoor
open Go.RowKit

theorem prod_x (a : Option Addr) (n c x : Nat) (a' : Option Addr) (m c' y : Nat) (w : World) (hn : n ≤ 100) (hm : m ≤ 100) (h : Sb w w.heap.size a n c x) (h' : Sb w w.heap.size a' m c' y) {p K : Nat} (hp : x * y = p) (hK : dl 8 p = K) :
    Calls Tryz.prog 23 #[.slice a n c, .slice a' m c'] w fun e w' => ∃ b d, e = .returned (.slice b K d) ∧ Sb w' w'.heap.size b K d p ∧ Below w.heap.size w w' :=
  (nrefMul_any a n c x a' m c' y w (by omega) (by omega) h h').mono fun _ w' ⟨v, he, hg⟩ => by
    obtain ⟨b, d, hv, hs, hbl⟩ := hg
    subst hp hK
    exact ⟨b, d, by rw [he, hv], hs, hbl⟩
theorem sb_cap {w : World} {g c n x : Nat} (h : w.heap[g]? = some (YB c (bt x))) (hc : n ≤ c) (hx : x < 2 ^ (8 * n)) : Sb w w.heap.size (some ⟨g, 0, none⟩) n c x :=
  ⟨⟨hc, (fun e => by cases e), fun ad e _ => ⟨g, 0, (Option.some.inj e).symm, lt_row h, fun i hi => by rw [Nat.zero_add]; exact (blk_rowB h).cell i (by omega)⟩⟩, hx⟩
set_option maxRecDepth 8000 in
set_option maxHeartbeats 3200000 in
theorem swaps_none {a b1 b2 : Option Addr} {n c x m1 cp1 m2 cp2 : Nat} {z : Int} (w : World) (hT : Tp w) (hs : Sb w w.heap.size a n c x) (ok : okS n z = false) :
    Calls Tryz.prog 7 #[.agg #[.slice a n c, .int .i64 z], .agg #[.slice b1 m1 cp1, .slice b2 m2 cp2]] w fun e w' => e = .returned (.bool true) ∧ Below w.heap.size w w' := by
  have HS := Lib.hid hs
  have OK := Lib.hid ok
  clear hs ok
  have HT := Lib.hid hT
  clear hT
  have H := Lib.hid (Ow.start w)
  go_enter Tryz.func7, Tryz.ntmps7
  go_wp2_with (first
    | ((fail_if_success have := g2); (with_reducible apply own_boxC H); (case hgd => exact rfl); (case ho => exact rfl); (case hx => exact rfl); intro w2 g2 H' _ _; replace H := H'; clear H'; go_simp)
    | ((fail_if_success have := g3); (with_reducible apply own_boxC H); (case hgd => exact rfl); (case ho => exact rfl); (case hx => exact rfl); intro w3 g3 H' _ _; replace H := H'; clear H'; go_simp)
    | ((with_reducible apply own_loadA rowSpK ?hC H); (case hgd => exact rfl); (case ho => exact rfl); (case hx => exact rfl); (case hi => first | exact at0 | exact at1 | exact at2 | exact at3 | exact at4 | exact at5 | exact at6 | exact at7 | exact at8 | exact at9); (case hC => exact rfl); intro _ _; go_simp)
    | ((fail_if_success have := mk1); (with_reducible refine (made11_any OK.out _ (HT.out.below H.out.bel) ((HS.out.below H.out.bel).more H.out.bel.size)).mono ?_); rintro e wc ⟨v1, r1, P, rfl, hv, hw, hb⟩; replace H := Lib.hid (H.out.call hb); have V1 := Lib.hid hv; have W1 := Lib.hid hw; have mk1 := trivial; clear hb hv hw)
    | ((fail_if_success have := g5); (fail_if_success have := g5); (with_reducible apply own_alloc nilPt H); (case hgd => exact rfl); (case ho => exact rfl); intro w5 g5 H' _ _; replace H := H'; clear H'; go_simp)
    | ((fail_if_success have := g6); (fail_if_success have := g6); (with_reducible apply own_alloc nilQt H); (case hgd => exact rfl); (case ho => exact rfl); intro w6 g6 H' _ _; replace H := H'; clear H'; go_simp)
    | ((with_reducible apply own_store rowPt H); (case hgd => exact rfl); (case ho => exact rfl); (case hx => exact rfl); (case hy => exact rfl); (case hi => first | exact at0 | exact at1 | exact at2 | exact at3 | exact at4 | exact at5 | exact at6 | exact at7 | exact at8 | exact at9); intro ws H' _ _; replace H := H'; clear H'; simp only [List.set_cons_zero, List.set_cons_succ] at H; go_simp)
    | ((with_reducible apply own_store rowQt H); (case hgd => exact rfl); (case ho => exact rfl); (case hx => exact rfl); (case hy => exact rfl); (case hi => first | exact at0 | exact at1 | exact at2 | exact at3 | exact at4 | exact at5 | exact at6 | exact at7 | exact at8 | exact at9); intro ws H' _ _; replace H := H'; clear H'; simp only [List.set_cons_zero] at H; go_simp)
    | ((with_reducible apply own_loadC cellSb H); (case hgd => exact rfl); (case ho => exact rfl); (case hx => exact rfl); (case hi => first | exact at0 | exact at1 | exact at2 | exact at3 | exact at4 | exact at5 | exact at6 | exact at7 | exact at8 | exact at9); (case hj => exact rfl); intro _ _; go_simp)
    | ((with_reducible apply own_loadCg cellSb H); (case hw => exact rfl); (case ho => exact rfl); (case hx => exact rfl); (case hi => first | exact at0 | exact at1 | exact at2 | exact at3 | exact at4 | exact at5 | exact at6 | exact at7 | exact at8 | exact at9); (case hj => exact rfl); intro _ _; go_simp)
    | ((with_reducible apply own_load rowPt H); (case hgd => exact rfl); (case ho => exact rfl); (case hx => exact rfl); (case hi => first | exact at0 | exact at1 | exact at2 | exact at3 | exact at4 | exact at5 | exact at6 | exact at7 | exact at8 | exact at9); intro _ _; go_simp)
    | ((with_reducible refine (awake12_k _ (HT.out.below H.out.bel)).mono ?_); rintro e wc ⟨rfl, hb⟩; replace H := Lib.hid (H.out.call hb); clear hb))
  go_ret
  exact ⟨rfl, H.out.bel⟩
set_option maxRecDepth 8000 in
set_option maxHeartbeats 3200000 in
theorem swaps_out1 {a b1 b2 : Option Addr} {n c x m1 cp1 m2 cp2 : Nat} {z : Int} (w : World) (hT : Tp w) (hs : Sb w w.heap.size a n c x) (ok : okS n z = true) (h : m1 < 1) :
    Calls Tryz.prog 7 #[.agg #[.slice a n c, .int .i64 z], .agg #[.slice b1 m1 cp1, .slice b2 m2 cp2]] w fun e w' => e = .returned (.bool true) ∧ Below w.heap.size w w' := by
  have d0 : decide ((m1 : Int) < 1) = true := by first | (simp; done) | (simp; omega)
  have HS := Lib.hid hs
  have OK := Lib.hid ok
  clear hs ok
  clear h
  have HT := Lib.hid hT
  clear hT
  have H := Lib.hid (Ow.start w)
  go_enter Tryz.func7, Tryz.ntmps7
  go_wp2_with (first
    | ((fail_if_success have := g2); (with_reducible apply own_boxC H); (case hgd => exact rfl); (case ho => exact rfl); (case hx => exact rfl); intro w2 g2 H' _ _; replace H := H'; clear H'; go_simp)
    | ((fail_if_success have := g3); (with_reducible apply own_boxC H); (case hgd => exact rfl); (case ho => exact rfl); (case hx => exact rfl); intro w3 g3 H' _ _; replace H := H'; clear H'; go_simp)
    | ((with_reducible apply own_loadA rowSpK ?hC H); (case hgd => exact rfl); (case ho => exact rfl); (case hx => exact rfl); (case hi => first | exact at0 | exact at1 | exact at2 | exact at3 | exact at4 | exact at5 | exact at6 | exact at7 | exact at8 | exact at9); (case hC => exact rfl); intro _ _; go_simp)
    | ((fail_if_success have := mk1); (with_reducible refine (made11_any OK.out _ (HT.out.below H.out.bel) ((HS.out.below H.out.bel).more H.out.bel.size)).mono ?_); rintro e wc ⟨v1, r1, P, rfl, hv, hw, hb⟩; replace H := Lib.hid (H.out.call hb); have V1 := Lib.hid hv; have W1 := Lib.hid hw; have mk1 := trivial; clear hb hv hw)
    | ((fail_if_success have := g5); (fail_if_success have := g5); (with_reducible apply own_alloc nilPt H); (case hgd => exact rfl); (case ho => exact rfl); intro w5 g5 H' _ _; replace H := H'; clear H'; go_simp)
    | ((fail_if_success have := g6); (fail_if_success have := g6); (with_reducible apply own_alloc nilQt H); (case hgd => exact rfl); (case ho => exact rfl); intro w6 g6 H' _ _; replace H := H'; clear H'; go_simp)
    | ((with_reducible apply own_store rowPt H); (case hgd => exact rfl); (case ho => exact rfl); (case hx => exact rfl); (case hy => exact rfl); (case hi => first | exact at0 | exact at1 | exact at2 | exact at3 | exact at4 | exact at5 | exact at6 | exact at7 | exact at8 | exact at9); intro ws H' _ _; replace H := H'; clear H'; simp only [List.set_cons_zero, List.set_cons_succ] at H; go_simp)
    | ((with_reducible apply own_store rowQt H); (case hgd => exact rfl); (case ho => exact rfl); (case hx => exact rfl); (case hy => exact rfl); (case hi => first | exact at0 | exact at1 | exact at2 | exact at3 | exact at4 | exact at5 | exact at6 | exact at7 | exact at8 | exact at9); intro ws H' _ _; replace H := H'; clear H'; simp only [List.set_cons_zero] at H; go_simp)
    | ((with_reducible apply own_loadC cellSb H); (case hgd => exact rfl); (case ho => exact rfl); (case hx => exact rfl); (case hi => first | exact at0 | exact at1 | exact at2 | exact at3 | exact at4 | exact at5 | exact at6 | exact at7 | exact at8 | exact at9); (case hj => exact rfl); intro _ _; go_simp)
    | ((with_reducible apply own_loadCg cellSb H); (case hw => exact rfl); (case ho => exact rfl); (case hx => exact rfl); (case hi => first | exact at0 | exact at1 | exact at2 | exact at3 | exact at4 | exact at5 | exact at6 | exact at7 | exact at8 | exact at9); (case hj => exact rfl); intro _ _; go_simp)
    | ((with_reducible apply own_load rowPt H); (case hgd => exact rfl); (case ho => exact rfl); (case hx => exact rfl); (case hi => first | exact at0 | exact at1 | exact at2 | exact at3 | exact at4 | exact at5 | exact at6 | exact at7 | exact at8 | exact at9); intro _ _; go_simp)
    | ((with_reducible refine (awake12_k _ (HT.out.below H.out.bel)).mono ?_); rintro e wc ⟨rfl, hb⟩; replace H := Lib.hid (H.out.call hb); clear hb))
  go_ret
  exact ⟨rfl, H.out.bel⟩
set_option maxRecDepth 8000 in
set_option maxHeartbeats 3200000 in
theorem swaps_out2 {a b1 b2 : Option Addr} {n c x m1 cp1 m2 cp2 : Nat} {z : Int} (w : World) (hT : Tp w) (hs : Sb w w.heap.size a n c x) (ok : okS n z = true) (_h1 : 1 ≤ m1) (h : 6 < m1) :
    Calls Tryz.prog 7 #[.agg #[.slice a n c, .int .i64 z], .agg #[.slice b1 m1 cp1, .slice b2 m2 cp2]] w fun e w' => e = .returned (.bool true) ∧ Below w.heap.size w w' := by
  have d0 : decide ((m1 : Int) < 1) = false := by first | (simp; done) | (simp; omega)
  have d1 : decide ((6 : Int) < (m1 : Int)) = true := by first | (simp; done) | (simp; omega)
  have HS := Lib.hid hs
  have OK := Lib.hid ok
  clear hs ok
  clear _h1 h
  have HT := Lib.hid hT
  clear hT
  have H := Lib.hid (Ow.start w)
  go_enter Tryz.func7, Tryz.ntmps7
  go_wp2_with (first
    | ((fail_if_success have := g2); (with_reducible apply own_boxC H); (case hgd => exact rfl); (case ho => exact rfl); (case hx => exact rfl); intro w2 g2 H' _ _; replace H := H'; clear H'; go_simp)
    | ((fail_if_success have := g3); (with_reducible apply own_boxC H); (case hgd => exact rfl); (case ho => exact rfl); (case hx => exact rfl); intro w3 g3 H' _ _; replace H := H'; clear H'; go_simp)
    | ((with_reducible apply own_loadA rowSpK ?hC H); (case hgd => exact rfl); (case ho => exact rfl); (case hx => exact rfl); (case hi => first | exact at0 | exact at1 | exact at2 | exact at3 | exact at4 | exact at5 | exact at6 | exact at7 | exact at8 | exact at9); (case hC => exact rfl); intro _ _; go_simp)
    | ((fail_if_success have := mk1); (with_reducible refine (made11_any OK.out _ (HT.out.below H.out.bel) ((HS.out.below H.out.bel).more H.out.bel.size)).mono ?_); rintro e wc ⟨v1, r1, P, rfl, hv, hw, hb⟩; replace H := Lib.hid (H.out.call hb); have V1 := Lib.hid hv; have W1 := Lib.hid hw; have mk1 := trivial; clear hb hv hw)
    | ((fail_if_success have := g5); (fail_if_success have := g5); (with_reducible apply own_alloc nilPt H); (case hgd => exact rfl); (case ho => exact rfl); intro w5 g5 H' _ _; replace H := H'; clear H'; go_simp)
    | ((fail_if_success have := g6); (fail_if_success have := g6); (with_reducible apply own_alloc nilQt H); (case hgd => exact rfl); (case ho => exact rfl); intro w6 g6 H' _ _; replace H := H'; clear H'; go_simp)
    | ((with_reducible apply own_store rowPt H); (case hgd => exact rfl); (case ho => exact rfl); (case hx => exact rfl); (case hy => exact rfl); (case hi => first | exact at0 | exact at1 | exact at2 | exact at3 | exact at4 | exact at5 | exact at6 | exact at7 | exact at8 | exact at9); intro ws H' _ _; replace H := H'; clear H'; simp only [List.set_cons_zero, List.set_cons_succ] at H; go_simp)
    | ((with_reducible apply own_store rowQt H); (case hgd => exact rfl); (case ho => exact rfl); (case hx => exact rfl); (case hy => exact rfl); (case hi => first | exact at0 | exact at1 | exact at2 | exact at3 | exact at4 | exact at5 | exact at6 | exact at7 | exact at8 | exact at9); intro ws H' _ _; replace H := H'; clear H'; simp only [List.set_cons_zero] at H; go_simp)
    | ((with_reducible apply own_loadC cellSb H); (case hgd => exact rfl); (case ho => exact rfl); (case hx => exact rfl); (case hi => first | exact at0 | exact at1 | exact at2 | exact at3 | exact at4 | exact at5 | exact at6 | exact at7 | exact at8 | exact at9); (case hj => exact rfl); intro _ _; go_simp)
    | ((with_reducible apply own_loadCg cellSb H); (case hw => exact rfl); (case ho => exact rfl); (case hx => exact rfl); (case hi => first | exact at0 | exact at1 | exact at2 | exact at3 | exact at4 | exact at5 | exact at6 | exact at7 | exact at8 | exact at9); (case hj => exact rfl); intro _ _; go_simp)
    | ((with_reducible apply own_load rowPt H); (case hgd => exact rfl); (case ho => exact rfl); (case hx => exact rfl); (case hi => first | exact at0 | exact at1 | exact at2 | exact at3 | exact at4 | exact at5 | exact at6 | exact at7 | exact at8 | exact at9); intro _ _; go_simp)
    | ((with_reducible refine (awake12_k _ (HT.out.below H.out.bel)).mono ?_); rintro e wc ⟨rfl, hb⟩; replace H := Lib.hid (H.out.call hb); clear hb))
  go_ret
  exact ⟨rfl, H.out.bel⟩
set_option maxRecDepth 8000 in
set_option maxHeartbeats 3200000 in
theorem swaps_out3 {a b1 b2 : Option Addr} {n c x m1 cp1 m2 cp2 : Nat} {z : Int} (w : World) (hT : Tp w) (hs : Sb w w.heap.size a n c x) (ok : okS n z = true) (h1 : 1 ≤ m1) (h2 : m1 ≤ 6) (h : m2 < 1) :
    Calls Tryz.prog 7 #[.agg #[.slice a n c, .int .i64 z], .agg #[.slice b1 m1 cp1, .slice b2 m2 cp2]] w fun e w' => e = .returned (.bool true) ∧ Below w.heap.size w w' := by
  have d0 : decide ((m1 : Int) < 1) = false := by first | (simp; done) | (simp; omega)
  have d1 : decide ((6 : Int) < (m1 : Int)) = false := by first | (simp; done) | (simp; omega)
  have d2 : decide ((m2 : Int) < 1) = true := by first | (simp; done) | (simp; omega)
  have HS := Lib.hid hs
  have OK := Lib.hid ok
  clear hs ok
  clear h1 h2 h
  have HT := Lib.hid hT
  clear hT
  have H := Lib.hid (Ow.start w)
  go_enter Tryz.func7, Tryz.ntmps7
  go_wp2_with (first
    | ((fail_if_success have := g2); (with_reducible apply own_boxC H); (case hgd => exact rfl); (case ho => exact rfl); (case hx => exact rfl); intro w2 g2 H' _ _; replace H := H'; clear H'; go_simp)
    | ((fail_if_success have := g3); (with_reducible apply own_boxC H); (case hgd => exact rfl); (case ho => exact rfl); (case hx => exact rfl); intro w3 g3 H' _ _; replace H := H'; clear H'; go_simp)
    | ((with_reducible apply own_loadA rowSpK ?hC H); (case hgd => exact rfl); (case ho => exact rfl); (case hx => exact rfl); (case hi => first | exact at0 | exact at1 | exact at2 | exact at3 | exact at4 | exact at5 | exact at6 | exact at7 | exact at8 | exact at9); (case hC => exact rfl); intro _ _; go_simp)
    | ((fail_if_success have := mk1); (with_reducible refine (made11_any OK.out _ (HT.out.below H.out.bel) ((HS.out.below H.out.bel).more H.out.bel.size)).mono ?_); rintro e wc ⟨v1, r1, P, rfl, hv, hw, hb⟩; replace H := Lib.hid (H.out.call hb); have V1 := Lib.hid hv; have W1 := Lib.hid hw; have mk1 := trivial; clear hb hv hw)
    | ((fail_if_success have := g5); (fail_if_success have := g5); (with_reducible apply own_alloc nilPt H); (case hgd => exact rfl); (case ho => exact rfl); intro w5 g5 H' _ _; replace H := H'; clear H'; go_simp)
    | ((fail_if_success have := g6); (fail_if_success have := g6); (with_reducible apply own_alloc nilQt H); (case hgd => exact rfl); (case ho => exact rfl); intro w6 g6 H' _ _; replace H := H'; clear H'; go_simp)
    | ((with_reducible apply own_store rowPt H); (case hgd => exact rfl); (case ho => exact rfl); (case hx => exact rfl); (case hy => exact rfl); (case hi => first | exact at0 | exact at1 | exact at2 | exact at3 | exact at4 | exact at5 | exact at6 | exact at7 | exact at8 | exact at9); intro ws H' _ _; replace H := H'; clear H'; simp only [List.set_cons_zero, List.set_cons_succ] at H; go_simp)
    | ((with_reducible apply own_store rowQt H); (case hgd => exact rfl); (case ho => exact rfl); (case hx => exact rfl); (case hy => exact rfl); (case hi => first | exact at0 | exact at1 | exact at2 | exact at3 | exact at4 | exact at5 | exact at6 | exact at7 | exact at8 | exact at9); intro ws H' _ _; replace H := H'; clear H'; simp only [List.set_cons_zero] at H; go_simp)
    | ((with_reducible apply own_loadC cellSb H); (case hgd => exact rfl); (case ho => exact rfl); (case hx => exact rfl); (case hi => first | exact at0 | exact at1 | exact at2 | exact at3 | exact at4 | exact at5 | exact at6 | exact at7 | exact at8 | exact at9); (case hj => exact rfl); intro _ _; go_simp)
    | ((with_reducible apply own_loadCg cellSb H); (case hw => exact rfl); (case ho => exact rfl); (case hx => exact rfl); (case hi => first | exact at0 | exact at1 | exact at2 | exact at3 | exact at4 | exact at5 | exact at6 | exact at7 | exact at8 | exact at9); (case hj => exact rfl); intro _ _; go_simp)
    | ((with_reducible apply own_load rowPt H); (case hgd => exact rfl); (case ho => exact rfl); (case hx => exact rfl); (case hi => first | exact at0 | exact at1 | exact at2 | exact at3 | exact at4 | exact at5 | exact at6 | exact at7 | exact at8 | exact at9); intro _ _; go_simp)
    | ((with_reducible refine (awake12_k _ (HT.out.below H.out.bel)).mono ?_); rintro e wc ⟨rfl, hb⟩; replace H := Lib.hid (H.out.call hb); clear hb))
  go_ret
  exact ⟨rfl, H.out.bel⟩
set_option maxRecDepth 8000 in
set_option maxHeartbeats 3200000 in
theorem swaps_out4 {a b1 b2 : Option Addr} {n c x m1 cp1 m2 cp2 : Nat} {z : Int} (w : World) (hT : Tp w) (hs : Sb w w.heap.size a n c x) (ok : okS n z = true) (h1 : 1 ≤ m1) (h2 : m1 ≤ 6) (_h3 : 1 ≤ m2) (h : 6 < m2) :
    Calls Tryz.prog 7 #[.agg #[.slice a n c, .int .i64 z], .agg #[.slice b1 m1 cp1, .slice b2 m2 cp2]] w fun e w' => e = .returned (.bool true) ∧ Below w.heap.size w w' := by
  have d0 : decide ((m1 : Int) < 1) = false := by first | (simp; done) | (simp; omega)
  have d1 : decide ((6 : Int) < (m1 : Int)) = false := by first | (simp; done) | (simp; omega)
  have d2 : decide ((m2 : Int) < 1) = false := by first | (simp; done) | (simp; omega)
  have d3 : decide ((6 : Int) < (m2 : Int)) = true := by first | (simp; done) | (simp; omega)
  have HS := Lib.hid hs
  have OK := Lib.hid ok
  clear hs ok
  clear h1 h2 _h3 h
  have HT := Lib.hid hT
  clear hT
  have H := Lib.hid (Ow.start w)
  go_enter Tryz.func7, Tryz.ntmps7
  go_wp2_with (first
    | ((fail_if_success have := g2); (with_reducible apply own_boxC H); (case hgd => exact rfl); (case ho => exact rfl); (case hx => exact rfl); intro w2 g2 H' _ _; replace H := H'; clear H'; go_simp)
    | ((fail_if_success have := g3); (with_reducible apply own_boxC H); (case hgd => exact rfl); (case ho => exact rfl); (case hx => exact rfl); intro w3 g3 H' _ _; replace H := H'; clear H'; go_simp)
    | ((with_reducible apply own_loadA rowSpK ?hC H); (case hgd => exact rfl); (case ho => exact rfl); (case hx => exact rfl); (case hi => first | exact at0 | exact at1 | exact at2 | exact at3 | exact at4 | exact at5 | exact at6 | exact at7 | exact at8 | exact at9); (case hC => exact rfl); intro _ _; go_simp)
    | ((fail_if_success have := mk1); (with_reducible refine (made11_any OK.out _ (HT.out.below H.out.bel) ((HS.out.below H.out.bel).more H.out.bel.size)).mono ?_); rintro e wc ⟨v1, r1, P, rfl, hv, hw, hb⟩; replace H := Lib.hid (H.out.call hb); have V1 := Lib.hid hv; have W1 := Lib.hid hw; have mk1 := trivial; clear hb hv hw)
    | ((fail_if_success have := g5); (fail_if_success have := g5); (with_reducible apply own_alloc nilPt H); (case hgd => exact rfl); (case ho => exact rfl); intro w5 g5 H' _ _; replace H := H'; clear H'; go_simp)
    | ((fail_if_success have := g6); (fail_if_success have := g6); (with_reducible apply own_alloc nilQt H); (case hgd => exact rfl); (case ho => exact rfl); intro w6 g6 H' _ _; replace H := H'; clear H'; go_simp)
    | ((with_reducible apply own_store rowPt H); (case hgd => exact rfl); (case ho => exact rfl); (case hx => exact rfl); (case hy => exact rfl); (case hi => first | exact at0 | exact at1 | exact at2 | exact at3 | exact at4 | exact at5 | exact at6 | exact at7 | exact at8 | exact at9); intro ws H' _ _; replace H := H'; clear H'; simp only [List.set_cons_zero, List.set_cons_succ] at H; go_simp)
    | ((with_reducible apply own_store rowQt H); (case hgd => exact rfl); (case ho => exact rfl); (case hx => exact rfl); (case hy => exact rfl); (case hi => first | exact at0 | exact at1 | exact at2 | exact at3 | exact at4 | exact at5 | exact at6 | exact at7 | exact at8 | exact at9); intro ws H' _ _; replace H := H'; clear H'; simp only [List.set_cons_zero] at H; go_simp)
    | ((with_reducible apply own_loadC cellSb H); (case hgd => exact rfl); (case ho => exact rfl); (case hx => exact rfl); (case hi => first | exact at0 | exact at1 | exact at2 | exact at3 | exact at4 | exact at5 | exact at6 | exact at7 | exact at8 | exact at9); (case hj => exact rfl); intro _ _; go_simp)
    | ((with_reducible apply own_loadCg cellSb H); (case hw => exact rfl); (case ho => exact rfl); (case hx => exact rfl); (case hi => first | exact at0 | exact at1 | exact at2 | exact at3 | exact at4 | exact at5 | exact at6 | exact at7 | exact at8 | exact at9); (case hj => exact rfl); intro _ _; go_simp)
    | ((with_reducible apply own_load rowPt H); (case hgd => exact rfl); (case ho => exact rfl); (case hx => exact rfl); (case hi => first | exact at0 | exact at1 | exact at2 | exact at3 | exact at4 | exact at5 | exact at6 | exact at7 | exact at8 | exact at9); intro _ _; go_simp)
    | ((with_reducible refine (awake12_k _ (HT.out.below H.out.bel)).mono ?_); rintro e wc ⟨rfl, hb⟩; replace H := Lib.hid (H.out.call hb); clear hb))
  go_ret
  exact ⟨rfl, H.out.bel⟩
set_option maxRecDepth 8000 in
set_option maxHeartbeats 3200000 in
theorem swaps_k {a b1 b2 : Option Addr} {n c x m1 cp1 m2 cp2 y1 y2 p K : Nat} {z : Int} (w : World) (hT : Tp w) (hs : Sb w w.heap.size a n c x) (hy1 : Sb w w.heap.size b1 m1 cp1 y1) (hy2 : Sb w w.heap.size b2 m2 cp2 y2) (ok : okS n z = true) (h1 : 1 ≤ m1) (h2 : m1 ≤ 6) (h3 : 1 ≤ m2) (h4 : m2 ≤ 6) (hp : y1 * y2 = p) (hK : dl 8 p = K) (hK0 : 0 < K) (hK12 : K ≤ 12) :
    Calls Tryz.prog 7 #[.agg #[.slice a n c, .int .i64 z], .agg #[.slice b1 m1 cp1, .slice b2 m2 cp2]] w fun e w' => e = .returned (.bool true) ∧ Below w.heap.size w w' := by
  have d0 : decide ((m1 : Int) < 1) = false := by first | (simp; done) | (simp; omega)
  have d1 : decide ((6 : Int) < (m1 : Int)) = false := by first | (simp; done) | (simp; omega)
  have d2 : decide ((m2 : Int) < 1) = false := by first | (simp; done) | (simp; omega)
  have d3 : decide ((6 : Int) < (m2 : Int)) = false := by first | (simp; done) | (simp; omega)
  have HFT : Hid (p < 2 ^ (8 * K)) := Lib.hid ((dl_le 8 p K (by omega)).1 (Nat.le_of_eq hK))
  have HF3 : Hid (p < 2 ^ (8 * (K + 3))) := Lib.hid (Nat.lt_of_lt_of_le HFT.out (Nat.pow_le_pow_right (by omega) (by omega)))
  have HB0 : Hid (∀ j, K ≤ j → bt p j = 0) := Lib.hid fun j hj => bt_over HFT.out hj
  obtain ⟨M, hM⟩ : ∃ M, K + 3 = M := ⟨_, rfl⟩
  rw [hM] at HF3
  have HS := Lib.hid hs
  have HY1 := Lib.hid hy1
  have HY2 := Lib.hid hy2
  have OK := Lib.hid ok
  have HPR := Lib.hid hp
  have HK := Lib.hid hK
  clear hs hy1 hy2 ok hp hK
  have HT := Lib.hid hT
  clear hT
  have H := Lib.hid (Ow.start w)
  go_enter Tryz.func7, Tryz.ntmps7
  go_upto_region 12 with (first
    | ((fail_if_success have := g2); (with_reducible apply own_boxC H); (case hgd => exact rfl); (case ho => exact rfl); (case hx => exact rfl); intro w2 g2 H' _ _; replace H := H'; clear H'; go_simp)
    | ((fail_if_success have := g3); (with_reducible apply own_boxC H); (case hgd => exact rfl); (case ho => exact rfl); (case hx => exact rfl); intro w3 g3 H' _ _; replace H := H'; clear H'; go_simp)
    | ((with_reducible apply own_loadA rowSpK ?hC H); (case hgd => exact rfl); (case ho => exact rfl); (case hx => exact rfl); (case hi => first | exact at0 | exact at1 | exact at2 | exact at3 | exact at4 | exact at5 | exact at6 | exact at7 | exact at8 | exact at9); (case hC => exact rfl); intro _ _; go_simp)
    | ((fail_if_success have := mk1); (with_reducible refine (made11_any OK.out _ (HT.out.below H.out.bel) ((HS.out.below H.out.bel).more H.out.bel.size)).mono ?_); rintro e wc ⟨v1, r1, P, rfl, hv, hw, hb⟩; replace H := Lib.hid (H.out.call hb); have V1 := Lib.hid hv; have W1 := Lib.hid hw; have mk1 := trivial; clear hb hv hw)
    | ((fail_if_success have := g5); (fail_if_success have := g5); (with_reducible apply own_alloc nilPt H); (case hgd => exact rfl); (case ho => exact rfl); intro w5 g5 H' _ _; replace H := H'; clear H'; go_simp)
    | ((fail_if_success have := g6); (fail_if_success have := g6); (with_reducible apply own_alloc nilQt H); (case hgd => exact rfl); (case ho => exact rfl); intro w6 g6 H' _ _; replace H := H'; clear H'; go_simp)
    | ((with_reducible apply own_store rowPt H); (case hgd => exact rfl); (case ho => exact rfl); (case hx => exact rfl); (case hy => exact rfl); (case hi => first | exact at0 | exact at1 | exact at2 | exact at3 | exact at4 | exact at5 | exact at6 | exact at7 | exact at8 | exact at9); intro ws H' _ _; replace H := H'; clear H'; simp only [List.set_cons_zero, List.set_cons_succ] at H; go_simp)
    | ((with_reducible apply own_store rowQt H); (case hgd => exact rfl); (case ho => exact rfl); (case hx => exact rfl); (case hy => exact rfl); (case hi => first | exact at0 | exact at1 | exact at2 | exact at3 | exact at4 | exact at5 | exact at6 | exact at7 | exact at8 | exact at9); intro ws H' _ _; replace H := H'; clear H'; simp only [List.set_cons_zero] at H; go_simp)
    | ((with_reducible apply own_loadC cellSb H); (case hgd => exact rfl); (case ho => exact rfl); (case hx => exact rfl); (case hi => first | exact at0 | exact at1 | exact at2 | exact at3 | exact at4 | exact at5 | exact at6 | exact at7 | exact at8 | exact at9); (case hj => exact rfl); intro _ _; go_simp)
    | ((with_reducible apply own_loadCg cellSb H); (case hw => exact rfl); (case ho => exact rfl); (case hx => exact rfl); (case hi => first | exact at0 | exact at1 | exact at2 | exact at3 | exact at4 | exact at5 | exact at6 | exact at7 | exact at8 | exact at9); (case hj => exact rfl); intro _ _; go_simp)
    | ((with_reducible apply own_load rowPt H); (case hgd => exact rfl); (case ho => exact rfl); (case hx => exact rfl); (case hi => first | exact at0 | exact at1 | exact at2 | exact at3 | exact at4 | exact at5 | exact at6 | exact at7 | exact at8 | exact at9); intro _ _; go_simp)
    | ((fail_if_success have := Va); (with_reducible refine (mult_k _ (HT.out.below H.out.bel) ((HY1.out.below H.out.bel).more H.out.bel.size) V1.out h1 (by omega)).mono ?_); rintro e wc ⟨ka, rfl, hv, hb⟩; replace H := Lib.hid (H.out.call hb); have Va := Lib.hid hv; clear hb hv)
    | ((fail_if_success have := Vb); (with_reducible refine (mult_k _ (HT.out.below H.out.bel) ((HY2.out.below H.out.bel).more H.out.bel.size) Va.out h3 (by omega)).mono ?_); rintro e wc ⟨kb, rfl, hv, hb⟩; replace H := Lib.hid (H.out.call hb); have Vb := Lib.hid hv; clear hb hv)
    | ((fail_if_success have := Vc); (with_reducible refine (mult_k _ (HT.out.below H.out.bel) ((HY2.out.below H.out.bel).more H.out.bel.size) V1.out h3 (by omega)).mono ?_); rintro e wc ⟨kc, rfl, hv, hb⟩; replace H := Lib.hid (H.out.call hb); have Vc := Lib.hid hv; clear hb hv)
    | ((fail_if_success have := Vd); (with_reducible refine (mult_k _ (HT.out.below H.out.bel) ((HY1.out.below H.out.bel).more H.out.bel.size) Vc.out h1 (by omega)).mono ?_); rintro e wc ⟨kd, rfl, hv, hb⟩; replace H := Lib.hid (H.out.call hb); have Vd := Lib.hid hv; clear hb hv)
    | ((fail_if_success have := g8); (fail_if_success have := g8); (with_reducible apply own_alloc nilPt H); (case hgd => exact rfl); (case ho => exact rfl); intro w8 g8 H' _ _; replace H := H'; clear H'; go_simp)
    | ((fail_if_success have := g10); (fail_if_success have := g10); (with_reducible apply own_alloc nilPt H); (case hgd => exact rfl); (case ho => exact rfl); intro w10 g10 H' _ _; replace H := H'; clear H'; go_simp)
    | ((fail_if_success have := g12); (fail_if_success have := g12); (with_reducible apply own_alloc nilPt H); (case hgd => exact rfl); (case ho => exact rfl); intro w12 g12 H' _ _; replace H := H'; clear H'; go_simp)
    | ((fail_if_success have := g14); (fail_if_success have := g14); (with_reducible apply own_alloc nilPt H); (case hgd => exact rfl); (case ho => exact rfl); intro w14 g14 H' _ _; replace H := H'; clear H'; go_simp)
    | ((fail_if_success have := mkp); (with_reducible refine (prod_x _ _ _ _ _ _ _ _ _ (by omega) (by omega) ((HY1.out.below H.out.bel).more H.out.bel.size) ((HY2.out.below H.out.bel).more H.out.bel.size) HPR.out HK.out).mono ?_); rintro e wc ⟨bm, dm, rfl, hs, hb⟩; replace H := Lib.hid (H.out.call hb); have SP := Lib.hid hs; have mkp := trivial; clear hb hs)
    | ((fail_if_success have := mkn); (with_reducible apply own_new H); (case hgd => exact rfl); (case ho => exact rfl); (case hs => exact rfl); (case hx => exact rfl); (case hS => exact SP.out.sl); (case h0 => exact HB0.out); (case hn => exact hK0); (case hl => omega); intro wn gn cn LN H' _ _; replace H := H'; clear H'; have mkn := trivial; go_simp)
    | ((fail_if_success have := gz); (with_reducible apply lay_b3 (x := 0) H); (case hgd => exact rfl); (case ho => exact rfl); (case h0 => exact rfl); (case h1 => exact rfl); (case h2 => exact rfl); intro wz gz H' _ _; replace H := H'; clear H'; go_simp)
    | ((fail_if_success have := mkz); (with_reducible apply own_putZ (N := M) H); (case hgd => exact rfl); (case ho => exact rfl); (case hs => exact rfl); (case hy => exact rfl); (case hc => exact LN.out); (case hx => exact HFT.out); (case hn => omega); (case h0 => omega); (case hm => omega); (case hN => omega); intro wl gl cl LL H' _ _; replace H := H'; clear H'; have mkz := trivial; go_simp)
    | ((fail_if_success have := Ve); (with_reducible refine (mult_k _ (HT.out.below H.out.bel) (sb_cap (H.out.row 0 rfl) LL.out HF3.out) V1.out (by omega) (by omega)).mono ?_); rintro e wc ⟨ke, rfl, hv, hb⟩; replace H := Lib.hid (H.out.call hb); have Ve := Lib.hid hv; clear hb hv)
    | ((fail_if_success have := g17); (fail_if_success have := g17); (with_reducible apply own_alloc nilPt H); (case hgd => exact rfl); (case ho => exact rfl); intro w17 g17 H' _ _; replace H := H'; clear H'; go_simp))
  clear mk1 mkp mkn mkz
  have E1 : Hid ((pmul edK y2 (pmul edK y1 P)) = (pmul edK y1 (pmul edK y2 P))) := Lib.hid (by rw [← pmul_mul, ← pmul_mul, Nat.mul_comm])
  have E2 : Hid ((pmul edK p P) = (pmul edK y2 (pmul edK y1 P))) := Lib.hid (by rw [← HPR.out, pmul_mul])
  go_wp2_with (first
    | ((with_reducible apply own_loadg rowPt H); (case hw => exact rfl); (case ho => exact rfl); (case hx => exact rfl); (case hi => first | exact at0 | exact at1 | exact at2 | exact at3 | exact at4 | exact at5 | exact at6 | exact at7 | exact at8 | exact at9); intro _ _; go_simp)
    | ((fail_if_success have := mq1); (with_reducible refine (ptEqual_k _ (HT.out.below H.out.bel) Vb.out Vd.out (decide_eq_true E1.out)).mono ?_); rintro e wc ⟨rfl, hb⟩; replace H := Lib.hid (H.out.call hb); have mq1 := trivial; clear hb)
    | ((fail_if_success have := mq2); (with_reducible refine (ptEqual_k _ (HT.out.below H.out.bel) Ve.out Vb.out (decide_eq_true E2.out)).mono ?_); rintro e wc ⟨rfl, hb⟩; replace H := Lib.hid (H.out.call hb); have mq2 := trivial; clear hb)
    | ((with_reducible refine (awake12_k _ (HT.out.below H.out.bel)).mono ?_); rintro e wc ⟨rfl, hb⟩; replace H := Lib.hid (H.out.call hb); clear hb))
  go_ret
  exact ⟨rfl, H.out.bel⟩
set_option maxRecDepth 8000 in
set_option maxHeartbeats 3200000 in
theorem swaps_z {a b1 b2 : Option Addr} {n c x m1 cp1 m2 cp2 y1 y2 : Nat} {z : Int} (w : World) (hT : Tp w) (hs : Sb w w.heap.size a n c x) (hy1 : Sb w w.heap.size b1 m1 cp1 y1) (hy2 : Sb w w.heap.size b2 m2 cp2 y2) (ok : okS n z = true) (h1 : 1 ≤ m1) (h2 : m1 ≤ 6) (h3 : 1 ≤ m2) (h4 : m2 ≤ 6) (hp : y1 * y2 = 0) :
    Calls Tryz.prog 7 #[.agg #[.slice a n c, .int .i64 z], .agg #[.slice b1 m1 cp1, .slice b2 m2 cp2]] w fun e w' => e = .returned (.bool true) ∧ Below w.heap.size w w' := by
  have d0 : decide ((m1 : Int) < 1) = false := by first | (simp; done) | (simp; omega)
  have d1 : decide ((6 : Int) < (m1 : Int)) = false := by first | (simp; done) | (simp; omega)
  have d2 : decide ((m2 : Int) < 1) = false := by first | (simp; done) | (simp; omega)
  have d3 : decide ((6 : Int) < (m2 : Int)) = false := by first | (simp; done) | (simp; omega)
  have HK : Hid (dl 8 0 = 0) := Lib.hid (by decide)
  have HS := Lib.hid hs
  have HY1 := Lib.hid hy1
  have HY2 := Lib.hid hy2
  have OK := Lib.hid ok
  have HPR := Lib.hid hp
  clear hs hy1 hy2 ok hp
  have HT := Lib.hid hT
  clear hT
  have H := Lib.hid (Ow.start w)
  go_enter Tryz.func7, Tryz.ntmps7
  go_upto_region 12 with (first
    | ((fail_if_success have := g2); (with_reducible apply own_boxC H); (case hgd => exact rfl); (case ho => exact rfl); (case hx => exact rfl); intro w2 g2 H' _ _; replace H := H'; clear H'; go_simp)
    | ((fail_if_success have := g3); (with_reducible apply own_boxC H); (case hgd => exact rfl); (case ho => exact rfl); (case hx => exact rfl); intro w3 g3 H' _ _; replace H := H'; clear H'; go_simp)
    | ((with_reducible apply own_loadA rowSpK ?hC H); (case hgd => exact rfl); (case ho => exact rfl); (case hx => exact rfl); (case hi => first | exact at0 | exact at1 | exact at2 | exact at3 | exact at4 | exact at5 | exact at6 | exact at7 | exact at8 | exact at9); (case hC => exact rfl); intro _ _; go_simp)
    | ((fail_if_success have := mk1); (with_reducible refine (made11_any OK.out _ (HT.out.below H.out.bel) ((HS.out.below H.out.bel).more H.out.bel.size)).mono ?_); rintro e wc ⟨v1, r1, P, rfl, hv, hw, hb⟩; replace H := Lib.hid (H.out.call hb); have V1 := Lib.hid hv; have W1 := Lib.hid hw; have mk1 := trivial; clear hb hv hw)
    | ((fail_if_success have := g5); (fail_if_success have := g5); (with_reducible apply own_alloc nilPt H); (case hgd => exact rfl); (case ho => exact rfl); intro w5 g5 H' _ _; replace H := H'; clear H'; go_simp)
    | ((fail_if_success have := g6); (fail_if_success have := g6); (with_reducible apply own_alloc nilQt H); (case hgd => exact rfl); (case ho => exact rfl); intro w6 g6 H' _ _; replace H := H'; clear H'; go_simp)
    | ((with_reducible apply own_store rowPt H); (case hgd => exact rfl); (case ho => exact rfl); (case hx => exact rfl); (case hy => exact rfl); (case hi => first | exact at0 | exact at1 | exact at2 | exact at3 | exact at4 | exact at5 | exact at6 | exact at7 | exact at8 | exact at9); intro ws H' _ _; replace H := H'; clear H'; simp only [List.set_cons_zero, List.set_cons_succ] at H; go_simp)
    | ((with_reducible apply own_store rowQt H); (case hgd => exact rfl); (case ho => exact rfl); (case hx => exact rfl); (case hy => exact rfl); (case hi => first | exact at0 | exact at1 | exact at2 | exact at3 | exact at4 | exact at5 | exact at6 | exact at7 | exact at8 | exact at9); intro ws H' _ _; replace H := H'; clear H'; simp only [List.set_cons_zero] at H; go_simp)
    | ((with_reducible apply own_loadC cellSb H); (case hgd => exact rfl); (case ho => exact rfl); (case hx => exact rfl); (case hi => first | exact at0 | exact at1 | exact at2 | exact at3 | exact at4 | exact at5 | exact at6 | exact at7 | exact at8 | exact at9); (case hj => exact rfl); intro _ _; go_simp)
    | ((with_reducible apply own_loadCg cellSb H); (case hw => exact rfl); (case ho => exact rfl); (case hx => exact rfl); (case hi => first | exact at0 | exact at1 | exact at2 | exact at3 | exact at4 | exact at5 | exact at6 | exact at7 | exact at8 | exact at9); (case hj => exact rfl); intro _ _; go_simp)
    | ((with_reducible apply own_load rowPt H); (case hgd => exact rfl); (case ho => exact rfl); (case hx => exact rfl); (case hi => first | exact at0 | exact at1 | exact at2 | exact at3 | exact at4 | exact at5 | exact at6 | exact at7 | exact at8 | exact at9); intro _ _; go_simp)
    | ((fail_if_success have := Va); (with_reducible refine (mult_k _ (HT.out.below H.out.bel) ((HY1.out.below H.out.bel).more H.out.bel.size) V1.out h1 (by omega)).mono ?_); rintro e wc ⟨ka, rfl, hv, hb⟩; replace H := Lib.hid (H.out.call hb); have Va := Lib.hid hv; clear hb hv)
    | ((fail_if_success have := Vb); (with_reducible refine (mult_k _ (HT.out.below H.out.bel) ((HY2.out.below H.out.bel).more H.out.bel.size) Va.out h3 (by omega)).mono ?_); rintro e wc ⟨kb, rfl, hv, hb⟩; replace H := Lib.hid (H.out.call hb); have Vb := Lib.hid hv; clear hb hv)
    | ((fail_if_success have := Vc); (with_reducible refine (mult_k _ (HT.out.below H.out.bel) ((HY2.out.below H.out.bel).more H.out.bel.size) V1.out h3 (by omega)).mono ?_); rintro e wc ⟨kc, rfl, hv, hb⟩; replace H := Lib.hid (H.out.call hb); have Vc := Lib.hid hv; clear hb hv)
    | ((fail_if_success have := Vd); (with_reducible refine (mult_k _ (HT.out.below H.out.bel) ((HY1.out.below H.out.bel).more H.out.bel.size) Vc.out h1 (by omega)).mono ?_); rintro e wc ⟨kd, rfl, hv, hb⟩; replace H := Lib.hid (H.out.call hb); have Vd := Lib.hid hv; clear hb hv)
    | ((fail_if_success have := g8); (fail_if_success have := g8); (with_reducible apply own_alloc nilPt H); (case hgd => exact rfl); (case ho => exact rfl); intro w8 g8 H' _ _; replace H := H'; clear H'; go_simp)
    | ((fail_if_success have := g10); (fail_if_success have := g10); (with_reducible apply own_alloc nilPt H); (case hgd => exact rfl); (case ho => exact rfl); intro w10 g10 H' _ _; replace H := H'; clear H'; go_simp)
    | ((fail_if_success have := g12); (fail_if_success have := g12); (with_reducible apply own_alloc nilPt H); (case hgd => exact rfl); (case ho => exact rfl); intro w12 g12 H' _ _; replace H := H'; clear H'; go_simp)
    | ((fail_if_success have := g14); (fail_if_success have := g14); (with_reducible apply own_alloc nilPt H); (case hgd => exact rfl); (case ho => exact rfl); intro w14 g14 H' _ _; replace H := H'; clear H'; go_simp)
    | ((fail_if_success have := mkp); (with_reducible refine (prod_x _ _ _ _ _ _ _ _ _ (by omega) (by omega) ((HY1.out.below H.out.bel).more H.out.bel.size) ((HY2.out.below H.out.bel).more H.out.bel.size) HPR.out HK.out).mono ?_); rintro e wc ⟨bm, dm, rfl, hs, hb⟩; replace H := Lib.hid (H.out.call hb); have SP := Lib.hid hs; have mkp := trivial; clear hb hs)
    | ((fail_if_success have := mk0); (with_reducible apply lay_app0); (case hgd => exact rfl); (case ho => exact rfl); (case hs => exact rfl); (case hy => exact rfl); have mk0 := trivial; intro _ _; go_simp)
    | ((fail_if_success have := gz); (with_reducible apply lay_b3 (x := 0) H); (case hgd => exact rfl); (case ho => exact rfl); (case h0 => exact rfl); (case h1 => exact rfl); (case h2 => exact rfl); intro wz gz H' _ _; replace H := H'; clear H'; go_simp)
    | ((fail_if_success have := mkn); (with_reducible apply own_new H); (case hgd => exact rfl); (case ho => exact rfl); (case hs => exact rfl); (case hx => exact rfl); (case hS => exact (sb_cap (n := 3) (H.out.row 0 rfl) (by omega) (by decide)).sl); (case h0 => exact fun j _ => bt_over (x := 0) (n := 0) (by decide) (Nat.zero_le j)); (case hn => omega); (case hl => omega); intro wn gn cn LN H' _ _; replace H := H'; clear H'; have mkn := trivial; go_simp)
    | ((fail_if_success have := Ve); (with_reducible refine (mult_k _ (HT.out.below H.out.bel) (sb_cap (n := 3) (x := 0) (H.out.row 0 rfl) LN.out (by decide)) V1.out (by omega) (by omega)).mono ?_); rintro e wc ⟨ke, rfl, hv, hb⟩; replace H := Lib.hid (H.out.call hb); have Ve := Lib.hid hv; clear hb hv)
    | ((fail_if_success have := g17); (fail_if_success have := g17); (with_reducible apply own_alloc nilPt H); (case hgd => exact rfl); (case ho => exact rfl); intro w17 g17 H' _ _; replace H := H'; clear H'; go_simp))
  clear mk1 mkp mkn mk0
  have E1 : Hid ((pmul edK y2 (pmul edK y1 P)) = (pmul edK y1 (pmul edK y2 P))) := Lib.hid (by rw [← pmul_mul, ← pmul_mul, Nat.mul_comm])
  have E2 : Hid ((pmul edK 0 P) = (pmul edK y2 (pmul edK y1 P))) := Lib.hid (by rw [← HPR.out, pmul_mul])
  go_wp2_with (first
    | ((with_reducible apply own_loadg rowPt H); (case hw => exact rfl); (case ho => exact rfl); (case hx => exact rfl); (case hi => first | exact at0 | exact at1 | exact at2 | exact at3 | exact at4 | exact at5 | exact at6 | exact at7 | exact at8 | exact at9); intro _ _; go_simp)
    | ((fail_if_success have := mq1); (with_reducible refine (ptEqual_k _ (HT.out.below H.out.bel) Vb.out Vd.out (decide_eq_true E1.out)).mono ?_); rintro e wc ⟨rfl, hb⟩; replace H := Lib.hid (H.out.call hb); have mq1 := trivial; clear hb)
    | ((fail_if_success have := mq2); (with_reducible refine (ptEqual_k _ (HT.out.below H.out.bel) Ve.out Vb.out (decide_eq_true E2.out)).mono ?_); rintro e wc ⟨rfl, hb⟩; replace H := Lib.hid (H.out.call hb); have mq2 := trivial; clear hb)
    | ((with_reducible refine (awake12_k _ (HT.out.below H.out.bel)).mono ?_); rintro e wc ⟨rfl, hb⟩; replace H := Lib.hid (H.out.call hb); clear hb))
  go_ret
  exact ⟨rfl, H.out.bel⟩
theorem swaps_walk {a b1 b2 : Option Addr} {n c x m1 cp1 m2 cp2 y1 y2 : Nat} {z : Int} (w : World) (hT : Tp w) (hs : Sb w w.heap.size a n c x) (hy1 : Sb w w.heap.size b1 m1 cp1 y1) (hy2 : Sb w w.heap.size b2 m2 cp2 y2) :
    Calls Tryz.prog 7 #[.agg #[.slice a n c, .int .i64 z], .agg #[.slice b1 m1 cp1, .slice b2 m2 cp2]] w fun e w' => e = .returned (.bool true) ∧ Below w.heap.size w w' := by
  cases ok : okS n z with
  | false => exact swaps_none w hT hs ok
  | true =>
    by_cases h1 : m1 < 1
    · exact swaps_out1 w hT hs ok h1
    by_cases h2 : 6 < m1
    · exact swaps_out2 w hT hs ok (by omega) h2
    by_cases h3 : m2 < 1
    · exact swaps_out3 w hT hs ok (by omega) (by omega) h3
    by_cases h4 : 6 < m2
    · exact swaps_out4 w hT hs ok (by omega) (by omega) (by omega) h4
    by_cases h5 : y1 * y2 = 0
    · exact swaps_z w hT hs hy1 hy2 ok (by omega) (by omega) (by omega) (by omega) h5
    have f1 : y1 < 2 ^ 48 := Nat.lt_of_lt_of_le hy1.fits (Nat.pow_le_pow_right (by omega) (by omega))
    have f2 : y2 < 2 ^ 48 := Nat.lt_of_lt_of_le hy2.fits (Nat.pow_le_pow_right (by omega) (by omega))
    have f3 : y1 * y2 < 2 ^ (8 * 12) := Nat.lt_of_le_of_lt (Nat.mul_le_mul_left y1 (Nat.le_of_lt f2)) (Nat.lt_of_lt_of_le ((Nat.mul_lt_mul_right (by decide)).2 f1) (by decide))
    exact swaps_k w hT hs hy1 hy2 ok (by omega) (by omega) (by omega) (by omega) rfl rfl ((dl_pos (by omega)).2 (by omega)) ((dl_le 8 _ 12 (by omega)).2 f3)
end Go.Proofs.YtkkmjlkeohkgnaaGreatDoor
