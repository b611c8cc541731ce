/-
  The walk of MultParts. No statement is proved here: lemmas for the walks.
-/
import Derived.Test.YtkkmjlkeohkgnaaGreatDoorZMtAwake
import Derived.Test.YtkkmjlkeohkgnaaGreatDoorBuY
import Derived.Test.YtkkmjlkeohkgnaaGreatDoorBuR
import Derived.Test.YtkkmjlkeohkgnaaGreatDoorZPutZ
import Derived.Test.YtkkmjlkeohkgnaaGreatDoorZOwnNew
import Derived.Test.YtkkmjlkeohkgnaaGreatDoorZPtAdd
import Derived.Deep.CutRange
namespace Go.Proofs.YtkkmjlkeohkgnaaGreatDoor
open Go.RowKit

theorem plus_x (a : Option Addr) (n c x : Nat) (a' : Option Addr) (m c' y : Nat) (w : World) (hn : n ≤ 100) (hm : m ≤ 100) (h : Sb w w.heap.size a n c x) (h' : Sb w w.heap.size a' m c' y) {p K : Nat} (hp : x + y = p) (hK : dl 8 p = K) :
    Calls Tryz.prog 25 #[.slice a n c, .slice a' m c'] w fun e w' => ∃ b d, e = .returned (.slice b K d) ∧ Sb w' w'.heap.size b K d p ∧ Below w.heap.size w w' :=
  (nrefAdd_any a n c x a' m c' y w (by omega) (by omega) h h').mono fun _ w' ⟨v, he, hg⟩ => by
    obtain ⟨b, d, hv, hs, hbl⟩ := hg
    subst hp hK
    exact ⟨b, d, by rw [he, hv], hs, hbl⟩
theorem sb_cap2 {w : World} {g c n x : Nat} (h : w.heap[g]? = some (YB c (bt x))) (hc : n ≤ c) (hx : x < 2 ^ (8 * n)) : Sb w w.heap.size (some ⟨g, 0, none⟩) n c x :=
  ⟨⟨hc, (fun e => by cases e), fun ad e _ => ⟨g, 0, (Option.some.inj e).symm, lt_row h, fun i hi => by rw [Nat.zero_add]; exact (blk_rowB h).cell i (by omega)⟩⟩, hx⟩
set_option maxRecDepth 8000 in
set_option maxHeartbeats 3200000 in
theorem parts12_none {a b1 b2 : Option Addr} {n c x m1 cp1 m2 cp2 : Nat} {z : Int} (w : World) (hT : Tp w) (hs : Sb w w.heap.size a n c x) (ok : okS n z = false) :
    Calls Tryz.prog 8 #[.agg #[.slice a n c, .int .i64 z], .agg #[.slice b1 m1 cp1, .slice b2 m2 cp2]] w fun e w' => e = .returned (.bool true) ∧ Below w.heap.size w w' := by
  have HS := Lib.hid hs
  have OK := Lib.hid ok
  clear hs ok
  have HT := Lib.hid hT
  clear hT
  have H := Lib.hid (Ow.start w)
  go_enter Tryz.func8, Tryz.ntmps8
  go_wp2_with (first
    | ((fail_if_success have := g2); (with_reducible apply own_boxC H); (case hgd => exact rfl); (case ho => exact rfl); (case hx => exact rfl); intro w2 g2 H' _ _; replace H := H'; clear H'; go_simp)
    | ((fail_if_success have := g3); (with_reducible apply own_boxC H); (case hgd => exact rfl); (case ho => exact rfl); (case hx => exact rfl); intro w3 g3 H' _ _; replace H := H'; clear H'; go_simp)
    | ((with_reducible apply own_loadA rowSpK ?hC H); (case hgd => exact rfl); (case ho => exact rfl); (case hx => exact rfl); (case hi => first | exact at0 | exact at1 | exact at2 | exact at3 | exact at4 | exact at5 | exact at6 | exact at7 | exact at8 | exact at9); (case hC => exact rfl); intro _ _; go_simp)
    | ((fail_if_success have := mk1); (with_reducible refine (made11_any OK.out _ (HT.out.below H.out.bel) ((HS.out.below H.out.bel).more H.out.bel.size)).mono ?_); rintro e wc ⟨v1, r1, P, rfl, hv, hw, hb⟩; replace H := Lib.hid (H.out.call hb); have V1 := Lib.hid hv; have W1 := Lib.hid hw; have mk1 := trivial; clear hb hv hw)
    | ((fail_if_success have := g5); (fail_if_success have := g5); (with_reducible apply own_alloc nilPt H); (case hgd => exact rfl); (case ho => exact rfl); intro w5 g5 H' _ _; replace H := H'; clear H'; go_simp)
    | ((fail_if_success have := g6); (fail_if_success have := g6); (with_reducible apply own_alloc nilQt H); (case hgd => exact rfl); (case ho => exact rfl); intro w6 g6 H' _ _; replace H := H'; clear H'; go_simp)
    | ((with_reducible apply own_store rowPt H); (case hgd => exact rfl); (case ho => exact rfl); (case hx => exact rfl); (case hy => exact rfl); (case hi => first | exact at0 | exact at1 | exact at2 | exact at3 | exact at4 | exact at5 | exact at6 | exact at7 | exact at8 | exact at9); intro ws H' _ _; replace H := H'; clear H'; simp only [List.set_cons_zero, List.set_cons_succ] at H; go_simp)
    | ((with_reducible apply own_store rowQt H); (case hgd => exact rfl); (case ho => exact rfl); (case hx => exact rfl); (case hy => exact rfl); (case hi => first | exact at0 | exact at1 | exact at2 | exact at3 | exact at4 | exact at5 | exact at6 | exact at7 | exact at8 | exact at9); intro ws H' _ _; replace H := H'; clear H'; simp only [List.set_cons_zero] at H; go_simp)
    | ((with_reducible apply own_loadC cellSb H); (case hgd => exact rfl); (case ho => exact rfl); (case hx => exact rfl); (case hi => first | exact at0 | exact at1 | exact at2 | exact at3 | exact at4 | exact at5 | exact at6 | exact at7 | exact at8 | exact at9); (case hj => exact rfl); intro _ _; go_simp)
    | ((with_reducible apply own_loadCg cellSb H); (case hw => exact rfl); (case ho => exact rfl); (case hx => exact rfl); (case hi => first | exact at0 | exact at1 | exact at2 | exact at3 | exact at4 | exact at5 | exact at6 | exact at7 | exact at8 | exact at9); (case hj => exact rfl); intro _ _; go_simp)
    | ((with_reducible apply own_load rowPt H); (case hgd => exact rfl); (case ho => exact rfl); (case hx => exact rfl); (case hi => first | exact at0 | exact at1 | exact at2 | exact at3 | exact at4 | exact at5 | exact at6 | exact at7 | exact at8 | exact at9); intro _ _; go_simp)
    | ((with_reducible refine (awake12_k _ (HT.out.below H.out.bel)).mono ?_); rintro e wc ⟨rfl, hb⟩; replace H := Lib.hid (H.out.call hb); clear hb))
  go_ret
  exact ⟨rfl, H.out.bel⟩
set_option maxRecDepth 8000 in
set_option maxHeartbeats 3200000 in
theorem parts12_out1 {a b1 b2 : Option Addr} {n c x m1 cp1 m2 cp2 : Nat} {z : Int} (w : World) (hT : Tp w) (hs : Sb w w.heap.size a n c x) (ok : okS n z = true) (h : m1 < 1) :
    Calls Tryz.prog 8 #[.agg #[.slice a n c, .int .i64 z], .agg #[.slice b1 m1 cp1, .slice b2 m2 cp2]] w fun e w' => e = .returned (.bool true) ∧ Below w.heap.size w w' := by
  have d0 : decide ((m1 : Int) < 1) = true := by first | (simp; done) | (simp; omega)
  have HS := Lib.hid hs
  have OK := Lib.hid ok
  clear hs ok
  clear h
  have HT := Lib.hid hT
  clear hT
  have H := Lib.hid (Ow.start w)
  go_enter Tryz.func8, Tryz.ntmps8
  go_wp2_with (first
    | ((fail_if_success have := g2); (with_reducible apply own_boxC H); (case hgd => exact rfl); (case ho => exact rfl); (case hx => exact rfl); intro w2 g2 H' _ _; replace H := H'; clear H'; go_simp)
    | ((fail_if_success have := g3); (with_reducible apply own_boxC H); (case hgd => exact rfl); (case ho => exact rfl); (case hx => exact rfl); intro w3 g3 H' _ _; replace H := H'; clear H'; go_simp)
    | ((with_reducible apply own_loadA rowSpK ?hC H); (case hgd => exact rfl); (case ho => exact rfl); (case hx => exact rfl); (case hi => first | exact at0 | exact at1 | exact at2 | exact at3 | exact at4 | exact at5 | exact at6 | exact at7 | exact at8 | exact at9); (case hC => exact rfl); intro _ _; go_simp)
    | ((fail_if_success have := mk1); (with_reducible refine (made11_any OK.out _ (HT.out.below H.out.bel) ((HS.out.below H.out.bel).more H.out.bel.size)).mono ?_); rintro e wc ⟨v1, r1, P, rfl, hv, hw, hb⟩; replace H := Lib.hid (H.out.call hb); have V1 := Lib.hid hv; have W1 := Lib.hid hw; have mk1 := trivial; clear hb hv hw)
    | ((fail_if_success have := g5); (fail_if_success have := g5); (with_reducible apply own_alloc nilPt H); (case hgd => exact rfl); (case ho => exact rfl); intro w5 g5 H' _ _; replace H := H'; clear H'; go_simp)
    | ((fail_if_success have := g6); (fail_if_success have := g6); (with_reducible apply own_alloc nilQt H); (case hgd => exact rfl); (case ho => exact rfl); intro w6 g6 H' _ _; replace H := H'; clear H'; go_simp)
    | ((with_reducible apply own_store rowPt H); (case hgd => exact rfl); (case ho => exact rfl); (case hx => exact rfl); (case hy => exact rfl); (case hi => first | exact at0 | exact at1 | exact at2 | exact at3 | exact at4 | exact at5 | exact at6 | exact at7 | exact at8 | exact at9); intro ws H' _ _; replace H := H'; clear H'; simp only [List.set_cons_zero, List.set_cons_succ] at H; go_simp)
    | ((with_reducible apply own_store rowQt H); (case hgd => exact rfl); (case ho => exact rfl); (case hx => exact rfl); (case hy => exact rfl); (case hi => first | exact at0 | exact at1 | exact at2 | exact at3 | exact at4 | exact at5 | exact at6 | exact at7 | exact at8 | exact at9); intro ws H' _ _; replace H := H'; clear H'; simp only [List.set_cons_zero] at H; go_simp)
    | ((with_reducible apply own_loadC cellSb H); (case hgd => exact rfl); (case ho => exact rfl); (case hx => exact rfl); (case hi => first | exact at0 | exact at1 | exact at2 | exact at3 | exact at4 | exact at5 | exact at6 | exact at7 | exact at8 | exact at9); (case hj => exact rfl); intro _ _; go_simp)
    | ((with_reducible apply own_loadCg cellSb H); (case hw => exact rfl); (case ho => exact rfl); (case hx => exact rfl); (case hi => first | exact at0 | exact at1 | exact at2 | exact at3 | exact at4 | exact at5 | exact at6 | exact at7 | exact at8 | exact at9); (case hj => exact rfl); intro _ _; go_simp)
    | ((with_reducible apply own_load rowPt H); (case hgd => exact rfl); (case ho => exact rfl); (case hx => exact rfl); (case hi => first | exact at0 | exact at1 | exact at2 | exact at3 | exact at4 | exact at5 | exact at6 | exact at7 | exact at8 | exact at9); intro _ _; go_simp)
    | ((with_reducible refine (awake12_k _ (HT.out.below H.out.bel)).mono ?_); rintro e wc ⟨rfl, hb⟩; replace H := Lib.hid (H.out.call hb); clear hb))
  go_ret
  exact ⟨rfl, H.out.bel⟩
set_option maxRecDepth 8000 in
set_option maxHeartbeats 3200000 in
theorem parts12_out2 {a b1 b2 : Option Addr} {n c x m1 cp1 m2 cp2 : Nat} {z : Int} (w : World) (hT : Tp w) (hs : Sb w w.heap.size a n c x) (ok : okS n z = true) (_h1 : 1 ≤ m1) (h : 12 < m1) :
    Calls Tryz.prog 8 #[.agg #[.slice a n c, .int .i64 z], .agg #[.slice b1 m1 cp1, .slice b2 m2 cp2]] w fun e w' => e = .returned (.bool true) ∧ Below w.heap.size w w' := by
  have d0 : decide ((m1 : Int) < 1) = false := by first | (simp; done) | (simp; omega)
  have d1 : decide ((12 : Int) < (m1 : Int)) = true := by first | (simp; done) | (simp; omega)
  have HS := Lib.hid hs
  have OK := Lib.hid ok
  clear hs ok
  clear _h1 h
  have HT := Lib.hid hT
  clear hT
  have H := Lib.hid (Ow.start w)
  go_enter Tryz.func8, Tryz.ntmps8
  go_wp2_with (first
    | ((fail_if_success have := g2); (with_reducible apply own_boxC H); (case hgd => exact rfl); (case ho => exact rfl); (case hx => exact rfl); intro w2 g2 H' _ _; replace H := H'; clear H'; go_simp)
    | ((fail_if_success have := g3); (with_reducible apply own_boxC H); (case hgd => exact rfl); (case ho => exact rfl); (case hx => exact rfl); intro w3 g3 H' _ _; replace H := H'; clear H'; go_simp)
    | ((with_reducible apply own_loadA rowSpK ?hC H); (case hgd => exact rfl); (case ho => exact rfl); (case hx => exact rfl); (case hi => first | exact at0 | exact at1 | exact at2 | exact at3 | exact at4 | exact at5 | exact at6 | exact at7 | exact at8 | exact at9); (case hC => exact rfl); intro _ _; go_simp)
    | ((fail_if_success have := mk1); (with_reducible refine (made11_any OK.out _ (HT.out.below H.out.bel) ((HS.out.below H.out.bel).more H.out.bel.size)).mono ?_); rintro e wc ⟨v1, r1, P, rfl, hv, hw, hb⟩; replace H := Lib.hid (H.out.call hb); have V1 := Lib.hid hv; have W1 := Lib.hid hw; have mk1 := trivial; clear hb hv hw)
    | ((fail_if_success have := g5); (fail_if_success have := g5); (with_reducible apply own_alloc nilPt H); (case hgd => exact rfl); (case ho => exact rfl); intro w5 g5 H' _ _; replace H := H'; clear H'; go_simp)
    | ((fail_if_success have := g6); (fail_if_success have := g6); (with_reducible apply own_alloc nilQt H); (case hgd => exact rfl); (case ho => exact rfl); intro w6 g6 H' _ _; replace H := H'; clear H'; go_simp)
    | ((with_reducible apply own_store rowPt H); (case hgd => exact rfl); (case ho => exact rfl); (case hx => exact rfl); (case hy => exact rfl); (case hi => first | exact at0 | exact at1 | exact at2 | exact at3 | exact at4 | exact at5 | exact at6 | exact at7 | exact at8 | exact at9); intro ws H' _ _; replace H := H'; clear H'; simp only [List.set_cons_zero, List.set_cons_succ] at H; go_simp)
    | ((with_reducible apply own_store rowQt H); (case hgd => exact rfl); (case ho => exact rfl); (case hx => exact rfl); (case hy => exact rfl); (case hi => first | exact at0 | exact at1 | exact at2 | exact at3 | exact at4 | exact at5 | exact at6 | exact at7 | exact at8 | exact at9); intro ws H' _ _; replace H := H'; clear H'; simp only [List.set_cons_zero] at H; go_simp)
    | ((with_reducible apply own_loadC cellSb H); (case hgd => exact rfl); (case ho => exact rfl); (case hx => exact rfl); (case hi => first | exact at0 | exact at1 | exact at2 | exact at3 | exact at4 | exact at5 | exact at6 | exact at7 | exact at8 | exact at9); (case hj => exact rfl); intro _ _; go_simp)
    | ((with_reducible apply own_loadCg cellSb H); (case hw => exact rfl); (case ho => exact rfl); (case hx => exact rfl); (case hi => first | exact at0 | exact at1 | exact at2 | exact at3 | exact at4 | exact at5 | exact at6 | exact at7 | exact at8 | exact at9); (case hj => exact rfl); intro _ _; go_simp)
    | ((with_reducible apply own_load rowPt H); (case hgd => exact rfl); (case ho => exact rfl); (case hx => exact rfl); (case hi => first | exact at0 | exact at1 | exact at2 | exact at3 | exact at4 | exact at5 | exact at6 | exact at7 | exact at8 | exact at9); intro _ _; go_simp)
    | ((with_reducible refine (awake12_k _ (HT.out.below H.out.bel)).mono ?_); rintro e wc ⟨rfl, hb⟩; replace H := Lib.hid (H.out.call hb); clear hb))
  go_ret
  exact ⟨rfl, H.out.bel⟩
set_option maxRecDepth 8000 in
set_option maxHeartbeats 3200000 in
theorem parts12_out3 {a b1 b2 : Option Addr} {n c x m1 cp1 m2 cp2 : Nat} {z : Int} (w : World) (hT : Tp w) (hs : Sb w w.heap.size a n c x) (ok : okS n z = true) (h1 : 1 ≤ m1) (h2 : m1 ≤ 12) (h : m2 < 1) :
    Calls Tryz.prog 8 #[.agg #[.slice a n c, .int .i64 z], .agg #[.slice b1 m1 cp1, .slice b2 m2 cp2]] w fun e w' => e = .returned (.bool true) ∧ Below w.heap.size w w' := by
  have d0 : decide ((m1 : Int) < 1) = false := by first | (simp; done) | (simp; omega)
  have d1 : decide ((12 : Int) < (m1 : Int)) = false := by first | (simp; done) | (simp; omega)
  have d2 : decide ((m2 : Int) < 1) = true := by first | (simp; done) | (simp; omega)
  have HS := Lib.hid hs
  have OK := Lib.hid ok
  clear hs ok
  clear h1 h2 h
  have HT := Lib.hid hT
  clear hT
  have H := Lib.hid (Ow.start w)
  go_enter Tryz.func8, Tryz.ntmps8
  go_wp2_with (first
    | ((fail_if_success have := g2); (with_reducible apply own_boxC H); (case hgd => exact rfl); (case ho => exact rfl); (case hx => exact rfl); intro w2 g2 H' _ _; replace H := H'; clear H'; go_simp)
    | ((fail_if_success have := g3); (with_reducible apply own_boxC H); (case hgd => exact rfl); (case ho => exact rfl); (case hx => exact rfl); intro w3 g3 H' _ _; replace H := H'; clear H'; go_simp)
    | ((with_reducible apply own_loadA rowSpK ?hC H); (case hgd => exact rfl); (case ho => exact rfl); (case hx => exact rfl); (case hi => first | exact at0 | exact at1 | exact at2 | exact at3 | exact at4 | exact at5 | exact at6 | exact at7 | exact at8 | exact at9); (case hC => exact rfl); intro _ _; go_simp)
    | ((fail_if_success have := mk1); (with_reducible refine (made11_any OK.out _ (HT.out.below H.out.bel) ((HS.out.below H.out.bel).more H.out.bel.size)).mono ?_); rintro e wc ⟨v1, r1, P, rfl, hv, hw, hb⟩; replace H := Lib.hid (H.out.call hb); have V1 := Lib.hid hv; have W1 := Lib.hid hw; have mk1 := trivial; clear hb hv hw)
    | ((fail_if_success have := g5); (fail_if_success have := g5); (with_reducible apply own_alloc nilPt H); (case hgd => exact rfl); (case ho => exact rfl); intro w5 g5 H' _ _; replace H := H'; clear H'; go_simp)
    | ((fail_if_success have := g6); (fail_if_success have := g6); (with_reducible apply own_alloc nilQt H); (case hgd => exact rfl); (case ho => exact rfl); intro w6 g6 H' _ _; replace H := H'; clear H'; go_simp)
    | ((with_reducible apply own_store rowPt H); (case hgd => exact rfl); (case ho => exact rfl); (case hx => exact rfl); (case hy => exact rfl); (case hi => first | exact at0 | exact at1 | exact at2 | exact at3 | exact at4 | exact at5 | exact at6 | exact at7 | exact at8 | exact at9); intro ws H' _ _; replace H := H'; clear H'; simp only [List.set_cons_zero, List.set_cons_succ] at H; go_simp)
    | ((with_reducible apply own_store rowQt H); (case hgd => exact rfl); (case ho => exact rfl); (case hx => exact rfl); (case hy => exact rfl); (case hi => first | exact at0 | exact at1 | exact at2 | exact at3 | exact at4 | exact at5 | exact at6 | exact at7 | exact at8 | exact at9); intro ws H' _ _; replace H := H'; clear H'; simp only [List.set_cons_zero] at H; go_simp)
    | ((with_reducible apply own_loadC cellSb H); (case hgd => exact rfl); (case ho => exact rfl); (case hx => exact rfl); (case hi => first | exact at0 | exact at1 | exact at2 | exact at3 | exact at4 | exact at5 | exact at6 | exact at7 | exact at8 | exact at9); (case hj => exact rfl); intro _ _; go_simp)
    | ((with_reducible apply own_loadCg cellSb H); (case hw => exact rfl); (case ho => exact rfl); (case hx => exact rfl); (case hi => first | exact at0 | exact at1 | exact at2 | exact at3 | exact at4 | exact at5 | exact at6 | exact at7 | exact at8 | exact at9); (case hj => exact rfl); intro _ _; go_simp)
    | ((with_reducible apply own_load rowPt H); (case hgd => exact rfl); (case ho => exact rfl); (case hx => exact rfl); (case hi => first | exact at0 | exact at1 | exact at2 | exact at3 | exact at4 | exact at5 | exact at6 | exact at7 | exact at8 | exact at9); intro _ _; go_simp)
    | ((with_reducible refine (awake12_k _ (HT.out.below H.out.bel)).mono ?_); rintro e wc ⟨rfl, hb⟩; replace H := Lib.hid (H.out.call hb); clear hb))
  go_ret
  exact ⟨rfl, H.out.bel⟩
set_option maxRecDepth 8000 in
set_option maxHeartbeats 3200000 in
theorem parts12_out4 {a b1 b2 : Option Addr} {n c x m1 cp1 m2 cp2 : Nat} {z : Int} (w : World) (hT : Tp w) (hs : Sb w w.heap.size a n c x) (ok : okS n z = true) (h1 : 1 ≤ m1) (h2 : m1 ≤ 12) (_h3 : 1 ≤ m2) (h : 12 < m2) :
    Calls Tryz.prog 8 #[.agg #[.slice a n c, .int .i64 z], .agg #[.slice b1 m1 cp1, .slice b2 m2 cp2]] w fun e w' => e = .returned (.bool true) ∧ Below w.heap.size w w' := by
  have d0 : decide ((m1 : Int) < 1) = false := by first | (simp; done) | (simp; omega)
  have d1 : decide ((12 : Int) < (m1 : Int)) = false := by first | (simp; done) | (simp; omega)
  have d2 : decide ((m2 : Int) < 1) = false := by first | (simp; done) | (simp; omega)
  have d3 : decide ((12 : Int) < (m2 : Int)) = true := by first | (simp; done) | (simp; omega)
  have HS := Lib.hid hs
  have OK := Lib.hid ok
  clear hs ok
  clear h1 h2 _h3 h
  have HT := Lib.hid hT
  clear hT
  have H := Lib.hid (Ow.start w)
  go_enter Tryz.func8, Tryz.ntmps8
  go_wp2_with (first
    | ((fail_if_success have := g2); (with_reducible apply own_boxC H); (case hgd => exact rfl); (case ho => exact rfl); (case hx => exact rfl); intro w2 g2 H' _ _; replace H := H'; clear H'; go_simp)
    | ((fail_if_success have := g3); (with_reducible apply own_boxC H); (case hgd => exact rfl); (case ho => exact rfl); (case hx => exact rfl); intro w3 g3 H' _ _; replace H := H'; clear H'; go_simp)
    | ((with_reducible apply own_loadA rowSpK ?hC H); (case hgd => exact rfl); (case ho => exact rfl); (case hx => exact rfl); (case hi => first | exact at0 | exact at1 | exact at2 | exact at3 | exact at4 | exact at5 | exact at6 | exact at7 | exact at8 | exact at9); (case hC => exact rfl); intro _ _; go_simp)
    | ((fail_if_success have := mk1); (with_reducible refine (made11_any OK.out _ (HT.out.below H.out.bel) ((HS.out.below H.out.bel).more H.out.bel.size)).mono ?_); rintro e wc ⟨v1, r1, P, rfl, hv, hw, hb⟩; replace H := Lib.hid (H.out.call hb); have V1 := Lib.hid hv; have W1 := Lib.hid hw; have mk1 := trivial; clear hb hv hw)
    | ((fail_if_success have := g5); (fail_if_success have := g5); (with_reducible apply own_alloc nilPt H); (case hgd => exact rfl); (case ho => exact rfl); intro w5 g5 H' _ _; replace H := H'; clear H'; go_simp)
    | ((fail_if_success have := g6); (fail_if_success have := g6); (with_reducible apply own_alloc nilQt H); (case hgd => exact rfl); (case ho => exact rfl); intro w6 g6 H' _ _; replace H := H'; clear H'; go_simp)
    | ((with_reducible apply own_store rowPt H); (case hgd => exact rfl); (case ho => exact rfl); (case hx => exact rfl); (case hy => exact rfl); (case hi => first | exact at0 | exact at1 | exact at2 | exact at3 | exact at4 | exact at5 | exact at6 | exact at7 | exact at8 | exact at9); intro ws H' _ _; replace H := H'; clear H'; simp only [List.set_cons_zero, List.set_cons_succ] at H; go_simp)
    | ((with_reducible apply own_store rowQt H); (case hgd => exact rfl); (case ho => exact rfl); (case hx => exact rfl); (case hy => exact rfl); (case hi => first | exact at0 | exact at1 | exact at2 | exact at3 | exact at4 | exact at5 | exact at6 | exact at7 | exact at8 | exact at9); intro ws H' _ _; replace H := H'; clear H'; simp only [List.set_cons_zero] at H; go_simp)
    | ((with_reducible apply own_loadC cellSb H); (case hgd => exact rfl); (case ho => exact rfl); (case hx => exact rfl); (case hi => first | exact at0 | exact at1 | exact at2 | exact at3 | exact at4 | exact at5 | exact at6 | exact at7 | exact at8 | exact at9); (case hj => exact rfl); intro _ _; go_simp)
    | ((with_reducible apply own_loadCg cellSb H); (case hw => exact rfl); (case ho => exact rfl); (case hx => exact rfl); (case hi => first | exact at0 | exact at1 | exact at2 | exact at3 | exact at4 | exact at5 | exact at6 | exact at7 | exact at8 | exact at9); (case hj => exact rfl); intro _ _; go_simp)
    | ((with_reducible apply own_load rowPt H); (case hgd => exact rfl); (case ho => exact rfl); (case hx => exact rfl); (case hi => first | exact at0 | exact at1 | exact at2 | exact at3 | exact at4 | exact at5 | exact at6 | exact at7 | exact at8 | exact at9); intro _ _; go_simp)
    | ((with_reducible refine (awake12_k _ (HT.out.below H.out.bel)).mono ?_); rintro e wc ⟨rfl, hb⟩; replace H := Lib.hid (H.out.call hb); clear hb))
  go_ret
  exact ⟨rfl, H.out.bel⟩
set_option maxRecDepth 8000 in
set_option maxHeartbeats 3200000 in
theorem parts12_k {a b1 b2 : Option Addr} {n c x m1 cp1 m2 cp2 y1 y2 p K : Nat} {z : Int} (w : World) (hT : Tp w) (hs : Sb w w.heap.size a n c x) (hy1 : Sb w w.heap.size b1 m1 cp1 y1) (hy2 : Sb w w.heap.size b2 m2 cp2 y2) (ok : okS n z = true) (h1 : 1 ≤ m1) (h2 : m1 ≤ 12) (h3 : 1 ≤ m2) (h4 : m2 ≤ 12) (hp : y1 + y2 = p) (hK : dl 8 p = K) (hK0 : 0 < K) (hK12 : K ≤ 13) :
    Calls Tryz.prog 8 #[.agg #[.slice a n c, .int .i64 z], .agg #[.slice b1 m1 cp1, .slice b2 m2 cp2]] w fun e w' => e = .returned (.bool true) ∧ Below w.heap.size w w' := by
  have d0 : decide ((m1 : Int) < 1) = false := by first | (simp; done) | (simp; omega)
  have d1 : decide ((12 : Int) < (m1 : Int)) = false := by first | (simp; done) | (simp; omega)
  have d2 : decide ((m2 : Int) < 1) = false := by first | (simp; done) | (simp; omega)
  have d3 : decide ((12 : Int) < (m2 : Int)) = false := by first | (simp; done) | (simp; omega)
  have HFT : Hid (p < 2 ^ (8 * K)) := Lib.hid ((dl_le 8 p K (by omega)).1 (Nat.le_of_eq hK))
  have HF3 : Hid (p < 2 ^ (8 * (K + 1))) := Lib.hid (Nat.lt_of_lt_of_le HFT.out (Nat.pow_le_pow_right (by omega) (by omega)))
  have HB0 : Hid (∀ j, K ≤ j → bt p j = 0) := Lib.hid fun j hj => bt_over HFT.out hj
  obtain ⟨M, hM⟩ : ∃ M, K + 1 = M := ⟨_, rfl⟩
  rw [hM] at HF3
  have HN2 : Hid (∀ i, i < 2 → 1 ≤ prt m1 m2 i ∧ prt m1 m2 i ≤ 64) := Lib.hid (two_all ⟨h1, by show m1 ≤ 64; omega⟩ ⟨h3, by show m2 ≤ 64; omega⟩)
  have HS := Lib.hid hs
  have HY1 := Lib.hid hy1
  have HY2 := Lib.hid hy2
  have OK := Lib.hid ok
  have HPR := Lib.hid hp
  have HK := Lib.hid hK
  clear hs hy1 hy2 ok hp hK
  have HT := Lib.hid hT
  clear hT
  have H := Lib.hid (Ow.start w)
  go_enter Tryz.func8, Tryz.ntmps8
  go_wp2_with (first
    | ((fail_if_success have := g2); (with_reducible apply own_boxC H); (case hgd => exact rfl); (case ho => exact rfl); (case hx => exact rfl); intro w2 g2 H' _ _; replace H := H'; clear H'; go_simp)
    | ((fail_if_success have := g3); (with_reducible apply own_boxC H); (case hgd => exact rfl); (case ho => exact rfl); (case hx => exact rfl); intro w3 g3 H' _ _; replace H := H'; clear H'; go_simp)
    | ((with_reducible apply own_loadA rowSpK ?hC H); (case hgd => exact rfl); (case ho => exact rfl); (case hx => exact rfl); (case hi => first | exact at0 | exact at1 | exact at2 | exact at3 | exact at4 | exact at5 | exact at6 | exact at7 | exact at8 | exact at9); (case hC => exact rfl); intro _ _; go_simp)
    | ((fail_if_success have := mk1); (with_reducible refine (made11_any OK.out _ (HT.out.below H.out.bel) ((HS.out.below H.out.bel).more H.out.bel.size)).mono ?_); rintro e wc ⟨v1, r1, P, rfl, hv, hw, hb⟩; replace H := Lib.hid (H.out.call hb); have V1 := Lib.hid hv; have W1 := Lib.hid hw; have mk1 := trivial; clear hb hv hw)
    | ((fail_if_success have := g5); (fail_if_success have := g5); (with_reducible apply own_alloc nilPt H); (case hgd => exact rfl); (case ho => exact rfl); intro w5 g5 H' _ _; replace H := H'; clear H'; go_simp)
    | ((fail_if_success have := g6); (fail_if_success have := g6); (with_reducible apply own_alloc nilQt H); (case hgd => exact rfl); (case ho => exact rfl); intro w6 g6 H' _ _; replace H := H'; clear H'; go_simp)
    | ((with_reducible apply own_store rowPt H); (case hgd => exact rfl); (case ho => exact rfl); (case hx => exact rfl); (case hy => exact rfl); (case hi => first | exact at0 | exact at1 | exact at2 | exact at3 | exact at4 | exact at5 | exact at6 | exact at7 | exact at8 | exact at9); intro ws H' _ _; replace H := H'; clear H'; simp only [List.set_cons_zero, List.set_cons_succ] at H; go_simp)
    | ((with_reducible apply own_store rowQt H); (case hgd => exact rfl); (case ho => exact rfl); (case hx => exact rfl); (case hy => exact rfl); (case hi => first | exact at0 | exact at1 | exact at2 | exact at3 | exact at4 | exact at5 | exact at6 | exact at7 | exact at8 | exact at9); intro ws H' _ _; replace H := H'; clear H'; simp only [List.set_cons_zero] at H; go_simp)
    | ((with_reducible apply own_loadC cellSb H); (case hgd => exact rfl); (case ho => exact rfl); (case hx => exact rfl); (case hi => first | exact at0 | exact at1 | exact at2 | exact at3 | exact at4 | exact at5 | exact at6 | exact at7 | exact at8 | exact at9); (case hj => exact rfl); intro _ _; go_simp)
    | ((with_reducible apply own_loadCg cellSb H); (case hw => exact rfl); (case ho => exact rfl); (case hx => exact rfl); (case hi => first | exact at0 | exact at1 | exact at2 | exact at3 | exact at4 | exact at5 | exact at6 | exact at7 | exact at8 | exact at9); (case hj => exact rfl); intro _ _; go_simp)
    | ((with_reducible apply own_load rowPt H); (case hgd => exact rfl); (case ho => exact rfl); (case hx => exact rfl); (case hi => first | exact at0 | exact at1 | exact at2 | exact at3 | exact at4 | exact at5 | exact at6 | exact at7 | exact at8 | exact at9); intro _ _; go_simp)
    | ((fail_if_success have := mkp); (with_reducible refine (plus_x _ _ _ _ _ _ _ _ _ (by omega) (by omega) ((HY1.out.below H.out.bel).more H.out.bel.size) ((HY2.out.below H.out.bel).more H.out.bel.size) HPR.out HK.out).mono ?_); rintro e wc ⟨bm, dm, rfl, hs, hb⟩; replace H := Lib.hid (H.out.call hb); have SP := Lib.hid hs; have mkp := trivial; clear hb hs)
    | ((fail_if_success have := mkn); (with_reducible apply own_new H); (case hgd => exact rfl); (case ho => exact rfl); (case hs => exact rfl); (case hx => exact rfl); (case hS => exact SP.out.sl); (case h0 => exact HB0.out); (case hn => exact hK0); (case hl => omega); intro wn gn cn LN H' _ _; replace H := H'; clear H'; have mkn := trivial; go_simp)
    | ((fail_if_success have := gz); (with_reducible apply lay_b1 (x := 0) H); (case hgd => exact rfl); (case ho => exact rfl); (case h0 => exact rfl); intro wz gz H' _ _; replace H := H'; clear H'; go_simp)
    | ((fail_if_success have := mkz); (with_reducible apply own_putZ (N := M) H); (case hgd => exact rfl); (case ho => exact rfl); (case hs => exact rfl); (case hy => exact rfl); (case hc => exact LN.out); (case hx => exact HFT.out); (case hn => omega); (case h0 => omega); (case hm => omega); (case hN => omega); intro wl gl cl LL H' _ _; replace H := H'; clear H'; have mkz := trivial; go_simp)
    | ((fail_if_success have := Va); (with_reducible refine (mult_k _ (HT.out.below H.out.bel) (sb_cap2 (n := M) (x := p) (H.out.row 0 rfl) LL.out HF3.out) V1.out (by omega) (by omega)).mono ?_); rintro e wc ⟨ka, rfl, hv, hb⟩; replace H := Lib.hid (H.out.call hb); have Va := Lib.hid hv; clear hb hv)
    | ((fail_if_success have := g9); (fail_if_success have := g9); (with_reducible apply own_alloc nilPt H); (case hgd => exact rfl); (case ho => exact rfl); intro w9 g9 H' _ _; replace H := H'; clear H'; go_simp)
    | ((fail_if_success have := Vb); (with_reducible refine (both_k _ (HT.out.below H.out.bel) ((HY1.out.below H.out.bel).more H.out.bel.size) V1.out ((HY2.out.below H.out.bel).more H.out.bel.size) V1.out h1 (by omega) h3 (by omega)).mono ?_); rintro e wc ⟨kb, rfl, hv, hb⟩; replace H := Lib.hid (H.out.call hb); have Vb := Lib.hid hv; clear hb hv)
    | ((fail_if_success have := g11); (fail_if_success have := g11); (with_reducible apply own_alloc nilPt H); (case hgd => exact rfl); (case ho => exact rfl); intro w11 g11 H' _ _; replace H := H'; clear H'; go_simp)
    | ((with_reducible apply lay_build_tm); (case hgd => exact rfl); (case ho => exact rfl); (case hx => exact rfl); (case hy => exact rfl); intro _ _; go_simp)
    | ((fail_if_success have := g87); (with_reducible apply own_build2G Tryz.underlying55 infoTm (by omega) (by omega) H); (case hgd => exact rfl); (case ho => exact rfl); (case hx => exact rfl); (case hy => exact rfl); intro w87 g87 H' _ _; replace H := H'; clear H'; go_simp))
  have HPP : Hid (∀ i, i < 2 → PtK (prt v1 v1 i) (prt P P i)) := Lib.hid (two_all V1.out V1.out)
  refine (sum_k (A := prt b1 b2) (N := prt m1 m2) (C := prt cp1 cp2) (V := prt v1 v1) (X := prt y1 y2) (P := prt P P) _ (HT.out.below H.out.bel) (grid_two (H.out.row 0 rfl)) (by omega) HN2.out (two_all ((HY1.out.below H.out.bel).more H.out.bel.size) ((HY2.out.below H.out.bel).more H.out.bel.size)) HPP.out).mono ?_
  rintro e wc ⟨kc, rfl, hv, hb⟩
  replace H := Lib.hid (H.out.call hb)
  have Vc := Lib.hid (hv.eq (Q := (padd edK (pmul edK y1 P) (pmul edK y2 P))) (tot_two (prt y1 y2) (prt P P)))
  clear hb hv mk1 mkp mkn mkz
  go_upto_region 10 with (first
    | ((fail_if_success have := g13); (fail_if_success have := g13); (with_reducible apply own_alloc nilPt H); (case hgd => exact rfl); (case ho => exact rfl); intro w13 g13 H' _ _; replace H := H'; clear H'; go_simp)
    | ((with_reducible apply own_store rowPt H); (case hgd => exact rfl); (case ho => exact rfl); (case hx => exact rfl); (case hy => exact rfl); (case hi => first | exact at0 | exact at1 | exact at2 | exact at3 | exact at4 | exact at5 | exact at6 | exact at7 | exact at8 | exact at9); intro ws H' _ _; replace H := H'; clear H'; simp only [List.set_cons_zero] at H; go_simp))
  go_cut [15, 16] from 91 to 100 (fun v15 v16 wx => ∃ g15 k98, v15 = .pointer (some ⟨g15, 0, none⟩) ∧ v16 = .int .i64 0 ∧ PtK k98 (padd edK (pmul edK p P) (pmul edK y2 (pneg P))) ∧ Ow w wx [(g15, Blk 30 .u64 24 (k98)), (g13, Blk 30 .u64 24 (kc)), (g87, Cs 60 (AV (2 * 25) (grd 25 (duo (sci (.slice b1 m1 cp1) v1) (sci (.slice b2 m2 cp2) v1))))), (g11, Blk 30 .u64 24 (kb)), (g9, Blk 30 .u64 24 (ka)), (gl, YB cl (bt p)), (g6, Blk 34 .i64 48 (r1)), (g5, Blk 30 .u64 24 (v1)), (g3, Cs 50 #[.slice b1 m1 cp1, .slice b2 m2 cp2]), (g2, Cs 24 #[.slice a n c, .int .i64 z])])
  case first =>
    go_wp2_with fail
    refine wp_region_noPanic ?_
    refine wp_region_held_drew (S := fun W => W.heap[g5]? = some (Blk 30 .u64 24 (v1)) ∧ W.heap[g3]? = some (Cs 50 #[.slice b1 m1 cp1, .slice b2 m2 cp2])) (by kernel_rfl) (⟨H.out.drew.row 6 rfl, H.out.drew.row 7 rfl⟩) (fun hH => ?_)
    replace H := Lib.hid H.out.drew
    generalize World.drew _ = w8 at *
    refine held_value 0 92 (.slice (some ⟨gl, 0, none⟩) M cl) rfl rfl (by kernel_rfl) (by kernel_rfl) (by kernel_rfl) rfl hH (fun w hw => by go_simp) ?_
    try simp only [Act.put, List.setIfInBounds_toArray, List.set_cons_zero, List.set_cons_succ]
    refine held_row 1 93 rowPt rfl rfl (by kernel_rfl) (by kernel_rfl) (by kernel_rfl) rfl hH rfl rfl (fun _ h => h.1) ?_
    try simp only [Act.put, List.setIfInBounds_toArray, List.set_cons_zero, List.set_cons_succ]
    refine held_value 2 94 (.pointer (some ⟨g3, 1, none⟩)) rfl rfl (by kernel_rfl) (by kernel_rfl) (by kernel_rfl) rfl hH (fun w hw => by go_simp) ?_
    try simp only [Act.put, List.setIfInBounds_toArray, List.set_cons_zero, List.set_cons_succ]
    refine held_C 3 95 cellSb rfl rfl (by kernel_rfl) (by kernel_rfl) (by kernel_rfl) rfl hH rfl rfl (fun _ h => h.2) rfl ?_
    try simp only [Act.put, List.setIfInBounds_toArray, List.set_cons_zero, List.set_cons_succ]
    refine held_row 4 96 rowPt rfl rfl (by kernel_rfl) (by kernel_rfl) (by kernel_rfl) rfl hH rfl rfl (fun _ h => h.1) ?_
    try simp only [Act.put, List.setIfInBounds_toArray, List.set_cons_zero, List.set_cons_succ]
    refine wpAnyH_ready (rs := [5, 10]) (by kernel_rfl) (by simp) ?_
    refine AllReadyH.cons (o := _) rfl (fun K hK => ?_) (AllReadyH.cons (o := _) rfl (fun K hK => ?_) AllReadyH.nil)
    · skip
      go_simp
      refine (ptNeg_k _ (HT.out.below H.out.bel) V1.out).mono ?_
      rintro e wc ⟨k97, rfl, hv, hb⟩
      replace H := Lib.hid (H.out.call hb)
      have HV97 := Lib.hid hv
      refine hK.out _ _ (⟨H.out.row 6 rfl, H.out.row 7 rfl⟩) (fun hN => ?_)
      clear hK K hH hb hv
      have hH := hN
      clear hN
      try simp only [Act.put, List.setIfInBounds_toArray, List.set_cons_zero, List.set_cons_succ]
      refine wpAnyH_ready (rs := [6, 10]) (by kernel_rfl) (by simp) ?_
      refine AllReadyH.cons (o := _) rfl (fun K hK => ?_) (AllReadyH.cons (o := _) rfl (fun K hK => ?_) AllReadyH.nil)
      · skip
        go_simp
        refine (both_k _ (HT.out.below H.out.bel) (sb_cap2 (n := M) (x := p) (H.out.row 4 rfl) LL.out HF3.out) V1.out ((HY2.out.below H.out.bel).more H.out.bel.size) HV97.out (by omega) (by omega) h3 (by omega)).mono ?_
        rintro e wc ⟨k98, rfl, hv, hb⟩
        replace H := Lib.hid (H.out.call hb)
        have HV98 := Lib.hid hv
        refine hK.out _ _ (⟨H.out.row 6 rfl, H.out.row 7 rfl⟩) (fun hN => ?_)
        clear hK K hH hb hv
        have hH := hN
        clear hN
        try simp only [Act.put, List.setIfInBounds_toArray, List.set_cons_zero, List.set_cons_succ]
        refine held_value 7 91 (.tuple #[PO k98, .int .i64 0]) rfl rfl (by kernel_rfl) (by kernel_rfl) (by kernel_rfl) rfl hH (fun w hw => by go_simp) ?_
        try simp only [Act.put, List.setIfInBounds_toArray, List.set_cons_zero, List.set_cons_succ]
        refine held_value 8 99 (PO k98) rfl rfl (by kernel_rfl) (by kernel_rfl) (by kernel_rfl) rfl hH (fun w hw => by go_simp) ?_
        try simp only [Act.put, List.setIfInBounds_toArray, List.set_cons_zero, List.set_cons_succ]
        refine held_value 9 100 (.int .i64 0) rfl rfl (by kernel_rfl) (by kernel_rfl) (by kernel_rfl) rfl hH (fun w hw => by go_simp) ?_
        try simp only [Act.put, List.setIfInBounds_toArray, List.set_cons_zero, List.set_cons_succ]
        refine wpAnyH_ready (rs := [10]) (by kernel_rfl) (by simp) ?_
        refine AllReadyH.cons (o := _) rfl (fun K hK => ?_) AllReadyH.nil
        refine own_wp_allocB 15 rfl nilPt H.out rfl ?_
        intro w15 g15 H3 hb
        replace H := Lib.hid H3
        refine hK.out _ _ (⟨H.out.row 7 rfl, H.out.row 8 rfl⟩) (fun hN => ?_)
        clear hK K hH H3 hb
        have hH := hN
        clear hN
        try simp only [Act.put, List.setIfInBounds_toArray, List.set_cons_zero, List.set_cons_succ]
        refine wpAnyH_ready (rs := [11]) (by kernel_rfl) (by simp) ?_
        refine AllReadyH.cons (o := _) rfl (fun K hK => ?_) AllReadyH.nil
        refine own_st 0 rfl rowPt H.out rfl rfl rfl rfl ?_
        intro ws HS
        simp only [List.set_cons_zero] at HS
        replace H := Lib.hid HS
        refine hK.out _ _ (⟨H.out.row 7 rfl, H.out.row 8 rfl⟩) (fun hN => ?_)
        clear hK K HS hH
        have hH := hN
        clear hN
        try simp only [List.setIfInBounds_toArray]
        refine held_value 12 16 (.int .i64 0) rfl rfl (by kernel_rfl) (by kernel_rfl) (by kernel_rfl) rfl hH (fun w hw => by go_simp) ?_
        try simp only [Act.put, List.setIfInBounds_toArray, List.set_cons_zero, List.set_cons_succ]
        try simp only [Act.put]
        refine wpAnyH_done (by kernel_rfl) ?_ _
        refine NoPanic.normal ?_
        clear hH
        go_wp2_with fail
        go_meet
        exact ⟨g15, k98, rfl, rfl, HV98.out, H.out⟩
      · skip
        refine own_wp_allocB 15 rfl nilPt H.out rfl ?_
        intro w15 g15 H3 hb
        replace H := Lib.hid H3
        refine hK.out _ _ (⟨H.out.row 7 rfl, H.out.row 8 rfl⟩) (fun hN => ?_)
        clear hK K hH H3 hb
        have hH := hN
        clear hN
        try simp only [Act.put, List.setIfInBounds_toArray, List.set_cons_zero, List.set_cons_succ]
        refine wpAnyH_ready (rs := [6]) (by kernel_rfl) (by simp) ?_
        refine AllReadyH.cons (o := _) rfl (fun K hK => ?_) AllReadyH.nil
        go_simp
        refine (both_k _ (HT.out.below H.out.bel) (sb_cap2 (n := M) (x := p) (H.out.row 5 rfl) LL.out HF3.out) V1.out ((HY2.out.below H.out.bel).more H.out.bel.size) HV97.out (by omega) (by omega) h3 (by omega)).mono ?_
        rintro e wc ⟨k98, rfl, hv, hb⟩
        replace H := Lib.hid (H.out.call hb)
        have HV98 := Lib.hid hv
        refine hK.out _ _ (⟨H.out.row 7 rfl, H.out.row 8 rfl⟩) (fun hN => ?_)
        clear hK K hH hb hv
        have hH := hN
        clear hN
        try simp only [Act.put, List.setIfInBounds_toArray, List.set_cons_zero, List.set_cons_succ]
        refine held_value 7 91 (.tuple #[PO k98, .int .i64 0]) rfl rfl (by kernel_rfl) (by kernel_rfl) (by kernel_rfl) rfl hH (fun w hw => by go_simp) ?_
        try simp only [Act.put, List.setIfInBounds_toArray, List.set_cons_zero, List.set_cons_succ]
        refine held_value 8 99 (PO k98) rfl rfl (by kernel_rfl) (by kernel_rfl) (by kernel_rfl) rfl hH (fun w hw => by go_simp) ?_
        try simp only [Act.put, List.setIfInBounds_toArray, List.set_cons_zero, List.set_cons_succ]
        refine held_value 9 100 (.int .i64 0) rfl rfl (by kernel_rfl) (by kernel_rfl) (by kernel_rfl) rfl hH (fun w hw => by go_simp) ?_
        try simp only [Act.put, List.setIfInBounds_toArray, List.set_cons_zero, List.set_cons_succ]
        refine wpAnyH_ready (rs := [11]) (by kernel_rfl) (by simp) ?_
        refine AllReadyH.cons (o := _) rfl (fun K hK => ?_) AllReadyH.nil
        refine own_st 0 rfl rowPt H.out rfl rfl rfl rfl ?_
        intro ws HS
        simp only [List.set_cons_zero] at HS
        replace H := Lib.hid HS
        refine hK.out _ _ (⟨H.out.row 7 rfl, H.out.row 8 rfl⟩) (fun hN => ?_)
        clear hK K HS hH
        have hH := hN
        clear hN
        try simp only [List.setIfInBounds_toArray]
        refine held_value 12 16 (.int .i64 0) rfl rfl (by kernel_rfl) (by kernel_rfl) (by kernel_rfl) rfl hH (fun w hw => by go_simp) ?_
        try simp only [Act.put, List.setIfInBounds_toArray, List.set_cons_zero, List.set_cons_succ]
        try simp only [Act.put]
        refine wpAnyH_done (by kernel_rfl) ?_ _
        refine NoPanic.normal ?_
        clear hH
        go_wp2_with fail
        go_meet
        exact ⟨g15, k98, rfl, rfl, HV98.out, H.out⟩
    · skip
      refine own_wp_allocB 15 rfl nilPt H.out rfl ?_
      intro w15 g15 H3 hb
      replace H := Lib.hid H3
      refine hK.out _ _ (⟨H.out.row 7 rfl, H.out.row 8 rfl⟩) (fun hN => ?_)
      clear hK K hH H3 hb
      have hH := hN
      clear hN
      try simp only [Act.put, List.setIfInBounds_toArray, List.set_cons_zero, List.set_cons_succ]
      refine wpAnyH_ready (rs := [5]) (by kernel_rfl) (by simp) ?_
      refine AllReadyH.cons (o := _) rfl (fun K hK => ?_) AllReadyH.nil
      go_simp
      refine (ptNeg_k _ (HT.out.below H.out.bel) V1.out).mono ?_
      rintro e wc ⟨k97, rfl, hv, hb⟩
      replace H := Lib.hid (H.out.call hb)
      have HV97 := Lib.hid hv
      refine hK.out _ _ (⟨H.out.row 7 rfl, H.out.row 8 rfl⟩) (fun hN => ?_)
      clear hK K hH hb hv
      have hH := hN
      clear hN
      try simp only [Act.put, List.setIfInBounds_toArray, List.set_cons_zero, List.set_cons_succ]
      refine wpAnyH_ready (rs := [6]) (by kernel_rfl) (by simp) ?_
      refine AllReadyH.cons (o := _) rfl (fun K hK => ?_) AllReadyH.nil
      go_simp
      refine (both_k _ (HT.out.below H.out.bel) (sb_cap2 (n := M) (x := p) (H.out.row 5 rfl) LL.out HF3.out) V1.out ((HY2.out.below H.out.bel).more H.out.bel.size) HV97.out (by omega) (by omega) h3 (by omega)).mono ?_
      rintro e wc ⟨k98, rfl, hv, hb⟩
      replace H := Lib.hid (H.out.call hb)
      have HV98 := Lib.hid hv
      refine hK.out _ _ (⟨H.out.row 7 rfl, H.out.row 8 rfl⟩) (fun hN => ?_)
      clear hK K hH hb hv
      have hH := hN
      clear hN
      try simp only [Act.put, List.setIfInBounds_toArray, List.set_cons_zero, List.set_cons_succ]
      refine held_value 7 91 (.tuple #[PO k98, .int .i64 0]) rfl rfl (by kernel_rfl) (by kernel_rfl) (by kernel_rfl) rfl hH (fun w hw => by go_simp) ?_
      try simp only [Act.put, List.setIfInBounds_toArray, List.set_cons_zero, List.set_cons_succ]
      refine held_value 8 99 (PO k98) rfl rfl (by kernel_rfl) (by kernel_rfl) (by kernel_rfl) rfl hH (fun w hw => by go_simp) ?_
      try simp only [Act.put, List.setIfInBounds_toArray, List.set_cons_zero, List.set_cons_succ]
      refine held_value 9 100 (.int .i64 0) rfl rfl (by kernel_rfl) (by kernel_rfl) (by kernel_rfl) rfl hH (fun w hw => by go_simp) ?_
      try simp only [Act.put, List.setIfInBounds_toArray, List.set_cons_zero, List.set_cons_succ]
      refine wpAnyH_ready (rs := [11]) (by kernel_rfl) (by simp) ?_
      refine AllReadyH.cons (o := _) rfl (fun K hK => ?_) AllReadyH.nil
      refine own_st 0 rfl rowPt H.out rfl rfl rfl rfl ?_
      intro ws HS
      simp only [List.set_cons_zero] at HS
      replace H := Lib.hid HS
      refine hK.out _ _ (⟨H.out.row 7 rfl, H.out.row 8 rfl⟩) (fun hN => ?_)
      clear hK K HS hH
      have hH := hN
      clear hN
      try simp only [List.setIfInBounds_toArray]
      refine held_value 12 16 (.int .i64 0) rfl rfl (by kernel_rfl) (by kernel_rfl) (by kernel_rfl) rfl hH (fun w hw => by go_simp) ?_
      try simp only [Act.put, List.setIfInBounds_toArray, List.set_cons_zero, List.set_cons_succ]
      try simp only [Act.put]
      refine wpAnyH_done (by kernel_rfl) ?_ _
      refine NoPanic.normal ?_
      clear hH
      go_wp2_with fail
      go_meet
      exact ⟨g15, k98, rfl, rfl, HV98.out, H.out⟩
  clear H
  obtain ⟨g15, k98, rfl, rfl, hv98, HRR⟩ := hcut
  have V98 := Lib.hid hv98
  have H := Lib.hid HRR
  clear HRR hv98
  go_upto_region 12 with (first
    | ((with_reducible apply own_loadC cellSb H); (case hgd => exact rfl); (case ho => exact rfl); (case hx => exact rfl); (case hi => first | exact at0 | exact at1 | exact at2 | exact at3 | exact at4 | exact at5 | exact at6 | exact at7 | exact at8 | exact at9); (case hj => exact rfl); intro _ _; go_simp)
    | ((with_reducible apply own_load rowPt H); (case hgd => exact rfl); (case ho => exact rfl); (case hx => exact rfl); (case hi => first | exact at0 | exact at1 | exact at2 | exact at3 | exact at4 | exact at5 | exact at6 | exact at7 | exact at8 | exact at9); intro _ _; go_simp)
    | ((fail_if_success have := Vx); (with_reducible refine (mult_k _ (HT.out.below H.out.bel) ((HY1.out.below H.out.bel).more H.out.bel.size) V1.out h1 (by omega)).mono ?_); rintro e wc ⟨kx, rfl, hv, hb⟩; replace H := Lib.hid (H.out.call hb); have Vx := Lib.hid hv; clear hb hv)
    | ((fail_if_success have := g17); (fail_if_success have := g17); (with_reducible apply own_alloc nilPt H); (case hgd => exact rfl); (case ho => exact rfl); intro w17 g17 H' _ _; replace H := H'; clear H'; go_simp)
    | ((with_reducible apply own_store rowPt H); (case hgd => exact rfl); (case ho => exact rfl); (case hx => exact rfl); (case hy => exact rfl); (case hi => first | exact at0 | exact at1 | exact at2 | exact at3 | exact at4 | exact at5 | exact at6 | exact at7 | exact at8 | exact at9); intro ws H' _ _; replace H := H'; clear H'; simp only [List.set_cons_zero] at H; go_simp))
  have E1 : Hid ((pmul edK p P) = (padd edK (pmul edK y1 P) (pmul edK y2 P))) := Lib.hid (by rw [← HPR.out, pmul_add])
  have E3 : Hid ((padd edK (pmul edK p P) (pmul edK y2 (pneg P))) = (pmul edK y1 P)) := Lib.hid (by rw [← HPR.out, pmul_less])
  go_wp2_with (first
    | ((with_reducible apply own_loadg rowPt H); (case hw => exact rfl); (case ho => exact rfl); (case hx => exact rfl); (case hi => first | exact at0 | exact at1 | exact at2 | exact at3 | exact at4 | exact at5 | exact at6 | exact at7 | exact at8 | exact at9); intro _ _; go_simp)
    | ((fail_if_success have := mq1); (with_reducible refine (ptEqual_k _ (HT.out.below H.out.bel) Va.out Vb.out (decide_eq_true E1.out)).mono ?_); rintro e wc ⟨rfl, hb⟩; replace H := Lib.hid (H.out.call hb); have mq1 := trivial; clear hb)
    | ((fail_if_success have := mq2); (with_reducible refine (ptEqual_k _ (HT.out.below H.out.bel) Va.out Vc.out (decide_eq_true E1.out)).mono ?_); rintro e wc ⟨rfl, hb⟩; replace H := Lib.hid (H.out.call hb); have mq2 := trivial; clear hb)
    | ((fail_if_success have := mq3); (with_reducible refine (ptEqual_k _ (HT.out.below H.out.bel) V98.out Vx.out (decide_eq_true E3.out)).mono ?_); rintro e wc ⟨rfl, hb⟩; replace H := Lib.hid (H.out.call hb); have mq3 := trivial; clear hb)
    | ((with_reducible refine (awake12_k _ (HT.out.below H.out.bel)).mono ?_); rintro e wc ⟨rfl, hb⟩; replace H := Lib.hid (H.out.call hb); clear hb))
  go_ret
  exact ⟨rfl, H.out.bel⟩
set_option maxRecDepth 8000 in
set_option maxHeartbeats 3200000 in
theorem parts12_z {a b1 b2 : Option Addr} {n c x m1 cp1 m2 cp2 y1 y2 : Nat} {z : Int} (w : World) (hT : Tp w) (hs : Sb w w.heap.size a n c x) (hy1 : Sb w w.heap.size b1 m1 cp1 y1) (hy2 : Sb w w.heap.size b2 m2 cp2 y2) (ok : okS n z = true) (h1 : 1 ≤ m1) (h2 : m1 ≤ 12) (h3 : 1 ≤ m2) (h4 : m2 ≤ 12) (hp : y1 + y2 = 0) :
    Calls Tryz.prog 8 #[.agg #[.slice a n c, .int .i64 z], .agg #[.slice b1 m1 cp1, .slice b2 m2 cp2]] w fun e w' => e = .returned (.bool true) ∧ Below w.heap.size w w' := by
  have d0 : decide ((m1 : Int) < 1) = false := by first | (simp; done) | (simp; omega)
  have d1 : decide ((12 : Int) < (m1 : Int)) = false := by first | (simp; done) | (simp; omega)
  have d2 : decide ((m2 : Int) < 1) = false := by first | (simp; done) | (simp; omega)
  have d3 : decide ((12 : Int) < (m2 : Int)) = false := by first | (simp; done) | (simp; omega)
  have HK : Hid (dl 8 0 = 0) := Lib.hid (by decide)
  have HN2 : Hid (∀ i, i < 2 → 1 ≤ prt m1 m2 i ∧ prt m1 m2 i ≤ 64) := Lib.hid (two_all ⟨h1, by show m1 ≤ 64; omega⟩ ⟨h3, by show m2 ≤ 64; omega⟩)
  have HS := Lib.hid hs
  have HY1 := Lib.hid hy1
  have HY2 := Lib.hid hy2
  have OK := Lib.hid ok
  have HPR := Lib.hid hp
  clear hs hy1 hy2 ok hp
  have HT := Lib.hid hT
  clear hT
  have H := Lib.hid (Ow.start w)
  go_enter Tryz.func8, Tryz.ntmps8
  go_wp2_with (first
    | ((fail_if_success have := g2); (with_reducible apply own_boxC H); (case hgd => exact rfl); (case ho => exact rfl); (case hx => exact rfl); intro w2 g2 H' _ _; replace H := H'; clear H'; go_simp)
    | ((fail_if_success have := g3); (with_reducible apply own_boxC H); (case hgd => exact rfl); (case ho => exact rfl); (case hx => exact rfl); intro w3 g3 H' _ _; replace H := H'; clear H'; go_simp)
    | ((with_reducible apply own_loadA rowSpK ?hC H); (case hgd => exact rfl); (case ho => exact rfl); (case hx => exact rfl); (case hi => first | exact at0 | exact at1 | exact at2 | exact at3 | exact at4 | exact at5 | exact at6 | exact at7 | exact at8 | exact at9); (case hC => exact rfl); intro _ _; go_simp)
    | ((fail_if_success have := mk1); (with_reducible refine (made11_any OK.out _ (HT.out.below H.out.bel) ((HS.out.below H.out.bel).more H.out.bel.size)).mono ?_); rintro e wc ⟨v1, r1, P, rfl, hv, hw, hb⟩; replace H := Lib.hid (H.out.call hb); have V1 := Lib.hid hv; have W1 := Lib.hid hw; have mk1 := trivial; clear hb hv hw)
    | ((fail_if_success have := g5); (fail_if_success have := g5); (with_reducible apply own_alloc nilPt H); (case hgd => exact rfl); (case ho => exact rfl); intro w5 g5 H' _ _; replace H := H'; clear H'; go_simp)
    | ((fail_if_success have := g6); (fail_if_success have := g6); (with_reducible apply own_alloc nilQt H); (case hgd => exact rfl); (case ho => exact rfl); intro w6 g6 H' _ _; replace H := H'; clear H'; go_simp)
    | ((with_reducible apply own_store rowPt H); (case hgd => exact rfl); (case ho => exact rfl); (case hx => exact rfl); (case hy => exact rfl); (case hi => first | exact at0 | exact at1 | exact at2 | exact at3 | exact at4 | exact at5 | exact at6 | exact at7 | exact at8 | exact at9); intro ws H' _ _; replace H := H'; clear H'; simp only [List.set_cons_zero, List.set_cons_succ] at H; go_simp)
    | ((with_reducible apply own_store rowQt H); (case hgd => exact rfl); (case ho => exact rfl); (case hx => exact rfl); (case hy => exact rfl); (case hi => first | exact at0 | exact at1 | exact at2 | exact at3 | exact at4 | exact at5 | exact at6 | exact at7 | exact at8 | exact at9); intro ws H' _ _; replace H := H'; clear H'; simp only [List.set_cons_zero] at H; go_simp)
    | ((with_reducible apply own_loadC cellSb H); (case hgd => exact rfl); (case ho => exact rfl); (case hx => exact rfl); (case hi => first | exact at0 | exact at1 | exact at2 | exact at3 | exact at4 | exact at5 | exact at6 | exact at7 | exact at8 | exact at9); (case hj => exact rfl); intro _ _; go_simp)
    | ((with_reducible apply own_loadCg cellSb H); (case hw => exact rfl); (case ho => exact rfl); (case hx => exact rfl); (case hi => first | exact at0 | exact at1 | exact at2 | exact at3 | exact at4 | exact at5 | exact at6 | exact at7 | exact at8 | exact at9); (case hj => exact rfl); intro _ _; go_simp)
    | ((with_reducible apply own_load rowPt H); (case hgd => exact rfl); (case ho => exact rfl); (case hx => exact rfl); (case hi => first | exact at0 | exact at1 | exact at2 | exact at3 | exact at4 | exact at5 | exact at6 | exact at7 | exact at8 | exact at9); intro _ _; go_simp)
    | ((fail_if_success have := mkp); (with_reducible refine (plus_x _ _ _ _ _ _ _ _ _ (by omega) (by omega) ((HY1.out.below H.out.bel).more H.out.bel.size) ((HY2.out.below H.out.bel).more H.out.bel.size) HPR.out HK.out).mono ?_); rintro e wc ⟨bm, dm, rfl, hs, hb⟩; replace H := Lib.hid (H.out.call hb); have SP := Lib.hid hs; have mkp := trivial; clear hb hs)
    | ((fail_if_success have := mk0); (with_reducible apply lay_app0); (case hgd => exact rfl); (case ho => exact rfl); (case hs => exact rfl); (case hy => exact rfl); have mk0 := trivial; intro _ _; go_simp)
    | ((fail_if_success have := gz); (with_reducible apply lay_b1 (x := 0) H); (case hgd => exact rfl); (case ho => exact rfl); (case h0 => exact rfl); intro wz gz H' _ _; replace H := H'; clear H'; go_simp)
    | ((fail_if_success have := mkn); (with_reducible apply own_new H); (case hgd => exact rfl); (case ho => exact rfl); (case hs => exact rfl); (case hx => exact rfl); (case hS => exact (sb_cap2 (n := 1) (H.out.row 0 rfl) (by omega) (by decide)).sl); (case h0 => exact fun j _ => bt_over (x := 0) (n := 0) (by decide) (Nat.zero_le j)); (case hn => omega); (case hl => omega); intro wn gn cn LN H' _ _; replace H := H'; clear H'; have mkn := trivial; go_simp)
    | ((fail_if_success have := Va); (with_reducible refine (mult_k _ (HT.out.below H.out.bel) (sb_cap2 (n := 1) (x := 0) (H.out.row 0 rfl) LN.out (by decide)) V1.out (by omega) (by omega)).mono ?_); rintro e wc ⟨ka, rfl, hv, hb⟩; replace H := Lib.hid (H.out.call hb); have Va := Lib.hid hv; clear hb hv)
    | ((fail_if_success have := g9); (fail_if_success have := g9); (with_reducible apply own_alloc nilPt H); (case hgd => exact rfl); (case ho => exact rfl); intro w9 g9 H' _ _; replace H := H'; clear H'; go_simp)
    | ((fail_if_success have := Vb); (with_reducible refine (both_k _ (HT.out.below H.out.bel) ((HY1.out.below H.out.bel).more H.out.bel.size) V1.out ((HY2.out.below H.out.bel).more H.out.bel.size) V1.out h1 (by omega) h3 (by omega)).mono ?_); rintro e wc ⟨kb, rfl, hv, hb⟩; replace H := Lib.hid (H.out.call hb); have Vb := Lib.hid hv; clear hb hv)
    | ((fail_if_success have := g11); (fail_if_success have := g11); (with_reducible apply own_alloc nilPt H); (case hgd => exact rfl); (case ho => exact rfl); intro w11 g11 H' _ _; replace H := H'; clear H'; go_simp)
    | ((with_reducible apply lay_build_tm); (case hgd => exact rfl); (case ho => exact rfl); (case hx => exact rfl); (case hy => exact rfl); intro _ _; go_simp)
    | ((fail_if_success have := g87); (with_reducible apply own_build2G Tryz.underlying55 infoTm (by omega) (by omega) H); (case hgd => exact rfl); (case ho => exact rfl); (case hx => exact rfl); (case hy => exact rfl); intro w87 g87 H' _ _; replace H := H'; clear H'; go_simp))
  have HPP : Hid (∀ i, i < 2 → PtK (prt v1 v1 i) (prt P P i)) := Lib.hid (two_all V1.out V1.out)
  refine (sum_k (A := prt b1 b2) (N := prt m1 m2) (C := prt cp1 cp2) (V := prt v1 v1) (X := prt y1 y2) (P := prt P P) _ (HT.out.below H.out.bel) (grid_two (H.out.row 0 rfl)) (by omega) HN2.out (two_all ((HY1.out.below H.out.bel).more H.out.bel.size) ((HY2.out.below H.out.bel).more H.out.bel.size)) HPP.out).mono ?_
  rintro e wc ⟨kc, rfl, hv, hb⟩
  replace H := Lib.hid (H.out.call hb)
  have Vc := Lib.hid (hv.eq (Q := (padd edK (pmul edK y1 P) (pmul edK y2 P))) (tot_two (prt y1 y2) (prt P P)))
  clear hb hv mk1 mkp mkn mk0
  go_upto_region 10 with (first
    | ((fail_if_success have := g13); (fail_if_success have := g13); (with_reducible apply own_alloc nilPt H); (case hgd => exact rfl); (case ho => exact rfl); intro w13 g13 H' _ _; replace H := H'; clear H'; go_simp)
    | ((with_reducible apply own_store rowPt H); (case hgd => exact rfl); (case ho => exact rfl); (case hx => exact rfl); (case hy => exact rfl); (case hi => first | exact at0 | exact at1 | exact at2 | exact at3 | exact at4 | exact at5 | exact at6 | exact at7 | exact at8 | exact at9); intro ws H' _ _; replace H := H'; clear H'; simp only [List.set_cons_zero] at H; go_simp))
  go_cut [15, 16] from 91 to 100 (fun v15 v16 wx => ∃ g15 k98, v15 = .pointer (some ⟨g15, 0, none⟩) ∧ v16 = .int .i64 0 ∧ PtK k98 (padd edK (pmul edK 0 P) (pmul edK y2 (pneg P))) ∧ Ow w wx [(g15, Blk 30 .u64 24 (k98)), (g13, Blk 30 .u64 24 (kc)), (g87, Cs 60 (AV (2 * 25) (grd 25 (duo (sci (.slice b1 m1 cp1) v1) (sci (.slice b2 m2 cp2) v1))))), (g11, Blk 30 .u64 24 (kb)), (g9, Blk 30 .u64 24 (ka)), (gn, YB cn (bt 0)), (gz, YB 1 (bt 0)), (g6, Blk 34 .i64 48 (r1)), (g5, Blk 30 .u64 24 (v1)), (g3, Cs 50 #[.slice b1 m1 cp1, .slice b2 m2 cp2]), (g2, Cs 24 #[.slice a n c, .int .i64 z])])
  case first =>
    go_wp2_with fail
    refine wp_region_noPanic ?_
    refine wp_region_held_drew (S := fun W => W.heap[g5]? = some (Blk 30 .u64 24 (v1)) ∧ W.heap[g3]? = some (Cs 50 #[.slice b1 m1 cp1, .slice b2 m2 cp2])) (by kernel_rfl) (⟨H.out.drew.row 7 rfl, H.out.drew.row 8 rfl⟩) (fun hH => ?_)
    replace H := Lib.hid H.out.drew
    generalize World.drew _ = w8 at *
    refine held_value 0 92 (.slice (some ⟨gn, 0, none⟩) 1 cn) rfl rfl (by kernel_rfl) (by kernel_rfl) (by kernel_rfl) rfl hH (fun w hw => by go_simp) ?_
    try simp only [Act.put, List.setIfInBounds_toArray, List.set_cons_zero, List.set_cons_succ]
    refine held_row 1 93 rowPt rfl rfl (by kernel_rfl) (by kernel_rfl) (by kernel_rfl) rfl hH rfl rfl (fun _ h => h.1) ?_
    try simp only [Act.put, List.setIfInBounds_toArray, List.set_cons_zero, List.set_cons_succ]
    refine held_value 2 94 (.pointer (some ⟨g3, 1, none⟩)) rfl rfl (by kernel_rfl) (by kernel_rfl) (by kernel_rfl) rfl hH (fun w hw => by go_simp) ?_
    try simp only [Act.put, List.setIfInBounds_toArray, List.set_cons_zero, List.set_cons_succ]
    refine held_C 3 95 cellSb rfl rfl (by kernel_rfl) (by kernel_rfl) (by kernel_rfl) rfl hH rfl rfl (fun _ h => h.2) rfl ?_
    try simp only [Act.put, List.setIfInBounds_toArray, List.set_cons_zero, List.set_cons_succ]
    refine held_row 4 96 rowPt rfl rfl (by kernel_rfl) (by kernel_rfl) (by kernel_rfl) rfl hH rfl rfl (fun _ h => h.1) ?_
    try simp only [Act.put, List.setIfInBounds_toArray, List.set_cons_zero, List.set_cons_succ]
    refine wpAnyH_ready (rs := [5, 10]) (by kernel_rfl) (by simp) ?_
    refine AllReadyH.cons (o := _) rfl (fun K hK => ?_) (AllReadyH.cons (o := _) rfl (fun K hK => ?_) AllReadyH.nil)
    · skip
      go_simp
      refine (ptNeg_k _ (HT.out.below H.out.bel) V1.out).mono ?_
      rintro e wc ⟨k97, rfl, hv, hb⟩
      replace H := Lib.hid (H.out.call hb)
      have HV97 := Lib.hid hv
      refine hK.out _ _ (⟨H.out.row 7 rfl, H.out.row 8 rfl⟩) (fun hN => ?_)
      clear hK K hH hb hv
      have hH := hN
      clear hN
      try simp only [Act.put, List.setIfInBounds_toArray, List.set_cons_zero, List.set_cons_succ]
      refine wpAnyH_ready (rs := [6, 10]) (by kernel_rfl) (by simp) ?_
      refine AllReadyH.cons (o := _) rfl (fun K hK => ?_) (AllReadyH.cons (o := _) rfl (fun K hK => ?_) AllReadyH.nil)
      · skip
        go_simp
        refine (both_k _ (HT.out.below H.out.bel) (sb_cap2 (n := 1) (x := 0) (H.out.row 4 rfl) LN.out (by decide)) V1.out ((HY2.out.below H.out.bel).more H.out.bel.size) HV97.out (by omega) (by omega) h3 (by omega)).mono ?_
        rintro e wc ⟨k98, rfl, hv, hb⟩
        replace H := Lib.hid (H.out.call hb)
        have HV98 := Lib.hid hv
        refine hK.out _ _ (⟨H.out.row 7 rfl, H.out.row 8 rfl⟩) (fun hN => ?_)
        clear hK K hH hb hv
        have hH := hN
        clear hN
        try simp only [Act.put, List.setIfInBounds_toArray, List.set_cons_zero, List.set_cons_succ]
        refine held_value 7 91 (.tuple #[PO k98, .int .i64 0]) rfl rfl (by kernel_rfl) (by kernel_rfl) (by kernel_rfl) rfl hH (fun w hw => by go_simp) ?_
        try simp only [Act.put, List.setIfInBounds_toArray, List.set_cons_zero, List.set_cons_succ]
        refine held_value 8 99 (PO k98) rfl rfl (by kernel_rfl) (by kernel_rfl) (by kernel_rfl) rfl hH (fun w hw => by go_simp) ?_
        try simp only [Act.put, List.setIfInBounds_toArray, List.set_cons_zero, List.set_cons_succ]
        refine held_value 9 100 (.int .i64 0) rfl rfl (by kernel_rfl) (by kernel_rfl) (by kernel_rfl) rfl hH (fun w hw => by go_simp) ?_
        try simp only [Act.put, List.setIfInBounds_toArray, List.set_cons_zero, List.set_cons_succ]
        refine wpAnyH_ready (rs := [10]) (by kernel_rfl) (by simp) ?_
        refine AllReadyH.cons (o := _) rfl (fun K hK => ?_) AllReadyH.nil
        refine own_wp_allocB 15 rfl nilPt H.out rfl ?_
        intro w15 g15 H3 hb
        replace H := Lib.hid H3
        refine hK.out _ _ (⟨H.out.row 8 rfl, H.out.row 9 rfl⟩) (fun hN => ?_)
        clear hK K hH H3 hb
        have hH := hN
        clear hN
        try simp only [Act.put, List.setIfInBounds_toArray, List.set_cons_zero, List.set_cons_succ]
        refine wpAnyH_ready (rs := [11]) (by kernel_rfl) (by simp) ?_
        refine AllReadyH.cons (o := _) rfl (fun K hK => ?_) AllReadyH.nil
        refine own_st 0 rfl rowPt H.out rfl rfl rfl rfl ?_
        intro ws HS
        simp only [List.set_cons_zero] at HS
        replace H := Lib.hid HS
        refine hK.out _ _ (⟨H.out.row 8 rfl, H.out.row 9 rfl⟩) (fun hN => ?_)
        clear hK K HS hH
        have hH := hN
        clear hN
        try simp only [List.setIfInBounds_toArray]
        refine held_value 12 16 (.int .i64 0) rfl rfl (by kernel_rfl) (by kernel_rfl) (by kernel_rfl) rfl hH (fun w hw => by go_simp) ?_
        try simp only [Act.put, List.setIfInBounds_toArray, List.set_cons_zero, List.set_cons_succ]
        try simp only [Act.put]
        refine wpAnyH_done (by kernel_rfl) ?_ _
        refine NoPanic.normal ?_
        clear hH
        go_wp2_with fail
        go_meet
        exact ⟨g15, k98, rfl, rfl, HV98.out, H.out⟩
      · skip
        refine own_wp_allocB 15 rfl nilPt H.out rfl ?_
        intro w15 g15 H3 hb
        replace H := Lib.hid H3
        refine hK.out _ _ (⟨H.out.row 8 rfl, H.out.row 9 rfl⟩) (fun hN => ?_)
        clear hK K hH H3 hb
        have hH := hN
        clear hN
        try simp only [Act.put, List.setIfInBounds_toArray, List.set_cons_zero, List.set_cons_succ]
        refine wpAnyH_ready (rs := [6]) (by kernel_rfl) (by simp) ?_
        refine AllReadyH.cons (o := _) rfl (fun K hK => ?_) AllReadyH.nil
        go_simp
        refine (both_k _ (HT.out.below H.out.bel) (sb_cap2 (n := 1) (x := 0) (H.out.row 5 rfl) LN.out (by decide)) V1.out ((HY2.out.below H.out.bel).more H.out.bel.size) HV97.out (by omega) (by omega) h3 (by omega)).mono ?_
        rintro e wc ⟨k98, rfl, hv, hb⟩
        replace H := Lib.hid (H.out.call hb)
        have HV98 := Lib.hid hv
        refine hK.out _ _ (⟨H.out.row 8 rfl, H.out.row 9 rfl⟩) (fun hN => ?_)
        clear hK K hH hb hv
        have hH := hN
        clear hN
        try simp only [Act.put, List.setIfInBounds_toArray, List.set_cons_zero, List.set_cons_succ]
        refine held_value 7 91 (.tuple #[PO k98, .int .i64 0]) rfl rfl (by kernel_rfl) (by kernel_rfl) (by kernel_rfl) rfl hH (fun w hw => by go_simp) ?_
        try simp only [Act.put, List.setIfInBounds_toArray, List.set_cons_zero, List.set_cons_succ]
        refine held_value 8 99 (PO k98) rfl rfl (by kernel_rfl) (by kernel_rfl) (by kernel_rfl) rfl hH (fun w hw => by go_simp) ?_
        try simp only [Act.put, List.setIfInBounds_toArray, List.set_cons_zero, List.set_cons_succ]
        refine held_value 9 100 (.int .i64 0) rfl rfl (by kernel_rfl) (by kernel_rfl) (by kernel_rfl) rfl hH (fun w hw => by go_simp) ?_
        try simp only [Act.put, List.setIfInBounds_toArray, List.set_cons_zero, List.set_cons_succ]
        refine wpAnyH_ready (rs := [11]) (by kernel_rfl) (by simp) ?_
        refine AllReadyH.cons (o := _) rfl (fun K hK => ?_) AllReadyH.nil
        refine own_st 0 rfl rowPt H.out rfl rfl rfl rfl ?_
        intro ws HS
        simp only [List.set_cons_zero] at HS
        replace H := Lib.hid HS
        refine hK.out _ _ (⟨H.out.row 8 rfl, H.out.row 9 rfl⟩) (fun hN => ?_)
        clear hK K HS hH
        have hH := hN
        clear hN
        try simp only [List.setIfInBounds_toArray]
        refine held_value 12 16 (.int .i64 0) rfl rfl (by kernel_rfl) (by kernel_rfl) (by kernel_rfl) rfl hH (fun w hw => by go_simp) ?_
        try simp only [Act.put, List.setIfInBounds_toArray, List.set_cons_zero, List.set_cons_succ]
        try simp only [Act.put]
        refine wpAnyH_done (by kernel_rfl) ?_ _
        refine NoPanic.normal ?_
        clear hH
        go_wp2_with fail
        go_meet
        exact ⟨g15, k98, rfl, rfl, HV98.out, H.out⟩
    · skip
      refine own_wp_allocB 15 rfl nilPt H.out rfl ?_
      intro w15 g15 H3 hb
      replace H := Lib.hid H3
      refine hK.out _ _ (⟨H.out.row 8 rfl, H.out.row 9 rfl⟩) (fun hN => ?_)
      clear hK K hH H3 hb
      have hH := hN
      clear hN
      try simp only [Act.put, List.setIfInBounds_toArray, List.set_cons_zero, List.set_cons_succ]
      refine wpAnyH_ready (rs := [5]) (by kernel_rfl) (by simp) ?_
      refine AllReadyH.cons (o := _) rfl (fun K hK => ?_) AllReadyH.nil
      go_simp
      refine (ptNeg_k _ (HT.out.below H.out.bel) V1.out).mono ?_
      rintro e wc ⟨k97, rfl, hv, hb⟩
      replace H := Lib.hid (H.out.call hb)
      have HV97 := Lib.hid hv
      refine hK.out _ _ (⟨H.out.row 8 rfl, H.out.row 9 rfl⟩) (fun hN => ?_)
      clear hK K hH hb hv
      have hH := hN
      clear hN
      try simp only [Act.put, List.setIfInBounds_toArray, List.set_cons_zero, List.set_cons_succ]
      refine wpAnyH_ready (rs := [6]) (by kernel_rfl) (by simp) ?_
      refine AllReadyH.cons (o := _) rfl (fun K hK => ?_) AllReadyH.nil
      go_simp
      refine (both_k _ (HT.out.below H.out.bel) (sb_cap2 (n := 1) (x := 0) (H.out.row 5 rfl) LN.out (by decide)) V1.out ((HY2.out.below H.out.bel).more H.out.bel.size) HV97.out (by omega) (by omega) h3 (by omega)).mono ?_
      rintro e wc ⟨k98, rfl, hv, hb⟩
      replace H := Lib.hid (H.out.call hb)
      have HV98 := Lib.hid hv
      refine hK.out _ _ (⟨H.out.row 8 rfl, H.out.row 9 rfl⟩) (fun hN => ?_)
      clear hK K hH hb hv
      have hH := hN
      clear hN
      try simp only [Act.put, List.setIfInBounds_toArray, List.set_cons_zero, List.set_cons_succ]
      refine held_value 7 91 (.tuple #[PO k98, .int .i64 0]) rfl rfl (by kernel_rfl) (by kernel_rfl) (by kernel_rfl) rfl hH (fun w hw => by go_simp) ?_
      try simp only [Act.put, List.setIfInBounds_toArray, List.set_cons_zero, List.set_cons_succ]
      refine held_value 8 99 (PO k98) rfl rfl (by kernel_rfl) (by kernel_rfl) (by kernel_rfl) rfl hH (fun w hw => by go_simp) ?_
      try simp only [Act.put, List.setIfInBounds_toArray, List.set_cons_zero, List.set_cons_succ]
      refine held_value 9 100 (.int .i64 0) rfl rfl (by kernel_rfl) (by kernel_rfl) (by kernel_rfl) rfl hH (fun w hw => by go_simp) ?_
      try simp only [Act.put, List.setIfInBounds_toArray, List.set_cons_zero, List.set_cons_succ]
      refine wpAnyH_ready (rs := [11]) (by kernel_rfl) (by simp) ?_
      refine AllReadyH.cons (o := _) rfl (fun K hK => ?_) AllReadyH.nil
      refine own_st 0 rfl rowPt H.out rfl rfl rfl rfl ?_
      intro ws HS
      simp only [List.set_cons_zero] at HS
      replace H := Lib.hid HS
      refine hK.out _ _ (⟨H.out.row 8 rfl, H.out.row 9 rfl⟩) (fun hN => ?_)
      clear hK K HS hH
      have hH := hN
      clear hN
      try simp only [List.setIfInBounds_toArray]
      refine held_value 12 16 (.int .i64 0) rfl rfl (by kernel_rfl) (by kernel_rfl) (by kernel_rfl) rfl hH (fun w hw => by go_simp) ?_
      try simp only [Act.put, List.setIfInBounds_toArray, List.set_cons_zero, List.set_cons_succ]
      try simp only [Act.put]
      refine wpAnyH_done (by kernel_rfl) ?_ _
      refine NoPanic.normal ?_
      clear hH
      go_wp2_with fail
      go_meet
      exact ⟨g15, k98, rfl, rfl, HV98.out, H.out⟩
  clear H
  obtain ⟨g15, k98, rfl, rfl, hv98, HRR⟩ := hcut
  have V98 := Lib.hid hv98
  have H := Lib.hid HRR
  clear HRR hv98
  go_upto_region 12 with (first
    | ((with_reducible apply own_loadC cellSb H); (case hgd => exact rfl); (case ho => exact rfl); (case hx => exact rfl); (case hi => first | exact at0 | exact at1 | exact at2 | exact at3 | exact at4 | exact at5 | exact at6 | exact at7 | exact at8 | exact at9); (case hj => exact rfl); intro _ _; go_simp)
    | ((with_reducible apply own_load rowPt H); (case hgd => exact rfl); (case ho => exact rfl); (case hx => exact rfl); (case hi => first | exact at0 | exact at1 | exact at2 | exact at3 | exact at4 | exact at5 | exact at6 | exact at7 | exact at8 | exact at9); intro _ _; go_simp)
    | ((fail_if_success have := Vx); (with_reducible refine (mult_k _ (HT.out.below H.out.bel) ((HY1.out.below H.out.bel).more H.out.bel.size) V1.out h1 (by omega)).mono ?_); rintro e wc ⟨kx, rfl, hv, hb⟩; replace H := Lib.hid (H.out.call hb); have Vx := Lib.hid hv; clear hb hv)
    | ((fail_if_success have := g17); (fail_if_success have := g17); (with_reducible apply own_alloc nilPt H); (case hgd => exact rfl); (case ho => exact rfl); intro w17 g17 H' _ _; replace H := H'; clear H'; go_simp)
    | ((with_reducible apply own_store rowPt H); (case hgd => exact rfl); (case ho => exact rfl); (case hx => exact rfl); (case hy => exact rfl); (case hi => first | exact at0 | exact at1 | exact at2 | exact at3 | exact at4 | exact at5 | exact at6 | exact at7 | exact at8 | exact at9); intro ws H' _ _; replace H := H'; clear H'; simp only [List.set_cons_zero] at H; go_simp))
  have E1 : Hid ((pmul edK 0 P) = (padd edK (pmul edK y1 P) (pmul edK y2 P))) := Lib.hid (by rw [← HPR.out, pmul_add])
  have E3 : Hid ((padd edK (pmul edK 0 P) (pmul edK y2 (pneg P))) = (pmul edK y1 P)) := Lib.hid (by rw [← HPR.out, pmul_less])
  go_wp2_with (first
    | ((with_reducible apply own_loadg rowPt H); (case hw => exact rfl); (case ho => exact rfl); (case hx => exact rfl); (case hi => first | exact at0 | exact at1 | exact at2 | exact at3 | exact at4 | exact at5 | exact at6 | exact at7 | exact at8 | exact at9); intro _ _; go_simp)
    | ((fail_if_success have := mq1); (with_reducible refine (ptEqual_k _ (HT.out.below H.out.bel) Va.out Vb.out (decide_eq_true E1.out)).mono ?_); rintro e wc ⟨rfl, hb⟩; replace H := Lib.hid (H.out.call hb); have mq1 := trivial; clear hb)
    | ((fail_if_success have := mq2); (with_reducible refine (ptEqual_k _ (HT.out.below H.out.bel) Va.out Vc.out (decide_eq_true E1.out)).mono ?_); rintro e wc ⟨rfl, hb⟩; replace H := Lib.hid (H.out.call hb); have mq2 := trivial; clear hb)
    | ((fail_if_success have := mq3); (with_reducible refine (ptEqual_k _ (HT.out.below H.out.bel) V98.out Vx.out (decide_eq_true E3.out)).mono ?_); rintro e wc ⟨rfl, hb⟩; replace H := Lib.hid (H.out.call hb); have mq3 := trivial; clear hb)
    | ((with_reducible refine (awake12_k _ (HT.out.below H.out.bel)).mono ?_); rintro e wc ⟨rfl, hb⟩; replace H := Lib.hid (H.out.call hb); clear hb))
  go_ret
  exact ⟨rfl, H.out.bel⟩
theorem parts12_walk {a b1 b2 : Option Addr} {n c x m1 cp1 m2 cp2 y1 y2 : Nat} {z : Int} (w : World) (hT : Tp w) (hs : Sb w w.heap.size a n c x) (hy1 : Sb w w.heap.size b1 m1 cp1 y1) (hy2 : Sb w w.heap.size b2 m2 cp2 y2) :
    Calls Tryz.prog 8 #[.agg #[.slice a n c, .int .i64 z], .agg #[.slice b1 m1 cp1, .slice b2 m2 cp2]] w fun e w' => e = .returned (.bool true) ∧ Below w.heap.size w w' := by
  cases ok : okS n z with
  | false => exact parts12_none w hT hs ok
  | true =>
    by_cases h1 : m1 < 1
    · exact parts12_out1 w hT hs ok h1
    by_cases h2 : 12 < m1
    · exact parts12_out2 w hT hs ok (by omega) h2
    by_cases h3 : m2 < 1
    · exact parts12_out3 w hT hs ok (by omega) (by omega) h3
    by_cases h4 : 12 < m2
    · exact parts12_out4 w hT hs ok (by omega) (by omega) (by omega) h4
    by_cases h5 : y1 + y2 = 0
    · exact parts12_z w hT hs hy1 hy2 ok (by omega) (by omega) (by omega) (by omega) h5
    have f1 : y1 < 2 ^ 96 := Nat.lt_of_lt_of_le hy1.fits (Nat.pow_le_pow_right (by omega) (by omega))
    have f2 : y2 < 2 ^ 96 := Nat.lt_of_lt_of_le hy2.fits (Nat.pow_le_pow_right (by omega) (by omega))
    have f3 : y1 + y2 < 2 ^ (8 * 13) := by
      rw [show 2 ^ (8 * 13) = 256 * 2 ^ 96 from rfl]
      omega
    exact parts12_k w hT hs hy1 hy2 ok (by omega) (by omega) (by omega) (by omega) rfl rfl ((dl_pos (by omega)).2 (by omega)) ((dl_le 8 _ 13 (by omega)).2 f3)
end Go.Proofs.YtkkmjlkeohkgnaaGreatDoor
