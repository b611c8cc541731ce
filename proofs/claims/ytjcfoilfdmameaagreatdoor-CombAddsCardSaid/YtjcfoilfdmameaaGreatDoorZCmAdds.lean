/-
  The walk of CombAdds. No statement is proved here: lemmas for the walks.
-/
import Derived.Test.YtjcfoilfdmameaaGreatDoorZCbAwake
import Derived.Test.YtjcfoilfdmameaaGreatDoorBuM
import Derived.Test.YtjcfoilfdmameaaGreatDoorBuR
import Derived.Deep.CutRange
namespace Go.Proofs.YtjcfoilfdmameaaGreatDoor
open Go.RowKit

theorem sum_x (a : Option Addr) (n c x : Nat) (a' : Option Addr) (m c' y : Nat) (w : World) (hn : n ≤ 12) (hm : m ≤ 12) (h : Sb w w.heap.size a n c x) (h' : Sb w w.heap.size a' m c' y) :
    Calls Tryz.prog 23 #[.slice a n c, .slice a' m c'] w fun e w' => ∃ b k d, e = .returned (.slice b k d) ∧ k ≤ 14 ∧ Sb w' w'.heap.size b k d (x + y) ∧ Below w.heap.size w w' :=
  (nrefAdd_any a n c x a' m c' y w (by omega) (by omega) h h').mono fun _ w' ⟨v, he, hg⟩ => by
    obtain ⟨b, d, hv, hs, hbl⟩ := hg
    refine ⟨b, _, d, by rw [he, hv], ?_, hs, hbl⟩
    have h1 : x < 2 ^ 96 := Nat.lt_of_lt_of_le h.fits (Nat.pow_le_pow_right (by omega) (by omega))
    have h2 : y < 2 ^ 96 := Nat.lt_of_lt_of_le h'.fits (Nat.pow_le_pow_right (by omega) (by omega))
    have h3 : bl (x + y) ≤ 97 := (bl_le _ _).2 (by omega)
    unfold dl
    omega
set_option maxRecDepth 8000 in
set_option maxHeartbeats 3200000 in
theorem adds_none {a a1 a2 : Option Addr} {n c x n1 c1 n2 c2 : Nat} {z : Int} {k : Int} (w : World) (hT : Tp w) (hs : Sb w w.heap.size a n c x) (ok : okS n z = false) :
    Calls Tryz.prog 7 #[.agg #[.slice a n c, .int .i64 z], .agg #[.slice a1 n1 c1, .slice a2 n2 c2], .int .i64 k] w fun e w' => e = .returned (.bool true) ∧ Below w.heap.size w w' := by
  have HS := Lib.hid hs
  have OK := Lib.hid ok
  clear hs ok
  have HT := Lib.hid hT
  clear hT
  have H := Lib.hid (Ow.start w)
  go_enter Tryz.func7, Tryz.ntmps7
  go_wp2_with (first
    | ((fail_if_success have := g3); (with_reducible apply own_boxC H); (case hgd => exact rfl); (case ho => exact rfl); (case hx => exact rfl); intro w3 g3 H' _ _; replace H := H'; clear H'; go_simp)
    | ((fail_if_success have := g4); (with_reducible apply own_boxC H); (case hgd => exact rfl); (case ho => exact rfl); (case hx => exact rfl); intro w4 g4 H' _ _; replace H := H'; clear H'; go_simp)
    | ((with_reducible apply own_loadA rowSpK ?hC H); (case hgd => exact rfl); (case ho => exact rfl); (case hx => exact rfl); (case hi => first | exact at0 | exact at1 | exact at2 | exact at3 | exact at4 | exact at5 | exact at6 | exact at7 | exact at8 | exact at9); (case hC => exact rfl); intro _ _; go_simp)
    | ((fail_if_success have := mk1); (with_reducible refine (made11_any OK.out _ (HT.out.below H.out.bel) ((HS.out.below H.out.bel).more H.out.bel.size)).mono ?_); rintro e wc ⟨v1, r1, P, rfl, hv, hw, hb⟩; replace H := Lib.hid (H.out.call hb); have V1 := Lib.hid hv; have W1 := Lib.hid hw; have mk1 := trivial; clear hb hv hw)
    | ((fail_if_success have := g7); (with_reducible apply own_alloc nilPt H); (case hgd => exact rfl); (case ho => exact rfl); intro w7 g7 H' _ _; replace H := H'; clear H'; go_simp)
    | ((fail_if_success have := g8); (with_reducible apply own_alloc nilQt H); (case hgd => exact rfl); (case ho => exact rfl); intro w8 g8 H' _ _; replace H := H'; clear H'; go_simp)
    | ((with_reducible apply own_store rowPt H); (case hgd => exact rfl); (case ho => exact rfl); (case hx => exact rfl); (case hy => exact rfl); (case hi => first | exact at0 | exact at1 | exact at2 | exact at3 | exact at4 | exact at5 | exact at6 | exact at7 | exact at8 | exact at9); intro ws H' _ _; replace H := H'; clear H'; simp only [List.set_cons_zero, List.set_cons_succ] at H; go_simp)
    | ((with_reducible apply own_store rowQt H); (case hgd => exact rfl); (case ho => exact rfl); (case hx => exact rfl); (case hy => exact rfl); (case hi => first | exact at0 | exact at1 | exact at2 | exact at3 | exact at4 | exact at5 | exact at6 | exact at7 | exact at8 | exact at9); intro ws H' _ _; replace H := H'; clear H'; simp only [List.set_cons_zero] at H; go_simp)
    | ((with_reducible apply own_loadC cellSb H); (case hgd => exact rfl); (case ho => exact rfl); (case hx => exact rfl); (case hi => first | exact at0 | exact at1 | exact at2 | exact at3 | exact at4 | exact at5 | exact at6 | exact at7 | exact at8 | exact at9); (case hj => exact rfl); intro _ _; go_simp)
    | ((with_reducible apply own_loadCg cellSb H); (case hw => exact rfl); (case ho => exact rfl); (case hx => exact rfl); (case hi => first | exact at0 | exact at1 | exact at2 | exact at3 | exact at4 | exact at5 | exact at6 | exact at7 | exact at8 | exact at9); (case hj => exact rfl); intro _ _; go_simp)
    | ((with_reducible apply own_load rowPt H); (case hgd => exact rfl); (case ho => exact rfl); (case hx => exact rfl); (case hi => first | exact at0 | exact at1 | exact at2 | exact at3 | exact at4 | exact at5 | exact at6 | exact at7 | exact at8 | exact at9); intro _ _; go_simp)
    | ((with_reducible refine cd_skip ?hw ?h); (case hw => exact rfl); intro _ _; go_simp)
    | ((with_reducible refine (awake11_k _ (HT.out.below H.out.bel)).mono ?_); rintro e wc ⟨rfl, hb⟩; replace H := Lib.hid (H.out.call hb); clear hb))
  go_ret
  exact ⟨rfl, H.out.bel⟩
set_option maxRecDepth 8000 in
set_option maxHeartbeats 3200000 in
theorem adds_out1 {a a1 a2 : Option Addr} {n c x n1 c1 n2 c2 : Nat} {z : Int} {k : Int} (w : World) (hT : Tp w) (hs : Sb w w.heap.size a n c x) (ok : okS n z = true) (h : 12 < n1) :
    Calls Tryz.prog 7 #[.agg #[.slice a n c, .int .i64 z], .agg #[.slice a1 n1 c1, .slice a2 n2 c2], .int .i64 k] w fun e w' => e = .returned (.bool true) ∧ Below w.heap.size w w' := by
  have d0 : decide ((12 : Int) < (n1 : Int)) = true := by simp; omega
  have HS := Lib.hid hs
  have OK := Lib.hid ok
  clear hs ok
  clear h
  have HT := Lib.hid hT
  clear hT
  have H := Lib.hid (Ow.start w)
  go_enter Tryz.func7, Tryz.ntmps7
  go_wp2_with (first
    | ((fail_if_success have := g3); (with_reducible apply own_boxC H); (case hgd => exact rfl); (case ho => exact rfl); (case hx => exact rfl); intro w3 g3 H' _ _; replace H := H'; clear H'; go_simp)
    | ((fail_if_success have := g4); (with_reducible apply own_boxC H); (case hgd => exact rfl); (case ho => exact rfl); (case hx => exact rfl); intro w4 g4 H' _ _; replace H := H'; clear H'; go_simp)
    | ((with_reducible apply own_loadA rowSpK ?hC H); (case hgd => exact rfl); (case ho => exact rfl); (case hx => exact rfl); (case hi => first | exact at0 | exact at1 | exact at2 | exact at3 | exact at4 | exact at5 | exact at6 | exact at7 | exact at8 | exact at9); (case hC => exact rfl); intro _ _; go_simp)
    | ((fail_if_success have := mk1); (with_reducible refine (made11_any OK.out _ (HT.out.below H.out.bel) ((HS.out.below H.out.bel).more H.out.bel.size)).mono ?_); rintro e wc ⟨v1, r1, P, rfl, hv, hw, hb⟩; replace H := Lib.hid (H.out.call hb); have V1 := Lib.hid hv; have W1 := Lib.hid hw; have mk1 := trivial; clear hb hv hw)
    | ((fail_if_success have := g7); (with_reducible apply own_alloc nilPt H); (case hgd => exact rfl); (case ho => exact rfl); intro w7 g7 H' _ _; replace H := H'; clear H'; go_simp)
    | ((fail_if_success have := g8); (with_reducible apply own_alloc nilQt H); (case hgd => exact rfl); (case ho => exact rfl); intro w8 g8 H' _ _; replace H := H'; clear H'; go_simp)
    | ((with_reducible apply own_store rowPt H); (case hgd => exact rfl); (case ho => exact rfl); (case hx => exact rfl); (case hy => exact rfl); (case hi => first | exact at0 | exact at1 | exact at2 | exact at3 | exact at4 | exact at5 | exact at6 | exact at7 | exact at8 | exact at9); intro ws H' _ _; replace H := H'; clear H'; simp only [List.set_cons_zero, List.set_cons_succ] at H; go_simp)
    | ((with_reducible apply own_store rowQt H); (case hgd => exact rfl); (case ho => exact rfl); (case hx => exact rfl); (case hy => exact rfl); (case hi => first | exact at0 | exact at1 | exact at2 | exact at3 | exact at4 | exact at5 | exact at6 | exact at7 | exact at8 | exact at9); intro ws H' _ _; replace H := H'; clear H'; simp only [List.set_cons_zero] at H; go_simp)
    | ((with_reducible apply own_loadC cellSb H); (case hgd => exact rfl); (case ho => exact rfl); (case hx => exact rfl); (case hi => first | exact at0 | exact at1 | exact at2 | exact at3 | exact at4 | exact at5 | exact at6 | exact at7 | exact at8 | exact at9); (case hj => exact rfl); intro _ _; go_simp)
    | ((with_reducible apply own_loadCg cellSb H); (case hw => exact rfl); (case ho => exact rfl); (case hx => exact rfl); (case hi => first | exact at0 | exact at1 | exact at2 | exact at3 | exact at4 | exact at5 | exact at6 | exact at7 | exact at8 | exact at9); (case hj => exact rfl); intro _ _; go_simp)
    | ((with_reducible apply own_load rowPt H); (case hgd => exact rfl); (case ho => exact rfl); (case hx => exact rfl); (case hi => first | exact at0 | exact at1 | exact at2 | exact at3 | exact at4 | exact at5 | exact at6 | exact at7 | exact at8 | exact at9); intro _ _; go_simp)
    | ((with_reducible refine cd_skip ?hw ?h); (case hw => exact rfl); intro _ _; go_simp)
    | ((with_reducible refine (awake11_k _ (HT.out.below H.out.bel)).mono ?_); rintro e wc ⟨rfl, hb⟩; replace H := Lib.hid (H.out.call hb); clear hb))
  go_ret
  exact ⟨rfl, H.out.bel⟩
set_option maxRecDepth 8000 in
set_option maxHeartbeats 3200000 in
theorem adds_out2 {a a1 a2 : Option Addr} {n c x n1 c1 n2 c2 : Nat} {z : Int} {k : Int} (w : World) (hT : Tp w) (hs : Sb w w.heap.size a n c x) (ok : okS n z = true) (h1 : n1 ≤ 12) (h : 12 < n2) :
    Calls Tryz.prog 7 #[.agg #[.slice a n c, .int .i64 z], .agg #[.slice a1 n1 c1, .slice a2 n2 c2], .int .i64 k] w fun e w' => e = .returned (.bool true) ∧ Below w.heap.size w w' := by
  have d0 : decide ((12 : Int) < (n1 : Int)) = false := by simp; omega
  have d1 : decide ((12 : Int) < (n2 : Int)) = true := by simp; omega
  have HS := Lib.hid hs
  have OK := Lib.hid ok
  clear hs ok
  clear h1 h
  have HT := Lib.hid hT
  clear hT
  have H := Lib.hid (Ow.start w)
  go_enter Tryz.func7, Tryz.ntmps7
  go_wp2_with (first
    | ((fail_if_success have := g3); (with_reducible apply own_boxC H); (case hgd => exact rfl); (case ho => exact rfl); (case hx => exact rfl); intro w3 g3 H' _ _; replace H := H'; clear H'; go_simp)
    | ((fail_if_success have := g4); (with_reducible apply own_boxC H); (case hgd => exact rfl); (case ho => exact rfl); (case hx => exact rfl); intro w4 g4 H' _ _; replace H := H'; clear H'; go_simp)
    | ((with_reducible apply own_loadA rowSpK ?hC H); (case hgd => exact rfl); (case ho => exact rfl); (case hx => exact rfl); (case hi => first | exact at0 | exact at1 | exact at2 | exact at3 | exact at4 | exact at5 | exact at6 | exact at7 | exact at8 | exact at9); (case hC => exact rfl); intro _ _; go_simp)
    | ((fail_if_success have := mk1); (with_reducible refine (made11_any OK.out _ (HT.out.below H.out.bel) ((HS.out.below H.out.bel).more H.out.bel.size)).mono ?_); rintro e wc ⟨v1, r1, P, rfl, hv, hw, hb⟩; replace H := Lib.hid (H.out.call hb); have V1 := Lib.hid hv; have W1 := Lib.hid hw; have mk1 := trivial; clear hb hv hw)
    | ((fail_if_success have := g7); (with_reducible apply own_alloc nilPt H); (case hgd => exact rfl); (case ho => exact rfl); intro w7 g7 H' _ _; replace H := H'; clear H'; go_simp)
    | ((fail_if_success have := g8); (with_reducible apply own_alloc nilQt H); (case hgd => exact rfl); (case ho => exact rfl); intro w8 g8 H' _ _; replace H := H'; clear H'; go_simp)
    | ((with_reducible apply own_store rowPt H); (case hgd => exact rfl); (case ho => exact rfl); (case hx => exact rfl); (case hy => exact rfl); (case hi => first | exact at0 | exact at1 | exact at2 | exact at3 | exact at4 | exact at5 | exact at6 | exact at7 | exact at8 | exact at9); intro ws H' _ _; replace H := H'; clear H'; simp only [List.set_cons_zero, List.set_cons_succ] at H; go_simp)
    | ((with_reducible apply own_store rowQt H); (case hgd => exact rfl); (case ho => exact rfl); (case hx => exact rfl); (case hy => exact rfl); (case hi => first | exact at0 | exact at1 | exact at2 | exact at3 | exact at4 | exact at5 | exact at6 | exact at7 | exact at8 | exact at9); intro ws H' _ _; replace H := H'; clear H'; simp only [List.set_cons_zero] at H; go_simp)
    | ((with_reducible apply own_loadC cellSb H); (case hgd => exact rfl); (case ho => exact rfl); (case hx => exact rfl); (case hi => first | exact at0 | exact at1 | exact at2 | exact at3 | exact at4 | exact at5 | exact at6 | exact at7 | exact at8 | exact at9); (case hj => exact rfl); intro _ _; go_simp)
    | ((with_reducible apply own_loadCg cellSb H); (case hw => exact rfl); (case ho => exact rfl); (case hx => exact rfl); (case hi => first | exact at0 | exact at1 | exact at2 | exact at3 | exact at4 | exact at5 | exact at6 | exact at7 | exact at8 | exact at9); (case hj => exact rfl); intro _ _; go_simp)
    | ((with_reducible apply own_load rowPt H); (case hgd => exact rfl); (case ho => exact rfl); (case hx => exact rfl); (case hi => first | exact at0 | exact at1 | exact at2 | exact at3 | exact at4 | exact at5 | exact at6 | exact at7 | exact at8 | exact at9); intro _ _; go_simp)
    | ((with_reducible refine cd_skip ?hw ?h); (case hw => exact rfl); intro _ _; go_simp)
    | ((with_reducible refine (awake11_k _ (HT.out.below H.out.bel)).mono ?_); rintro e wc ⟨rfl, hb⟩; replace H := Lib.hid (H.out.call hb); clear hb))
  go_ret
  exact ⟨rfl, H.out.bel⟩
set_option maxRecDepth 8000 in
set_option maxHeartbeats 3200000 in
theorem adds_out3 {a a1 a2 : Option Addr} {n c x n1 c1 n2 c2 : Nat} {z : Int} {k : Int} (w : World) (hT : Tp w) (hs : Sb w w.heap.size a n c x) (ok : okS n z = true) (h1 : n1 ≤ 12) (h2 : n2 ≤ 12) (h : k < 1) :
    Calls Tryz.prog 7 #[.agg #[.slice a n c, .int .i64 z], .agg #[.slice a1 n1 c1, .slice a2 n2 c2], .int .i64 k] w fun e w' => e = .returned (.bool true) ∧ Below w.heap.size w w' := by
  have d0 : decide ((12 : Int) < (n1 : Int)) = false := by simp; omega
  have d1 : decide ((12 : Int) < (n2 : Int)) = false := by simp; omega
  have d2 : decide (k < 1) = true := by simp; omega
  have HS := Lib.hid hs
  have OK := Lib.hid ok
  clear hs ok
  clear h1 h2 h
  have HT := Lib.hid hT
  clear hT
  have H := Lib.hid (Ow.start w)
  go_enter Tryz.func7, Tryz.ntmps7
  go_wp2_with (first
    | ((fail_if_success have := g3); (with_reducible apply own_boxC H); (case hgd => exact rfl); (case ho => exact rfl); (case hx => exact rfl); intro w3 g3 H' _ _; replace H := H'; clear H'; go_simp)
    | ((fail_if_success have := g4); (with_reducible apply own_boxC H); (case hgd => exact rfl); (case ho => exact rfl); (case hx => exact rfl); intro w4 g4 H' _ _; replace H := H'; clear H'; go_simp)
    | ((with_reducible apply own_loadA rowSpK ?hC H); (case hgd => exact rfl); (case ho => exact rfl); (case hx => exact rfl); (case hi => first | exact at0 | exact at1 | exact at2 | exact at3 | exact at4 | exact at5 | exact at6 | exact at7 | exact at8 | exact at9); (case hC => exact rfl); intro _ _; go_simp)
    | ((fail_if_success have := mk1); (with_reducible refine (made11_any OK.out _ (HT.out.below H.out.bel) ((HS.out.below H.out.bel).more H.out.bel.size)).mono ?_); rintro e wc ⟨v1, r1, P, rfl, hv, hw, hb⟩; replace H := Lib.hid (H.out.call hb); have V1 := Lib.hid hv; have W1 := Lib.hid hw; have mk1 := trivial; clear hb hv hw)
    | ((fail_if_success have := g7); (with_reducible apply own_alloc nilPt H); (case hgd => exact rfl); (case ho => exact rfl); intro w7 g7 H' _ _; replace H := H'; clear H'; go_simp)
    | ((fail_if_success have := g8); (with_reducible apply own_alloc nilQt H); (case hgd => exact rfl); (case ho => exact rfl); intro w8 g8 H' _ _; replace H := H'; clear H'; go_simp)
    | ((with_reducible apply own_store rowPt H); (case hgd => exact rfl); (case ho => exact rfl); (case hx => exact rfl); (case hy => exact rfl); (case hi => first | exact at0 | exact at1 | exact at2 | exact at3 | exact at4 | exact at5 | exact at6 | exact at7 | exact at8 | exact at9); intro ws H' _ _; replace H := H'; clear H'; simp only [List.set_cons_zero, List.set_cons_succ] at H; go_simp)
    | ((with_reducible apply own_store rowQt H); (case hgd => exact rfl); (case ho => exact rfl); (case hx => exact rfl); (case hy => exact rfl); (case hi => first | exact at0 | exact at1 | exact at2 | exact at3 | exact at4 | exact at5 | exact at6 | exact at7 | exact at8 | exact at9); intro ws H' _ _; replace H := H'; clear H'; simp only [List.set_cons_zero] at H; go_simp)
    | ((with_reducible apply own_loadC cellSb H); (case hgd => exact rfl); (case ho => exact rfl); (case hx => exact rfl); (case hi => first | exact at0 | exact at1 | exact at2 | exact at3 | exact at4 | exact at5 | exact at6 | exact at7 | exact at8 | exact at9); (case hj => exact rfl); intro _ _; go_simp)
    | ((with_reducible apply own_loadCg cellSb H); (case hw => exact rfl); (case ho => exact rfl); (case hx => exact rfl); (case hi => first | exact at0 | exact at1 | exact at2 | exact at3 | exact at4 | exact at5 | exact at6 | exact at7 | exact at8 | exact at9); (case hj => exact rfl); intro _ _; go_simp)
    | ((with_reducible apply own_load rowPt H); (case hgd => exact rfl); (case ho => exact rfl); (case hx => exact rfl); (case hi => first | exact at0 | exact at1 | exact at2 | exact at3 | exact at4 | exact at5 | exact at6 | exact at7 | exact at8 | exact at9); intro _ _; go_simp)
    | ((with_reducible refine cd_skip ?hw ?h); (case hw => exact rfl); intro _ _; go_simp)
    | ((with_reducible refine (awake11_k _ (HT.out.below H.out.bel)).mono ?_); rintro e wc ⟨rfl, hb⟩; replace H := Lib.hid (H.out.call hb); clear hb))
  go_ret
  exact ⟨rfl, H.out.bel⟩
set_option maxRecDepth 8000 in
set_option maxHeartbeats 3200000 in
theorem adds_out4 {a a1 a2 : Option Addr} {n c x n1 c1 n2 c2 : Nat} {z : Int} {k : Int} (w : World) (hT : Tp w) (hs : Sb w w.heap.size a n c x) (ok : okS n z = true) (h1 : n1 ≤ 12) (h2 : n2 ≤ 12) (h3 : 1 ≤ k) (h : 5 < k) :
    Calls Tryz.prog 7 #[.agg #[.slice a n c, .int .i64 z], .agg #[.slice a1 n1 c1, .slice a2 n2 c2], .int .i64 k] w fun e w' => e = .returned (.bool true) ∧ Below w.heap.size w w' := by
  have d0 : decide ((12 : Int) < (n1 : Int)) = false := by simp; omega
  have d1 : decide ((12 : Int) < (n2 : Int)) = false := by simp; omega
  have d2 : decide (k < 1) = false := by simp; omega
  have d3 : decide (5 < k) = true := by simp; omega
  have HS := Lib.hid hs
  have OK := Lib.hid ok
  clear hs ok
  clear h1 h2 h3 h
  have HT := Lib.hid hT
  clear hT
  have H := Lib.hid (Ow.start w)
  go_enter Tryz.func7, Tryz.ntmps7
  go_wp2_with (first
    | ((fail_if_success have := g3); (with_reducible apply own_boxC H); (case hgd => exact rfl); (case ho => exact rfl); (case hx => exact rfl); intro w3 g3 H' _ _; replace H := H'; clear H'; go_simp)
    | ((fail_if_success have := g4); (with_reducible apply own_boxC H); (case hgd => exact rfl); (case ho => exact rfl); (case hx => exact rfl); intro w4 g4 H' _ _; replace H := H'; clear H'; go_simp)
    | ((with_reducible apply own_loadA rowSpK ?hC H); (case hgd => exact rfl); (case ho => exact rfl); (case hx => exact rfl); (case hi => first | exact at0 | exact at1 | exact at2 | exact at3 | exact at4 | exact at5 | exact at6 | exact at7 | exact at8 | exact at9); (case hC => exact rfl); intro _ _; go_simp)
    | ((fail_if_success have := mk1); (with_reducible refine (made11_any OK.out _ (HT.out.below H.out.bel) ((HS.out.below H.out.bel).more H.out.bel.size)).mono ?_); rintro e wc ⟨v1, r1, P, rfl, hv, hw, hb⟩; replace H := Lib.hid (H.out.call hb); have V1 := Lib.hid hv; have W1 := Lib.hid hw; have mk1 := trivial; clear hb hv hw)
    | ((fail_if_success have := g7); (with_reducible apply own_alloc nilPt H); (case hgd => exact rfl); (case ho => exact rfl); intro w7 g7 H' _ _; replace H := H'; clear H'; go_simp)
    | ((fail_if_success have := g8); (with_reducible apply own_alloc nilQt H); (case hgd => exact rfl); (case ho => exact rfl); intro w8 g8 H' _ _; replace H := H'; clear H'; go_simp)
    | ((with_reducible apply own_store rowPt H); (case hgd => exact rfl); (case ho => exact rfl); (case hx => exact rfl); (case hy => exact rfl); (case hi => first | exact at0 | exact at1 | exact at2 | exact at3 | exact at4 | exact at5 | exact at6 | exact at7 | exact at8 | exact at9); intro ws H' _ _; replace H := H'; clear H'; simp only [List.set_cons_zero, List.set_cons_succ] at H; go_simp)
    | ((with_reducible apply own_store rowQt H); (case hgd => exact rfl); (case ho => exact rfl); (case hx => exact rfl); (case hy => exact rfl); (case hi => first | exact at0 | exact at1 | exact at2 | exact at3 | exact at4 | exact at5 | exact at6 | exact at7 | exact at8 | exact at9); intro ws H' _ _; replace H := H'; clear H'; simp only [List.set_cons_zero] at H; go_simp)
    | ((with_reducible apply own_loadC cellSb H); (case hgd => exact rfl); (case ho => exact rfl); (case hx => exact rfl); (case hi => first | exact at0 | exact at1 | exact at2 | exact at3 | exact at4 | exact at5 | exact at6 | exact at7 | exact at8 | exact at9); (case hj => exact rfl); intro _ _; go_simp)
    | ((with_reducible apply own_loadCg cellSb H); (case hw => exact rfl); (case ho => exact rfl); (case hx => exact rfl); (case hi => first | exact at0 | exact at1 | exact at2 | exact at3 | exact at4 | exact at5 | exact at6 | exact at7 | exact at8 | exact at9); (case hj => exact rfl); intro _ _; go_simp)
    | ((with_reducible apply own_load rowPt H); (case hgd => exact rfl); (case ho => exact rfl); (case hx => exact rfl); (case hi => first | exact at0 | exact at1 | exact at2 | exact at3 | exact at4 | exact at5 | exact at6 | exact at7 | exact at8 | exact at9); intro _ _; go_simp)
    | ((with_reducible refine cd_skip ?hw ?h); (case hw => exact rfl); intro _ _; go_simp)
    | ((with_reducible refine (awake11_k _ (HT.out.below H.out.bel)).mono ?_); rintro e wc ⟨rfl, hb⟩; replace H := Lib.hid (H.out.call hb); clear hb))
  go_ret
  exact ⟨rfl, H.out.bel⟩
set_option maxRecDepth 8000 in
set_option maxHeartbeats 3200000 in
theorem adds_k {a a1 a2 : Option Addr} {n c x n1 c1 n2 c2 : Nat} {z : Int} {k y1 y2 : Nat} (w : World) (hT : Tp w) (hs : Sb w w.heap.size a n c x) (hy1 : Sb w w.heap.size a1 n1 c1 y1) (hy2 : Sb w w.heap.size a2 n2 c2 y2) (ok : okS n z = true) (h1 : n1 ≤ 12) (h2 : n2 ≤ 12) (h3 : 1 ≤ k) (h4 : k ≤ 5) :
    Calls Tryz.prog 7 #[.agg #[.slice a n c, .int .i64 z], .agg #[.slice a1 n1 c1, .slice a2 n2 c2], .int .i64 (k : Int)] w fun e w' => e = .returned (.bool true) ∧ Below w.heap.size w w' := by
  have d0 : decide ((12 : Int) < (n1 : Int)) = false := by simp; omega
  have d1 : decide ((12 : Int) < (n2 : Int)) = false := by simp; omega
  have d2 : decide ((k : Int) < 1) = false := by simp; omega
  have d3 : decide (5 < (k : Int)) = false := by simp; omega
  have HS := Lib.hid hs
  have OK := Lib.hid ok
  have H1 := Lib.hid hy1
  have H2 := Lib.hid hy2
  have N1 := Lib.hid h1
  have N2 := Lib.hid h2
  have KB := Lib.hid (show 1 ≤ k ∧ k ≤ 5 from ⟨h3, h4⟩)
  clear hs ok hy1 hy2 h1 h2 h3 h4
  have HT := Lib.hid hT
  clear hT
  have H := Lib.hid (Ow.start w)
  go_enter Tryz.func7, Tryz.ntmps7
  go_upto_region 15 with (first
    | ((fail_if_success have := g3); (with_reducible apply own_boxC H); (case hgd => exact rfl); (case ho => exact rfl); (case hx => exact rfl); intro w3 g3 H' _ _; replace H := H'; clear H'; go_simp)
    | ((fail_if_success have := g4); (with_reducible apply own_boxC H); (case hgd => exact rfl); (case ho => exact rfl); (case hx => exact rfl); intro w4 g4 H' _ _; replace H := H'; clear H'; go_simp)
    | ((with_reducible apply own_loadA rowSpK ?hC H); (case hgd => exact rfl); (case ho => exact rfl); (case hx => exact rfl); (case hi => first | exact at0 | exact at1 | exact at2 | exact at3 | exact at4 | exact at5 | exact at6 | exact at7 | exact at8 | exact at9); (case hC => exact rfl); intro _ _; go_simp)
    | ((fail_if_success have := mk1); (with_reducible refine (made11_any OK.out _ (HT.out.below H.out.bel) ((HS.out.below H.out.bel).more H.out.bel.size)).mono ?_); rintro e wc ⟨v1, r1, P, rfl, hv, hw, hb⟩; replace H := Lib.hid (H.out.call hb); have V1 := Lib.hid hv; have W1 := Lib.hid hw; have mk1 := trivial; clear hb hv hw)
    | ((fail_if_success have := g7); (with_reducible apply own_alloc nilPt H); (case hgd => exact rfl); (case ho => exact rfl); intro w7 g7 H' _ _; replace H := H'; clear H'; go_simp)
    | ((fail_if_success have := g8); (with_reducible apply own_alloc nilQt H); (case hgd => exact rfl); (case ho => exact rfl); intro w8 g8 H' _ _; replace H := H'; clear H'; go_simp)
    | ((with_reducible apply own_store rowPt H); (case hgd => exact rfl); (case ho => exact rfl); (case hx => exact rfl); (case hy => exact rfl); (case hi => first | exact at0 | exact at1 | exact at2 | exact at3 | exact at4 | exact at5 | exact at6 | exact at7 | exact at8 | exact at9); intro ws H' _ _; replace H := H'; clear H'; simp only [List.set_cons_zero, List.set_cons_succ] at H; go_simp)
    | ((with_reducible apply own_store rowQt H); (case hgd => exact rfl); (case ho => exact rfl); (case hx => exact rfl); (case hy => exact rfl); (case hi => first | exact at0 | exact at1 | exact at2 | exact at3 | exact at4 | exact at5 | exact at6 | exact at7 | exact at8 | exact at9); intro ws H' _ _; replace H := H'; clear H'; simp only [List.set_cons_zero] at H; go_simp)
    | ((with_reducible apply own_loadC cellSb H); (case hgd => exact rfl); (case ho => exact rfl); (case hx => exact rfl); (case hi => first | exact at0 | exact at1 | exact at2 | exact at3 | exact at4 | exact at5 | exact at6 | exact at7 | exact at8 | exact at9); (case hj => exact rfl); intro _ _; go_simp)
    | ((with_reducible apply own_loadCg cellSb H); (case hw => exact rfl); (case ho => exact rfl); (case hx => exact rfl); (case hi => first | exact at0 | exact at1 | exact at2 | exact at3 | exact at4 | exact at5 | exact at6 | exact at7 | exact at8 | exact at9); (case hj => exact rfl); intro _ _; go_simp)
    | ((with_reducible apply own_load rowPt H); (case hgd => exact rfl); (case ho => exact rfl); (case hx => exact rfl); (case hi => first | exact at0 | exact at1 | exact at2 | exact at3 | exact at4 | exact at5 | exact at6 | exact at7 | exact at8 | exact at9); intro _ _; go_simp)
    | ((with_reducible refine cd_skip ?hw ?h); (case hw => exact rfl); intro _ _; go_simp)
    | ((fail_if_success have := mk2); (with_reducible refine (sum_x _ _ _ _ _ _ _ _ _ N1.out N2.out ((H1.out.below H.out.bel).more H.out.bel.size) ((H2.out.below H.out.bel).more H.out.bel.size)).mono ?_); rintro e wc ⟨au, ku, cu, rfl, hns, hs, hb⟩; have H0 := Lib.hid (H.out.call hb); have SS := Lib.hid hs; have NS := Lib.hid hns; have d8 : decide ((14 : Int) < (ku : Int)) = false := (by simp; omega); have mk2 := trivial; clear hb hs hns H; have H := Lib.hid (Ow.start wc))
    | ((with_reducible apply own_loadO rowPt H); (case hgd => exact rfl); (case ho => exact rfl); (case hx => exact rfl); (case hr => first | exact H0.out.row 0 rfl | exact H0.out.row 1 rfl | exact H0.out.row 2 rfl | exact H0.out.row 3 rfl); intro _ _; go_simp)
    | ((with_reducible apply own_loadCO cellSb H); (case hgd => exact rfl); (case ho => exact rfl); (case hx => exact rfl); (case hr => first | exact H0.out.row 0 rfl | exact H0.out.row 1 rfl | exact H0.out.row 2 rfl | exact H0.out.row 3 rfl); (case hj => exact rfl); intro _ _; go_simp)
    | ((fail_if_success have := mk3); (with_reducible refine (cnew_k _ (HT.out.below (H0.out.bel.trans (H.out.bel.mono H0.out.bel.size))) V1.out k 14 _ 14 rfl rfl KB.out.1 (Nat.le_trans KB.out.2 (by omega)) (by omega) (by omega)).mono ?_); rintro e wd ⟨gt, L, rfl, hn, ht, hb⟩; replace H := Lib.hid (H.out.append hb hn); have TB := Lib.hid ht; have mk3 := trivial; clear hb ht hn)
    | ((fail_if_success have := mk4); (with_reducible refine (cnew_k _ (HT.out.below (H0.out.bel.trans (H.out.bel.mono H0.out.bel.size))) V1.out 1 14 1 14 rfl rfl (by omega) (by omega) (by omega) (by omega)).mono ?_); rintro e wd ⟨gu, M, rfl, hn, ht, hb⟩; replace H := Lib.hid (H.out.append hb hn); have TC := Lib.hid ht; have mk4 := trivial; clear hb ht hn)
    | ((fail_if_success have := F1); (with_reducible refine (filled_x _ (Nat.le_trans N1.out (by omega)) ((H1.out.below (H0.out.bel.trans (H.out.bel.mono H0.out.bel.size))).more (H0.out.bel.trans (H.out.bel.mono H0.out.bel.size)).size)).mono ?_); rintro e wd ⟨gf, rfl, hs, hb⟩; replace H := Lib.hid (H.out.call hb); have F1 := Lib.hid hs; clear hb hs)
    | ((fail_if_success have := VA); (with_reducible refine (tmult_k _ (HT.out.below (H0.out.bel.trans (H.out.bel.mono H0.out.bel.size))) (TB.out _ fun x hx => H.out.has x (by simp [hx])) F1.out).mono ?_); rintro e wd ⟨qa, rfl, hv, hb⟩; replace H := Lib.hid (H.out.call hb); have VA := Lib.hid hv; clear hb hv)
    | ((fail_if_success have := g15); (with_reducible apply own_alloc nilPt H); (case hgd => exact rfl); (case ho => exact rfl); intro w15 g15 H' _ _; replace H := H'; clear H'; go_simp)
    | ((fail_if_success have := F2); (with_reducible refine (filled_x _ (Nat.le_trans N2.out (by omega)) ((H2.out.below (H0.out.bel.trans (H.out.bel.mono H0.out.bel.size))).more (H0.out.bel.trans (H.out.bel.mono H0.out.bel.size)).size)).mono ?_); rintro e wd ⟨gf, rfl, hs, hb⟩; replace H := Lib.hid (H.out.call hb); have F2 := Lib.hid hs; clear hb hs)
    | ((fail_if_success have := VB); (with_reducible refine (tmult_k _ (HT.out.below (H0.out.bel.trans (H.out.bel.mono H0.out.bel.size))) (TB.out _ fun x hx => H.out.has x (by simp [hx])) F2.out).mono ?_); rintro e wd ⟨qb, rfl, hv, hb⟩; replace H := Lib.hid (H.out.call hb); have VB := Lib.hid hv; clear hb hv)
    | ((fail_if_success have := g17); (with_reducible apply own_alloc nilPt H); (case hgd => exact rfl); (case ho => exact rfl); intro w17 g17 H' _ _; replace H := H'; clear H'; go_simp)
    | ((fail_if_success have := F3); (with_reducible refine (filled_x _ NS.out ((SS.out.below H.out.bel).more H.out.bel.size)).mono ?_); rintro e wd ⟨gf, rfl, hs, hb⟩; replace H := Lib.hid (H.out.call hb); have F3 := Lib.hid hs; clear hb hs)
    | ((fail_if_success have := VC); (with_reducible refine (tmult_k _ (HT.out.below (H0.out.bel.trans (H.out.bel.mono H0.out.bel.size))) (TB.out _ fun x hx => H.out.has x (by simp [hx])) F3.out).mono ?_); rintro e wd ⟨qc, rfl, hv, hb⟩; replace H := Lib.hid (H.out.call hb); have VC := Lib.hid hv; clear hb hv)
    | ((fail_if_success have := g19); (with_reducible apply own_alloc nilPt H); (case hgd => exact rfl); (case ho => exact rfl); intro w19 g19 H' _ _; replace H := H'; clear H'; go_simp)
    | ((fail_if_success have := F4); (with_reducible refine (filled_x _ NS.out ((SS.out.below H.out.bel).more H.out.bel.size)).mono ?_); rintro e wd ⟨gf, rfl, hs, hb⟩; replace H := Lib.hid (H.out.call hb); have F4 := Lib.hid hs; clear hb hs)
    | ((fail_if_success have := VD); (with_reducible refine (tmult_k _ (HT.out.below (H0.out.bel.trans (H.out.bel.mono H0.out.bel.size))) (TC.out _ fun x hx => H.out.has x (by simp [hx])) F4.out).mono ?_); rintro e wd ⟨qd, rfl, hv, hb⟩; replace H := Lib.hid (H.out.call hb); have VD := Lib.hid hv; clear hb hv)
    | ((fail_if_success have := g21); (with_reducible apply own_alloc nilPt H); (case hgd => exact rfl); (case ho => exact rfl); intro w21 g21 H' _ _; replace H := H'; clear H'; go_simp))
  clear mk1 mk2 mk3 mk4 TB TC F1 F2 F3 F4 SS NS d8
  refine wp_region_noPanic ?_
  refine wp_region_held_drew (S := fun W => W.heap[g15]? = some (Blk 32 .u64 24 (qa)) ∧ W.heap[g17]? = some (Blk 32 .u64 24 (qb)) ∧ W.heap[g19]? = some (Blk 32 .u64 24 (qc)) ∧ W.heap[g21]? = some (Blk 32 .u64 24 (qd))) (by kernel_rfl) (⟨H.out.drew.row 3 rfl, H.out.drew.row 2 rfl, H.out.drew.row 1 rfl, H.out.drew.row 0 rfl⟩) (fun hH => ?_)
  replace H := Lib.hid H.out.drew
  generalize World.drew _ = w8 at *
  refine held_value 0 115 (.int .i64 0) rfl rfl (by kernel_rfl) (by kernel_rfl) (by kernel_rfl) rfl hH (fun w hw => by go_simp) ?_
  try simp only [Act.put, List.setIfInBounds_toArray, List.set_cons_zero, List.set_cons_succ]
  refine held_value 1 116 (.bool true) rfl rfl (by kernel_rfl) (by kernel_rfl) (by kernel_rfl) rfl hH (fun w hw => by go_simp) ?_
  try simp only [Act.put, List.setIfInBounds_toArray, List.set_cons_zero, List.set_cons_succ]
  refine held_value 2 117 (.bool true) rfl rfl (by kernel_rfl) (by kernel_rfl) (by kernel_rfl) rfl hH (fun w hw => by go_simp) ?_
  try simp only [Act.put, List.setIfInBounds_toArray, List.set_cons_zero, List.set_cons_succ]
  refine held_value 3 118 (.int .i64 0) rfl rfl (by kernel_rfl) (by kernel_rfl) (by kernel_rfl) rfl hH (fun w hw => by go_simp) ?_
  try simp only [Act.put, List.setIfInBounds_toArray, List.set_cons_zero, List.set_cons_succ]
  refine held_value 4 119 (.bool true) rfl rfl (by kernel_rfl) (by kernel_rfl) (by kernel_rfl) rfl hH (fun w hw => by go_simp) ?_
  try simp only [Act.put, List.setIfInBounds_toArray, List.set_cons_zero, List.set_cons_succ]
  refine held_value 5 120 (.bool true) rfl rfl (by kernel_rfl) (by kernel_rfl) (by kernel_rfl) rfl hH (fun w hw => by go_simp) ?_
  try simp only [Act.put, List.setIfInBounds_toArray, List.set_cons_zero, List.set_cons_succ]
  refine held_value 6 121 (.bool true) rfl rfl (by kernel_rfl) (by kernel_rfl) (by kernel_rfl) rfl hH (fun w hw => by go_simp) ?_
  try simp only [Act.put, List.setIfInBounds_toArray, List.set_cons_zero, List.set_cons_succ]
  refine held_value 7 122 (.int .i64 0) rfl rfl (by kernel_rfl) (by kernel_rfl) (by kernel_rfl) rfl hH (fun w hw => by go_simp) ?_
  try simp only [Act.put, List.setIfInBounds_toArray, List.set_cons_zero, List.set_cons_succ]
  refine held_value 8 123 (.bool true) rfl rfl (by kernel_rfl) (by kernel_rfl) (by kernel_rfl) rfl hH (fun w hw => by go_simp) ?_
  try simp only [Act.put, List.setIfInBounds_toArray, List.set_cons_zero, List.set_cons_succ]
  refine held_value 9 124 (.bool true) rfl rfl (by kernel_rfl) (by kernel_rfl) (by kernel_rfl) rfl hH (fun w hw => by go_simp) ?_
  try simp only [Act.put, List.setIfInBounds_toArray, List.set_cons_zero, List.set_cons_succ]
  refine held_value 10 125 (.bool true) rfl rfl (by kernel_rfl) (by kernel_rfl) (by kernel_rfl) rfl hH (fun w hw => by go_simp) ?_
  try simp only [Act.put, List.setIfInBounds_toArray, List.set_cons_zero, List.set_cons_succ]
  refine held_value 11 126 (.int .i64 0) rfl rfl (by kernel_rfl) (by kernel_rfl) (by kernel_rfl) rfl hH (fun w hw => by go_simp) ?_
  try simp only [Act.put, List.setIfInBounds_toArray, List.set_cons_zero, List.set_cons_succ]
  refine held_value 12 127 (.bool true) rfl rfl (by kernel_rfl) (by kernel_rfl) (by kernel_rfl) rfl hH (fun w hw => by go_simp) ?_
  try simp only [Act.put, List.setIfInBounds_toArray, List.set_cons_zero, List.set_cons_succ]
  refine held_value 13 128 (.bool true) rfl rfl (by kernel_rfl) (by kernel_rfl) (by kernel_rfl) rfl hH (fun w hw => by go_simp) ?_
  try simp only [Act.put, List.setIfInBounds_toArray, List.set_cons_zero, List.set_cons_succ]
  refine held_value 14 129 (.bool true) rfl rfl (by kernel_rfl) (by kernel_rfl) (by kernel_rfl) rfl hH (fun w hw => by go_simp) ?_
  try simp only [Act.put, List.setIfInBounds_toArray, List.set_cons_zero, List.set_cons_succ]
  refine held_row 15 130 rowPt rfl rfl (by kernel_rfl) (by kernel_rfl) (by kernel_rfl) rfl hH rfl rfl (fun _ h => h.1) ?_
  try simp only [Act.put, List.setIfInBounds_toArray, List.set_cons_zero, List.set_cons_succ]
  refine held_row 16 131 rowPt rfl rfl (by kernel_rfl) (by kernel_rfl) (by kernel_rfl) rfl hH rfl rfl (fun _ h => h.2.1) ?_
  try simp only [Act.put, List.setIfInBounds_toArray, List.set_cons_zero, List.set_cons_succ]
  refine held_row 18 133 rowPt rfl rfl (by kernel_rfl) (by kernel_rfl) (by kernel_rfl) rfl hH rfl rfl (fun _ h => h.2.2.1) ?_
  try simp only [Act.put, List.setIfInBounds_toArray, List.set_cons_zero, List.set_cons_succ]
  refine wpAnyH_ready (rs := [17]) (by kernel_rfl) (by simp) ?_
  refine AllReadyH.cons (o := _) rfl (fun K hK => ?_) AllReadyH.nil
  go_simp
  refine (ptAdd_k _ (HT.out.below (H0.out.bel.trans (H.out.bel.mono H0.out.bel.size))) VA.out VB.out).mono ?_
  rintro e wc ⟨k132, rfl, hv, hb⟩
  replace H := Lib.hid (H.out.call hb)
  have HV132 := Lib.hid hv
  refine hK.out _ _ (⟨H.out.row 3 rfl, H.out.row 2 rfl, H.out.row 1 rfl, H.out.row 0 rfl⟩) (fun hN => ?_)
  clear hK K hH hb hv
  have hH := hN
  clear hN
  try simp only [Act.put, List.setIfInBounds_toArray, List.set_cons_zero, List.set_cons_succ]
  refine wpAnyH_ready (rs := [19]) (by kernel_rfl) (by simp) ?_
  refine AllReadyH.cons (o := _) rfl (fun K hK => ?_) AllReadyH.nil
  go_simp
  refine (ptEqual_k _ (HT.out.below (H0.out.bel.trans (H.out.bel.mono H0.out.bel.size))) HV132.out VC.out (decide_eq_true (pmul_add edK y1 P y2).symm)).mono ?_
  rintro e wc ⟨rfl, hb⟩
  replace H := Lib.hid (H.out.call hb)
  refine hK.out _ _ (⟨H.out.row 3 rfl, H.out.row 2 rfl, H.out.row 1 rfl, H.out.row 0 rfl⟩) (fun hN => ?_)
  clear hK K hH hb
  have hH := hN
  clear hN
  try simp only [Act.put, List.setIfInBounds_toArray, List.set_cons_zero, List.set_cons_succ]
  refine held_value 20 135 (.bool true) rfl rfl (by kernel_rfl) (by kernel_rfl) (by kernel_rfl) rfl hH (fun w hw => by go_simp) ?_
  try simp only [Act.put, List.setIfInBounds_toArray, List.set_cons_zero, List.set_cons_succ]
  refine held_value 21 136 (.bool true) rfl rfl (by kernel_rfl) (by kernel_rfl) (by kernel_rfl) rfl hH (fun w hw => by go_simp) ?_
  try simp only [Act.put, List.setIfInBounds_toArray, List.set_cons_zero, List.set_cons_succ]
  refine held_row 22 137 rowPt rfl rfl (by kernel_rfl) (by kernel_rfl) (by kernel_rfl) rfl hH rfl rfl (fun _ h => h.2.2.1) ?_
  try simp only [Act.put, List.setIfInBounds_toArray, List.set_cons_zero, List.set_cons_succ]
  refine held_row 23 138 rowPt rfl rfl (by kernel_rfl) (by kernel_rfl) (by kernel_rfl) rfl hH rfl rfl (fun _ h => h.2.2.2) ?_
  try simp only [Act.put, List.setIfInBounds_toArray, List.set_cons_zero, List.set_cons_succ]
  refine wpAnyH_ready (rs := [24]) (by kernel_rfl) (by simp) ?_
  refine AllReadyH.cons (o := _) rfl (fun K hK => ?_) AllReadyH.nil
  go_simp
  refine (ptEqual_k _ (HT.out.below (H0.out.bel.trans (H.out.bel.mono H0.out.bel.size))) VC.out VD.out (decide_eq_true rfl)).mono ?_
  rintro e wc ⟨rfl, hb⟩
  replace H := Lib.hid (H.out.call hb)
  refine hK.out _ _ (⟨H.out.row 3 rfl, H.out.row 2 rfl, H.out.row 1 rfl, H.out.row 0 rfl⟩) (fun hN => ?_)
  clear hK K hH hb
  have hH := hN
  clear hN
  try simp only [Act.put, List.setIfInBounds_toArray, List.set_cons_zero, List.set_cons_succ]
  refine held_value 25 140 (.bool true) rfl rfl (by kernel_rfl) (by kernel_rfl) (by kernel_rfl) rfl hH (fun w hw => by go_simp) ?_
  try simp only [Act.put, List.setIfInBounds_toArray, List.set_cons_zero, List.set_cons_succ]
  refine held_value 26 141 (.bool true) rfl rfl (by kernel_rfl) (by kernel_rfl) (by kernel_rfl) rfl hH (fun w hw => by go_simp) ?_
  try simp only [Act.put, List.setIfInBounds_toArray, List.set_cons_zero, List.set_cons_succ]
  refine wpAnyH_ready (rs := [27]) (by kernel_rfl) (by simp) ?_
  refine AllReadyH.cons (o := _) rfl (fun K hK => ?_) AllReadyH.nil
  go_simp
  refine (awake11_k _ (HT.out.below (H0.out.bel.trans (H.out.bel.mono H0.out.bel.size)))).mono ?_
  rintro e wc ⟨rfl, hb⟩
  replace H := Lib.hid (H.out.call hb)
  refine hK.out _ _ (⟨H.out.row 3 rfl, H.out.row 2 rfl, H.out.row 1 rfl, H.out.row 0 rfl⟩) (fun hN => ?_)
  clear hK K hH hb
  have hH := hN
  clear hN
  try simp only [Act.put, List.setIfInBounds_toArray, List.set_cons_zero, List.set_cons_succ]
  refine held_value 28 143 (.bool true) rfl rfl (by kernel_rfl) (by kernel_rfl) (by kernel_rfl) rfl hH (fun w hw => by go_simp) ?_
  try simp only [Act.put, List.setIfInBounds_toArray, List.set_cons_zero, List.set_cons_succ]
  refine held_value 29 6 (.bool true) rfl rfl (by kernel_rfl) (by kernel_rfl) (by kernel_rfl) rfl hH (fun w hw => by go_simp) ?_
  try simp only [Act.put, List.setIfInBounds_toArray, List.set_cons_zero, List.set_cons_succ]
  try simp only [Act.put]
  refine wpAnyH_done (by kernel_rfl) ?_ _
  refine NoPanic.normal ?_
  clear hH
  go_wp2_with fail
  go_ret
  exact ⟨rfl, (H0.out.bel.trans (H.out.bel.mono H0.out.bel.size))⟩
theorem adds_walk {a a1 a2 : Option Addr} {n c x n1 c1 y1 n2 c2 y2 : Nat} {z : Int} (k : Int) (w : World) (hT : Tp w) (hs : Sb w w.heap.size a n c x) (hy1 : Sb w w.heap.size a1 n1 c1 y1) (hy2 : Sb w w.heap.size a2 n2 c2 y2) :
    Calls Tryz.prog 7 #[.agg #[.slice a n c, .int .i64 z], .agg #[.slice a1 n1 c1, .slice a2 n2 c2], .int .i64 k] w fun e w' => e = .returned (.bool true) ∧ Below w.heap.size w w' := by
  cases ok : okS n z with
  | false => exact adds_none w hT hs ok
  | true =>
    by_cases h1 : 12 < n1
    · exact adds_out1 w hT hs ok h1
    by_cases h2 : 12 < n2
    · exact adds_out2 w hT hs ok (by omega) h2
    by_cases h3 : k < 1
    · exact adds_out3 w hT hs ok (by omega) (by omega) h3
    by_cases h4 : 5 < k
    · exact adds_out4 w hT hs ok (by omega) (by omega) (by omega) h4
    obtain ⟨k, rfl⟩ := Int.eq_ofNat_of_zero_le (show 0 ≤ k by omega)
    exact adds_k w hT hs hy1 hy2 ok (by omega) (by omega) (by omega) (by omega)
end Go.Proofs.YtjcfoilfdmameaaGreatDoor
