/- Lemmas; no statement is proved here. -/
import Derived.Test.YtgjbonikbmgfmaaGreatDoorQAdemZDfLaw
import Derived.Test.YtgjbonikbmgfmaaGreatDoorQDZDfGo3
import Derived.Test.YtgjbonikbmgfmaaGreatDoorZDfDec
import Derived.Test.YtgjbonikbmgfmaaGreatDoorZDfTurn
set_option maxRecDepth 8000
set_option maxHeartbeats 3200000
namespace Go.Proofs.YtgjbonikbmgfmaaGreatDoor
open Go.RowKit
theorem wrap8 (z : Int) : 0 ≤ IntKind.u8.wrap z ∧ IntKind.u8.wrap z < 256 := by
 unfold IntKind.wrap
 simp [IntKind.signed, IntKind.bits]
 omega
def IsEl (x : Nat) : Prop := x < pN ∧ (cN pN x).val % 2 ≠ 1 ∧ dfOk eC dK (cN pN x)
theorem z8h {a : Option Addr} {c x : Nat} (w : World) (hT : Tp w) (hs : Sb w w.heap.size a 56 c x) (h : ¬ IsEl x) :
  Calls Tryz.prog 13 #[.slice a 56 c] w fun e w' => ∃ r, e = .returned (.tuple #[DO r, .int .i64 12]) ∧ DeK r z0v ∧ Below w.heap.size w w' := by
 by_cases h1 : x < pN
 ·by_cases h2 : (cN pN x).val % 2 = 1
  ·exact dec14_odd w hT hs h1 h2
  ·exact dec14_no w hT hs h1 h2 fun h3 => h ⟨h1, h2, h3⟩
 ·exact dec14_far w hs (by omega)
theorem z9t {a : Option Addr} {c x : Nat} (w : World) (hs : Sb w w.heap.size a 56 c x) (h : ¬ IsEl x) :
  Calls Tryz.prog 14 #[.slice a 56 c] w fun e w' => ∃ r, e = .returned (.tuple #[QO r, .bool false]) ∧ Below w.heap.size w w' := by
 by_cases h1 : x < pN
 ·by_cases h2 : (cN pN x).val % 2 = 1
  ·exact refDec_odd w hs h1 h2
  ·exact refDec_no w hs h1 h2 fun h3 => h ⟨h1, h2, h3⟩
 ·exact refDec_big w hs (by omega)
theorem y0b {x : Nat} (h : IsEl x) : ∃ D, (∀ (w : World) (a : Option Addr) (c : Nat), Tp w → Sb w w.heap.size a 56 c x →
   Calls Tryz.prog 13 #[.slice a 56 c] w fun e w' => ∃ r, e = .returned (.tuple #[DO r, .int .i64 0]) ∧ DeK r D ∧ Below w.heap.size w w') ∧
  (∀ (w : World) (a : Option Addr) (c : Nat), Sb w w.heap.size a 56 c x → Calls Tryz.prog 14 #[.slice a 56 c] w fun e w' => ∃ r, e = .returned (.tuple #[QO r, .bool true]) ∧ RfK r D ∧ Below w.heap.size w w') ∧
  decide ((encK D).val = x) = true := by
 obtain ⟨h1, h2, h3⟩ := h
 refine ⟨decK (cN pN x) h3, fun w a c hT hs => z9g w hT hs h1 h2 h3, fun w a c hs => refDec_ok w hs h1 h2 h3, decide_eq_true ?_⟩
 rw [enc_dec (cN pN x) h3 (by omega)]
 exact Nat.mod_eq_of_lt h1
theorem ddec_long {a1 a2 : Option Addr} {n1 c1 x1 n2 c2 x2 : Nat} {z u v : Int} (w : World) (hT : Tp w) (hs1 : Sb w w.heap.size a1 n1 c1 x1) (hs2 : Sb w w.heap.size a2 n2 c2 x2) (hn : 60 < n1) :
  Calls Tryz.prog 3 #[.slice a1 n1 c1, .agg #[.slice a2 n2 c2, .int .i64 z], .agg #[.int .i64 u, .int .i64 v]] w fun e w' => e = .returned (.bool true) ∧ Below w.heap.size w w' := by
 have d1 : decide ((60 : Int) < (n1 : Int)) = true := by simp; omega
 clear hn
 have HS1 := za hs1
 have HS2 := za hs2
 clear hs1 hs2
 have HT := za hT
 clear hT
 have H := za (Ow.start w)
 go_enter Tryz.func3, Tryz.ntmps3
 go_wp2_with (first
  | ((with_reducible apply z0g H); (case hgd | ho | hx => exact rfl); clear H; intro _ _ H _ _; go_simp)
  | ((with_reducible apply z0m z25 H); (case hgd | ho | hx => exact rfl); (case hi => repeat first|exact z5|apply z8); (case hj => exact rfl); intro _ _; go_simp)
  | ((with_reducible refine (z0o _ (HT.out.below H.out.bel)).mono ?_); rintro e wc ⟨rfl, hb⟩; replace H := zd H hb; clear hb))
 go_ret
 exact ⟨rfl, H.out.bel⟩
theorem ddec_nospot {a1 a2 : Option Addr} {n1 c1 x1 n2 c2 x2 : Nat} {z u v : Int} (w : World) (hT : Tp w) (hs1 : Sb w w.heap.size a1 n1 c1 x1) (hs2 : Sb w w.heap.size a2 n2 c2 x2) (hn : n1 ≤ 60) (hu : 0 ≤ u) (ok : okS n2 z = false) :
  Calls Tryz.prog 3 #[.slice a1 n1 c1, .agg #[.slice a2 n2 c2, .int .i64 z], .agg #[.int .i64 u, .int .i64 v]] w fun e w' => e = .returned (.bool true) ∧ Below w.heap.size w w' := by
 have d1 : decide ((60 : Int) < (n1 : Int)) = false := by simp; omega
 have d2 : decide (0 ≤ u) = true := by simp; omega
 clear hn hu
 have HS1 := za hs1
 have HS2 := za hs2
 have OK1 := za ok
 clear hs1 hs2 ok
 have HT := za hT
 clear hT
 have H := za (Ow.start w)
 go_enter Tryz.func3, Tryz.ntmps3
 go_wp2_with (first
  | ((with_reducible apply z0g H); (case hgd | ho | hx => exact rfl); clear H; intro _ _ H _ _; go_simp)
  | ((with_reducible apply z0m z25 H); (case hgd | ho | hx => exact rfl); (case hi => repeat first|exact z5|apply z8); (case hj => exact rfl); intro _ _; go_simp)
  | ((with_reducible apply z0t z35 ?hC H); (case hgd | ho | hx => exact rfl); (case hi => repeat first|exact z5|apply z8); (case hC => exact rfl); intro _ _; go_simp)
  | ((fail_if_success have := mk1); (with_reducible refine (z23 OK1.out _ (HT.out.below H.out.bel) ((HS2.out.below H.out.bel).more H.out.bel.size)).mono ?_); rintro e wc ⟨F1, r1, P1, rfl, hv, hw, hp, hb⟩; replace H := zd H hb; have V1 := za hv; have W1 := za hw; have mk1 := trivial; clear hb hv hw hp)
  | ((with_reducible apply z0b zI H); (case hgd | ho => exact rfl); clear H; intro _ _ H _ _; go_simp)
  | ((with_reducible apply ze z0w H); (case hgd | ho => exact rfl); clear H; intro _ _ H _ _; go_simp)
  | ((fail_if_success have := ms1); (with_reducible apply z0a H); (case hgd | ho | hx | hy => exact rfl); (case hi => repeat first|exact z5|apply z8); (case h1 => exact V1.out); clear H; intro ws H _ _; simp only [qb, qc] at H; go_simp; have ms1 := trivial)
  | ((with_reducible apply zj zD H); (case hgd | ho | hx | hy => exact rfl); (case hi => repeat first|exact z5|apply z8); clear H; intro ws H _ _; simp only [qb] at H; go_simp)
  | ((with_reducible refine (z0o _ (HT.out.below H.out.bel)).mono ?_); rintro e wc ⟨rfl, hb⟩; replace H := zd H hb; clear hb))
 go_ret
 exact ⟨rfl, H.out.bel⟩
theorem ddec_size {a1 a2 : Option Addr} {n1 c1 x1 n2 c2 x2 : Nat} {z u v : Int} (w : World) (hT : Tp w) (hs1 : Sb w w.heap.size a1 n1 c1 x1) (hs2 : Sb w w.heap.size a2 n2 c2 x2) (hn : n1 ≤ 60) (hu : ¬ 0 ≤ u) (hne : n1 ≠ 56) :
  Calls Tryz.prog 3 #[.slice a1 n1 c1, .agg #[.slice a2 n2 c2, .int .i64 z], .agg #[.int .i64 u, .int .i64 v]] w fun e w' => e = .returned (.bool true) ∧ Below w.heap.size w w' := by
 have d1 : decide ((60 : Int) < (n1 : Int)) = false := by simp; omega
 have d2 : decide (0 ≤ u) = false := by simp; omega
 have d3 : ((n1 : Int) != 56) = true := by rw [bne_iff_ne]; omega
 have HNE := za hne
 clear hn hu hne
 have HS1 := za hs1
 have HS2 := za hs2
 clear hs1 hs2
 have HT := za hT
 clear hT
 have H := za (Ow.start w)
 go_enter Tryz.func3, Tryz.ntmps3
 go_wp2_with (first
  | ((with_reducible apply z0g H); (case hgd | ho | hx => exact rfl); clear H; intro _ _ H _ _; go_simp)
  | ((with_reducible apply z0m z25 H); (case hgd | ho | hx => exact rfl); (case hi => repeat first|exact z5|apply z8); (case hj => exact rfl); intro _ _; go_simp)
  | ((fail_if_success have := VX); (with_reducible refine (dec14_size _ HNE.out).mono ?_); rintro e wc ⟨kX, rfl, hv, hb⟩; replace H := zd H hb; clear hb; have VX := za hv; clear hv)
  | ((with_reducible apply z0b zI H); (case hgd | ho => exact rfl); clear H; intro _ _ H _ _; go_simp)
  | ((fail_if_success have := msx); (with_reducible apply z0a H); (case hgd | ho | hx | hy => exact rfl); (case hi => repeat first|exact z5|apply z8); (case h1 => exact VX.out); clear H; intro ws H _ _; simp only [qb] at H; go_simp; have msx := trivial)
  | ((fail_if_success have := mkr); (with_reducible refine (refDec_size _ HNE.out).mono ?_); rintro e wc ⟨kR, rfl, hb⟩; replace H := zd H hb; clear hb; have mkr := trivial)
  | ((with_reducible apply ze z0w H); (case hgd | ho => exact rfl); clear H; intro _ _ H _ _; go_simp)
  | ((with_reducible apply zj zD H); (case hgd | ho | hx | hy => exact rfl); (case hi => repeat first|exact z5|apply z8); clear H; intro ws H _ _; simp only [qb] at H; go_simp)
  | ((with_reducible refine (z0o _ (HT.out.below H.out.bel)).mono ?_); rintro e wc ⟨rfl, hb⟩; replace H := zd H hb; clear hb))
 go_ret
 exact ⟨rfl, H.out.bel⟩
theorem ddec_unone {a1 a2 : Option Addr} {c1 x1 n2 c2 x2 : Nat} {z u v : Int} (w : World) (hT : Tp w) (hs1 : Sb w w.heap.size a1 56 c1 x1) (hs2 : Sb w w.heap.size a2 n2 c2 x2) (hu : ¬ 0 ≤ u) (his : ¬ IsEl x1) :
  Calls Tryz.prog 3 #[.slice a1 56 c1, .agg #[.slice a2 n2 c2, .int .i64 z], .agg #[.int .i64 u, .int .i64 v]] w fun e w' => e = .returned (.bool true) ∧ Below w.heap.size w w' := by
 have d2 : decide (0 ≤ u) = false := by simp; omega
 clear hu
 have HIS := za his
 clear his
 have HS1 := za hs1
 have HS2 := za hs2
 clear hs1 hs2
 have HT := za hT
 clear hT
 have H := za (Ow.start w)
 go_enter Tryz.func3, Tryz.ntmps3
 go_wp2_with (first
  | ((with_reducible apply z0g H); (case hgd | ho | hx => exact rfl); clear H; intro _ _ H _ _; go_simp)
  | ((with_reducible apply z0m z25 H); (case hgd | ho | hx => exact rfl); (case hi => repeat first|exact z5|apply z8); (case hj => exact rfl); intro _ _; go_simp)
  | ((fail_if_success have := VX); (with_reducible refine (z8h _ (HT.out.below H.out.bel) ((HS1.out.below H.out.bel).more H.out.bel.size) HIS.out).mono ?_); rintro e wc ⟨kX, rfl, hv, hb⟩; replace H := zd H hb; clear hb; have VX := za hv; clear hv)
  | ((with_reducible apply z0b zI H); (case hgd | ho => exact rfl); clear H; intro _ _ H _ _; go_simp)
  | ((fail_if_success have := msx); (with_reducible apply z0a H); (case hgd | ho | hx | hy => exact rfl); (case hi => repeat first|exact z5|apply z8); (case h1 => exact VX.out); clear H; intro ws H _ _; simp only [qb] at H; go_simp; have msx := trivial)
  | ((fail_if_success have := mkr); (with_reducible refine (z9t _ ((HS1.out.below H.out.bel).more H.out.bel.size) HIS.out).mono ?_); rintro e wc ⟨kR, rfl, hb⟩; replace H := zd H hb; clear hb; have mkr := trivial)
  | ((with_reducible apply ze z0w H); (case hgd | ho => exact rfl); clear H; intro _ _ H _ _; go_simp)
  | ((with_reducible apply zj zD H); (case hgd | ho | hx | hy => exact rfl); (case hi => repeat first|exact z5|apply z8); clear H; intro ws H _ _; simp only [qb] at H; go_simp)
  | ((with_reducible refine (z0o _ (HT.out.below H.out.bel)).mono ?_); rintro e wc ⟨rfl, hb⟩; replace H := zd H hb; clear hb))
 go_ret
 exact ⟨rfl, H.out.bel⟩
theorem ddec_uone {a1 a2 : Option Addr} {c1 x1 n2 c2 x2 : Nat} {z u v : Int} (w : World) (hT : Tp w) (hs1 : Sb w w.heap.size a1 56 c1 x1) (hs2 : Sb w w.heap.size a2 n2 c2 x2) (hu : ¬ 0 ≤ u) (his : IsEl x1) :
  Calls Tryz.prog 3 #[.slice a1 56 c1, .agg #[.slice a2 n2 c2, .int .i64 z], .agg #[.int .i64 u, .int .i64 v]] w fun e w' => e = .returned (.bool true) ∧ Below w.heap.size w w' := by
 have d2 : decide (0 ≤ u) = false := by simp; omega
 clear hu
 obtain ⟨D, hd1, hd2, hd3⟩ := y0b his
 have HD1 := za hd1
 have HD2 := za hd2
 have HD3 := za hd3
 clear hd1 hd2 hd3 his
 have HS1 := za hs1
 have HS2 := za hs2
 clear hs1 hs2
 have HT := za hT
 clear hT
 have H := za (Ow.start w)
 go_enter Tryz.func3, Tryz.ntmps3
 go_wp2_with (first
  | ((with_reducible apply z0g H); (case hgd | ho | hx => exact rfl); clear H; intro _ _ H _ _; go_simp)
  | ((with_reducible apply z0m z25 H); (case hgd | ho | hx => exact rfl); (case hi => repeat first|exact z5|apply z8); (case hj => exact rfl); intro _ _; go_simp)
  | ((fail_if_success have := VX); (with_reducible refine (HD1.out _ _ _ (HT.out.below H.out.bel) ((HS1.out.below H.out.bel).more H.out.bel.size)).mono ?_); rintro e wc ⟨kX, rfl, hv, hb⟩; replace H := zd H hb; clear hb; have VX := za hv; clear hv)
  | ((with_reducible apply z0b zI H); (case hgd | ho => exact rfl); clear H; intro _ _ H _ _; go_simp)
  | ((fail_if_success have := msx); (with_reducible apply z0a H); (case hgd | ho | hx | hy => exact rfl); (case hi => repeat first|exact z5|apply z8); (case h1 => exact VX.out); clear H; intro ws H _ _; simp only [qb] at H; go_simp; have msx := trivial)
  | ((fail_if_success have := VR); (with_reducible refine (HD2.out _ _ _ ((HS1.out.below H.out.bel).more H.out.bel.size)).mono ?_); rintro e wc ⟨kR, rfl, hv, hb⟩; replace H := zd H hb; clear hb; have VR := za hv; clear hv)
  | ((with_reducible apply ze z0w H); (case hgd | ho => exact rfl); clear H; intro _ _ H _ _; go_simp)
  | ((with_reducible apply zj zD H); (case hgd | ho | hx | hy => exact rfl); (case hi => repeat first|exact z5|apply z8); clear H; intro ws H _ _; simp only [qb] at H; go_simp)
  | ((with_reducible apply z4c H); (case hw | ho | hx => exact rfl); (case hi => repeat first|exact z5|apply z8); intro _ _; go_simp)
  | ((with_reducible apply z91 zD H); (case hw | ho | hx => exact rfl); (case hi => repeat first|exact z5|apply z8); intro _ _; go_simp)
  | ((fail_if_success have := mks); (with_reducible refine (z10 (b := true) _ (HT.out.below H.out.bel) VX.out VR.out (decide_eq_true rfl)).mono ?_); rintro e wc ⟨rfl, hb⟩; replace H := zd H hb; clear hb; have mks := trivial)
  | ((fail_if_success have := SN); (with_reducible refine (z4f _ (HT.out.below H.out.bel) VX.out).mono ?_); rintro e wc ⟨gn, cn, rfl, hs, hb⟩; replace H := zd H hb; clear hb; have SN := za hs; clear hs)
  | ((fail_if_success have := mkc); (with_reducible refine (z5h HD3.out _ SN.out ((HS1.out.below H.out.bel).more H.out.bel.size)).mono ?_); rintro e wc ⟨rfl, hb⟩; replace H := zd H hb; clear hb; have mkc := trivial)
  | ((with_reducible refine (z0o _ (HT.out.below H.out.bel)).mono ?_); rintro e wc ⟨rfl, hb⟩; replace H := zd H hb; clear hb))
 go_ret
 exact ⟨rfl, H.out.bel⟩
theorem ddec_own {a1 a2 : Option Addr} {n1 c1 x1 n2 c2 x2 : Nat} {z u v : Int} (w : World) (hT : Tp w) (hs1 : Sb w w.heap.size a1 n1 c1 x1) (hs2 : Sb w w.heap.size a2 n2 c2 x2) (hn : n1 ≤ 60) (hu : 56 ≤ u) (ok : okS n2 z = true) :
  Calls Tryz.prog 3 #[.slice a1 n1 c1, .agg #[.slice a2 n2 c2, .int .i64 z], .agg #[.int .i64 u, .int .i64 v]] w fun e w' => e = .returned (.bool true) ∧ Below w.heap.size w w' := by
 have d1 : decide ((60 : Int) < (n1 : Int)) = false := by simp; omega
 have d2 : decide (0 ≤ u) = true := by simp; omega
 have d3 : decide (u < 56) = false := by simp; omega
 clear hn hu
 have HS1 := za hs1
 have HS2 := za hs2
 have OK1 := za ok
 clear hs1 hs2 ok
 have HT := za hT
 clear hT
 have H := za (Ow.start w)
 go_enter Tryz.func3, Tryz.ntmps3
 go_upto_region 11 with (first
  | ((with_reducible apply z0g H); (case hgd | ho | hx => exact rfl); clear H; intro _ _ H _ _; go_simp)
  | ((with_reducible apply z0m z25 H); (case hgd | ho | hx => exact rfl); (case hi => repeat first|exact z5|apply z8); (case hj => exact rfl); intro _ _; go_simp)
  | ((with_reducible apply z0t z35 ?hC H); (case hgd | ho | hx => exact rfl); (case hi => repeat first|exact z5|apply z8); (case hC => exact rfl); intro _ _; go_simp)
  | ((fail_if_success have := mk1); (with_reducible refine (z23 OK1.out _ (HT.out.below H.out.bel) ((HS2.out.below H.out.bel).more H.out.bel.size)).mono ?_); rintro e wc ⟨F1, r1, P1, rfl, hv, hw, hp, hb⟩; replace H := zd H hb; have V1 := za hv; have W1 := za hw; have mk1 := trivial; clear hb hv hw hp)
  | ((with_reducible apply z0b zI H); (case hgd | ho => exact rfl); clear H; intro _ _ H _ _; go_simp)
  | ((with_reducible apply ze z0w H); (case hgd | ho => exact rfl); clear H; intro _ _ H _ _; go_simp)
  | ((fail_if_success have := ms1); (with_reducible apply z0a H); (case hgd | ho | hx | hy => exact rfl); (case hi => repeat first|exact z5|apply z8); (case h1 => exact V1.out); clear H; intro ws H _ _; simp only [qb, qc] at H; go_simp; have ms1 := trivial)
  | ((with_reducible apply zj zD H); (case hgd | ho | hx | hy => exact rfl); (case hi => repeat first|exact z5|apply z8); clear H; intro ws H _ _; simp only [qb] at H; go_simp)
  | ((with_reducible apply zr zD H); (case hgd | ho | hx => exact rfl); (case hi => repeat first|exact z5|apply z8); intro _ _; go_simp)
  | ((fail_if_success have := SE); (with_reducible refine (z74 _ W1.out).mono ?_); rintro e wc ⟨ge, ce, cu, rfl, hge, hr, hs, hb⟩; replace H := za (H.out.add hb hge hr); have SE := za hs; have RE := za hr; clear hb hge hr hs))
 clear mk1 ms1
 by_cases his : IsEl (encK (z6 zB P1 P1)).val
 ·obtain ⟨D, hd1, hd2, hd3⟩ := y0b his
  have HD1 := za hd1
  have HD2 := za hd2
  have HD3 := za hd3
  clear hd1 hd2 hd3 his
  go_wp2_with (first
   | ((fail_if_success have := VX); (with_reducible refine (HD1.out _ _ _ (HT.out.below H.out.bel) (z2f RE.out (H.out.row 0 rfl) SE.out)).mono ?_); rintro e wc ⟨kX, rfl, hv, hb⟩; replace H := zd H hb; clear hb; have VX := za hv; clear hv)
   | ((with_reducible apply z0b zI H); (case hgd | ho => exact rfl); clear H; intro _ _ H _ _; go_simp)
   | ((fail_if_success have := msx); (with_reducible apply z0a H); (case hgd | ho | hx | hy => exact rfl); (case hi => repeat first|exact z5|apply z8); (case h1 => exact VX.out); clear H; intro ws H _ _; simp only [qb] at H; go_simp; have msx := trivial)
   | ((fail_if_success have := VR); (with_reducible refine (HD2.out _ _ _ (z2f RE.out (H.out.row 1 rfl) SE.out)).mono ?_); rintro e wc ⟨kR, rfl, hv, hb⟩; replace H := zd H hb; clear hb; have VR := za hv; clear hv)
   | ((with_reducible apply ze z0w H); (case hgd | ho => exact rfl); clear H; intro _ _ H _ _; go_simp)
   | ((with_reducible apply zj zD H); (case hgd | ho | hx | hy => exact rfl); (case hi => repeat first|exact z5|apply z8); clear H; intro ws H _ _; simp only [qb] at H; go_simp)
   | ((with_reducible apply z4c H); (case hw | ho | hx => exact rfl); (case hi => repeat first|exact z5|apply z8); intro _ _; go_simp)
   | ((with_reducible apply z91 zD H); (case hw | ho | hx => exact rfl); (case hi => repeat first|exact z5|apply z8); intro _ _; go_simp)
   | ((fail_if_success have := mks); (with_reducible refine (z10 (b := true) _ (HT.out.below H.out.bel) VX.out VR.out (decide_eq_true rfl)).mono ?_); rintro e wc ⟨rfl, hb⟩; replace H := zd H hb; clear hb; have mks := trivial)
   | ((fail_if_success have := SN); (with_reducible refine (z4f _ (HT.out.below H.out.bel) VX.out).mono ?_); rintro e wc ⟨gn, cn, rfl, hs, hb⟩; replace H := zd H hb; clear hb; have SN := za hs; clear hs)
   | ((fail_if_success have := mkc); (with_reducible refine (z5h HD3.out _ SN.out (z2f RE.out (H.out.row 2 rfl) SE.out)).mono ?_); rintro e wc ⟨rfl, hb⟩; replace H := zd H hb; clear hb; have mkc := trivial)
   | ((with_reducible refine (z0o _ (HT.out.below H.out.bel)).mono ?_); rintro e wc ⟨rfl, hb⟩; replace H := zd H hb; clear hb))
  go_ret
  exact ⟨rfl, H.out.bel⟩
 ·have HIS := za his
  clear his
  go_wp2_with (first
   | ((fail_if_success have := VX); (with_reducible refine (z8h _ (HT.out.below H.out.bel) (z2f RE.out (H.out.row 0 rfl) SE.out) HIS.out).mono ?_); rintro e wc ⟨kX, rfl, hv, hb⟩; replace H := zd H hb; clear hb; have VX := za hv; clear hv)
   | ((with_reducible apply z0b zI H); (case hgd | ho => exact rfl); clear H; intro _ _ H _ _; go_simp)
   | ((fail_if_success have := msx); (with_reducible apply z0a H); (case hgd | ho | hx | hy => exact rfl); (case hi => repeat first|exact z5|apply z8); (case h1 => exact VX.out); clear H; intro ws H _ _; simp only [qb] at H; go_simp; have msx := trivial)
   | ((fail_if_success have := mkr); (with_reducible refine (z9t _ (z2f RE.out (H.out.row 1 rfl) SE.out) HIS.out).mono ?_); rintro e wc ⟨kR, rfl, hb⟩; replace H := zd H hb; clear hb; have mkr := trivial)
   | ((with_reducible apply ze z0w H); (case hgd | ho => exact rfl); clear H; intro _ _ H _ _; go_simp)
   | ((with_reducible apply zj zD H); (case hgd | ho | hx | hy => exact rfl); (case hi => repeat first|exact z5|apply z8); clear H; intro ws H _ _; simp only [qb] at H; go_simp)
   | ((with_reducible refine (z0o _ (HT.out.below H.out.bel)).mono ?_); rintro e wc ⟨rfl, hb⟩; replace H := zd H hb; clear hb))
  go_ret
  exact ⟨rfl, H.out.bel⟩
theorem ddec_turn {a1 a2 : Option Addr} {n1 c1 x1 n2 c2 x2 : Nat} {z u v : Int} (w : World) (hT : Tp w) (hs1 : Sb w w.heap.size a1 n1 c1 x1) (hs2 : Sb w w.heap.size a2 n2 c2 x2) {m : Nat} (hn : n1 ≤ 60) (hu : u = (m : Int)) (hm : m < 56) (ok : okS n2 z = true) :
  Calls Tryz.prog 3 #[.slice a1 n1 c1, .agg #[.slice a2 n2 c2, .int .i64 z], .agg #[.int .i64 u, .int .i64 v]] w fun e w' => e = .returned (.bool true) ∧ Below w.heap.size w w' := by
 have d1 : decide ((60 : Int) < (n1 : Int)) = false := by simp; omega
 have d2 : decide (0 ≤ u) = true := by simp; omega
 have d3 : decide (u < 56) = true := by simp; omega
 subst hu
 have iM : (m : Int) < 56 := by omega
 have HM := za hm
 clear hn hm
 have HS1 := za hs1
 have HS2 := za hs2
 have OK1 := za ok
 clear hs1 hs2 ok
 have HT := za hT
 clear hT
 have H := za (Ow.start w)
 go_enter Tryz.func3, Tryz.ntmps3
 go_upto_region 9 with (first
  | ((fail_if_success have := g4); (with_reducible apply z0g H); (case hgd | ho | hx => exact rfl); clear H; intro w4 g4 H _ _; go_simp)
  | ((fail_if_success have := g5); (with_reducible apply z0g H); (case hgd | ho | hx => exact rfl); clear H; intro w5 g5 H _ _; go_simp)
  | ((with_reducible apply z0m z25 H); (case hgd | ho | hx => exact rfl); (case hi => repeat first|exact z5|apply z8); (case hj => exact rfl); intro _ _; go_simp)
  | ((with_reducible apply z0t z35 ?hC H); (case hgd | ho | hx => exact rfl); (case hi => repeat first|exact z5|apply z8); (case hC => exact rfl); intro _ _; go_simp)
  | ((fail_if_success have := mk1); (with_reducible refine (z23 OK1.out _ (HT.out.below H.out.bel) ((HS2.out.below H.out.bel).more H.out.bel.size)).mono ?_); rintro e wc ⟨F1, r1, P1, rfl, hv, hw, hp, hb⟩; replace H := zd H hb; have V1 := za hv; have W1 := za hw; have mk1 := trivial; clear hb hv hw hp)
  | ((with_reducible apply z0b zI H); (case hgd | ho => exact rfl); clear H; intro _ _ H _ _; go_simp)
  | ((fail_if_success have := g8); (with_reducible apply ze z0w H); (case hgd | ho => exact rfl); clear H; intro w8 g8 H _ _; go_simp)
  | ((fail_if_success have := ms1); (with_reducible apply z0a H); (case hgd | ho | hx | hy => exact rfl); (case hi => repeat first|exact z5|apply z8); (case h1 => exact V1.out); clear H; intro ws H _ _; simp only [qb, qc] at H; go_simp; have ms1 := trivial)
  | ((with_reducible apply zj zD H); (case hgd | ho | hx | hy => exact rfl); (case hi => repeat first|exact z5|apply z8); clear H; intro ws H _ _; simp only [qb] at H; go_simp)
  | ((with_reducible apply zr zD H); (case hgd | ho | hx => exact rfl); (case hi => repeat first|exact z5|apply z8); intro _ _; go_simp)
  | ((fail_if_success have := SE); (with_reducible refine (z74 _ W1.out).mono ?_); rintro e wc ⟨ge, ce, cu, rfl, hge, hr, hs, hb⟩; replace H := za (H.out.add hb hge hr); have SE := za hs; have RE := za hr; clear hb hge hr hs))
 clear mk1 ms1
 have HC0 := za (sb_cell RE.out SE.out)
 have HCL := za SE.out.sl.le
 obtain ⟨y0, hy0⟩ : ∃ y0, (encK (z6 zB P1 P1)).val = y0 := ⟨_, rfl⟩
 rw [hy0] at HC0
 clear hy0 SE RE
 refine wp_region_noPanic ?_
 refine wp_region_held_drew (S := fun W => W.heap[g5]? = some (Cs 25 #[.int .i64 (m : Int), .int .i64 v])) (by kernel_rfl) (H.out.drew.row 3 rfl) (fun hH => ?_)
 replace H := za H.out.drew
 generalize World.drew _ = w8 at *
 refine zh 0 38 (.slice (some ⟨ge, 0, none⟩) 56 ce) hH ?_
 refine zh 1 39 (.pointer (some ⟨g5, 0, none⟩)) hH ?_
 refine y26 2 40 z25 rfl rfl rfl hH rfl rfl (fun _ h => h) rfl ?_
 refine zh 3 41 (.slice (some ⟨ge, 0, none⟩) 56 ce) hH ?_
 refine zh 4 42 (.pointer (some ⟨g5, 0, none⟩)) hH ?_
 refine y26 5 43 z25 rfl rfl rfl hH rfl rfl (fun _ h => h) rfl ?_
 refine zh 6 44 (.pointer (some ⟨ge, m, none⟩)) hH ?_
 refine zh 8 46 (.pointer (some ⟨g5, 1, none⟩)) hH ?_
 refine y26 9 47 z25 rfl rfl rfl hH rfl rfl (fun _ h => h) rfl ?_
 refine zh 10 48 (.int .u8 (IntKind.u8.wrap v)) hH ?_
 refine zn 7 rfl fun K hK => ?_
 with_reducible refine z4g rfl ?_
 with_reducible refine own_wp_ldC (t := 5) (ty := 5) (C := cu) (x := .tmp 44) (b := ge) (j := m) (v := U (bt y0 m)) 45 ?_ 0 ?_ H.out ?_ ?_ ?_ (HC0.out m HM.out) ?_
 ·rfl
 ·exact y67
 ·rfl
 ·rfl
 ·exact z5
 refine hK.out _ _ hH (fun hN => ?_)
 have hH := hN
 clear hN
 try simp only [Act.put, qa, qb, qc]
 obtain ⟨q, hq⟩ : ∃ q, IntKind.u8.wrap (U8 (bt y0 m) + IntKind.u8.wrap v) = q := ⟨_, rfl⟩
 have HQ := za hq
 clear hq
 refine z0h 11 49 (.int .u8 q) rfl rfl rfl hH (fun w hw => by rw [← HQ.out]; go_simp) ?_
 refine zh 12 50 (.pointer (some ⟨ge, m, none⟩)) hH ?_
 refine zn 13 rfl fun K hK => ?_
 with_reducible refine z4g rfl ?_
 with_reducible refine own_wp_stC (t := 5) (ty := 5) (C := cu) (x := .tmp 50) (y := .tmp 49) (b := ge) (j := m) (v := .int .u8 q) 0 ?_ ?_ H.out ?_ ?_ ?_ ?_ ?_ ?_ ?_
 ·rfl
 ·exact y67
 ·rfl
 ·rfl
 ·rfl
 ·exact z5
 ·have h := HC0.out m HM.out
  rcases Nat.lt_or_ge m cu.size with h' | h'
  ·exact h'
  ·rw [Array.getElem?_eq_none h'] at h
   cases h
 ·exact z48 _ _
 intro ws HS
 simp only [qb] at HS
 replace H := za HS
 refine zc hK (zb H 3) fun hH => ?_
 try simp only [qa]
 try simp only [Act.put]
 refine zm ?_
 have RE := za (H.out.row 0 rfl)
 obtain ⟨y, hy⟩ := sb_turn HC0.out HCL.out (q := q) (by rw [← HQ.out]; exact (wrap8 _).1) (by rw [← HQ.out]; exact (wrap8 _).2) RE.out
 have SE := za hy
 clear hy HC0 HCL HQ
 by_cases his : IsEl y
 ·obtain ⟨D, hd1, hd2, hd3⟩ := y0b his
  have HD1 := za hd1
  have HD2 := za hd2
  have HD3 := za hd3
  clear hd1 hd2 hd3 his
  go_wp2_with (first
   | ((fail_if_success have := VX); (with_reducible refine (HD1.out _ _ _ (HT.out.below H.out.bel) (z2f RE.out (H.out.row 0 rfl) SE.out)).mono ?_); rintro e wc ⟨kX, rfl, hv, hb⟩; replace H := zd H hb; clear hb; have VX := za hv; clear hv)
   | ((with_reducible apply z0b zI H); (case hgd | ho => exact rfl); clear H; intro _ _ H _ _; go_simp)
   | ((fail_if_success have := msx); (with_reducible apply z0a H); (case hgd | ho | hx | hy => exact rfl); (case hi => repeat first|exact z5|apply z8); (case h1 => exact VX.out); clear H; intro ws H _ _; simp only [qb] at H; go_simp; have msx := trivial)
   | ((fail_if_success have := VR); (with_reducible refine (HD2.out _ _ _ (z2f RE.out (H.out.row 1 rfl) SE.out)).mono ?_); rintro e wc ⟨kR, rfl, hv, hb⟩; replace H := zd H hb; clear hb; have VR := za hv; clear hv)
   | ((with_reducible apply ze z0w H); (case hgd | ho => exact rfl); clear H; intro _ _ H _ _; go_simp)
   | ((with_reducible apply zj zD H); (case hgd | ho | hx | hy => exact rfl); (case hi => repeat first|exact z5|apply z8); clear H; intro ws H _ _; simp only [qb] at H; go_simp)
   | ((with_reducible apply z4c H); (case hw | ho | hx => exact rfl); (case hi => repeat first|exact z5|apply z8); intro _ _; go_simp)
   | ((with_reducible apply z91 zD H); (case hw | ho | hx => exact rfl); (case hi => repeat first|exact z5|apply z8); intro _ _; go_simp)
   | ((fail_if_success have := mks); (with_reducible refine (z10 (b := true) _ (HT.out.below H.out.bel) VX.out VR.out (decide_eq_true rfl)).mono ?_); rintro e wc ⟨rfl, hb⟩; replace H := zd H hb; clear hb; have mks := trivial)
   | ((fail_if_success have := SN); (with_reducible refine (z4f _ (HT.out.below H.out.bel) VX.out).mono ?_); rintro e wc ⟨gn, cn, rfl, hs, hb⟩; replace H := zd H hb; clear hb; have SN := za hs; clear hs)
   | ((fail_if_success have := mkc); (with_reducible refine (z5h HD3.out _ SN.out (z2f RE.out (H.out.row 2 rfl) SE.out)).mono ?_); rintro e wc ⟨rfl, hb⟩; replace H := zd H hb; clear hb; have mkc := trivial)
   | ((with_reducible refine (z0o _ (HT.out.below H.out.bel)).mono ?_); rintro e wc ⟨rfl, hb⟩; replace H := zd H hb; clear hb))
  go_ret
  exact ⟨rfl, H.out.bel⟩
 ·have HIS := za his
  clear his
  go_wp2_with (first
   | ((fail_if_success have := VX); (with_reducible refine (z8h _ (HT.out.below H.out.bel) (z2f RE.out (H.out.row 0 rfl) SE.out) HIS.out).mono ?_); rintro e wc ⟨kX, rfl, hv, hb⟩; replace H := zd H hb; clear hb; have VX := za hv; clear hv)
   | ((with_reducible apply z0b zI H); (case hgd | ho => exact rfl); clear H; intro _ _ H _ _; go_simp)
   | ((fail_if_success have := msx); (with_reducible apply z0a H); (case hgd | ho | hx | hy => exact rfl); (case hi => repeat first|exact z5|apply z8); (case h1 => exact VX.out); clear H; intro ws H _ _; simp only [qb] at H; go_simp; have msx := trivial)
   | ((fail_if_success have := mkr); (with_reducible refine (z9t _ (z2f RE.out (H.out.row 1 rfl) SE.out) HIS.out).mono ?_); rintro e wc ⟨kR, rfl, hb⟩; replace H := zd H hb; clear hb; have mkr := trivial)
   | ((with_reducible apply ze z0w H); (case hgd | ho => exact rfl); clear H; intro _ _ H _ _; go_simp)
   | ((with_reducible apply zj zD H); (case hgd | ho | hx | hy => exact rfl); (case hi => repeat first|exact z5|apply z8); clear H; intro ws H _ _; simp only [qb] at H; go_simp)
   | ((with_reducible refine (z0o _ (HT.out.below H.out.bel)).mono ?_); rintro e wc ⟨rfl, hb⟩; replace H := zd H hb; clear hb))
  go_ret
  exact ⟨rfl, H.out.bel⟩
theorem ddec_walk {a1 a2 : Option Addr} {n1 c1 x1 n2 c2 x2 : Nat} {z u v : Int} (w : World) (hT : Tp w) (hs1 : Sb w w.heap.size a1 n1 c1 x1) (hs2 : Sb w w.heap.size a2 n2 c2 x2) :
  Calls Tryz.prog 3 #[.slice a1 n1 c1, .agg #[.slice a2 n2 c2, .int .i64 z], .agg #[.int .i64 u, .int .i64 v]] w fun e w' => e = .returned (.bool true) ∧ Below w.heap.size w w' := by
 by_cases h60 : 60 < n1
 ·exact ddec_long w hT hs1 hs2 h60
 by_cases hu : 0 ≤ u
 ·cases ok : okS n2 z with
  | false => exact ddec_nospot w hT hs1 hs2 (by omega) hu ok
  | true =>
   by_cases h56 : u < 56
   ·obtain ⟨m, hm⟩ := Int.eq_ofNat_of_zero_le hu
    exact ddec_turn w hT hs1 hs2 (by omega) hm (by omega) ok
   ·exact ddec_own w hT hs1 hs2 (by omega) (by omega) ok
 ·by_cases hne : n1 = 56
  ·subst hne
   by_cases his : IsEl x1
   ·exact ddec_uone w hT hs1 hs2 hu his
   ·exact ddec_unone w hT hs1 hs2 hu his
  ·exact ddec_size w hT hs1 hs2 (by omega) hu hne
end Go.Proofs.YtgjbonikbmgfmaaGreatDoor
