/- Lemmas; no statement is proved here. -/
import Derived.Test.YtgjbonikbmgfmaaGreatDoorQS1
import Derived.Test.YtgjbonikbmgfmaaGreatDoorQA
import Derived.Test.YtgjbonikbmgfmaaGreatDoorQMs3
import Derived.Test.YtgjbonikbmgfmaaGreatDoorQMs4
set_option maxRecDepth 8000
set_option maxHeartbeats 3200000
namespace Go.Proofs.YtgjbonikbmgfmaaGreatDoor
open Go.RowKit
theorem els_ts {P Q : Pt pN dK} (h : Els2 P Q) : decide (z6 zB P P = z6 zB Q Q) = true := z5e ⟨fun _ => h, fun _ => rfl⟩
theorem els_os {P Q : Pt pN dK} (h : P = Q) : decide (z6 zB P P = z6 zB Q Q) = true := by
 subst h
 exact decide_eq_true rfl
theorem two_val : (ofL 2).val = 2 := by decide +kernel
theorem sc_two (A : Pt pN dK) : zF zB (ofL 2).val A = z6 zB A A := by rw [two_val, show 2 = 2 * 1 from rfl, z2x, z3s]
theorem sc_sum {E : Pt pN dK} (h : Ord E) (k j : KL) : Els2 (zF zB (k + j).val E) (z6 zB (zF zB k.val E) (zF zB j.val E)) := by
 rw [Fin.val_add]
 exact els_sum h _ _
theorem sc_prod {E : Pt pN dK} (h : Ord E) (k j : KL) : Els2 (zF zB (k * j).val E) (zF zB j.val (zF zB k.val E)) := by
 rw [Fin.val_mul]
 exact els_prod h _ _
theorem dscales_no1 {a1 a2 b1 b2 : Option Addr} {n1 c1 x1 n2 c2 x2 m1 d1 y1 m2 d2 y2 : Nat} {z1 z2 : Int} (w : World) (hT : Tp w) (hs1 : Sb w w.heap.size a1 n1 c1 x1) (hs2 : Sb w w.heap.size a2 n2 c2 x2) (hl : Tl true w) (hr1 : Sb w w.heap.size b1 m1 d1 y1) (hr2 : Sb w w.heap.size b2 m2 d2 y2) {e1 e2 : Bool} (ok : (okS n1 z1 && okS n2 z2) = false) (q1 : decide (m1 ≤ 60) = e1) (q2 : decide (m2 ≤ 60) = e2) :
  Calls Tryz.prog 8 #[.agg #[.slice a1 n1 c1, .int .i64 z1, .slice a2 n2 c2, .int .i64 z2], .agg #[.slice b1 m1 d1, .slice b2 m2 d2]] w fun e w' => e = .returned (.bool true) ∧ Below w.heap.size w w' := by
 have HS1 := za hs1
 have HS2 := za hs2
 have HR1 := za hr1
 have HR2 := za hr2
 have HO := za ok
 have HL := za hl
 have HB1 := za q1
 have HB2 := za q2
 clear hs1 hs2 hr1 hr2 ok hl q1 q2
 have HT := za hT
 clear hT
 have H := za (Ow.start w)
 go_enter Tryz.func8, Tryz.ntmps8
 go_wp2_with (first
  | ((with_reducible apply z0g H); (case hgd | ho | hx => exact rfl); clear H; intro _ _ H _ _; go_simp)
  | ((with_reducible apply z0t z4p ?hC H); (case hgd | ho | hx => exact rfl); (case hi => repeat first|exact z5|apply z8); (case hC => exact rfl); intro _ _; go_simp)
  | ((fail_if_success have := mk1); (with_reducible refine (z2h HO.out rfl rfl _ (HT.out.below H.out.bel) ((HS1.out.below H.out.bel).more H.out.bel.size) ((HS2.out.below H.out.bel).more H.out.bel.size)).mono ?_); rintro e wc ⟨F1, F2, r1, r2, P1, P2, rfl, hv, hu, hw, hx, hp, hq, hb⟩; replace H := zd H hb; have V1 := za hv; have V2 := za hu; have W1 := za hw; have W2 := za hx; have S1 := za hp; have S2 := za hq; have mk1 := trivial; clear hb hv hu hw hx hp hq)
  | ((with_reducible apply z0b zI H); (case hgd | ho => exact rfl); clear H; intro _ _ H _ _; go_simp)
  | ((with_reducible apply ze z0w H); (case hgd | ho => exact rfl); clear H; intro _ _ H _ _; go_simp)
  | ((fail_if_success have := ms1); (with_reducible apply z0a H); (case hgd | ho | hx | hy => exact rfl); (case hi => repeat first|exact z5|apply z8); (case h1 => exact V1.out); clear H; intro ws H _ _; simp only [qb, qc] at H; go_simp; have ms1 := trivial)
  | ((fail_if_success have := ms2); (with_reducible apply z0a H); (case hgd | ho | hx | hy => exact rfl); (case hi => repeat first|exact z5|apply z8); (case h1 => exact V2.out); clear H; intro ws H _ _; simp only [qb, qc] at H; go_simp; have ms2 := trivial)
  | ((with_reducible apply zj zD H); (case hgd | ho | hx | hy => exact rfl); (case hi => repeat first|exact z5|apply z8); clear H; intro ws H _ _; simp only [qb, qc] at H; go_simp)
  | ((with_reducible apply z0m z27 H); (case hgd | ho | hx => exact rfl); (case hi => repeat first|exact z5|apply z8); (case hj => exact rfl); intro _ _; go_simp)
  | ((fail_if_success have := mq1); (with_reducible refine (z03 HB1.out _ (HL.out.below H.out.bel) ((HR1.out.below H.out.bel).more H.out.bel.size)).mono ?_); rintro e wc ⟨k1, u1, rfl, hb⟩; replace H := zd H hb; have mq1 := trivial; clear hb)
  | ((fail_if_success have := mq2); (with_reducible refine (z03 HB2.out _ (HL.out.below H.out.bel) ((HR2.out.below H.out.bel).more H.out.bel.size)).mono ?_); rintro e wc ⟨k2, u2, rfl, hb⟩; replace H := zd H hb; have mq2 := trivial; clear hb)
  | ((with_reducible apply ze z3u H); (case hgd | ho => exact rfl); clear H; intro _ _ H _ _; go_simp)
  | ((with_reducible apply zj z1g H); (case hgd | ho | hx | hy => exact rfl); (case hi => repeat first|exact z5|apply z8); clear H; intro ws H _ _; simp only [qb] at H; go_simp)
  | ((with_reducible refine z1y ?hw ?h); (case hw => exact rfl); intro _ _; go_simp)
  | ((with_reducible refine (z0o _ (HT.out.below H.out.bel)).mono ?_); rintro e wc ⟨rfl, hb⟩; replace H := zd H hb; clear hb))
 go_ret
 exact ⟨rfl, H.out.bel⟩
theorem dscales_no2 {a1 a2 b1 b2 : Option Addr} {n1 c1 x1 n2 c2 x2 m1 d1 y1 m2 d2 y2 : Nat} {z1 z2 : Int} (w : World) (hT : Tp w) (hs1 : Sb w w.heap.size a1 n1 c1 x1) (hs2 : Sb w w.heap.size a2 n2 c2 x2) (hl : Tl true w) (hr1 : Sb w w.heap.size b1 m1 d1 y1) (hr2 : Sb w w.heap.size b2 m2 d2 y2) {e2 : Bool} (ok : (okS n1 z1 && okS n2 z2) = true) (q1 : decide (m1 ≤ 60) = false) (q2 : decide (m2 ≤ 60) = e2) :
  Calls Tryz.prog 8 #[.agg #[.slice a1 n1 c1, .int .i64 z1, .slice a2 n2 c2, .int .i64 z2], .agg #[.slice b1 m1 d1, .slice b2 m2 d2]] w fun e w' => e = .returned (.bool true) ∧ Below w.heap.size w w' := by
 have HS1 := za hs1
 have HS2 := za hs2
 have HR1 := za hr1
 have HR2 := za hr2
 have HO := za ok
 have HL := za hl
 have HB1 := za q1
 have HB2 := za q2
 clear hs1 hs2 hr1 hr2 ok hl q1 q2
 have HT := za hT
 clear hT
 have H := za (Ow.start w)
 go_enter Tryz.func8, Tryz.ntmps8
 go_wp2_with (first
  | ((with_reducible apply z0g H); (case hgd | ho | hx => exact rfl); clear H; intro _ _ H _ _; go_simp)
  | ((with_reducible apply z0t z4p ?hC H); (case hgd | ho | hx => exact rfl); (case hi => repeat first|exact z5|apply z8); (case hC => exact rfl); intro _ _; go_simp)
  | ((fail_if_success have := mk1); (with_reducible refine (z2h HO.out rfl rfl _ (HT.out.below H.out.bel) ((HS1.out.below H.out.bel).more H.out.bel.size) ((HS2.out.below H.out.bel).more H.out.bel.size)).mono ?_); rintro e wc ⟨F1, F2, r1, r2, P1, P2, rfl, hv, hu, hw, hx, hp, hq, hb⟩; replace H := zd H hb; have V1 := za hv; have V2 := za hu; have W1 := za hw; have W2 := za hx; have S1 := za hp; have S2 := za hq; have mk1 := trivial; clear hb hv hu hw hx hp hq)
  | ((with_reducible apply z0b zI H); (case hgd | ho => exact rfl); clear H; intro _ _ H _ _; go_simp)
  | ((with_reducible apply ze z0w H); (case hgd | ho => exact rfl); clear H; intro _ _ H _ _; go_simp)
  | ((fail_if_success have := ms1); (with_reducible apply z0a H); (case hgd | ho | hx | hy => exact rfl); (case hi => repeat first|exact z5|apply z8); (case h1 => exact V1.out); clear H; intro ws H _ _; simp only [qb, qc] at H; go_simp; have ms1 := trivial)
  | ((fail_if_success have := ms2); (with_reducible apply z0a H); (case hgd | ho | hx | hy => exact rfl); (case hi => repeat first|exact z5|apply z8); (case h1 => exact V2.out); clear H; intro ws H _ _; simp only [qb, qc] at H; go_simp; have ms2 := trivial)
  | ((with_reducible apply zj zD H); (case hgd | ho | hx | hy => exact rfl); (case hi => repeat first|exact z5|apply z8); clear H; intro ws H _ _; simp only [qb, qc] at H; go_simp)
  | ((with_reducible apply z0m z27 H); (case hgd | ho | hx => exact rfl); (case hi => repeat first|exact z5|apply z8); (case hj => exact rfl); intro _ _; go_simp)
  | ((fail_if_success have := mq1); (with_reducible refine (z03 HB1.out _ (HL.out.below H.out.bel) ((HR1.out.below H.out.bel).more H.out.bel.size)).mono ?_); rintro e wc ⟨k1, u1, rfl, hb⟩; replace H := zd H hb; have mq1 := trivial; clear hb)
  | ((fail_if_success have := mq2); (with_reducible refine (z03 HB2.out _ (HL.out.below H.out.bel) ((HR2.out.below H.out.bel).more H.out.bel.size)).mono ?_); rintro e wc ⟨k2, u2, rfl, hb⟩; replace H := zd H hb; have mq2 := trivial; clear hb)
  | ((with_reducible apply ze z3u H); (case hgd | ho => exact rfl); clear H; intro _ _ H _ _; go_simp)
  | ((with_reducible apply zj z1g H); (case hgd | ho | hx | hy => exact rfl); (case hi => repeat first|exact z5|apply z8); clear H; intro ws H _ _; simp only [qb] at H; go_simp)
  | ((with_reducible refine z1y ?hw ?h); (case hw => exact rfl); intro _ _; go_simp)
  | ((with_reducible refine (z0o _ (HT.out.below H.out.bel)).mono ?_); rintro e wc ⟨rfl, hb⟩; replace H := zd H hb; clear hb))
 go_ret
 exact ⟨rfl, H.out.bel⟩
theorem dscales_no3 {a1 a2 b1 b2 : Option Addr} {n1 c1 x1 n2 c2 x2 m1 d1 y1 m2 d2 y2 : Nat} {z1 z2 : Int} (w : World) (hT : Tp w) (hs1 : Sb w w.heap.size a1 n1 c1 x1) (hs2 : Sb w w.heap.size a2 n2 c2 x2) (hl : Tl true w) (hr1 : Sb w w.heap.size b1 m1 d1 y1) (hr2 : Sb w w.heap.size b2 m2 d2 y2) (ok : (okS n1 z1 && okS n2 z2) = true) (q1 : decide (m1 ≤ 60) = true) (q2 : decide (m2 ≤ 60) = false) :
  Calls Tryz.prog 8 #[.agg #[.slice a1 n1 c1, .int .i64 z1, .slice a2 n2 c2, .int .i64 z2], .agg #[.slice b1 m1 d1, .slice b2 m2 d2]] w fun e w' => e = .returned (.bool true) ∧ Below w.heap.size w w' := by
 have HS1 := za hs1
 have HS2 := za hs2
 have HR1 := za hr1
 have HR2 := za hr2
 have HO := za ok
 have HL := za hl
 have HB1 := za q1
 have HB2 := za q2
 clear hs1 hs2 hr1 hr2 ok hl q1 q2
 have HT := za hT
 clear hT
 have H := za (Ow.start w)
 go_enter Tryz.func8, Tryz.ntmps8
 go_wp2_with (first
  | ((with_reducible apply z0g H); (case hgd | ho | hx => exact rfl); clear H; intro _ _ H _ _; go_simp)
  | ((with_reducible apply z0t z4p ?hC H); (case hgd | ho | hx => exact rfl); (case hi => repeat first|exact z5|apply z8); (case hC => exact rfl); intro _ _; go_simp)
  | ((fail_if_success have := mk1); (with_reducible refine (z2h HO.out rfl rfl _ (HT.out.below H.out.bel) ((HS1.out.below H.out.bel).more H.out.bel.size) ((HS2.out.below H.out.bel).more H.out.bel.size)).mono ?_); rintro e wc ⟨F1, F2, r1, r2, P1, P2, rfl, hv, hu, hw, hx, hp, hq, hb⟩; replace H := zd H hb; have V1 := za hv; have V2 := za hu; have W1 := za hw; have W2 := za hx; have S1 := za hp; have S2 := za hq; have mk1 := trivial; clear hb hv hu hw hx hp hq)
  | ((with_reducible apply z0b zI H); (case hgd | ho => exact rfl); clear H; intro _ _ H _ _; go_simp)
  | ((with_reducible apply ze z0w H); (case hgd | ho => exact rfl); clear H; intro _ _ H _ _; go_simp)
  | ((fail_if_success have := ms1); (with_reducible apply z0a H); (case hgd | ho | hx | hy => exact rfl); (case hi => repeat first|exact z5|apply z8); (case h1 => exact V1.out); clear H; intro ws H _ _; simp only [qb, qc] at H; go_simp; have ms1 := trivial)
  | ((fail_if_success have := ms2); (with_reducible apply z0a H); (case hgd | ho | hx | hy => exact rfl); (case hi => repeat first|exact z5|apply z8); (case h1 => exact V2.out); clear H; intro ws H _ _; simp only [qb, qc] at H; go_simp; have ms2 := trivial)
  | ((with_reducible apply zj zD H); (case hgd | ho | hx | hy => exact rfl); (case hi => repeat first|exact z5|apply z8); clear H; intro ws H _ _; simp only [qb, qc] at H; go_simp)
  | ((with_reducible apply z0m z27 H); (case hgd | ho | hx => exact rfl); (case hi => repeat first|exact z5|apply z8); (case hj => exact rfl); intro _ _; go_simp)
  | ((fail_if_success have := mq1); (with_reducible refine (z03 HB1.out _ (HL.out.below H.out.bel) ((HR1.out.below H.out.bel).more H.out.bel.size)).mono ?_); rintro e wc ⟨k1, u1, rfl, hb⟩; replace H := zd H hb; have mq1 := trivial; clear hb)
  | ((fail_if_success have := mq2); (with_reducible refine (z03 HB2.out _ (HL.out.below H.out.bel) ((HR2.out.below H.out.bel).more H.out.bel.size)).mono ?_); rintro e wc ⟨k2, u2, rfl, hb⟩; replace H := zd H hb; have mq2 := trivial; clear hb)
  | ((with_reducible apply ze z3u H); (case hgd | ho => exact rfl); clear H; intro _ _ H _ _; go_simp)
  | ((with_reducible apply zj z1g H); (case hgd | ho | hx | hy => exact rfl); (case hi => repeat first|exact z5|apply z8); clear H; intro ws H _ _; simp only [qb] at H; go_simp)
  | ((with_reducible refine z1y ?hw ?h); (case hw => exact rfl); intro _ _; go_simp)
  | ((with_reducible refine (z0o _ (HT.out.below H.out.bel)).mono ?_); rintro e wc ⟨rfl, hb⟩; replace H := zd H hb; clear hb))
 go_ret
 exact ⟨rfl, H.out.bel⟩
theorem dscales_k {a1 a2 b1 b2 : Option Addr} {n1 c1 x1 n2 c2 x2 m1 d1 y1 m2 d2 y2 : Nat} {k j : KL} {z1 z2 : Int} (w : World) (hT : Tp w) (hs1 : Sb w w.heap.size a1 n1 c1 x1) (hs2 : Sb w w.heap.size a2 n2 c2 x2) (hl : Tl true w) (hr1 : Sb w w.heap.size b1 m1 d1 y1) (hr2 : Sb w w.heap.size b2 m2 d2 y2) (ok : (okS n1 z1 && okS n2 z2) = true) (q1 : m1 ≤ 60) (q2 : m2 ≤ 60) (k1 : k.val = y1 % lN) (k2 : j.val = y2 % lN) :
  Calls Tryz.prog 8 #[.agg #[.slice a1 n1 c1, .int .i64 z1, .slice a2 n2 c2, .int .i64 z2], .agg #[.slice b1 m1 d1, .slice b2 m2 d2]] w fun e w' => e = .returned (.bool true) ∧ Below w.heap.size w w' := by
 have OA := za (show okS n1 z1 = true from (Bool.and_eq_true_iff.1 ok).1)
 have HS1 := za hs1
 have HS2 := za hs2
 have HR1 := za hr1
 have HR2 := za hr2
 have HO := za ok
 have HL := za hl
 have HN1 := za q1
 have HN2 := za q2
 have HK1 := za k1
 have HK2 := za k2
 clear hs1 hs2 hr1 hr2 ok hl q1 q2 k1 k2
 have HT := za hT
 clear hT
 have H := za (Ow.start w)
 go_enter Tryz.func8, Tryz.ntmps8
 go_upto_region 6 with (first
  | ((with_reducible apply z0g H); (case hgd | ho | hx => exact rfl); clear H; intro _ _ H _ _; go_simp)
  | ((with_reducible apply z0t z4p ?hC H); (case hgd | ho | hx => exact rfl); (case hi => repeat first|exact z5|apply z8); (case hC => exact rfl); intro _ _; go_simp)
  | ((fail_if_success have := mk1); (with_reducible refine (z2h HO.out rfl rfl _ (HT.out.below H.out.bel) ((HS1.out.below H.out.bel).more H.out.bel.size) ((HS2.out.below H.out.bel).more H.out.bel.size)).mono ?_); rintro e wc ⟨F1, F2, r1, r2, P1, P2, rfl, hv, hu, hw, hx, hp, hq, hb⟩; replace H := zd H hb; have V1 := za hv; have V2 := za hu; have W1 := za hw; have W2 := za hx; have S1 := za hp; have S2 := za hq; have mk1 := trivial; clear hb hv hu hw hx hp hq)
  | ((fail_if_success have := g5); (with_reducible apply z0b zI H); (case hgd | ho => exact rfl); clear H; intro w5 g5 H _ _; go_simp)
  | ((fail_if_success have := g6); (with_reducible apply z0b zI H); (case hgd | ho => exact rfl); clear H; intro w6 g6 H _ _; go_simp)
  | ((fail_if_success have := g7); (with_reducible apply ze z0w H); (case hgd | ho => exact rfl); clear H; intro w7 g7 H _ _; go_simp)
  | ((fail_if_success have := g8); (with_reducible apply ze z0w H); (case hgd | ho => exact rfl); clear H; intro w8 g8 H _ _; go_simp)
  | ((fail_if_success have := ms1); (with_reducible apply z0a H); (case hgd | ho | hx | hy => exact rfl); (case hi => repeat first|exact z5|apply z8); (case h1 => exact V1.out); clear H; intro ws H _ _; simp only [qb, qc] at H; go_simp; have ms1 := trivial)
  | ((fail_if_success have := ms2); (with_reducible apply z0a H); (case hgd | ho | hx | hy => exact rfl); (case hi => repeat first|exact z5|apply z8); (case h1 => exact V2.out); clear H; intro ws H _ _; simp only [qb, qc] at H; go_simp; have ms2 := trivial)
  | ((with_reducible apply zj zD H); (case hgd | ho | hx | hy => exact rfl); (case hi => repeat first|exact z5|apply z8); clear H; intro ws H _ _; simp only [qb, qc] at H; go_simp)
  | ((with_reducible apply z0m z27 H); (case hgd | ho | hx => exact rfl); (case hi => repeat first|exact z5|apply z8); (case hj => exact rfl); intro _ _; go_simp)
  | ((fail_if_success have := mq1); (with_reducible refine (z4o (k := k) _ (HL.out.below H.out.bel) HN1.out ((HR1.out.below H.out.bel).more H.out.bel.size) HK1.out).mono ?_); rintro e wc ⟨gs1, cs1, cu1, rfl, hge, hr, hs, hb⟩; replace H := za (H.out.add hb hge hr); have SG1 := za hs; have RG1 := za hr; have mq1 := trivial; clear hb hge hr hs)
  | ((fail_if_success have := mq2); (with_reducible refine (z4o (k := j) _ (HL.out.below H.out.bel) HN2.out ((HR2.out.below H.out.bel).more H.out.bel.size) HK2.out).mono ?_); rintro e wc ⟨gs2, cs2, cu2, rfl, hge, hr, hs, hb⟩; replace H := za (H.out.add hb hge hr); have SG2 := za hs; have RG2 := za hr; have mq2 := trivial; clear hb hge hr hs)
  | ((fail_if_success have := g10); (with_reducible apply ze z3u H); (case hgd | ho => exact rfl); clear H; intro w10 g10 H _ _; go_simp)
  | ((fail_if_success have := g13); (with_reducible apply ze z3u H); (case hgd | ho => exact rfl); clear H; intro w13 g13 H _ _; go_simp)
  | ((with_reducible apply zj z1g H); (case hgd | ho | hx | hy => exact rfl); (case hi => repeat first|exact z5|apply z8); clear H; intro ws H _ _; simp only [qb] at H; go_simp))
 clear mk1 ms1 ms2 mq1 mq2
 have EO : Ord (z6 zB P1 P1) := by
  have h := S1.out (by first | exact OA.out | (rw [OA.out]))
  rw [h]
  exact y5l _ _
 have E1 := za (els_ts (sc_sum EO k j))
 have E2 := za (els_ts (sc_prod EO k j))
 have E3 := za (els_os (z7h zB (z6 zB P1 P1) (z6 zB P2 P2) k.val))
 have E5 := za (els_os (sc_two (z6 zB P1 P1)))
 clear EO
 go_upto_region 8 with (first
  | ((with_reducible apply zr z1g H); (case hgd | ho | hx => exact rfl); (case hi => repeat first|exact z5|apply z8); intro _ _; go_simp)
  | ((with_reducible apply z1i H); (case hgd | ho | hx => exact rfl); (case hi => repeat first|exact z5|apply z8); intro _ _; go_simp)
  | ((fail_if_success have := VA); (with_reducible refine (z3m (k := k) _ (HT.out.below H.out.bel) V1.out).mono ?_); rintro e wc ⟨kA, rfl, hv, hb⟩; replace H := zd H hb; clear hb; have VA := za hv; clear hv)
  | ((fail_if_success have := g16); (with_reducible apply z0b zI H); (case hgd | ho => exact rfl); clear H; intro w16 g16 H _ _; go_simp)
  | ((fail_if_success have := ms1); (with_reducible apply z0a H); (case hgd | ho | hx | hy => exact rfl); (case hi => repeat first|exact z5|apply z8); (case h1 => exact VA.out); clear H; intro ws H _ _; simp only [qb] at H; go_simp; have ms1 := trivial)
  | ((fail_if_success have := VB); (with_reducible refine (z3m (k := j) _ (HT.out.below H.out.bel) V1.out).mono ?_); rintro e wc ⟨kB, rfl, hv, hb⟩; replace H := zd H hb; clear hb; have VB := za hv; clear hv)
  | ((fail_if_success have := g17); (with_reducible apply z0b zI H); (case hgd | ho => exact rfl); clear H; intro w17 g17 H _ _; go_simp)
  | ((fail_if_success have := ms2); (with_reducible apply z0a H); (case hgd | ho | hx | hy => exact rfl); (case hi => repeat first|exact z5|apply z8); (case h1 => exact VB.out); clear H; intro ws H _ _; simp only [qb] at H; go_simp; have ms2 := trivial))
 clear ms1 ms2
 refine wp_region_noPanic ?_
 refine wp_region_held_drew (S := fun W => W.heap[g10]? = some (WB 70 7 (wd (k).val)) ∧ W.heap[g13]? = some (WB 70 7 (wd (j).val)) ∧ W.heap[g5]? = some (Cs 34 (AV 25 F1)) ∧ W.heap[g16]? = some (Cs 34 (AV 25 kA)) ∧ W.heap[g17]? = some (Cs 34 (AV 25 kB))) (by kernel_rfl) (⟨H.out.drew.row 4 rfl, H.out.drew.row 2 rfl, H.out.drew.row 9 rfl, H.out.drew.row 1 rfl, H.out.drew.row 0 rfl⟩) (fun hH => ?_)
 replace H := za H.out.drew
 generalize World.drew _ = w8 at *
 refine zk 0 57 z1g rfl rfl rfl hH rfl rfl (fun _ h => h.1) ?_
 refine zk 1 58 z1g rfl rfl rfl hH rfl rfl (fun _ h => h.2.1) ?_
 refine zE 3 60 rfl rfl rfl hH rfl rfl (fun _ h => h.2.2.1) ?_
 try simp only [Act.put, qa, qb, qc]
 refine zE 5 62 rfl rfl rfl hH rfl rfl (fun _ h => h.2.2.2.1) ?_
 refine zE 6 63 rfl rfl rfl hH rfl rfl (fun _ h => h.2.2.2.2) ?_
 refine zn 2 rfl fun K hK => ?_
 go_simp
 refine (add_s _ _ _ (HL.out.below H.out.bel)).mono ?_
 rintro e wc ⟨rfl, hb⟩
 replace H := zd H hb
 refine zc hK ⟨zb H 4, zb H 2, zb H 9, zb H 1, zb H 0⟩ fun hH => ?_
 try simp only [Act.put, qa, qb, qc]
 refine zn 4 rfl fun K hK => ?_
 go_simp
 refine (z3m (k := (k + j)) _ (HT.out.below H.out.bel) V1.out).mono ?_
 rintro e wc ⟨r61, rfl, hv, hb⟩
 replace H := zd H hb
 have HV61 := za hv
 refine zc hK ⟨zb H 4, zb H 2, zb H 9, zb H 1, zb H 0⟩ fun hH => zn 7 rfl fun K hK => ?_
 go_simp
 refine (z15 _ (HT.out.below H.out.bel) VA.out VB.out).mono ?_
 rintro e wc ⟨r64, rfl, hv, hb⟩
 replace H := zd H hb
 have HV64 := za hv
 refine zc hK ⟨zb H 4, zb H 2, zb H 9, zb H 1, zb H 0⟩ fun hH => zn 8 rfl fun K hK => ?_
 go_simp
 refine (z2l _ (HT.out.below H.out.bel) HV61.out HV64.out (E1.out)).mono ?_
 rintro e wc ⟨rfl, hb⟩
 replace H := zd H hb
 refine zc hK ⟨zb H 4, zb H 2, zb H 9, zb H 1, zb H 0⟩ fun hH => ?_
 try simp only [Act.put, qa, qb, qc]
 refine zh 9 66 (.bool false) hH ?_
 refine zh 10 67 (.bool false) hH ?_
 refine zk 11 68 z1g rfl rfl rfl hH rfl rfl (fun _ h => h.1) ?_
 refine zk 12 69 z1g rfl rfl rfl hH rfl rfl (fun _ h => h.2.1) ?_
 refine zE 14 71 rfl rfl rfl hH rfl rfl (fun _ h => h.2.2.1) ?_
 try simp only [Act.put, qa, qb, qc]
 refine zk 16 73 z1g rfl rfl rfl hH rfl rfl (fun _ h => h.2.1) ?_
 refine zE 17 74 rfl rfl rfl hH rfl rfl (fun _ h => h.2.2.2.1) ?_
 refine zn 13 rfl fun K hK => ?_
 go_simp
 refine (mul_s _ _ _ (HL.out.below H.out.bel)).mono ?_
 rintro e wc ⟨rfl, hb⟩
 replace H := zd H hb
 refine zc hK ⟨zb H 4, zb H 2, zb H 9, zb H 1, zb H 0⟩ fun hH => ?_
 try simp only [Act.put, qa, qb, qc]
 refine zn 15 rfl fun K hK => ?_
 go_simp
 refine (z3m (k := (k * j)) _ (HT.out.below H.out.bel) V1.out).mono ?_
 rintro e wc ⟨r72, rfl, hv, hb⟩
 replace H := zd H hb
 have HV72 := za hv
 refine zc hK ⟨zb H 4, zb H 2, zb H 9, zb H 1, zb H 0⟩ fun hH => zn 18 rfl fun K hK => ?_
 go_simp
 refine (z3m (k := j) _ (HT.out.below H.out.bel) VA.out).mono ?_
 rintro e wc ⟨r75, rfl, hv, hb⟩
 replace H := zd H hb
 have HV75 := za hv
 refine zc hK ⟨zb H 4, zb H 2, zb H 9, zb H 1, zb H 0⟩ fun hH => zn 19 rfl fun K hK => ?_
 go_simp
 refine (z2l _ (HT.out.below H.out.bel) HV72.out HV75.out (E2.out)).mono ?_
 rintro e wc ⟨rfl, hb⟩
 replace H := zd H hb
 refine zc hK ⟨zb H 4, zb H 2, zb H 9, zb H 1, zb H 0⟩ fun hH => ?_
 try simp only [Act.put, qa, qb, qc]
 refine zh 20 77 (.bool false) hH ?_
 refine zh 21 78 (.bool false) hH ?_
 refine zm ?_
 go_upto_region 10 with fail
 refine wp_region_noPanic ?_
 refine wp_region_held_drew (S := fun W => W.heap[g10]? = some (WB 70 7 (wd (k).val)) ∧ W.heap[g5]? = some (Cs 34 (AV 25 F1)) ∧ W.heap[g6]? = some (Cs 34 (AV 25 F2)) ∧ W.heap[g16]? = some (Cs 34 (AV 25 kA)) ∧ W.heap[g13]? = some (WB 70 7 (wd (j).val)) ∧ W.heap[g17]? = some (Cs 34 (AV 25 kB))) (by kernel_rfl) (⟨H.out.drew.row 4 rfl, H.out.drew.row 9 rfl, H.out.drew.row 8 rfl, H.out.drew.row 1 rfl, H.out.drew.row 2 rfl, H.out.drew.row 0 rfl⟩) (fun hH => ?_)
 replace H := za H.out.drew
 generalize World.drew _ = w8 at *
 refine zk 0 79 z1g rfl rfl rfl hH rfl rfl (fun _ h => h.1) ?_
 refine zE 1 80 rfl rfl rfl hH rfl rfl (fun _ h => h.2.1) ?_
 refine zE 2 81 rfl rfl rfl hH rfl rfl (fun _ h => h.2.2.1) ?_
 try simp only [Act.put, qa, qb, qc]
 refine zE 5 84 rfl rfl rfl hH rfl rfl (fun _ h => h.2.2.2.1) ?_
 refine zk 6 85 z1g rfl rfl rfl hH rfl rfl (fun _ h => h.1) ?_
 refine zE 7 86 rfl rfl rfl hH rfl rfl (fun _ h => h.2.2.1) ?_
 try simp only [Act.put, qa, qb, qc]
 refine zn 3 rfl fun K hK => ?_
 go_simp
 refine (z15 _ (HT.out.below H.out.bel) V1.out V2.out).mono ?_
 rintro e wc ⟨r82, rfl, hv, hb⟩
 replace H := zd H hb
 have HV82 := za hv
 refine zc hK ⟨zb H 4, zb H 9, zb H 8, zb H 1, zb H 2, zb H 0⟩ fun hH => zn 4 rfl fun K hK => ?_
 go_simp
 refine (z3m (k := k) _ (HT.out.below H.out.bel) HV82.out).mono ?_
 rintro e wc ⟨r83, rfl, hv, hb⟩
 replace H := zd H hb
 have HV83 := za hv
 refine zc hK ⟨zb H 4, zb H 9, zb H 8, zb H 1, zb H 2, zb H 0⟩ fun hH => zn 8 rfl fun K hK => ?_
 go_simp
 refine (z3m (k := k) _ (HT.out.below H.out.bel) V2.out).mono ?_
 rintro e wc ⟨r87, rfl, hv, hb⟩
 replace H := zd H hb
 have HV87 := za hv
 refine zc hK ⟨zb H 4, zb H 9, zb H 8, zb H 1, zb H 2, zb H 0⟩ fun hH => ?_
 try simp only [Act.put, qa, qb, qc]
 refine zn 9 rfl fun K hK => ?_
 go_simp
 refine (z15 _ (HT.out.below H.out.bel) VA.out HV87.out).mono ?_
 rintro e wc ⟨r88, rfl, hv, hb⟩
 replace H := zd H hb
 have HV88 := za hv
 refine zc hK ⟨zb H 4, zb H 9, zb H 8, zb H 1, zb H 2, zb H 0⟩ fun hH => zn 10 rfl fun K hK => ?_
 go_simp
 refine (z2l _ (HT.out.below H.out.bel) HV83.out HV88.out (E3.out)).mono ?_
 rintro e wc ⟨rfl, hb⟩
 replace H := zd H hb
 refine zc hK ⟨zb H 4, zb H 9, zb H 8, zb H 1, zb H 2, zb H 0⟩ fun hH => ?_
 refine zh 11 90 (.bool true) hH ?_
 refine zk 12 91 z1g rfl rfl rfl hH rfl rfl (fun _ h => h.1) ?_
 refine zE 13 92 rfl rfl rfl hH rfl rfl (fun _ h => h.2.1) ?_
 refine zk 14 93 z1g rfl rfl rfl hH rfl rfl (fun _ h => h.2.2.2.2.1) ?_
 try simp only [Act.put, qa, qb, qc]
 refine zE 15 94 rfl rfl rfl hH rfl rfl (fun _ h => h.2.1) ?_
 refine zE 17 96 rfl rfl rfl hH rfl rfl (fun _ h => h.2.2.2.1) ?_
 refine zE 18 97 rfl rfl rfl hH rfl rfl (fun _ h => h.2.2.2.2.2) ?_
 try simp only [Act.put, qa, qb, qc]
 refine zn 16 rfl fun K hK => ?_
 go_simp
 refine (y6w (k := k) (j := j) _ (HT.out.below H.out.bel) V1.out V1.out).mono ?_
 rintro e wc ⟨r95, rfl, hv, hb⟩
 replace H := zd H hb
 have HV95 := za hv
 refine zc hK ⟨zb H 4, zb H 9, zb H 8, zb H 1, zb H 2, zb H 0⟩ fun hH => zn 19 rfl fun K hK => ?_
 go_simp
 refine (z15 _ (HT.out.below H.out.bel) VA.out VB.out).mono ?_
 rintro e wc ⟨r98, rfl, hv, hb⟩
 replace H := zd H hb
 have HV98 := za hv
 refine zc hK ⟨zb H 4, zb H 9, zb H 8, zb H 1, zb H 2, zb H 0⟩ fun hH => zn 20 rfl fun K hK => ?_
 go_simp
 refine (z2l _ (HT.out.below H.out.bel) HV95.out HV98.out (decide_eq_true rfl)).mono ?_
 rintro e wc ⟨rfl, hb⟩
 replace H := zd H hb
 refine zc hK ⟨zb H 4, zb H 9, zb H 8, zb H 1, zb H 2, zb H 0⟩ fun hH => ?_
 try simp only [Act.put, qa, qb, qc]
 refine zh 21 100 (.bool true) hH ?_
 refine zh 22 101 (.bool true) hH ?_
 refine zE 24 103 rfl rfl rfl hH rfl rfl (fun _ h => h.2.1) ?_
 refine zE 26 105 rfl rfl rfl hH rfl rfl (fun _ h => h.2.1) ?_
 refine zn 23 rfl fun K hK => ?_
 go_simp
 refine (int_s (2) _ (HL.out.below H.out.bel) (by omega) (by omega)).mono ?_
 rintro e wc ⟨rfl, hb⟩
 replace H := zd H hb
 refine zc hK ⟨zb H 4, zb H 9, zb H 8, zb H 1, zb H 2, zb H 0⟩ fun hH => ?_
 try simp only [Act.put, qa, qb, qc]
 refine zn 25 rfl fun K hK => ?_
 go_simp
 refine (z3m (k := (ofL (2))) _ (HT.out.below H.out.bel) V1.out).mono ?_
 rintro e wc ⟨r104, rfl, hv, hb⟩
 replace H := zd H hb
 have HV104 := za hv
 refine zc hK ⟨zb H 4, zb H 9, zb H 8, zb H 1, zb H 2, zb H 0⟩ fun hH => zn 27 rfl fun K hK => ?_
 go_simp
 refine (z6m _ (HT.out.below H.out.bel) V1.out).mono ?_
 rintro e wc ⟨r106, rfl, hv, hb⟩
 replace H := zd H hb
 have HV106 := za hv
 refine zc hK ⟨zb H 4, zb H 9, zb H 8, zb H 1, zb H 2, zb H 0⟩ fun hH => zn 28 rfl fun K hK => ?_
 go_simp
 refine (z2l _ (HT.out.below H.out.bel) HV104.out HV106.out (E5.out)).mono ?_
 rintro e wc ⟨rfl, hb⟩
 replace H := zd H hb
 refine zc hK ⟨zb H 4, zb H 9, zb H 8, zb H 1, zb H 2, zb H 0⟩ fun hH => ?_
 try simp only [Act.put, qa, qb, qc]
 refine zh 29 108 (.bool true) hH ?_
 refine zh 30 109 (.bool true) hH ?_
 refine zn 31 rfl fun K hK => ?_
 go_simp
 refine (z0o _ (HT.out.below H.out.bel)).mono ?_
 rintro e wc ⟨rfl, hb⟩
 replace H := zd H hb
 refine zc hK ⟨zb H 4, zb H 9, zb H 8, zb H 1, zb H 2, zb H 0⟩ fun hH => ?_
 refine zh 32 111 (.bool true) hH ?_
 refine zh 33 4 (.bool true) hH ?_
 refine zm ?_
 go_wp2_with fail
 go_ret
 exact ⟨rfl, H.out.bel⟩
theorem dscales_walk {a1 a2 b1 b2 : Option Addr} {n1 c1 x1 n2 c2 x2 m1 d1 y1 m2 d2 y2 : Nat} {z1 z2 : Int} (w : World) (hT : Tp w) (hs1 : Sb w w.heap.size a1 n1 c1 x1) (hs2 : Sb w w.heap.size a2 n2 c2 x2) (hl : Tl true w) (hr1 : Sb w w.heap.size b1 m1 d1 y1) (hr2 : Sb w w.heap.size b2 m2 d2 y2) :
  Calls Tryz.prog 8 #[.agg #[.slice a1 n1 c1, .int .i64 z1, .slice a2 n2 c2, .int .i64 z2], .agg #[.slice b1 m1 d1, .slice b2 m2 d2]] w fun e w' => e = .returned (.bool true) ∧ Below w.heap.size w w' := by
 cases ok : (okS n1 z1 && okS n2 z2) with
 | false => exact dscales_no1 w hT hs1 hs2 hl hr1 hr2 ok rfl rfl
 | true =>
  cases q1 : decide (m1 ≤ 60) with
  | false => exact dscales_no2 w hT hs1 hs2 hl hr1 hr2 ok q1 rfl
  | true =>
   cases q2 : decide (m2 ≤ 60) with
   | false => exact dscales_no3 w hT hs1 hs2 hl hr1 hr2 ok q1 q2
   | true => exact dscales_k (k := ⟨y1 % lN, Nat.mod_lt _ z8s⟩) (j := ⟨y2 % lN, Nat.mod_lt _ z8s⟩) w hT hs1 hs2 hl hr1 hr2 ok (of_decide_eq_true q1) (of_decide_eq_true q2) rfl rfl
end Go.Proofs.YtgjbonikbmgfmaaGreatDoor
