/- Lemmas; no statement is proved here. -/
import Derived.Test.YtgjbonikbmgfmaaGreatDoorQA
import Derived.Test.YtgjbonikbmgfmaaGreatDoorZDfGo5
set_option maxRecDepth 8000
set_option maxHeartbeats 3200000
namespace Go.Proofs.YtgjbonikbmgfmaaGreatDoor
open Go.RowKit
def triP (A B C : Pt pN dK) : Nat → Pt pN dK := fun i => if i = 0 then A else if i = 1 then B else C
theorem trio_k {F G H : Nat → Value} {A B C : Pt pN dK} (h1 : DeK F A) (h2 : DeK G B) (h3 : DeK H C) : ∀ i, i < 3 → DeK (trio F G H i) (triP A B C i) := fun i hi => by
 rcases (by omega : i = 0 ∨ i = 1 ∨ i = 2) with rfl | rfl | rfl
 ·exact h1
 ·exact h2
 ·exact h3
theorem grid_nil14 {G : Nat → Nat → Value} (w : World) : Grid w w.heap.size none 0 0 25 G := ⟨Nat.le_refl _, fun _ => rfl, fun ad e _ => by cases e⟩
theorem sum_tri (A B C : Pt pN dK) : sumP (triP A B C) 3 = z6 zB (z6 zB A B) C := by
 show z6 zB (z6 zB (z6 zB z0v A) B) C = _
 rw [z2m]
theorem y50 : (ofL (-1)).val = lN - 1 := by decide +kernel
theorem els_t {P Q : Pt pN dK} (h : Els2 P Q) : decide (z6 zB P P = z6 zB Q Q) = true := z5e ⟨fun _ => h, fun _ => rfl⟩
theorem y6h {P Q : Pt pN dK} (h : P = Q) : decide (z6 zB P P = z6 zB Q Q) = true := by
 subst h
 exact decide_eq_true rfl
theorem grp_turn (A B C : Pt pN dK) : z6 zB (z6 zB A B) C = z6 zB C (z6 zB B A) := by rw [z11 zB A B, z11 zB _ C]
theorem grp_less (A B C : Pt pN dK) : z6 zB (z6 zB (z6 zB A B) C) (pneg C) = z6 zB A B := by rw [z0r, z2n, z0n]
theorem dgroup_no1 {a1 a2 a3 : Option Addr} {n1 c1 x1 n2 c2 x2 n3 c3 x3 : Nat} {z1 z2 z3 : Int} (w : World) (hT : Tp w) (hs1 : Sb w w.heap.size a1 n1 c1 x1) (hs2 : Sb w w.heap.size a2 n2 c2 x2) (hl : Tl false w) (hs3 : Sb w w.heap.size a3 n3 c3 x3) {o3 : Bool} (ok : (okS n1 z1 && okS n2 z2) = false) (ok3 : okS n3 z3 = o3) :
  Calls Tryz.prog 7 #[.agg #[.slice a1 n1 c1, .int .i64 z1, .slice a2 n2 c2, .int .i64 z2], .agg #[.slice a3 n3 c3, .int .i64 z3]] w fun e w' => e = .returned (.bool true) ∧ Below w.heap.size w w' := by
 have HS1 := za hs1
 have HS2 := za hs2
 have HS3 := za hs3
 have HO := za ok
 have OK3 := za ok3
 have HL := za hl
 clear hs1 hs2 hs3 ok ok3 hl
 have HT := za hT
 clear hT
 have H := za (Ow.start w)
 go_enter Tryz.func7, Tryz.ntmps7
 go_wp2_with (first
  | ((with_reducible apply z0g H); (case hgd | ho | hx => exact rfl); clear H; intro _ _ H _ _; go_simp)
  | ((with_reducible apply z0t z4p ?hC H); (case hgd | ho | hx => exact rfl); (case hi => repeat first|exact z5|apply z8); (case hC => exact rfl); intro _ _; go_simp)
  | ((fail_if_success have := mk1); (with_reducible refine (z2h HO.out rfl rfl _ (HT.out.below H.out.bel) ((HS1.out.below H.out.bel).more H.out.bel.size) ((HS2.out.below H.out.bel).more H.out.bel.size)).mono ?_); rintro e wc ⟨F1, F2, r1, r2, P1, P2, rfl, hv, hu, hw, hx, hp, hq, hb⟩; replace H := zd H hb; have V1 := za hv; have V2 := za hu; have W1 := za hw; have W2 := za hx; have S1 := za hp; have S2 := za hq; have mk1 := trivial; clear hb hv hu hw hx hp hq)
  | ((with_reducible apply z0b zI H); (case hgd | ho => exact rfl); clear H; intro _ _ H _ _; go_simp)
  | ((with_reducible apply ze z0w H); (case hgd | ho => exact rfl); clear H; intro _ _ H _ _; go_simp)
  | ((fail_if_success have := ms1); (with_reducible apply z0a H); (case hgd | ho | hx | hy => exact rfl); (case hi => repeat first|exact z5|apply z8); (case h1 => exact V1.out); clear H; intro ws H _ _; simp only [qb, qc] at H; go_simp; have ms1 := trivial)
  | ((fail_if_success have := ms2); (with_reducible apply z0a H); (case hgd | ho | hx | hy => exact rfl); (case hi => repeat first|exact z5|apply z8); (case h1 => exact V2.out); clear H; intro ws H _ _; simp only [qb, qc] at H; go_simp; have ms2 := trivial)
  | ((with_reducible apply zj zD H); (case hgd | ho | hx | hy => exact rfl); (case hi => repeat first|exact z5|apply z8); clear H; intro ws H _ _; simp only [qb, qc] at H; go_simp)
  | ((with_reducible apply z0t z35 ?hC H); (case hgd | ho | hx => exact rfl); (case hi => repeat first|exact z5|apply z8); (case hC => exact rfl); intro _ _; go_simp)
  | ((fail_if_success have := mk3); (with_reducible refine (z23 OK3.out _ (HT.out.below H.out.bel) ((HS3.out.below H.out.bel).more H.out.bel.size)).mono ?_); rintro e wc ⟨F3, r3, P3, rfl, hv, hw, hp, hb⟩; replace H := zd H hb; have V3 := za hv; have W3 := za hw; have mk3 := trivial; clear hb hv hw hp)
  | ((fail_if_success have := ms3); (with_reducible apply z0a H); (case hgd | ho | hx | hy => exact rfl); (case hi => repeat first|exact z5|apply z8); (case h1 => exact V3.out); clear H; intro ws H _ _; simp only [qb, qc] at H; go_simp; have ms3 := trivial)
  | ((with_reducible refine z1y ?hw ?h); (case hw => exact rfl); intro _ _; go_simp)
  | ((with_reducible refine (z0o _ (HT.out.below H.out.bel)).mono ?_); rintro e wc ⟨rfl, hb⟩; replace H := zd H hb; clear hb))
 go_ret
 exact ⟨rfl, H.out.bel⟩
theorem dgroup_no3 {a1 a2 a3 : Option Addr} {n1 c1 x1 n2 c2 x2 n3 c3 x3 : Nat} {z1 z2 z3 : Int} (w : World) (hT : Tp w) (hs1 : Sb w w.heap.size a1 n1 c1 x1) (hs2 : Sb w w.heap.size a2 n2 c2 x2) (hl : Tl false w) (hs3 : Sb w w.heap.size a3 n3 c3 x3) (ok : (okS n1 z1 && okS n2 z2) = true) (ok3 : okS n3 z3 = false) :
  Calls Tryz.prog 7 #[.agg #[.slice a1 n1 c1, .int .i64 z1, .slice a2 n2 c2, .int .i64 z2], .agg #[.slice a3 n3 c3, .int .i64 z3]] w fun e w' => e = .returned (.bool true) ∧ Below w.heap.size w w' := by
 have HS1 := za hs1
 have HS2 := za hs2
 have HS3 := za hs3
 have HO := za ok
 have OK3 := za ok3
 have HL := za hl
 clear hs1 hs2 hs3 ok ok3 hl
 have HT := za hT
 clear hT
 have H := za (Ow.start w)
 go_enter Tryz.func7, Tryz.ntmps7
 go_wp2_with (first
  | ((with_reducible apply z0g H); (case hgd | ho | hx => exact rfl); clear H; intro _ _ H _ _; go_simp)
  | ((with_reducible apply z0t z4p ?hC H); (case hgd | ho | hx => exact rfl); (case hi => repeat first|exact z5|apply z8); (case hC => exact rfl); intro _ _; go_simp)
  | ((fail_if_success have := mk1); (with_reducible refine (z2h HO.out rfl rfl _ (HT.out.below H.out.bel) ((HS1.out.below H.out.bel).more H.out.bel.size) ((HS2.out.below H.out.bel).more H.out.bel.size)).mono ?_); rintro e wc ⟨F1, F2, r1, r2, P1, P2, rfl, hv, hu, hw, hx, hp, hq, hb⟩; replace H := zd H hb; have V1 := za hv; have V2 := za hu; have W1 := za hw; have W2 := za hx; have S1 := za hp; have S2 := za hq; have mk1 := trivial; clear hb hv hu hw hx hp hq)
  | ((with_reducible apply z0b zI H); (case hgd | ho => exact rfl); clear H; intro _ _ H _ _; go_simp)
  | ((with_reducible apply ze z0w H); (case hgd | ho => exact rfl); clear H; intro _ _ H _ _; go_simp)
  | ((fail_if_success have := ms1); (with_reducible apply z0a H); (case hgd | ho | hx | hy => exact rfl); (case hi => repeat first|exact z5|apply z8); (case h1 => exact V1.out); clear H; intro ws H _ _; simp only [qb, qc] at H; go_simp; have ms1 := trivial)
  | ((fail_if_success have := ms2); (with_reducible apply z0a H); (case hgd | ho | hx | hy => exact rfl); (case hi => repeat first|exact z5|apply z8); (case h1 => exact V2.out); clear H; intro ws H _ _; simp only [qb, qc] at H; go_simp; have ms2 := trivial)
  | ((with_reducible apply zj zD H); (case hgd | ho | hx | hy => exact rfl); (case hi => repeat first|exact z5|apply z8); clear H; intro ws H _ _; simp only [qb, qc] at H; go_simp)
  | ((with_reducible apply z0t z35 ?hC H); (case hgd | ho | hx => exact rfl); (case hi => repeat first|exact z5|apply z8); (case hC => exact rfl); intro _ _; go_simp)
  | ((fail_if_success have := mk3); (with_reducible refine (z23 OK3.out _ (HT.out.below H.out.bel) ((HS3.out.below H.out.bel).more H.out.bel.size)).mono ?_); rintro e wc ⟨F3, r3, P3, rfl, hv, hw, hp, hb⟩; replace H := zd H hb; have V3 := za hv; have W3 := za hw; have mk3 := trivial; clear hb hv hw hp)
  | ((fail_if_success have := ms3); (with_reducible apply z0a H); (case hgd | ho | hx | hy => exact rfl); (case hi => repeat first|exact z5|apply z8); (case h1 => exact V3.out); clear H; intro ws H _ _; simp only [qb, qc] at H; go_simp; have ms3 := trivial)
  | ((with_reducible refine z1y ?hw ?h); (case hw => exact rfl); intro _ _; go_simp)
  | ((with_reducible refine (z0o _ (HT.out.below H.out.bel)).mono ?_); rintro e wc ⟨rfl, hb⟩; replace H := zd H hb; clear hb))
 go_ret
 exact ⟨rfl, H.out.bel⟩
theorem dgroup_k {a1 a2 a3 : Option Addr} {n1 c1 x1 n2 c2 x2 n3 c3 x3 : Nat} {z1 z2 z3 : Int} (w : World) (hT : Tp w) (hs1 : Sb w w.heap.size a1 n1 c1 x1) (hs2 : Sb w w.heap.size a2 n2 c2 x2) (hl : Tl false w) (hs3 : Sb w w.heap.size a3 n3 c3 x3) (ok : (okS n1 z1 && okS n2 z2) = true) (ok3 : okS n3 z3 = true) :
  Calls Tryz.prog 7 #[.agg #[.slice a1 n1 c1, .int .i64 z1, .slice a2 n2 c2, .int .i64 z2], .agg #[.slice a3 n3 c3, .int .i64 z3]] w fun e w' => e = .returned (.bool true) ∧ Below w.heap.size w w' := by
 have OA := za (show okS n1 z1 = true from (Bool.and_eq_true_iff.1 ok).1)
 have HS1 := za hs1
 have HS2 := za hs2
 have HS3 := za hs3
 have HO := za ok
 have OK3 := za ok3
 have HL := za hl
 clear hs1 hs2 hs3 ok ok3 hl
 have HT := za hT
 clear hT
 have H := za (Ow.start w)
 go_enter Tryz.func7, Tryz.ntmps7
 go_upto_region 6 with (first
  | ((fail_if_success have := g2); (with_reducible apply z0g H); (case hgd | ho | hx => exact rfl); clear H; intro w2 g2 H _ _; go_simp)
  | ((fail_if_success have := g3); (with_reducible apply z0g H); (case hgd | ho | hx => exact rfl); clear H; intro w3 g3 H _ _; go_simp)
  | ((with_reducible apply z0t z4p ?hC H); (case hgd | ho | hx => exact rfl); (case hi => repeat first|exact z5|apply z8); (case hC => exact rfl); intro _ _; go_simp)
  | ((fail_if_success have := mk1); (with_reducible refine (z2h HO.out rfl rfl _ (HT.out.below H.out.bel) ((HS1.out.below H.out.bel).more H.out.bel.size) ((HS2.out.below H.out.bel).more H.out.bel.size)).mono ?_); rintro e wc ⟨F1, F2, r1, r2, P1, P2, rfl, hv, hu, hw, hx, hp, hq, hb⟩; replace H := zd H hb; have V1 := za hv; have V2 := za hu; have W1 := za hw; have W2 := za hx; have S1 := za hp; have S2 := za hq; have mk1 := trivial; clear hb hv hu hw hx hp hq)
  | ((fail_if_success have := g5); (with_reducible apply z0b zI H); (case hgd | ho => exact rfl); clear H; intro w5 g5 H _ _; go_simp)
  | ((fail_if_success have := g6); (with_reducible apply z0b zI H); (case hgd | ho => exact rfl); clear H; intro w6 g6 H _ _; go_simp)
  | ((fail_if_success have := g7); (with_reducible apply ze z0w H); (case hgd | ho => exact rfl); clear H; intro w7 g7 H _ _; go_simp)
  | ((fail_if_success have := g8); (with_reducible apply ze z0w H); (case hgd | ho => exact rfl); clear H; intro w8 g8 H _ _; go_simp)
  | ((fail_if_success have := ms1); (with_reducible apply z0a H); (case hgd | ho | hx | hy => exact rfl); (case hi => repeat first|exact z5|apply z8); (case h1 => exact V1.out); clear H; intro ws H _ _; simp only [qb, qc] at H; go_simp; have ms1 := trivial)
  | ((fail_if_success have := ms2); (with_reducible apply z0a H); (case hgd | ho | hx | hy => exact rfl); (case hi => repeat first|exact z5|apply z8); (case h1 => exact V2.out); clear H; intro ws H _ _; simp only [qb, qc] at H; go_simp; have ms2 := trivial)
  | ((with_reducible apply zj zD H); (case hgd | ho | hx | hy => exact rfl); (case hi => repeat first|exact z5|apply z8); clear H; intro ws H _ _; simp only [qb, qc] at H; go_simp)
  | ((with_reducible apply z0t z35 ?hC H); (case hgd | ho | hx => exact rfl); (case hi => repeat first|exact z5|apply z8); (case hC => exact rfl); intro _ _; go_simp)
  | ((fail_if_success have := mk3); (with_reducible refine (z23 OK3.out _ (HT.out.below H.out.bel) ((HS3.out.below H.out.bel).more H.out.bel.size)).mono ?_); rintro e wc ⟨F3, r3, P3, rfl, hv, hw, hp, hb⟩; replace H := zd H hb; have V3 := za hv; have W3 := za hw; have mk3 := trivial; clear hb hv hw hp)
  | ((fail_if_success have := g10); (with_reducible apply z0b zI H); (case hgd | ho => exact rfl); clear H; intro w10 g10 H _ _; go_simp)
  | ((fail_if_success have := g11); (with_reducible apply ze z0w H); (case hgd | ho => exact rfl); clear H; intro w11 g11 H _ _; go_simp)
  | ((fail_if_success have := ms3); (with_reducible apply z0a H); (case hgd | ho | hx | hy => exact rfl); (case hi => repeat first|exact z5|apply z8); (case h1 => exact V3.out); clear H; intro ws H _ _; simp only [qb, qc] at H; go_simp; have ms3 := trivial)
  | ((fail_if_success have := VI); (with_reducible refine (z4l _).mono ?_); rintro e wc ⟨kVI, rfl, hv, hb⟩; replace H := zd H hb; clear hb; have VI := za hv; clear hv)
  | ((fail_if_success have := g13); (with_reducible apply z0b zI H); (case hgd | ho => exact rfl); clear H; intro w13 g13 H _ _; go_simp)
  | ((with_reducible apply z0a H); (case hgd | ho | hx | hy => exact rfl); (case hi => repeat first|exact z5|apply z8); (case h1 => exact VI.out); clear H; intro ws H _ _; simp only [qb] at H; go_simp))
 clear mk1 mk3 ms1 ms2 ms3
 have EO : Ord (z6 zB P1 P1) := by
  have h := S1.out (by first | exact OA.out | (rw [OA.out]))
  rw [h]
  exact y5l _ _
 have E1 := za (y6h (grp_turn (z6 zB P1 P1) (z6 zB P2 P2) (z6 zB P3 P3)))
 have E2 := za (y6h (sum_tri (z6 zB P1 P1) (z6 zB P2 P2) (z6 zB P3 P3)).symm)
 have E4 := za (y6h (z2n zB (z6 zB P1 P1)))
 have E5 := za (els_t (P := z6 zB (zF zB (ofL (-1)).val (z6 zB P1 P1)) (z6 zB P1 P1)) (Q := z0v) (by
  rw [y50]
  exact (y6i EO).symm))
 have E6 := za (els_t (P := (zF zB (ofL (-1)).val (z6 zB P1 P1))) (Q := pneg (z6 zB P1 P1)) (by
  rw [y50]
  exact (els_neg EO).symm))
 have E7 := za (y6h (grp_less (z6 zB P1 P1) (z6 zB P2 P2) (z6 zB P3 P3)))
 clear EO
 go_cut [14] from 39 to 43 (fun v14 wx => ∃ g14 r43, v14 = .pointer (some ⟨g14, 0, none⟩) ∧ DeK r43 (z6 zB (z6 zB (z6 zB P1 P1) (z6 zB P2 P2)) (z6 zB P3 P3)) ∧ Ow w wx [(g14, Cs 34 (AV 25 r43)), (g13, Cs 34 (AV 25 kVI)), (g11, zv 38 .i64 48 (r3)), (g10, Cs 34 (AV 25 F3)), (g8, zv 38 .i64 48 (r2)), (g7, zv 38 .i64 48 (r1)), (g6, Cs 34 (AV 25 F2)), (g5, Cs 34 (AV 25 F1)), (g3, Cs 24 #[.slice a3 n3 c3, .int .i64 z3]), (g2, Cs 58 #[.slice a1 n1 c1, .int .i64 z1, .slice a2 n2 c2, .int .i64 z2])])
 case first =>
  go_wp2_with fail
  refine wp_region_noPanic ?_
  refine wp_region_held_drew (S := fun W => W.heap[g5]? = some (Cs 34 (AV 25 F1)) ∧ W.heap[g6]? = some (Cs 34 (AV 25 F2)) ∧ W.heap[g10]? = some (Cs 34 (AV 25 F3))) (by kernel_rfl) (⟨H.out.drew.row 6 rfl, H.out.drew.row 5 rfl, H.out.drew.row 2 rfl⟩) (fun hH => ?_)
  replace H := za H.out.drew
  generalize World.drew _ = w8 at *
  refine zE 0 39 rfl rfl rfl hH rfl rfl (fun _ h => h.1) ?_
  refine zE 1 40 rfl rfl rfl hH rfl rfl (fun _ h => h.2.1) ?_
  refine zE 3 42 rfl rfl rfl hH rfl rfl (fun _ h => h.2.2) ?_
  try simp only [Act.put, qa, qb, qc]
  refine zK [2, 5] (zG rfl (fun K hK => ?_) (zG rfl (fun K hK => ?_) zJ))
  ·skip
   go_simp
   refine (z15 _ (HT.out.below H.out.bel) V1.out V2.out).mono ?_
   rintro e wc ⟨r41, rfl, hv, hb⟩
   replace H := zd H hb
   have HV41 := za hv
   refine zc hK ⟨zb H 6, zb H 5, zb H 2⟩ fun hH => zK [4, 5] (zG rfl (fun K hK => ?_) (zG rfl (fun K hK => ?_) zJ))
   ·skip
    go_simp
    refine (z15 _ (HT.out.below H.out.bel) HV41.out V3.out).mono ?_
    rintro e wc ⟨r43, rfl, hv, hb⟩
    replace H := zd H hb
    have HV43 := za hv
    refine zc hK ⟨zb H 6, zb H 5, zb H 2⟩ fun hH => zn 5 rfl fun K hK => ?_
    refine z04 14 rfl zI H.out rfl ?_
    intro w14 g14 H3 hb
    replace H := za H3
    refine zc hK ⟨zb H 7, zb H 6, zb H 3⟩ fun hH => ?_
    try simp only [Act.put, qa, qb, qc]
    refine zn 6 rfl fun K hK => ?_
    with_reducible refine z4g rfl ?_
    with_reducible refine z2o (t := 34) (x := .tmp 14) (y := .tmp 43) (b := g14) (F := r43) (G := (ics (fun _ => 0) (.bool false))) 0 ?_ H.out ?_ ?_ ?_ ?_ HV43.out ?_
    ·rfl
    ·rfl
    ·rfl
    ·rfl
    ·exact z5
    intro ws HS
    simp only [qb] at HS
    replace H := za HS
    refine zc hK ⟨zb H 7, zb H 6, zb H 3⟩ fun hH => ?_
    try simp only [qa]
    try simp only [Act.put]
    refine zm ?_
    go_wp2_with fail
    go_meet
    exact ⟨g14, r43, rfl, HV43.out, H.out⟩
   ·skip
    refine z04 14 rfl zI H.out rfl ?_
    intro w14 g14 H3 hb
    replace H := za H3
    refine zc hK ⟨zb H 7, zb H 6, zb H 3⟩ fun hH => zn 4 rfl fun K hK => ?_
    go_simp
    refine (z15 _ (HT.out.below H.out.bel) HV41.out V3.out).mono ?_
    rintro e wc ⟨r43, rfl, hv, hb⟩
    replace H := zd H hb
    have HV43 := za hv
    refine zc hK ⟨zb H 7, zb H 6, zb H 3⟩ fun hH => zn 6 rfl fun K hK => ?_
    with_reducible refine z4g rfl ?_
    with_reducible refine z2o (t := 34) (x := .tmp 14) (y := .tmp 43) (b := g14) (F := r43) (G := (ics (fun _ => 0) (.bool false))) 0 ?_ H.out ?_ ?_ ?_ ?_ HV43.out ?_
    ·rfl
    ·rfl
    ·rfl
    ·rfl
    ·exact z5
    intro ws HS
    simp only [qb] at HS
    replace H := za HS
    refine zc hK ⟨zb H 7, zb H 6, zb H 3⟩ fun hH => ?_
    try simp only [qa]
    try simp only [Act.put]
    refine zm ?_
    go_wp2_with fail
    go_meet
    exact ⟨g14, r43, rfl, HV43.out, H.out⟩
  ·skip
   refine z04 14 rfl zI H.out rfl ?_
   intro w14 g14 H3 hb
   replace H := za H3
   refine zc hK ⟨zb H 7, zb H 6, zb H 3⟩ fun hH => ?_
   try simp only [Act.put, qa, qb, qc]
   refine zn 2 rfl fun K hK => ?_
   go_simp
   refine (z15 _ (HT.out.below H.out.bel) V1.out V2.out).mono ?_
   rintro e wc ⟨r41, rfl, hv, hb⟩
   replace H := zd H hb
   have HV41 := za hv
   refine zc hK ⟨zb H 7, zb H 6, zb H 3⟩ fun hH => zn 4 rfl fun K hK => ?_
   go_simp
   refine (z15 _ (HT.out.below H.out.bel) HV41.out V3.out).mono ?_
   rintro e wc ⟨r43, rfl, hv, hb⟩
   replace H := zd H hb
   have HV43 := za hv
   refine zc hK ⟨zb H 7, zb H 6, zb H 3⟩ fun hH => zn 6 rfl fun K hK => ?_
   with_reducible refine z4g rfl ?_
   with_reducible refine z2o (t := 34) (x := .tmp 14) (y := .tmp 43) (b := g14) (F := r43) (G := (ics (fun _ => 0) (.bool false))) 0 ?_ H.out ?_ ?_ ?_ ?_ HV43.out ?_
   ·rfl
   ·rfl
   ·rfl
   ·rfl
   ·exact z5
   intro ws HS
   simp only [qb] at HS
   replace H := za HS
   refine zc hK ⟨zb H 7, zb H 6, zb H 3⟩ fun hH => ?_
   try simp only [qa]
   try simp only [Act.put]
   refine zm ?_
   go_wp2_with fail
   go_meet
   exact ⟨g14, r43, rfl, HV43.out, H.out⟩
 clear H
 obtain ⟨g14, r43, rfl, hv43, HRR⟩ := hcut
 have HV43 := za hv43
 have H := za HRR
 clear HRR hv43
 go_upto_region 7 with fail
 go_cut [15] from 44 to 48 (fun v15 wx => ∃ g15 r48, v15 = .pointer (some ⟨g15, 0, none⟩) ∧ DeK r48 (z6 zB (z6 zB P3 P3) (z6 zB (z6 zB P2 P2) (z6 zB P1 P1))) ∧ Ow w wx [(g15, Cs 34 (AV 25 r48)), (g14, Cs 34 (AV 25 r43)), (g13, Cs 34 (AV 25 kVI)), (g11, zv 38 .i64 48 (r3)), (g10, Cs 34 (AV 25 F3)), (g8, zv 38 .i64 48 (r2)), (g7, zv 38 .i64 48 (r1)), (g6, Cs 34 (AV 25 F2)), (g5, Cs 34 (AV 25 F1)), (g3, Cs 24 #[.slice a3 n3 c3, .int .i64 z3]), (g2, Cs 58 #[.slice a1 n1 c1, .int .i64 z1, .slice a2 n2 c2, .int .i64 z2])])
 case first =>
  go_wp2_with fail
  refine wp_region_noPanic ?_
  refine wp_region_held_drew (S := fun W => W.heap[g10]? = some (Cs 34 (AV 25 F3)) ∧ W.heap[g6]? = some (Cs 34 (AV 25 F2)) ∧ W.heap[g5]? = some (Cs 34 (AV 25 F1))) (by kernel_rfl) (⟨H.out.drew.row 3 rfl, H.out.drew.row 6 rfl, H.out.drew.row 7 rfl⟩) (fun hH => ?_)
  replace H := za H.out.drew
  generalize World.drew _ = w8 at *
  refine zE 0 44 rfl rfl rfl hH rfl rfl (fun _ h => h.1) ?_
  try simp only [Act.put, qa, qb, qc]
  refine zE 1 45 rfl rfl rfl hH rfl rfl (fun _ h => h.2.1) ?_
  refine zE 2 46 rfl rfl rfl hH rfl rfl (fun _ h => h.2.2) ?_
  refine zK [3, 5] (zG rfl (fun K hK => ?_) (zG rfl (fun K hK => ?_) zJ))
  ·skip
   go_simp
   refine (z15 _ (HT.out.below H.out.bel) V2.out V1.out).mono ?_
   rintro e wc ⟨r47, rfl, hv, hb⟩
   replace H := zd H hb
   have HV47 := za hv
   refine zc hK ⟨zb H 3, zb H 6, zb H 7⟩ fun hH => ?_
   try simp only [Act.put, qa, qb, qc]
   refine zK [4, 5] (zG rfl (fun K hK => ?_) (zG rfl (fun K hK => ?_) zJ))
   ·skip
    go_simp
    refine (z15 _ (HT.out.below H.out.bel) V3.out HV47.out).mono ?_
    rintro e wc ⟨r48, rfl, hv, hb⟩
    replace H := zd H hb
    have HV48 := za hv
    refine zc hK ⟨zb H 3, zb H 6, zb H 7⟩ fun hH => zn 5 rfl fun K hK => ?_
    refine z04 15 rfl zI H.out rfl ?_
    intro w15 g15 H3 hb
    replace H := za H3
    refine zc hK ⟨zb H 4, zb H 7, zb H 8⟩ fun hH => zn 6 rfl fun K hK => ?_
    with_reducible refine z4g rfl ?_
    with_reducible refine z2o (t := 34) (x := .tmp 15) (y := .tmp 48) (b := g15) (F := r48) (G := (ics (fun _ => 0) (.bool false))) 0 ?_ H.out ?_ ?_ ?_ ?_ HV48.out ?_
    ·rfl
    ·rfl
    ·rfl
    ·rfl
    ·exact z5
    intro ws HS
    simp only [qb] at HS
    replace H := za HS
    refine zc hK ⟨zb H 4, zb H 7, zb H 8⟩ fun hH => ?_
    try simp only [qa]
    try simp only [Act.put]
    refine zm ?_
    go_wp2_with fail
    go_meet
    exact ⟨g15, r48, rfl, HV48.out, H.out⟩
   ·skip
    refine z04 15 rfl zI H.out rfl ?_
    intro w15 g15 H3 hb
    replace H := za H3
    refine zc hK ⟨zb H 4, zb H 7, zb H 8⟩ fun hH => ?_
    try simp only [Act.put, qa, qb, qc]
    refine zn 4 rfl fun K hK => ?_
    go_simp
    refine (z15 _ (HT.out.below H.out.bel) V3.out HV47.out).mono ?_
    rintro e wc ⟨r48, rfl, hv, hb⟩
    replace H := zd H hb
    have HV48 := za hv
    refine zc hK ⟨zb H 4, zb H 7, zb H 8⟩ fun hH => zn 6 rfl fun K hK => ?_
    with_reducible refine z4g rfl ?_
    with_reducible refine z2o (t := 34) (x := .tmp 15) (y := .tmp 48) (b := g15) (F := r48) (G := (ics (fun _ => 0) (.bool false))) 0 ?_ H.out ?_ ?_ ?_ ?_ HV48.out ?_
    ·rfl
    ·rfl
    ·rfl
    ·rfl
    ·exact z5
    intro ws HS
    simp only [qb] at HS
    replace H := za HS
    refine zc hK ⟨zb H 4, zb H 7, zb H 8⟩ fun hH => ?_
    try simp only [qa]
    try simp only [Act.put]
    refine zm ?_
    go_wp2_with fail
    go_meet
    exact ⟨g15, r48, rfl, HV48.out, H.out⟩
  ·skip
   refine z04 15 rfl zI H.out rfl ?_
   intro w15 g15 H3 hb
   replace H := za H3
   refine zc hK ⟨zb H 4, zb H 7, zb H 8⟩ fun hH => zn 3 rfl fun K hK => ?_
   go_simp
   refine (z15 _ (HT.out.below H.out.bel) V2.out V1.out).mono ?_
   rintro e wc ⟨r47, rfl, hv, hb⟩
   replace H := zd H hb
   have HV47 := za hv
   refine zc hK ⟨zb H 4, zb H 7, zb H 8⟩ fun hH => ?_
   try simp only [Act.put, qa, qb, qc]
   refine zn 4 rfl fun K hK => ?_
   go_simp
   refine (z15 _ (HT.out.below H.out.bel) V3.out HV47.out).mono ?_
   rintro e wc ⟨r48, rfl, hv, hb⟩
   replace H := zd H hb
   have HV48 := za hv
   refine zc hK ⟨zb H 4, zb H 7, zb H 8⟩ fun hH => zn 6 rfl fun K hK => ?_
   with_reducible refine z4g rfl ?_
   with_reducible refine z2o (t := 34) (x := .tmp 15) (y := .tmp 48) (b := g15) (F := r48) (G := (ics (fun _ => 0) (.bool false))) 0 ?_ H.out ?_ ?_ ?_ ?_ HV48.out ?_
   ·rfl
   ·rfl
   ·rfl
   ·rfl
   ·exact z5
   intro ws HS
   simp only [qb] at HS
   replace H := za HS
   refine zc hK ⟨zb H 4, zb H 7, zb H 8⟩ fun hH => ?_
   try simp only [qa]
   try simp only [Act.put]
   refine zm ?_
   go_wp2_with fail
   go_meet
   exact ⟨g15, r48, rfl, HV48.out, H.out⟩
 clear H
 obtain ⟨g15, r48, rfl, hv48, HRR⟩ := hcut
 have HV48 := za hv48
 have H := za HRR
 clear HRR hv48
 go_upto_region 8 with fail
 go_cut [16] from 49 to 51 (fun v16 wx => ∃ g16 r51, v16 = .pointer (some ⟨g16, 0, none⟩) ∧ DeK r51 (zF zB (ofL (-1)).val (z6 zB P1 P1)) ∧ Ow w wx [(g16, Cs 34 (AV 25 r51)), (g15, Cs 34 (AV 25 r48)), (g14, Cs 34 (AV 25 r43)), (g13, Cs 34 (AV 25 kVI)), (g11, zv 38 .i64 48 (r3)), (g10, Cs 34 (AV 25 F3)), (g8, zv 38 .i64 48 (r2)), (g7, zv 38 .i64 48 (r1)), (g6, Cs 34 (AV 25 F2)), (g5, Cs 34 (AV 25 F1)), (g3, Cs 24 #[.slice a3 n3 c3, .int .i64 z3]), (g2, Cs 58 #[.slice a1 n1 c1, .int .i64 z1, .slice a2 n2 c2, .int .i64 z2])])
 case first =>
  go_wp2_with fail
  refine wp_region_noPanic ?_
  refine wp_region_held_drew (S := fun W => W.heap[g5]? = some (Cs 34 (AV 25 F1))) (by kernel_rfl) (H.out.drew.row 8 rfl) (fun hH => ?_)
  replace H := za H.out.drew
  generalize World.drew _ = w8 at *
  refine zE 1 50 rfl rfl rfl hH rfl rfl (fun _ h => h) ?_
  refine zK [0, 3] (zG rfl (fun K hK => ?_) (zG rfl (fun K hK => ?_) zJ))
  ·skip
   go_simp
   refine (int_s (-1) _ (HL.out.below H.out.bel) (by omega) (by omega)).mono ?_
   rintro e wc ⟨rfl, hb⟩
   replace H := zd H hb
   refine zc hK (zb H 8) fun hH => ?_
   try simp only [Act.put, qa, qb, qc]
   refine zK [2, 3] (zG rfl (fun K hK => ?_) (zG rfl (fun K hK => ?_) zJ))
   ·skip
    go_simp
    refine (z3m (k := (ofL (-1))) _ (HT.out.below H.out.bel) V1.out).mono ?_
    rintro e wc ⟨r51, rfl, hv, hb⟩
    replace H := zd H hb
    have HV51 := za hv
    refine zc hK (zb H 8) fun hH => zn 3 rfl fun K hK => ?_
    refine z04 16 rfl zI H.out rfl ?_
    intro w16 g16 H3 hb
    replace H := za H3
    refine zc hK (zb H 9) fun hH => zn 4 rfl fun K hK => ?_
    with_reducible refine z4g rfl ?_
    with_reducible refine z2o (t := 34) (x := .tmp 16) (y := .tmp 51) (b := g16) (F := r51) (G := (ics (fun _ => 0) (.bool false))) 0 ?_ H.out ?_ ?_ ?_ ?_ HV51.out ?_
    ·rfl
    ·rfl
    ·rfl
    ·rfl
    ·exact z5
    intro ws HS
    simp only [qb] at HS
    replace H := za HS
    refine zc hK (zb H 9) fun hH => ?_
    try simp only [qa]
    try simp only [Act.put]
    refine zm ?_
    go_wp2_with fail
    go_meet
    exact ⟨g16, r51, rfl, HV51.out, H.out⟩
   ·skip
    refine z04 16 rfl zI H.out rfl ?_
    intro w16 g16 H3 hb
    replace H := za H3
    refine zc hK (zb H 9) fun hH => ?_
    try simp only [Act.put, qa, qb, qc]
    refine zn 2 rfl fun K hK => ?_
    go_simp
    refine (z3m (k := (ofL (-1))) _ (HT.out.below H.out.bel) V1.out).mono ?_
    rintro e wc ⟨r51, rfl, hv, hb⟩
    replace H := zd H hb
    have HV51 := za hv
    refine zc hK (zb H 9) fun hH => zn 4 rfl fun K hK => ?_
    with_reducible refine z4g rfl ?_
    with_reducible refine z2o (t := 34) (x := .tmp 16) (y := .tmp 51) (b := g16) (F := r51) (G := (ics (fun _ => 0) (.bool false))) 0 ?_ H.out ?_ ?_ ?_ ?_ HV51.out ?_
    ·rfl
    ·rfl
    ·rfl
    ·rfl
    ·exact z5
    intro ws HS
    simp only [qb] at HS
    replace H := za HS
    refine zc hK (zb H 9) fun hH => ?_
    try simp only [qa]
    try simp only [Act.put]
    refine zm ?_
    go_wp2_with fail
    go_meet
    exact ⟨g16, r51, rfl, HV51.out, H.out⟩
  ·skip
   refine z04 16 rfl zI H.out rfl ?_
   intro w16 g16 H3 hb
   replace H := za H3
   refine zc hK (zb H 9) fun hH => zn 0 rfl fun K hK => ?_
   go_simp
   refine (int_s (-1) _ (HL.out.below H.out.bel) (by omega) (by omega)).mono ?_
   rintro e wc ⟨rfl, hb⟩
   replace H := zd H hb
   refine zc hK (zb H 9) fun hH => ?_
   try simp only [Act.put, qa, qb, qc]
   refine zn 2 rfl fun K hK => ?_
   go_simp
   refine (z3m (k := (ofL (-1))) _ (HT.out.below H.out.bel) V1.out).mono ?_
   rintro e wc ⟨r51, rfl, hv, hb⟩
   replace H := zd H hb
   have HV51 := za hv
   refine zc hK (zb H 9) fun hH => zn 4 rfl fun K hK => ?_
   with_reducible refine z4g rfl ?_
   with_reducible refine z2o (t := 34) (x := .tmp 16) (y := .tmp 51) (b := g16) (F := r51) (G := (ics (fun _ => 0) (.bool false))) 0 ?_ H.out ?_ ?_ ?_ ?_ HV51.out ?_
   ·rfl
   ·rfl
   ·rfl
   ·rfl
   ·exact z5
   intro ws HS
   simp only [qb] at HS
   replace H := za HS
   refine zc hK (zb H 9) fun hH => ?_
   try simp only [qa]
   try simp only [Act.put]
   refine zm ?_
   go_wp2_with fail
   go_meet
   exact ⟨g16, r51, rfl, HV51.out, H.out⟩
 clear H
 obtain ⟨g16, r51, rfl, hv51, HRR⟩ := hcut
 have HV51 := za hv51
 have H := za HRR
 clear HRR hv51
 go_upto_region 9 with fail
 refine wp_region_noPanic ?_
 refine wp_region_held_drew (S := fun W => W.heap[g14]? = some (Cs 34 (AV 25 r43)) ∧ W.heap[g15]? = some (Cs 34 (AV 25 r48)) ∧ W.heap[g5]? = some (Cs 34 (AV 25 F1)) ∧ W.heap[g6]? = some (Cs 34 (AV 25 F2)) ∧ W.heap[g10]? = some (Cs 34 (AV 25 F3)) ∧ W.heap[g13]? = some (Cs 34 (AV 25 kVI)) ∧ W.heap[g16]? = some (Cs 34 (AV 25 r51))) (by kernel_rfl) (⟨H.out.drew.row 2 rfl, H.out.drew.row 1 rfl, H.out.drew.row 9 rfl, H.out.drew.row 8 rfl, H.out.drew.row 5 rfl, H.out.drew.row 3 rfl, H.out.drew.row 0 rfl⟩) (fun hH => ?_)
 replace H := za H.out.drew
 generalize World.drew _ = w8 at *
 refine zE 0 52 rfl rfl rfl hH rfl rfl (fun _ h => h.1) ?_
 refine zE 1 53 rfl rfl rfl hH rfl rfl (fun _ h => h.2.1) ?_
 try simp only [Act.put, qa, qb, qc]
 refine zn 2 rfl fun K hK => ?_
 go_simp
 refine (z2l _ (HT.out.below H.out.bel) HV43.out HV48.out (E1.out)).mono ?_
 rintro e wc ⟨rfl, hb⟩
 replace H := zd H hb
 refine zc hK ⟨zb H 2, zb H 1, zb H 9, zb H 8, zb H 5, zb H 3, zb H 0⟩ fun hH => ?_
 refine zh 3 55 (.bool true) hH ?_
 refine zE 4 56 rfl rfl rfl hH rfl rfl (fun _ h => h.1) ?_
 refine zE 5 57 rfl rfl rfl hH rfl rfl (fun _ h => h.2.2.1) ?_
 refine zE 6 58 rfl rfl rfl hH rfl rfl (fun _ h => h.2.2.2.1) ?_
 try simp only [Act.put, qa, qb, qc]
 refine zE 7 59 rfl rfl rfl hH rfl rfl (fun _ h => h.2.2.2.2.1) ?_
 refine zn 8 rfl fun K hK => ?_
 refine own_wp_build3De 60 rfl H.out rfl rfl rfl rfl ?_
 intro w60 g60 H3 hb
 replace H := za H3
 refine zc hK ⟨zb H 3, zb H 2, zb H 10, zb H 9, zb H 6, zb H 4, zb H 1⟩ fun hH => zn 9 rfl fun K hK => ?_
 go_simp
 refine (y7o (P := triP (z6 zB P1 P1) (z6 zB P2 P2) (z6 zB P3 P3)) _ (HT.out.below H.out.bel) (y11 (H.out.row 0 rfl)) (by omega) (trio_k V1.out V2.out V3.out)).mono ?_
 rintro e wc ⟨r61, rfl, hv, hb⟩
 replace H := zd H hb
 have HV61 := za hv
 refine zc hK ⟨zb H 3, zb H 2, zb H 10, zb H 9, zb H 6, zb H 4, zb H 1⟩ fun hH => ?_
 try simp only [Act.put, qa, qb, qc]
 refine zn 10 rfl fun K hK => ?_
 go_simp
 refine (z2l _ (HT.out.below H.out.bel) HV43.out HV61.out (E2.out)).mono ?_
 rintro e wc ⟨rfl, hb⟩
 replace H := zd H hb
 refine zc hK ⟨zb H 3, zb H 2, zb H 10, zb H 9, zb H 6, zb H 4, zb H 1⟩ fun hH => ?_
 refine zh 11 63 (.bool true) hH ?_
 refine zh 12 64 (.bool true) hH ?_
 refine zE 14 66 rfl rfl rfl hH rfl rfl (fun _ h => h.2.2.2.2.2.1) ?_
 refine zn 13 rfl fun K hK => ?_
 go_simp
 refine (y7o (G := fun _ _ => .bool false) (P := fun _ => z0v) _ (HT.out.below H.out.bel) (grid_nil14 _) (by omega) (fun i hi => by omega)).mono ?_
 rintro e wc ⟨r65, rfl, hv, hb⟩
 replace H := zd H hb
 have HV65 := za hv
 refine zc hK ⟨zb H 3, zb H 2, zb H 10, zb H 9, zb H 6, zb H 4, zb H 1⟩ fun hH => zn 15 rfl fun K hK => ?_
 go_simp
 refine (z2l _ (HT.out.below H.out.bel) HV65.out VI.out (decide_eq_true rfl)).mono ?_
 rintro e wc ⟨rfl, hb⟩
 replace H := zd H hb
 refine zc hK ⟨zb H 3, zb H 2, zb H 10, zb H 9, zb H 6, zb H 4, zb H 1⟩ fun hH => ?_
 try simp only [Act.put, qa, qb, qc]
 refine zh 16 68 (.bool true) hH ?_
 refine zh 17 69 (.bool true) hH ?_
 refine zE 18 70 rfl rfl rfl hH rfl rfl (fun _ h => h.2.2.1) ?_
 refine zE 19 71 rfl rfl rfl hH rfl rfl (fun _ h => h.2.2.1) ?_
 refine zE 21 73 rfl rfl rfl hH rfl rfl (fun _ h => h.2.2.2.2.2.1) ?_
 try simp only [Act.put, qa, qb, qc]
 refine zn 20 rfl fun K hK => ?_
 go_simp
 refine (y1i _ (HT.out.below H.out.bel) V1.out V1.out).mono ?_
 rintro e wc ⟨r72, rfl, hv, hb⟩
 replace H := zd H hb
 have HV72 := za hv
 refine zc hK ⟨zb H 3, zb H 2, zb H 10, zb H 9, zb H 6, zb H 4, zb H 1⟩ fun hH => zn 22 rfl fun K hK => ?_
 go_simp
 refine (z2l _ (HT.out.below H.out.bel) HV72.out VI.out (E4.out)).mono ?_
 rintro e wc ⟨rfl, hb⟩
 replace H := zd H hb
 refine zc hK ⟨zb H 3, zb H 2, zb H 10, zb H 9, zb H 6, zb H 4, zb H 1⟩ fun hH => ?_
 refine zh 23 75 (.bool true) hH ?_
 refine zh 24 76 (.bool true) hH ?_
 refine zE 25 77 rfl rfl rfl hH rfl rfl (fun _ h => h.2.2.2.2.2.2) ?_
 refine zE 26 78 rfl rfl rfl hH rfl rfl (fun _ h => h.2.2.1) ?_
 refine zE 28 80 rfl rfl rfl hH rfl rfl (fun _ h => h.2.2.2.2.2.1) ?_
 try simp only [Act.put, qa, qb, qc]
 refine zn 27 rfl fun K hK => ?_
 go_simp
 refine (z15 _ (HT.out.below H.out.bel) HV51.out V1.out).mono ?_
 rintro e wc ⟨r79, rfl, hv, hb⟩
 replace H := zd H hb
 have HV79 := za hv
 refine zc hK ⟨zb H 3, zb H 2, zb H 10, zb H 9, zb H 6, zb H 4, zb H 1⟩ fun hH => zn 29 rfl fun K hK => ?_
 go_simp
 refine (z2l _ (HT.out.below H.out.bel) HV79.out VI.out (E5.out)).mono ?_
 rintro e wc ⟨rfl, hb⟩
 replace H := zd H hb
 refine zc hK ⟨zb H 3, zb H 2, zb H 10, zb H 9, zb H 6, zb H 4, zb H 1⟩ fun hH => ?_
 refine zh 30 82 (.bool true) hH ?_
 refine zh 31 83 (.bool true) hH ?_
 refine zE 32 84 rfl rfl rfl hH rfl rfl (fun _ h => h.2.2.2.2.2.2) ?_
 refine zE 33 85 rfl rfl rfl hH rfl rfl (fun _ h => h.2.2.1) ?_
 refine zn 34 rfl fun K hK => ?_
 go_simp
 refine (y4c _ (HT.out.below H.out.bel) V1.out).mono ?_
 rintro e wc ⟨r86, rfl, hv, hb⟩
 replace H := zd H hb
 have HV86 := za hv
 refine zc hK ⟨zb H 3, zb H 2, zb H 10, zb H 9, zb H 6, zb H 4, zb H 1⟩ fun hH => ?_
 try simp only [Act.put, qa, qb, qc]
 refine zn 35 rfl fun K hK => ?_
 go_simp
 refine (z2l _ (HT.out.below H.out.bel) HV51.out HV86.out (E6.out)).mono ?_
 rintro e wc ⟨rfl, hb⟩
 replace H := zd H hb
 refine zc hK ⟨zb H 3, zb H 2, zb H 10, zb H 9, zb H 6, zb H 4, zb H 1⟩ fun hH => ?_
 refine zh 36 88 (.bool true) hH ?_
 refine zh 37 89 (.bool true) hH ?_
 refine zE 38 90 rfl rfl rfl hH rfl rfl (fun _ h => h.1) ?_
 refine zE 39 91 rfl rfl rfl hH rfl rfl (fun _ h => h.2.2.2.2.1) ?_
 refine zE 41 93 rfl rfl rfl hH rfl rfl (fun _ h => h.2.2.1) ?_
 try simp only [Act.put, qa, qb, qc]
 refine zE 42 94 rfl rfl rfl hH rfl rfl (fun _ h => h.2.2.2.1) ?_
 refine zn 40 rfl fun K hK => ?_
 go_simp
 refine (y1i _ (HT.out.below H.out.bel) HV43.out V3.out).mono ?_
 rintro e wc ⟨r92, rfl, hv, hb⟩
 replace H := zd H hb
 have HV92 := za hv
 refine zc hK ⟨zb H 3, zb H 2, zb H 10, zb H 9, zb H 6, zb H 4, zb H 1⟩ fun hH => zn 43 rfl fun K hK => ?_
 go_simp
 refine (z15 _ (HT.out.below H.out.bel) V1.out V2.out).mono ?_
 rintro e wc ⟨r95, rfl, hv, hb⟩
 replace H := zd H hb
 have HV95 := za hv
 refine zc hK ⟨zb H 3, zb H 2, zb H 10, zb H 9, zb H 6, zb H 4, zb H 1⟩ fun hH => ?_
 try simp only [Act.put, qa, qb, qc]
 refine zn 44 rfl fun K hK => ?_
 go_simp
 refine (z2l _ (HT.out.below H.out.bel) HV92.out HV95.out (E7.out)).mono ?_
 rintro e wc ⟨rfl, hb⟩
 replace H := zd H hb
 refine zc hK ⟨zb H 3, zb H 2, zb H 10, zb H 9, zb H 6, zb H 4, zb H 1⟩ fun hH => ?_
 refine zh 45 97 (.bool true) hH ?_
 refine zh 46 98 (.bool true) hH ?_
 refine zn 47 rfl fun K hK => ?_
 go_simp
 refine (z0o _ (HT.out.below H.out.bel)).mono ?_
 rintro e wc ⟨rfl, hb⟩
 replace H := zd H hb
 refine zc hK ⟨zb H 3, zb H 2, zb H 10, zb H 9, zb H 6, zb H 4, zb H 1⟩ fun hH => ?_
 refine zh 48 100 (.bool true) hH ?_
 refine zh 49 4 (.bool true) hH ?_
 refine zm ?_
 go_wp2_with fail
 go_ret
 exact ⟨rfl, H.out.bel⟩
theorem dgroup_walk {a1 a2 a3 : Option Addr} {n1 c1 x1 n2 c2 x2 n3 c3 x3 : Nat} {z1 z2 z3 : Int} (w : World) (hT : Tp w) (hs1 : Sb w w.heap.size a1 n1 c1 x1) (hs2 : Sb w w.heap.size a2 n2 c2 x2) (hl : Tl false w) (hs3 : Sb w w.heap.size a3 n3 c3 x3) :
  Calls Tryz.prog 7 #[.agg #[.slice a1 n1 c1, .int .i64 z1, .slice a2 n2 c2, .int .i64 z2], .agg #[.slice a3 n3 c3, .int .i64 z3]] w fun e w' => e = .returned (.bool true) ∧ Below w.heap.size w w' := by
 cases ok : (okS n1 z1 && okS n2 z2) with
 | false => exact dgroup_no1 w hT hs1 hs2 hl hs3 ok rfl
 | true =>
  cases ok3 : okS n3 z3 with
  | false => exact dgroup_no3 w hT hs1 hs2 hl hs3 ok ok3
  | true => exact dgroup_k w hT hs1 hs2 hl hs3 ok ok3
end Go.Proofs.YtgjbonikbmgfmaaGreatDoor
