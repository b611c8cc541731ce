/- Lemmas; no statement is proved here. -/
import Derived.Test.YtgjbonikbmgfmaaGreatDoorQA1
import Derived.Test.YtgjbonikbmgfmaaGreatDoorQAdemZDfLaw
import Derived.Test.YtgjbonikbmgfmaaGreatDoorQA
set_option maxRecDepth 8000
set_option maxHeartbeats 3200000
namespace Go.Proofs.YtgjbonikbmgfmaaGreatDoor
open Go.RowKit
theorem dadds_no {a1 a2 : Option Addr} {n1 c1 x1 n2 c2 x2 : Nat} {z1 z2 : Int} (w : World) (hT : Tp w) (hs1 : Sb w w.heap.size a1 n1 c1 x1) (hs2 : Sb w w.heap.size a2 n2 c2 x2) (q : Bool) (ok : (okS n1 z1 && okS n2 z2) = false) :
  Calls Tryz.prog 5 #[.agg #[.slice a1 n1 c1, .int .i64 z1, .slice a2 n2 c2, .int .i64 z2], .bool q] w fun e w' => e = .returned (.bool true) ∧ Below w.heap.size w w' := by
 have HS1 := za hs1
 have HS2 := za hs2
 have HO := za ok
 clear hs1 hs2 ok
 have HT := za hT
 clear hT
 have H := za (Ow.start w)
 go_enter Tryz.func5, Tryz.ntmps5
 go_wp2_with (first
  | ((with_reducible apply z0g H); (case hgd | ho | hx => exact rfl); clear H; intro _ _ H _ _; go_simp)
  | ((with_reducible apply z0t z4p ?hC H); (case hgd | ho | hx => exact rfl); (case hi => repeat first|exact z5|apply z8); (case hC => exact rfl); intro _ _; go_simp)
  | ((fail_if_success have := mk1); (with_reducible refine (z2h HO.out rfl rfl _ (HT.out.below H.out.bel) ((HS1.out.below H.out.bel).more H.out.bel.size) ((HS2.out.below H.out.bel).more H.out.bel.size)).mono ?_); rintro e wc ⟨F1, F2, r1, r2, P1, P2, rfl, hv, hu, hw, hx, hp, hq, hb⟩; replace H := zd H hb; have V1 := za hv; have V2 := za hu; have W1 := za hw; have W2 := za hx; have S1 := za hp; have S2 := za hq; have mk1 := trivial; clear hb hv hu hw hx hp hq)
  | ((with_reducible apply z0b zI H); (case hgd | ho => exact rfl); clear H; intro _ _ H _ _; go_simp)
  | ((with_reducible apply ze z0w H); (case hgd | ho => exact rfl); clear H; intro _ _ H _ _; go_simp)
  | ((fail_if_success have := ms1); (with_reducible apply z0a H); (case hgd | ho | hx | hy => exact rfl); (case hi => repeat first|exact z5|apply z8); (case h1 => exact V1.out); clear H; intro ws H _ _; simp only [qb, qc] at H; go_simp; have ms1 := trivial)
  | ((fail_if_success have := ms2); (with_reducible apply z0a H); (case hgd | ho | hx | hy => exact rfl); (case hi => repeat first|exact z5|apply z8); (case h1 => exact V2.out); clear H; intro ws H _ _; simp only [qb, qc] at H; go_simp; have ms2 := trivial)
  | ((with_reducible apply zj zD H); (case hgd | ho | hx | hy => exact rfl); (case hi => repeat first|exact z5|apply z8); clear H; intro ws H _ _; simp only [qb, qc] at H; go_simp)
  | ((with_reducible refine (z0o _ (HT.out.below H.out.bel)).mono ?_); rintro e wc ⟨rfl, hb⟩; replace H := zd H hb; clear hb))
 go_ret
 exact ⟨rfl, H.out.bel⟩
theorem dadds_k {a1 a2 : Option Addr} {n1 c1 x1 n2 c2 x2 : Nat} {z1 z2 : Int} (w : World) (hT : Tp w) (hs1 : Sb w w.heap.size a1 n1 c1 x1) (hs2 : Sb w w.heap.size a2 n2 c2 x2) (q : Bool) (ok : (okS n1 z1 && okS n2 z2) = true) :
  Calls Tryz.prog 5 #[.agg #[.slice a1 n1 c1, .int .i64 z1, .slice a2 n2 c2, .int .i64 z2], .bool q] w fun e w' => e = .returned (.bool true) ∧ Below w.heap.size w w' := by
 have HS1 := za hs1
 have HS2 := za hs2
 have HO := za ok
 clear hs1 hs2 ok
 have HT := za hT
 clear hT
 have H := za (Ow.start w)
 go_enter Tryz.func5, Tryz.ntmps5
 go_upto_region 4 with (first
  | ((fail_if_success have := g2); (with_reducible apply z0g H); (case hgd | ho | hx => exact rfl); clear H; intro w2 g2 H _ _; go_simp)
  | ((with_reducible apply z0t z4p ?hC H); (case hgd | ho | hx => exact rfl); (case hi => repeat first|exact z5|apply z8); (case hC => exact rfl); intro _ _; go_simp)
  | ((fail_if_success have := mk1); (with_reducible refine (z2h HO.out rfl rfl _ (HT.out.below H.out.bel) ((HS1.out.below H.out.bel).more H.out.bel.size) ((HS2.out.below H.out.bel).more H.out.bel.size)).mono ?_); rintro e wc ⟨F1, F2, r1, r2, P1, P2, rfl, hv, hu, hw, hx, hp, hq, hb⟩; replace H := zd H hb; have V1 := za hv; have V2 := za hu; have W1 := za hw; have W2 := za hx; have S1 := za hp; have S2 := za hq; have mk1 := trivial; clear hb hv hu hw hx hp hq)
  | ((fail_if_success have := g5); (with_reducible apply z0b zI H); (case hgd | ho => exact rfl); clear H; intro w5 g5 H _ _; go_simp)
  | ((fail_if_success have := g6); (with_reducible apply z0b zI H); (case hgd | ho => exact rfl); clear H; intro w6 g6 H _ _; go_simp)
  | ((fail_if_success have := g7); (with_reducible apply ze z0w H); (case hgd | ho => exact rfl); clear H; intro w7 g7 H _ _; go_simp)
  | ((fail_if_success have := g8); (with_reducible apply ze z0w H); (case hgd | ho => exact rfl); clear H; intro w8 g8 H _ _; go_simp)
  | ((fail_if_success have := ms1); (with_reducible apply z0a H); (case hgd | ho | hx | hy => exact rfl); (case hi => repeat first|exact z5|apply z8); (case h1 => exact V1.out); clear H; intro ws H _ _; simp only [qb, qc] at H; go_simp; have ms1 := trivial)
  | ((fail_if_success have := ms2); (with_reducible apply z0a H); (case hgd | ho | hx | hy => exact rfl); (case hi => repeat first|exact z5|apply z8); (case h1 => exact V2.out); clear H; intro ws H _ _; simp only [qb, qc] at H; go_simp; have ms2 := trivial)
  | ((with_reducible apply zj zD H); (case hgd | ho | hx | hy => exact rfl); (case hi => repeat first|exact z5|apply z8); clear H; intro ws H _ _; simp only [qb, qc] at H; go_simp))
 clear mk1 ms1 ms2
 obtain ⟨e, he⟩ : ∃ e : Bool, e = true ↔ Els2 (z6 zB P1 P1) (z6 zB P2 P2) := by
  by_cases h : Els2 (z6 zB P1 P1) (z6 zB P2 P2)
  ·exact ⟨true, fun _ => h, fun _ => rfl⟩
  ·exact ⟨false, (fun k => by cases k), fun k => absurd k h⟩
 have HE1 := za (z5e he)
 have HE2 : Hid (decide ((z6 zB P1 P1).x * (z6 zB P2 P2).y = (z6 zB P1 P1).y * (z6 zB P2 P2).x) = e) := za (by
  cases e with
  | true => exact decide_eq_true ((y12 _ _).2 (he.1 rfl))
  | false => exact decide_eq_false fun k => Bool.noConfusion (he.2 ((y12 _ _).1 k)))
 have HE3 : Hid (decide ((encK (z6 zB P1 P1)).val = (encK (z6 zB P2 P2)).val) = e) := za (by
  cases e with
  | true => exact decide_eq_true (congrArg Fin.val ((y6f P1 P2).2 (he.1 rfl)))
  | false => exact decide_eq_false fun k => Bool.noConfusion (he.2 ((y6f P1 P2).1 (Fin.ext k))))
 clear he
 go_upto_region 5 with (first
  | ((with_reducible apply zr zD H); (case hgd | ho | hx => exact rfl); (case hi => repeat first|exact z5|apply z8); intro _ _; go_simp)
  | ((fail_if_success have := mke); (with_reducible refine (refEq14_k _ W1.out W2.out HE2.out).mono ?_); rintro e wc ⟨rfl, hb⟩; replace H := zd H hb; clear hb; have mke := trivial))
 clear mke HE2
 go_cut [40] from 27 to 39 (fun v40 wx => v40 = .bool false ∧ Ow w wx [(g8, zv 38 .i64 48 (r2)), (g7, zv 38 .i64 48 (r1)), (g6, Cs 34 (AV 25 F2)), (g5, Cs 34 (AV 25 F1)), (g2, Cs 58 #[.slice a1 n1 c1, .int .i64 z1, .slice a2 n2 c2, .int .i64 z2])])
 case first =>
  go_wp2_with fail
  cases e with
  | false =>
   refine wp_region_noPanic ?_
   refine wp_region_held_drew (S := fun W => W.heap[g5]? = some (Cs 34 (AV 25 F1)) ∧ W.heap[g6]? = some (Cs 34 (AV 25 F2))) (by kernel_rfl) (⟨H.out.drew.row 3 rfl, H.out.drew.row 2 rfl⟩) (fun hH => ?_)
   replace H := za H.out.drew
   generalize World.drew _ = w8 at *
   refine zE 0 27 rfl rfl rfl hH rfl rfl (fun _ h => h.1) ?_
   refine zE 1 28 rfl rfl rfl hH rfl rfl (fun _ h => h.2) ?_
   refine zh 3 30 (.bool false) hH ?_
   refine zn 2 rfl fun K hK => ?_
   go_simp
   refine (z2l _ (HT.out.below H.out.bel) V1.out V2.out (HE1.out)).mono ?_
   rintro e wc ⟨rfl, hb⟩
   replace H := zd H hb
   refine zc hK ⟨zb H 3, zb H 2⟩ fun hH => ?_
   refine zh 4 31 (.bool false) hH ?_
   refine zh 5 32 (.bool false) hH ?_
   refine zE 6 33 rfl rfl rfl hH rfl rfl (fun _ h => h.1) ?_
   refine zE 8 35 rfl rfl rfl hH rfl rfl (fun _ h => h.2) ?_
   refine zh 11 38 (.bool false) hH ?_
   refine zn 7 rfl fun K hK => ?_
   go_simp
   refine (z4f _ (HT.out.below H.out.bel) V1.out).mono ?_
   rintro e wc ⟨ge34, ce34, rfl, hs, hb⟩
   replace H := zd H hb
   have SE34 := za hs
   refine zc hK ⟨zb H 3, zb H 2⟩ fun hH => zn 9 rfl fun K hK => ?_
   go_simp
   refine (z4f _ (HT.out.below H.out.bel) V2.out).mono ?_
   rintro e wc ⟨ge36, ce36, rfl, hs, hb⟩
   replace SE34 := za (SE34.out.call hb)
   replace H := zd H hb
   have SE36 := za hs
   refine zc hK ⟨zb H 3, zb H 2⟩ fun hH => zn 10 rfl fun K hK => ?_
   go_simp
   refine (z5h (b := false) (HE3.out) _ SE34.out SE36.out).mono ?_
   rintro e wc ⟨rfl, hb⟩
   replace SE34 := za (SE34.out.call hb)
   replace SE36 := za (SE36.out.call hb)
   replace H := zd H hb
   refine zc hK ⟨zb H 3, zb H 2⟩ fun hH => ?_
   try simp only [Act.put, qa, qb, qc]
   refine zh 12 39 (.bool false) hH ?_
   refine zh 13 40 (.bool false) hH ?_
   refine zm ?_
   go_wp2_with fail
   go_meet
   exact ⟨rfl, H.out⟩
  | true =>
   refine wp_region_noPanic ?_
   refine wp_region_held_drew (S := fun W => W.heap[g5]? = some (Cs 34 (AV 25 F1)) ∧ W.heap[g6]? = some (Cs 34 (AV 25 F2))) (by kernel_rfl) (⟨H.out.drew.row 3 rfl, H.out.drew.row 2 rfl⟩) (fun hH => ?_)
   replace H := za H.out.drew
   generalize World.drew _ = w8 at *
   refine zE 0 27 rfl rfl rfl hH rfl rfl (fun _ h => h.1) ?_
   refine zE 1 28 rfl rfl rfl hH rfl rfl (fun _ h => h.2) ?_
   refine zh 3 30 (.bool true) hH ?_
   refine zn 2 rfl fun K hK => ?_
   go_simp
   refine (z2l _ (HT.out.below H.out.bel) V1.out V2.out (HE1.out)).mono ?_
   rintro e wc ⟨rfl, hb⟩
   replace H := zd H hb
   refine zc hK ⟨zb H 3, zb H 2⟩ fun hH => ?_
   refine zh 4 31 (.bool false) hH ?_
   refine zh 5 32 (.bool false) hH ?_
   refine zE 6 33 rfl rfl rfl hH rfl rfl (fun _ h => h.1) ?_
   refine zE 8 35 rfl rfl rfl hH rfl rfl (fun _ h => h.2) ?_
   refine zh 11 38 (.bool true) hH ?_
   refine zn 7 rfl fun K hK => ?_
   go_simp
   refine (z4f _ (HT.out.below H.out.bel) V1.out).mono ?_
   rintro e wc ⟨ge34, ce34, rfl, hs, hb⟩
   replace H := zd H hb
   have SE34 := za hs
   refine zc hK ⟨zb H 3, zb H 2⟩ fun hH => zn 9 rfl fun K hK => ?_
   go_simp
   refine (z4f _ (HT.out.below H.out.bel) V2.out).mono ?_
   rintro e wc ⟨ge36, ce36, rfl, hs, hb⟩
   replace SE34 := za (SE34.out.call hb)
   replace H := zd H hb
   have SE36 := za hs
   refine zc hK ⟨zb H 3, zb H 2⟩ fun hH => zn 10 rfl fun K hK => ?_
   go_simp
   refine (z5h (b := true) (HE3.out) _ SE34.out SE36.out).mono ?_
   rintro e wc ⟨rfl, hb⟩
   replace SE34 := za (SE34.out.call hb)
   replace SE36 := za (SE36.out.call hb)
   replace H := zd H hb
   refine zc hK ⟨zb H 3, zb H 2⟩ fun hH => ?_
   try simp only [Act.put, qa, qb, qc]
   refine zh 12 39 (.bool false) hH ?_
   refine zh 13 40 (.bool false) hH ?_
   refine zm ?_
   go_wp2_with fail
   go_meet
   exact ⟨rfl, H.out⟩
 clear H HE1 HE3
 obtain ⟨rfl, HRR⟩ := hcut
 have H := za HRR
 clear HRR
 cases q with
 | false =>
  go_upto_region 12 with (first
   | ((with_reducible apply z1i H); (case hgd | ho | hx => exact rfl); (case hi => repeat first|exact z5|apply z8); intro _ _; go_simp)
   | ((fail_if_success have := VA); (with_reducible refine (z7x 0 _ (HT.out.below H.out.bel) V1.out V2.out (R := (z6 zB P1 P1)) rfl).mono ?_); rintro e wc ⟨kA, rfl, hv, hb⟩; replace H := zd H hb; clear hb; have VA := za hv; clear hv)
   | ((fail_if_success have := g11); (with_reducible apply z0b zI H); (case hgd | ho => exact rfl); clear H; intro w11 g11 H _ _; go_simp)
   | ((fail_if_success have := ms1); (with_reducible apply z0a H); (case hgd | ho | hx | hy => exact rfl); (case hi => repeat first|exact z5|apply z8); (case h1 => exact VA.out); clear H; intro ws H _ _; simp only [qb] at H; go_simp; have ms1 := trivial)
   | ((with_reducible apply zr zD H); (case hgd | ho | hx => exact rfl); (case hi => repeat first|exact z5|apply z8); intro _ _; go_simp)
   | ((fail_if_success have := g12); (with_reducible apply ze z0w H); (case hgd | ho => exact rfl); clear H; intro w12 g12 H _ _; go_simp)
   | ((with_reducible apply zj zD H); (case hgd | ho | hx | hy => exact rfl); (case hi => repeat first|exact z5|apply z8); clear H; intro ws H _ _; simp only [qb] at H; go_simp))
  clear ms1
  refine wp_region_noPanic ?_
  refine wp_region_held_drew (S := fun W => W.heap[g11]? = some (Cs 34 (AV 25 kA)) ∧ W.heap[g12]? = some (zv 38 .i64 48 (r1)) ∧ W.heap[g5]? = some (Cs 34 (AV 25 F1)) ∧ W.heap[g6]? = some (Cs 34 (AV 25 F2)) ∧ W.heap[g7]? = some (zv 38 .i64 48 (r1)) ∧ W.heap[g8]? = some (zv 38 .i64 48 (r2))) (by kernel_rfl) (⟨H.out.drew.row 1 rfl, H.out.drew.row 0 rfl, H.out.drew.row 5 rfl, H.out.drew.row 4 rfl, H.out.drew.row 3 rfl, H.out.drew.row 2 rfl⟩) (fun hH => ?_)
  replace H := za H.out.drew
  generalize World.drew _ = w8 at *
  refine zE 0 50 rfl rfl rfl hH rfl rfl (fun _ h => h.1) ?_
  refine zk 1 51 zD rfl rfl rfl hH rfl rfl (fun _ h => h.2.1) ?_
  refine zn 2 rfl fun K hK => ?_
  go_simp
  refine (z10 _ (HT.out.below H.out.bel) VA.out W1.out (decide_eq_true rfl)).mono ?_
  rintro e wc ⟨rfl, hb⟩
  replace H := zd H hb
  refine zc hK ⟨zb H 1, zb H 0, zb H 5, zb H 4, zb H 3, zb H 2⟩ fun hH => ?_
  try simp only [Act.put, qa, qb, qc]
  refine zh 3 53 (.bool true) hH ?_
  refine zE 4 54 rfl rfl rfl hH rfl rfl (fun _ h => h.2.2.1) ?_
  refine zE 5 55 rfl rfl rfl hH rfl rfl (fun _ h => h.2.2.2.1) ?_
  refine zk 7 57 zD rfl rfl rfl hH rfl rfl (fun _ h => h.2.2.2.2.1) ?_
  try simp only [Act.put, qa, qb, qc]
  refine zk 8 58 zD rfl rfl rfl hH rfl rfl (fun _ h => h.2.2.2.2.2) ?_
  refine zn 6 rfl fun K hK => ?_
  go_simp
  refine (z15 _ (HT.out.below H.out.bel) V1.out V2.out).mono ?_
  rintro e wc ⟨r56, rfl, hv, hb⟩
  replace H := zd H hb
  have HV56 := za hv
  refine zc hK ⟨zb H 1, zb H 0, zb H 5, zb H 4, zb H 3, zb H 2⟩ fun hH => zn 9 rfl fun K hK => ?_
  go_simp
  refine (z1b _ W1.out W2.out).mono ?_
  rintro e wc ⟨r59, rfl, hv, hb⟩
  replace H := zd H hb
  have HV59 := za hv
  refine zc hK ⟨zb H 1, zb H 0, zb H 5, zb H 4, zb H 3, zb H 2⟩ fun hH => ?_
  try simp only [Act.put, qa, qb, qc]
  refine zn 10 rfl fun K hK => ?_
  go_simp
  refine (z10 _ (HT.out.below H.out.bel) HV56.out HV59.out (decide_eq_true rfl)).mono ?_
  rintro e wc ⟨rfl, hb⟩
  replace H := zd H hb
  refine zc hK ⟨zb H 1, zb H 0, zb H 5, zb H 4, zb H 3, zb H 2⟩ fun hH => ?_
  refine zh 11 61 (.bool true) hH ?_
  refine zh 12 62 (.bool true) hH ?_
  refine zE 13 63 rfl rfl rfl hH rfl rfl (fun _ h => h.2.2.1) ?_
  refine zE 14 64 rfl rfl rfl hH rfl rfl (fun _ h => h.2.2.2.1) ?_
  refine zk 16 66 zD rfl rfl rfl hH rfl rfl (fun _ h => h.2.2.2.2.1) ?_
  try simp only [Act.put, qa, qb, qc]
  refine zk 17 67 zD rfl rfl rfl hH rfl rfl (fun _ h => h.2.2.2.2.2) ?_
  refine zn 15 rfl fun K hK => ?_
  go_simp
  refine (y1i _ (HT.out.below H.out.bel) V1.out V2.out).mono ?_
  rintro e wc ⟨r65, rfl, hv, hb⟩
  replace H := zd H hb
  have HV65 := za hv
  refine zc hK ⟨zb H 1, zb H 0, zb H 5, zb H 4, zb H 3, zb H 2⟩ fun hH => zn 18 rfl fun K hK => ?_
  go_simp
  refine (z58 _ W2.out).mono ?_
  rintro e wc ⟨r68, rfl, hv, hb⟩
  replace H := zd H hb
  have HV68 := za hv
  refine zc hK ⟨zb H 1, zb H 0, zb H 5, zb H 4, zb H 3, zb H 2⟩ fun hH => ?_
  try simp only [Act.put, qa, qb, qc]
  refine zn 19 rfl fun K hK => ?_
  go_simp
  refine (z1b _ W1.out HV68.out).mono ?_
  rintro e wc ⟨r69, rfl, hv, hb⟩
  replace H := zd H hb
  have HV69 := za hv
  refine zc hK ⟨zb H 1, zb H 0, zb H 5, zb H 4, zb H 3, zb H 2⟩ fun hH => zn 20 rfl fun K hK => ?_
  go_simp
  refine (z10 _ (HT.out.below H.out.bel) HV65.out HV69.out (decide_eq_true rfl)).mono ?_
  rintro e wc ⟨rfl, hb⟩
  replace H := zd H hb
  refine zc hK ⟨zb H 1, zb H 0, zb H 5, zb H 4, zb H 3, zb H 2⟩ fun hH => ?_
  refine zh 21 71 (.bool true) hH ?_
  refine zh 22 72 (.bool true) hH ?_
  refine zE 23 73 rfl rfl rfl hH rfl rfl (fun _ h => h.2.2.1) ?_
  refine zk 25 75 zD rfl rfl rfl hH rfl rfl (fun _ h => h.2.2.2.2.1) ?_
  refine zn 24 rfl fun K hK => ?_
  go_simp
  refine (y4c _ (HT.out.below H.out.bel) V1.out).mono ?_
  rintro e wc ⟨r74, rfl, hv, hb⟩
  replace H := zd H hb
  have HV74 := za hv
  refine zc hK ⟨zb H 1, zb H 0, zb H 5, zb H 4, zb H 3, zb H 2⟩ fun hH => ?_
  try simp only [Act.put, qa, qb, qc]
  refine zn 26 rfl fun K hK => ?_
  go_simp
  refine (z58 _ W1.out).mono ?_
  rintro e wc ⟨r76, rfl, hv, hb⟩
  replace H := zd H hb
  have HV76 := za hv
  refine zc hK ⟨zb H 1, zb H 0, zb H 5, zb H 4, zb H 3, zb H 2⟩ fun hH => zn 27 rfl fun K hK => ?_
  go_simp
  refine (z10 _ (HT.out.below H.out.bel) HV74.out HV76.out (decide_eq_true rfl)).mono ?_
  rintro e wc ⟨rfl, hb⟩
  replace H := zd H hb
  refine zc hK ⟨zb H 1, zb H 0, zb H 5, zb H 4, zb H 3, zb H 2⟩ fun hH => ?_
  refine zh 28 78 (.bool true) hH ?_
  refine zh 29 79 (.bool true) hH ?_
  refine zE 30 80 rfl rfl rfl hH rfl rfl (fun _ h => h.2.2.1) ?_
  refine zk 32 82 zD rfl rfl rfl hH rfl rfl (fun _ h => h.2.2.2.2.1) ?_
  refine zk 33 83 zD rfl rfl rfl hH rfl rfl (fun _ h => h.2.2.2.2.1) ?_
  try simp only [Act.put, qa, qb, qc]
  refine zn 31 rfl fun K hK => ?_
  go_simp
  refine (z6m _ (HT.out.below H.out.bel) V1.out).mono ?_
  rintro e wc ⟨r81, rfl, hv, hb⟩
  replace H := zd H hb
  have HV81 := za hv
  refine zc hK ⟨zb H 1, zb H 0, zb H 5, zb H 4, zb H 3, zb H 2⟩ fun hH => zn 34 rfl fun K hK => ?_
  go_simp
  refine (z1b _ W1.out W1.out).mono ?_
  rintro e wc ⟨r84, rfl, hv, hb⟩
  replace H := zd H hb
  have HV84 := za hv
  refine zc hK ⟨zb H 1, zb H 0, zb H 5, zb H 4, zb H 3, zb H 2⟩ fun hH => zn 35 rfl fun K hK => ?_
  go_simp
  refine (z10 _ (HT.out.below H.out.bel) HV81.out HV84.out (decide_eq_true rfl)).mono ?_
  rintro e wc ⟨rfl, hb⟩
  replace H := zd H hb
  refine zc hK ⟨zb H 1, zb H 0, zb H 5, zb H 4, zb H 3, zb H 2⟩ fun hH => ?_
  try simp only [Act.put, qa, qb, qc]
  refine zh 36 86 (.bool true) hH ?_
  refine zh 37 87 (.bool true) hH ?_
  refine zn 38 rfl fun K hK => ?_
  go_simp
  refine (z0o _ (HT.out.below H.out.bel)).mono ?_
  rintro e wc ⟨rfl, hb⟩
  replace H := zd H hb
  refine zc hK ⟨zb H 1, zb H 0, zb H 5, zb H 4, zb H 3, zb H 2⟩ fun hH => ?_
  refine zh 39 89 (.bool true) hH ?_
  refine zh 40 4 (.bool true) hH ?_
  refine zm ?_
  go_wp2_with fail
  go_ret
  exact ⟨rfl, H.out.bel⟩
 | true =>
  go_upto_region 12 with (first
   | ((with_reducible apply z1i H); (case hgd | ho | hx => exact rfl); (case hi => repeat first|exact z5|apply z8); intro _ _; go_simp)
   | ((fail_if_success have := VA); (with_reducible refine (z7x 0 _ (HT.out.below H.out.bel) V1.out V2.out (R := (z6 zB P1 P1)) rfl).mono ?_); rintro e wc ⟨kA, rfl, hv, hb⟩; replace H := zd H hb; clear hb; have VA := za hv; clear hv)
   | ((fail_if_success have := g11); (with_reducible apply z0b zI H); (case hgd | ho => exact rfl); clear H; intro w11 g11 H _ _; go_simp)
   | ((fail_if_success have := ms1); (with_reducible apply z0a H); (case hgd | ho | hx | hy => exact rfl); (case hi => repeat first|exact z5|apply z8); (case h1 => exact VA.out); clear H; intro ws H _ _; simp only [qb] at H; go_simp; have ms1 := trivial)
   | ((with_reducible apply zr zD H); (case hgd | ho | hx => exact rfl); (case hi => repeat first|exact z5|apply z8); intro _ _; go_simp)
   | ((fail_if_success have := g12); (with_reducible apply ze z0w H); (case hgd | ho => exact rfl); clear H; intro w12 g12 H _ _; go_simp)
   | ((with_reducible apply zj zD H); (case hgd | ho | hx | hy => exact rfl); (case hi => repeat first|exact z5|apply z8); clear H; intro ws H _ _; simp only [qb] at H; go_simp)
   | ((fail_if_success have := VB); (with_reducible refine (z7x 1 _ (HT.out.below H.out.bel) V1.out V2.out (R := (z6 zB P2 P2)) rfl).mono ?_); rintro e wc ⟨kB, rfl, hv, hb⟩; replace H := zd H hb; clear hb; have VB := za hv; clear hv)
   | ((with_reducible apply z0a H); (case hgd | ho | hx | hy => exact rfl); (case hi => repeat first|exact z5|apply z8); (case h1 => exact VB.out); clear H; intro ws H _ _; simp only [qb, qc] at H; go_simp))
  clear ms1
  refine wp_region_noPanic ?_
  refine wp_region_held_drew (S := fun W => W.heap[g11]? = some (Cs 34 (AV 25 kB)) ∧ W.heap[g12]? = some (zv 38 .i64 48 (r2)) ∧ W.heap[g5]? = some (Cs 34 (AV 25 F1)) ∧ W.heap[g6]? = some (Cs 34 (AV 25 F2)) ∧ W.heap[g7]? = some (zv 38 .i64 48 (r1)) ∧ W.heap[g8]? = some (zv 38 .i64 48 (r2))) (by kernel_rfl) (⟨H.out.drew.row 1 rfl, H.out.drew.row 0 rfl, H.out.drew.row 5 rfl, H.out.drew.row 4 rfl, H.out.drew.row 3 rfl, H.out.drew.row 2 rfl⟩) (fun hH => ?_)
  replace H := za H.out.drew
  generalize World.drew _ = w8 at *
  refine zE 0 50 rfl rfl rfl hH rfl rfl (fun _ h => h.1) ?_
  refine zk 1 51 zD rfl rfl rfl hH rfl rfl (fun _ h => h.2.1) ?_
  refine zn 2 rfl fun K hK => ?_
  go_simp
  refine (z10 _ (HT.out.below H.out.bel) VB.out W2.out (decide_eq_true rfl)).mono ?_
  rintro e wc ⟨rfl, hb⟩
  replace H := zd H hb
  refine zc hK ⟨zb H 1, zb H 0, zb H 5, zb H 4, zb H 3, zb H 2⟩ fun hH => ?_
  try simp only [Act.put, qa, qb, qc]
  refine zh 3 53 (.bool true) hH ?_
  refine zE 4 54 rfl rfl rfl hH rfl rfl (fun _ h => h.2.2.1) ?_
  refine zE 5 55 rfl rfl rfl hH rfl rfl (fun _ h => h.2.2.2.1) ?_
  refine zk 7 57 zD rfl rfl rfl hH rfl rfl (fun _ h => h.2.2.2.2.1) ?_
  try simp only [Act.put, qa, qb, qc]
  refine zk 8 58 zD rfl rfl rfl hH rfl rfl (fun _ h => h.2.2.2.2.2) ?_
  refine zn 6 rfl fun K hK => ?_
  go_simp
  refine (z15 _ (HT.out.below H.out.bel) V1.out V2.out).mono ?_
  rintro e wc ⟨r56, rfl, hv, hb⟩
  replace H := zd H hb
  have HV56 := za hv
  refine zc hK ⟨zb H 1, zb H 0, zb H 5, zb H 4, zb H 3, zb H 2⟩ fun hH => zn 9 rfl fun K hK => ?_
  go_simp
  refine (z1b _ W1.out W2.out).mono ?_
  rintro e wc ⟨r59, rfl, hv, hb⟩
  replace H := zd H hb
  have HV59 := za hv
  refine zc hK ⟨zb H 1, zb H 0, zb H 5, zb H 4, zb H 3, zb H 2⟩ fun hH => ?_
  try simp only [Act.put, qa, qb, qc]
  refine zn 10 rfl fun K hK => ?_
  go_simp
  refine (z10 _ (HT.out.below H.out.bel) HV56.out HV59.out (decide_eq_true rfl)).mono ?_
  rintro e wc ⟨rfl, hb⟩
  replace H := zd H hb
  refine zc hK ⟨zb H 1, zb H 0, zb H 5, zb H 4, zb H 3, zb H 2⟩ fun hH => ?_
  refine zh 11 61 (.bool true) hH ?_
  refine zh 12 62 (.bool true) hH ?_
  refine zE 13 63 rfl rfl rfl hH rfl rfl (fun _ h => h.2.2.1) ?_
  refine zE 14 64 rfl rfl rfl hH rfl rfl (fun _ h => h.2.2.2.1) ?_
  refine zk 16 66 zD rfl rfl rfl hH rfl rfl (fun _ h => h.2.2.2.2.1) ?_
  try simp only [Act.put, qa, qb, qc]
  refine zk 17 67 zD rfl rfl rfl hH rfl rfl (fun _ h => h.2.2.2.2.2) ?_
  refine zn 15 rfl fun K hK => ?_
  go_simp
  refine (y1i _ (HT.out.below H.out.bel) V1.out V2.out).mono ?_
  rintro e wc ⟨r65, rfl, hv, hb⟩
  replace H := zd H hb
  have HV65 := za hv
  refine zc hK ⟨zb H 1, zb H 0, zb H 5, zb H 4, zb H 3, zb H 2⟩ fun hH => zn 18 rfl fun K hK => ?_
  go_simp
  refine (z58 _ W2.out).mono ?_
  rintro e wc ⟨r68, rfl, hv, hb⟩
  replace H := zd H hb
  have HV68 := za hv
  refine zc hK ⟨zb H 1, zb H 0, zb H 5, zb H 4, zb H 3, zb H 2⟩ fun hH => ?_
  try simp only [Act.put, qa, qb, qc]
  refine zn 19 rfl fun K hK => ?_
  go_simp
  refine (z1b _ W1.out HV68.out).mono ?_
  rintro e wc ⟨r69, rfl, hv, hb⟩
  replace H := zd H hb
  have HV69 := za hv
  refine zc hK ⟨zb H 1, zb H 0, zb H 5, zb H 4, zb H 3, zb H 2⟩ fun hH => zn 20 rfl fun K hK => ?_
  go_simp
  refine (z10 _ (HT.out.below H.out.bel) HV65.out HV69.out (decide_eq_true rfl)).mono ?_
  rintro e wc ⟨rfl, hb⟩
  replace H := zd H hb
  refine zc hK ⟨zb H 1, zb H 0, zb H 5, zb H 4, zb H 3, zb H 2⟩ fun hH => ?_
  refine zh 21 71 (.bool true) hH ?_
  refine zh 22 72 (.bool true) hH ?_
  refine zE 23 73 rfl rfl rfl hH rfl rfl (fun _ h => h.2.2.1) ?_
  refine zk 25 75 zD rfl rfl rfl hH rfl rfl (fun _ h => h.2.2.2.2.1) ?_
  refine zn 24 rfl fun K hK => ?_
  go_simp
  refine (y4c _ (HT.out.below H.out.bel) V1.out).mono ?_
  rintro e wc ⟨r74, rfl, hv, hb⟩
  replace H := zd H hb
  have HV74 := za hv
  refine zc hK ⟨zb H 1, zb H 0, zb H 5, zb H 4, zb H 3, zb H 2⟩ fun hH => ?_
  try simp only [Act.put, qa, qb, qc]
  refine zn 26 rfl fun K hK => ?_
  go_simp
  refine (z58 _ W1.out).mono ?_
  rintro e wc ⟨r76, rfl, hv, hb⟩
  replace H := zd H hb
  have HV76 := za hv
  refine zc hK ⟨zb H 1, zb H 0, zb H 5, zb H 4, zb H 3, zb H 2⟩ fun hH => zn 27 rfl fun K hK => ?_
  go_simp
  refine (z10 _ (HT.out.below H.out.bel) HV74.out HV76.out (decide_eq_true rfl)).mono ?_
  rintro e wc ⟨rfl, hb⟩
  replace H := zd H hb
  refine zc hK ⟨zb H 1, zb H 0, zb H 5, zb H 4, zb H 3, zb H 2⟩ fun hH => ?_
  refine zh 28 78 (.bool true) hH ?_
  refine zh 29 79 (.bool true) hH ?_
  refine zE 30 80 rfl rfl rfl hH rfl rfl (fun _ h => h.2.2.1) ?_
  refine zk 32 82 zD rfl rfl rfl hH rfl rfl (fun _ h => h.2.2.2.2.1) ?_
  refine zk 33 83 zD rfl rfl rfl hH rfl rfl (fun _ h => h.2.2.2.2.1) ?_
  try simp only [Act.put, qa, qb, qc]
  refine zn 31 rfl fun K hK => ?_
  go_simp
  refine (z6m _ (HT.out.below H.out.bel) V1.out).mono ?_
  rintro e wc ⟨r81, rfl, hv, hb⟩
  replace H := zd H hb
  have HV81 := za hv
  refine zc hK ⟨zb H 1, zb H 0, zb H 5, zb H 4, zb H 3, zb H 2⟩ fun hH => zn 34 rfl fun K hK => ?_
  go_simp
  refine (z1b _ W1.out W1.out).mono ?_
  rintro e wc ⟨r84, rfl, hv, hb⟩
  replace H := zd H hb
  have HV84 := za hv
  refine zc hK ⟨zb H 1, zb H 0, zb H 5, zb H 4, zb H 3, zb H 2⟩ fun hH => zn 35 rfl fun K hK => ?_
  go_simp
  refine (z10 _ (HT.out.below H.out.bel) HV81.out HV84.out (decide_eq_true rfl)).mono ?_
  rintro e wc ⟨rfl, hb⟩
  replace H := zd H hb
  refine zc hK ⟨zb H 1, zb H 0, zb H 5, zb H 4, zb H 3, zb H 2⟩ fun hH => ?_
  try simp only [Act.put, qa, qb, qc]
  refine zh 36 86 (.bool true) hH ?_
  refine zh 37 87 (.bool true) hH ?_
  refine zn 38 rfl fun K hK => ?_
  go_simp
  refine (z0o _ (HT.out.below H.out.bel)).mono ?_
  rintro e wc ⟨rfl, hb⟩
  replace H := zd H hb
  refine zc hK ⟨zb H 1, zb H 0, zb H 5, zb H 4, zb H 3, zb H 2⟩ fun hH => ?_
  refine zh 39 89 (.bool true) hH ?_
  refine zh 40 4 (.bool true) hH ?_
  refine zm ?_
  go_wp2_with fail
  go_ret
  exact ⟨rfl, H.out.bel⟩
theorem dadds_walk {a1 a2 : Option Addr} {n1 c1 x1 n2 c2 x2 : Nat} {z1 z2 : Int} (w : World) (hT : Tp w) (hs1 : Sb w w.heap.size a1 n1 c1 x1) (hs2 : Sb w w.heap.size a2 n2 c2 x2) (q : Bool) :
  Calls Tryz.prog 5 #[.agg #[.slice a1 n1 c1, .int .i64 z1, .slice a2 n2 c2, .int .i64 z2], .bool q] w fun e w' => e = .returned (.bool true) ∧ Below w.heap.size w w' := by
 cases ok : (okS n1 z1 && okS n2 z2) with
 | false => exact dadds_no w hT hs1 hs2 q ok
 | true => exact dadds_k w hT hs1 hs2 q ok
end Go.Proofs.YtgjbonikbmgfmaaGreatDoor
