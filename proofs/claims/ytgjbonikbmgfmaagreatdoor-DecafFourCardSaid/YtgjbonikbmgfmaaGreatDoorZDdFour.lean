/- Lemmas; no statement is proved here. -/
import Derived.Test.YtgjbonikbmgfmaaGreatDoorQF1
import Derived.Test.YtgjbonikbmgfmaaGreatDoorQA
set_option maxRecDepth 8000
set_option maxHeartbeats 3200000
namespace Go.Proofs.YtgjbonikbmgfmaaGreatDoor
open Go.RowKit
theorem dfour_no1 {a1 a2 : Option Addr} {n1 c1 x1 n2 c2 x2 : Nat} {z1 z2 : Int} (w : World) (hT : Tp w) (hs1 : Sb w w.heap.size a1 n1 c1 x1) (hs2 : Sb w w.heap.size a2 n2 c2 x2) {o2 : Bool} (ok1 : okS n1 z1 = false) (ok2 : okS n2 z2 = o2) :
  Calls Tryz.prog 9 #[.agg #[.slice a1 n1 c1, .int .i64 z1, .slice a2 n2 c2, .int .i64 z2]] w fun e w' => e = .returned (.bool true) ∧ Below w.heap.size w w' := by
 have HS1 := za hs1
 have HS2 := za hs2
 have OK1 := za ok1
 have OK2 := za ok2
 clear hs1 hs2 ok1 ok2
 have HT := za hT
 clear hT
 have H := za (Ow.start w)
 go_enter Tryz.func9, Tryz.ntmps9
 go_wp2_with (first
  | ((with_reducible apply z0g H); (case hgd | ho | hx => exact rfl); clear H; intro _ _ H _ _; go_simp)
  | ((with_reducible apply z6f z35 H); (case hgd | ho | hx => exact rfl); (case hi => repeat first|exact z5|apply z8); (case h0 | h1 => exact rfl); intro _ _; go_simp)
  | ((fail_if_success have := mk1); (with_reducible refine (z12 OK1.out _ (HT.out.below H.out.bel) ((HS1.out.below H.out.bel).more H.out.bel.size)).mono ?_); rintro e wc ⟨v1, r1, P1, rfl, hv, hw, hp, hb⟩; replace H := zd H hb; have V1 := za hv; have W1 := za hw; have S1 := za hp; have mk1 := trivial; clear hb hv hw hp)
  | ((with_reducible apply ze z1d H); (case hgd | ho => exact rfl); clear H; intro _ _ H _ _; go_simp)
  | ((with_reducible apply ze z0w H); (case hgd | ho => exact rfl); clear H; intro _ _ H _ _; go_simp)
  | ((fail_if_success have := mk2); (with_reducible refine (z12 OK2.out _ (HT.out.below H.out.bel) ((HS2.out.below H.out.bel).more H.out.bel.size)).mono ?_); rintro e wc ⟨v2, r2, P2, rfl, hv, hw, hp, hb⟩; replace H := zd H hb; have V2 := za hv; have W2 := za hw; have S2 := za hp; have mk2 := trivial; clear hb hv hw hp)
  | ((with_reducible apply zj zH H); (case hgd | ho | hx | hy => exact rfl); (case hi => repeat first|exact z5|apply z8); clear H; intro ws H _ _; simp only [qb, qc] at H; go_simp)
  | ((with_reducible apply zj zD H); (case hgd | ho | hx | hy => exact rfl); (case hi => repeat first|exact z5|apply z8); clear H; intro ws H _ _; simp only [qb] at H; go_simp)
  | ((with_reducible refine z1y ?hw ?h); (case hw => exact rfl); intro _ _; go_simp)
  | ((with_reducible refine (z0o _ (HT.out.below H.out.bel)).mono ?_); rintro e wc ⟨rfl, hb⟩; replace H := zd H hb; clear hb))
 go_ret
 exact ⟨rfl, H.out.bel⟩
theorem dfour_no2 {a1 a2 : Option Addr} {n1 c1 x1 n2 c2 x2 : Nat} {z1 z2 : Int} (w : World) (hT : Tp w) (hs1 : Sb w w.heap.size a1 n1 c1 x1) (hs2 : Sb w w.heap.size a2 n2 c2 x2) (ok1 : okS n1 z1 = true) (ok2 : okS n2 z2 = false) :
  Calls Tryz.prog 9 #[.agg #[.slice a1 n1 c1, .int .i64 z1, .slice a2 n2 c2, .int .i64 z2]] w fun e w' => e = .returned (.bool true) ∧ Below w.heap.size w w' := by
 have HS1 := za hs1
 have HS2 := za hs2
 have OK1 := za ok1
 have OK2 := za ok2
 clear hs1 hs2 ok1 ok2
 have HT := za hT
 clear hT
 have H := za (Ow.start w)
 go_enter Tryz.func9, Tryz.ntmps9
 go_wp2_with (first
  | ((with_reducible apply z0g H); (case hgd | ho | hx => exact rfl); clear H; intro _ _ H _ _; go_simp)
  | ((with_reducible apply z6f z35 H); (case hgd | ho | hx => exact rfl); (case hi => repeat first|exact z5|apply z8); (case h0 | h1 => exact rfl); intro _ _; go_simp)
  | ((fail_if_success have := mk1); (with_reducible refine (z12 OK1.out _ (HT.out.below H.out.bel) ((HS1.out.below H.out.bel).more H.out.bel.size)).mono ?_); rintro e wc ⟨v1, r1, P1, rfl, hv, hw, hp, hb⟩; replace H := zd H hb; have V1 := za hv; have W1 := za hw; have S1 := za hp; have mk1 := trivial; clear hb hv hw hp)
  | ((with_reducible apply ze z1d H); (case hgd | ho => exact rfl); clear H; intro _ _ H _ _; go_simp)
  | ((with_reducible apply ze z0w H); (case hgd | ho => exact rfl); clear H; intro _ _ H _ _; go_simp)
  | ((fail_if_success have := mk2); (with_reducible refine (z12 OK2.out _ (HT.out.below H.out.bel) ((HS2.out.below H.out.bel).more H.out.bel.size)).mono ?_); rintro e wc ⟨v2, r2, P2, rfl, hv, hw, hp, hb⟩; replace H := zd H hb; have V2 := za hv; have W2 := za hw; have S2 := za hp; have mk2 := trivial; clear hb hv hw hp)
  | ((with_reducible apply zj zH H); (case hgd | ho | hx | hy => exact rfl); (case hi => repeat first|exact z5|apply z8); clear H; intro ws H _ _; simp only [qb, qc] at H; go_simp)
  | ((with_reducible apply zj zD H); (case hgd | ho | hx | hy => exact rfl); (case hi => repeat first|exact z5|apply z8); clear H; intro ws H _ _; simp only [qb] at H; go_simp)
  | ((with_reducible refine z1y ?hw ?h); (case hw => exact rfl); intro _ _; go_simp)
  | ((with_reducible refine (z0o _ (HT.out.below H.out.bel)).mono ?_); rintro e wc ⟨rfl, hb⟩; replace H := zd H hb; clear hb))
 go_ret
 exact ⟨rfl, H.out.bel⟩
theorem dfour_k {a1 a2 : Option Addr} {n1 c1 x1 n2 c2 x2 : Nat} {z1 z2 : Int} (w : World) (hT : Tp w) (hs1 : Sb w w.heap.size a1 n1 c1 x1) (hs2 : Sb w w.heap.size a2 n2 c2 x2) (ok1 : okS n1 z1 = true) (ok2 : okS n2 z2 = true) :
  Calls Tryz.prog 9 #[.agg #[.slice a1 n1 c1, .int .i64 z1, .slice a2 n2 c2, .int .i64 z2]] w fun e w' => e = .returned (.bool true) ∧ Below w.heap.size w w' := by
 have HS1 := za hs1
 have HS2 := za hs2
 have OK1 := za ok1
 have OK2 := za ok2
 clear hs1 hs2 ok1 ok2
 have HT := za hT
 clear hT
 have H := za (Ow.start w)
 go_enter Tryz.func9, Tryz.ntmps9
 go_upto_region 5 with (first
  | ((fail_if_success have := g1); (with_reducible apply z0g H); (case hgd | ho | hx => exact rfl); clear H; intro w1 g1 H _ _; go_simp)
  | ((with_reducible apply z6f z35 H); (case hgd | ho | hx => exact rfl); (case hi => repeat first|exact z5|apply z8); (case h0 | h1 => exact rfl); intro _ _; go_simp)
  | ((fail_if_success have := mk1); (with_reducible refine (z12 OK1.out _ (HT.out.below H.out.bel) ((HS1.out.below H.out.bel).more H.out.bel.size)).mono ?_); rintro e wc ⟨v1, r1, P1, rfl, hv, hw, hp, hb⟩; replace H := zd H hb; have V1 := za hv; have W1 := za hw; have S1 := za hp; have mk1 := trivial; clear hb hv hw hp)
  | ((fail_if_success have := g3); (with_reducible apply ze z1d H); (case hgd | ho => exact rfl); clear H; intro w3 g3 H _ _; go_simp)
  | ((fail_if_success have := g4); (with_reducible apply ze z0w H); (case hgd | ho => exact rfl); clear H; intro w4 g4 H _ _; go_simp)
  | ((fail_if_success have := mk2); (with_reducible refine (z12 OK2.out _ (HT.out.below H.out.bel) ((HS2.out.below H.out.bel).more H.out.bel.size)).mono ?_); rintro e wc ⟨v2, r2, P2, rfl, hv, hw, hp, hb⟩; replace H := zd H hb; have V2 := za hv; have W2 := za hw; have S2 := za hp; have mk2 := trivial; clear hb hv hw hp)
  | ((fail_if_success have := g6); (with_reducible apply ze z1d H); (case hgd | ho => exact rfl); clear H; intro w6 g6 H _ _; go_simp)
  | ((fail_if_success have := g7); (with_reducible apply ze z0w H); (case hgd | ho => exact rfl); clear H; intro w7 g7 H _ _; go_simp)
  | ((with_reducible apply zj zH H); (case hgd | ho | hx | hy => exact rfl); (case hi => repeat first|exact z5|apply z8); clear H; intro ws H _ _; simp only [qb, qc] at H; go_simp)
  | ((with_reducible apply zj zD H); (case hgd | ho | hx | hy => exact rfl); (case hi => repeat first|exact z5|apply z8); clear H; intro ws H _ _; simp only [qb] at H; go_simp))
 clear mk1 mk2
 obtain ⟨e, he⟩ : ∃ e : Bool, e = true ↔ Els2 (z6 zB P1 P1) (z6 zB P2 P2) := by
  by_cases h : Els2 (z6 zB P1 P1) (z6 zB P2 P2)
  ·exact ⟨true, fun _ => h, fun _ => rfl⟩
  ·exact ⟨false, (fun k => by cases k), fun k => absurd k h⟩
 have HE1 := za (z5e he)
 have HE2 : Hid (decide ((z6 zB (z6 zB (z6 zB P1 (pneg P2)) (z6 zB P1 (pneg P2))) (z6 zB (z6 zB P1 (pneg P2)) (z6 zB P1 (pneg P2)))) = z0v) = e) := za (by
  cases e with
  | true => exact decide_eq_true ((y6j P1 P2).1 (he.1 rfl))
  | false => exact decide_eq_false fun k => Bool.noConfusion (he.2 ((y6j P1 P2).2 k)))
 clear he
 go_cut [9] from 31 to 35 (fun v9 wx => ∃ g9 r35, v9 = .pointer (some ⟨g9, 0, none⟩) ∧ PtK r35 (z6 zB (z6 zB (z6 zB P1 (pneg P2)) (z6 zB P1 (pneg P2))) (z6 zB (z6 zB P1 (pneg P2)) (z6 zB P1 (pneg P2)))) ∧ Ow w wx [(g9, zv 32 .u64 24 (r35)), (g7, zv 38 .i64 48 (r2)), (g6, zv 32 .u64 24 (v2)), (g4, zv 38 .i64 48 (r1)), (g3, zv 32 .u64 24 (v1)), (g1, Cs 58 #[.slice a1 n1 c1, .int .i64 z1, .slice a2 n2 c2, .int .i64 z2])])
 case first =>
  go_wp2_with fail
  refine wp_region_noPanic ?_
  refine wp_region_held_drew (S := fun W => W.heap[g3]? = some (zv 32 .u64 24 (v1)) ∧ W.heap[g6]? = some (zv 32 .u64 24 (v2))) (by kernel_rfl) (⟨H.out.drew.row 3 rfl, H.out.drew.row 1 rfl⟩) (fun hH => ?_)
  replace H := za H.out.drew
  generalize World.drew _ = w8 at *
  refine zk 0 31 zH rfl rfl rfl hH rfl rfl (fun _ h => h.1) ?_
  refine zk 1 32 zH rfl rfl rfl hH rfl rfl (fun _ h => h.2) ?_
  refine zK [2, 5] (zG rfl (fun K hK => ?_) (zG rfl (fun K hK => ?_) zJ))
  ·skip
   go_simp
   refine (y1m _ (HT.out.below H.out.bel) V2.out).mono ?_
   rintro e wc ⟨r33, rfl, hv, hb⟩
   replace H := zd H hb
   have HV33 := za hv
   refine zc hK ⟨zb H 3, zb H 1⟩ fun hH => ?_
   try simp only [Act.put, qa, qb, qc]
   refine zK [3, 5] (zG rfl (fun K hK => ?_) (zG rfl (fun K hK => ?_) zJ))
   ·skip
    go_simp
    refine (z6w _ (HT.out.below H.out.bel) V1.out HV33.out).mono ?_
    rintro e wc ⟨r34, rfl, hv, hb⟩
    replace H := zd H hb
    have HV34 := za hv
    refine zc hK ⟨zb H 3, zb H 1⟩ fun hH => zK [4, 5] (zG rfl (fun K hK => ?_) (zG rfl (fun K hK => ?_) zJ))
    ·skip
     go_simp
     refine (z86 _ (HT.out.below H.out.bel) HV34.out).mono ?_
     rintro e wc ⟨r35, rfl, hv, hb⟩
     replace H := zd H hb
     have HV35 := za hv
     refine zc hK ⟨zb H 3, zb H 1⟩ fun hH => zn 5 rfl fun K hK => ?_
     refine zg 9 rfl z1d H.out rfl ?_
     intro w9 g9 H3 hb
     replace H := za H3
     refine zc hK ⟨zb H 4, zb H 2⟩ fun hH => ?_
     try simp only [Act.put, qa, qb, qc]
     refine zn 6 rfl fun K hK => ?_
     refine zu 0 rfl zH H.out rfl rfl rfl rfl ?_
     intro ws HS
     simp only [qb] at HS
     replace H := za HS
     refine zc hK ⟨zb H 4, zb H 2⟩ fun hH => ?_
     try simp only [qa]
     try simp only [Act.put]
     refine zm ?_
     go_wp2_with fail
     go_meet
     exact ⟨g9, r35, rfl, HV35.out, H.out⟩
    ·skip
     refine zg 9 rfl z1d H.out rfl ?_
     intro w9 g9 H3 hb
     replace H := za H3
     refine zc hK ⟨zb H 4, zb H 2⟩ fun hH => zn 4 rfl fun K hK => ?_
     go_simp
     refine (z86 _ (HT.out.below H.out.bel) HV34.out).mono ?_
     rintro e wc ⟨r35, rfl, hv, hb⟩
     replace H := zd H hb
     have HV35 := za hv
     refine zc hK ⟨zb H 4, zb H 2⟩ fun hH => zn 6 rfl fun K hK => ?_
     refine zu 0 rfl zH H.out rfl rfl rfl rfl ?_
     intro ws HS
     simp only [qb] at HS
     replace H := za HS
     refine zc hK ⟨zb H 4, zb H 2⟩ fun hH => ?_
     try simp only [qa]
     try simp only [Act.put]
     refine zm ?_
     go_wp2_with fail
     go_meet
     exact ⟨g9, r35, rfl, HV35.out, H.out⟩
   ·skip
    refine zg 9 rfl z1d H.out rfl ?_
    intro w9 g9 H3 hb
    replace H := za H3
    refine zc hK ⟨zb H 4, zb H 2⟩ fun hH => ?_
    try simp only [Act.put, qa, qb, qc]
    refine zn 3 rfl fun K hK => ?_
    go_simp
    refine (z6w _ (HT.out.below H.out.bel) V1.out HV33.out).mono ?_
    rintro e wc ⟨r34, rfl, hv, hb⟩
    replace H := zd H hb
    have HV34 := za hv
    refine zc hK ⟨zb H 4, zb H 2⟩ fun hH => zn 4 rfl fun K hK => ?_
    go_simp
    refine (z86 _ (HT.out.below H.out.bel) HV34.out).mono ?_
    rintro e wc ⟨r35, rfl, hv, hb⟩
    replace H := zd H hb
    have HV35 := za hv
    refine zc hK ⟨zb H 4, zb H 2⟩ fun hH => zn 6 rfl fun K hK => ?_
    refine zu 0 rfl zH H.out rfl rfl rfl rfl ?_
    intro ws HS
    simp only [qb] at HS
    replace H := za HS
    refine zc hK ⟨zb H 4, zb H 2⟩ fun hH => ?_
    try simp only [qa]
    try simp only [Act.put]
    refine zm ?_
    go_wp2_with fail
    go_meet
    exact ⟨g9, r35, rfl, HV35.out, H.out⟩
  ·skip
   refine zg 9 rfl z1d H.out rfl ?_
   intro w9 g9 H3 hb
   replace H := za H3
   refine zc hK ⟨zb H 4, zb H 2⟩ fun hH => ?_
   try simp only [Act.put, qa, qb, qc]
   refine zn 2 rfl fun K hK => ?_
   go_simp
   refine (y1m _ (HT.out.below H.out.bel) V2.out).mono ?_
   rintro e wc ⟨r33, rfl, hv, hb⟩
   replace H := zd H hb
   have HV33 := za hv
   refine zc hK ⟨zb H 4, zb H 2⟩ fun hH => zn 3 rfl fun K hK => ?_
   go_simp
   refine (z6w _ (HT.out.below H.out.bel) V1.out HV33.out).mono ?_
   rintro e wc ⟨r34, rfl, hv, hb⟩
   replace H := zd H hb
   have HV34 := za hv
   refine zc hK ⟨zb H 4, zb H 2⟩ fun hH => zn 4 rfl fun K hK => ?_
   go_simp
   refine (z86 _ (HT.out.below H.out.bel) HV34.out).mono ?_
   rintro e wc ⟨r35, rfl, hv, hb⟩
   replace H := zd H hb
   have HV35 := za hv
   refine zc hK ⟨zb H 4, zb H 2⟩ fun hH => ?_
   try simp only [Act.put, qa, qb, qc]
   refine zn 6 rfl fun K hK => ?_
   refine zu 0 rfl zH H.out rfl rfl rfl rfl ?_
   intro ws HS
   simp only [qb] at HS
   replace H := za HS
   refine zc hK ⟨zb H 4, zb H 2⟩ fun hH => ?_
   try simp only [qa]
   try simp only [Act.put]
   refine zm ?_
   go_wp2_with fail
   go_meet
   exact ⟨g9, r35, rfl, HV35.out, H.out⟩
 clear H
 obtain ⟨g9, r35, rfl, hv35, HRR⟩ := hcut
 have HV35 := za hv35
 have H := za HRR
 clear HRR hv35
 go_upto_region 6 with fail
 cases e with
 | false =>
  refine wp_region_noPanic ?_
  refine wp_region_held_drew (S := fun W => W.heap[g3]? = some (zv 32 .u64 24 (v1)) ∧ W.heap[g6]? = some (zv 32 .u64 24 (v2)) ∧ W.heap[g9]? = some (zv 32 .u64 24 (r35))) (by kernel_rfl) (⟨H.out.drew.row 4 rfl, H.out.drew.row 2 rfl, H.out.drew.row 0 rfl⟩) (fun hH => ?_)
  replace H := za H.out.drew
  generalize World.drew _ = w8 at *
  refine zk 0 36 zH rfl rfl rfl hH rfl rfl (fun _ h => h.1) ?_
  refine zk 2 38 zH rfl rfl rfl hH rfl rfl (fun _ h => h.2.1) ?_
  refine zk 5 41 zH rfl rfl rfl hH rfl rfl (fun _ h => h.2.2) ?_
  try simp only [Act.put, qa, qb, qc]
  refine zn 1 rfl fun K hK => ?_
  go_simp
  refine (z6u _ (HT.out.below H.out.bel) V1.out).mono ?_
  rintro e wc ⟨r37, rfl, hv, hb⟩
  replace H := zd H hb
  have HV37 := za hv
  refine zc hK ⟨zb H 4, zb H 2, zb H 0⟩ fun hH => zn 3 rfl fun K hK => ?_
  go_simp
  refine (z6u _ (HT.out.below H.out.bel) V2.out).mono ?_
  rintro e wc ⟨r39, rfl, hv, hb⟩
  replace H := zd H hb
  have HV39 := za hv
  refine zc hK ⟨zb H 4, zb H 2, zb H 0⟩ fun hH => zn 4 rfl fun K hK => ?_
  go_simp
  refine (z2l _ (HT.out.below H.out.bel) HV37.out HV39.out (HE1.out)).mono ?_
  rintro e wc ⟨rfl, hb⟩
  replace H := zd H hb
  refine zc hK ⟨zb H 4, zb H 2, zb H 0⟩ fun hH => ?_
  try simp only [Act.put, qa, qb, qc]
  refine zn 6 rfl fun K hK => ?_
  go_simp
  refine (z2k _ (HT.out.below H.out.bel)).mono ?_
  rintro e wc ⟨r42, rfl, hv, hb⟩
  replace H := zd H hb
  have HV42 := za hv
  refine zc hK ⟨zb H 4, zb H 2, zb H 0⟩ fun hH => zn 7 rfl fun K hK => ?_
  go_simp
  refine (z9w _ (HT.out.below H.out.bel) HV35.out HV42.out HE2.out).mono ?_
  rintro e wc ⟨rfl, hb⟩
  replace H := zd H hb
  refine zc hK ⟨zb H 4, zb H 2, zb H 0⟩ fun hH => ?_
  refine zh 8 44 (.bool true) hH ?_
  refine zh 9 45 (.bool true) hH ?_
  refine zn 10 rfl fun K hK => ?_
  go_simp
  refine (z0o _ (HT.out.below H.out.bel)).mono ?_
  rintro e wc ⟨rfl, hb⟩
  replace H := zd H hb
  refine zc hK ⟨zb H 4, zb H 2, zb H 0⟩ fun hH => ?_
  refine zh 11 47 (.bool true) hH ?_
  refine zh 12 2 (.bool true) hH ?_
  refine zm ?_
  go_wp2_with fail
  go_ret
  exact ⟨rfl, H.out.bel⟩
 | true =>
  refine wp_region_noPanic ?_
  refine wp_region_held_drew (S := fun W => W.heap[g3]? = some (zv 32 .u64 24 (v1)) ∧ W.heap[g6]? = some (zv 32 .u64 24 (v2)) ∧ W.heap[g9]? = some (zv 32 .u64 24 (r35))) (by kernel_rfl) (⟨H.out.drew.row 4 rfl, H.out.drew.row 2 rfl, H.out.drew.row 0 rfl⟩) (fun hH => ?_)
  replace H := za H.out.drew
  generalize World.drew _ = w8 at *
  refine zk 0 36 zH rfl rfl rfl hH rfl rfl (fun _ h => h.1) ?_
  refine zk 2 38 zH rfl rfl rfl hH rfl rfl (fun _ h => h.2.1) ?_
  refine zk 5 41 zH rfl rfl rfl hH rfl rfl (fun _ h => h.2.2) ?_
  try simp only [Act.put, qa, qb, qc]
  refine zn 1 rfl fun K hK => ?_
  go_simp
  refine (z6u _ (HT.out.below H.out.bel) V1.out).mono ?_
  rintro e wc ⟨r37, rfl, hv, hb⟩
  replace H := zd H hb
  have HV37 := za hv
  refine zc hK ⟨zb H 4, zb H 2, zb H 0⟩ fun hH => zn 3 rfl fun K hK => ?_
  go_simp
  refine (z6u _ (HT.out.below H.out.bel) V2.out).mono ?_
  rintro e wc ⟨r39, rfl, hv, hb⟩
  replace H := zd H hb
  have HV39 := za hv
  refine zc hK ⟨zb H 4, zb H 2, zb H 0⟩ fun hH => zn 4 rfl fun K hK => ?_
  go_simp
  refine (z2l _ (HT.out.below H.out.bel) HV37.out HV39.out (HE1.out)).mono ?_
  rintro e wc ⟨rfl, hb⟩
  replace H := zd H hb
  refine zc hK ⟨zb H 4, zb H 2, zb H 0⟩ fun hH => ?_
  try simp only [Act.put, qa, qb, qc]
  refine zn 6 rfl fun K hK => ?_
  go_simp
  refine (z2k _ (HT.out.below H.out.bel)).mono ?_
  rintro e wc ⟨r42, rfl, hv, hb⟩
  replace H := zd H hb
  have HV42 := za hv
  refine zc hK ⟨zb H 4, zb H 2, zb H 0⟩ fun hH => zn 7 rfl fun K hK => ?_
  go_simp
  refine (z9w _ (HT.out.below H.out.bel) HV35.out HV42.out HE2.out).mono ?_
  rintro e wc ⟨rfl, hb⟩
  replace H := zd H hb
  refine zc hK ⟨zb H 4, zb H 2, zb H 0⟩ fun hH => ?_
  refine zh 8 44 (.bool true) hH ?_
  refine zh 9 45 (.bool true) hH ?_
  refine zn 10 rfl fun K hK => ?_
  go_simp
  refine (z0o _ (HT.out.below H.out.bel)).mono ?_
  rintro e wc ⟨rfl, hb⟩
  replace H := zd H hb
  refine zc hK ⟨zb H 4, zb H 2, zb H 0⟩ fun hH => ?_
  refine zh 11 47 (.bool true) hH ?_
  refine zh 12 2 (.bool true) hH ?_
  refine zm ?_
  go_wp2_with fail
  go_ret
  exact ⟨rfl, H.out.bel⟩
theorem dfour_walk {a1 a2 : Option Addr} {n1 c1 x1 n2 c2 x2 : Nat} {z1 z2 : Int} (w : World) (hT : Tp w) (hs1 : Sb w w.heap.size a1 n1 c1 x1) (hs2 : Sb w w.heap.size a2 n2 c2 x2) :
  Calls Tryz.prog 9 #[.agg #[.slice a1 n1 c1, .int .i64 z1, .slice a2 n2 c2, .int .i64 z2]] w fun e w' => e = .returned (.bool true) ∧ Below w.heap.size w w' := by
 cases ok1 : okS n1 z1 with
 | false => exact dfour_no1 w hT hs1 hs2 ok1 rfl
 | true =>
  cases ok2 : okS n2 z2 with
  | false => exact dfour_no2 w hT hs1 hs2 ok1 ok2
  | true => exact dfour_k w hT hs1 hs2 ok1 ok2
end Go.Proofs.YtgjbonikbmgfmaaGreatDoor
