/- Lemmas; no statement is proved here. -/
import Derived.Test.YtgjbonikbmgfmaaGreatDoorQAdemZDfLaw
import Derived.Test.YtgjbonikbmgfmaaGreatDoorQA
import Derived.Test.YtgjbonikbmgfmaaGreatDoorQMs3
import Derived.Test.YtgjbonikbmgfmaaGreatDoorQMs4
set_option maxRecDepth 8000
set_option maxHeartbeats 3200000
namespace Go.Proofs.YtgjbonikbmgfmaaGreatDoor
open Go.RowKit
theorem dmuls_no {a1 a2 b1 b2 : Option Addr} {n1 c1 x1 n2 c2 x2 m1 d1 y1 m2 d2 y2 : Nat} {z1 z2 : Int} (w : World) (hT : Tp w) (hs1 : Sb w w.heap.size a1 n1 c1 x1) (hs2 : Sb w w.heap.size a2 n2 c2 x2) (hl : Tl true w) (hr1 : Sb w w.heap.size b1 m1 d1 y1) (hr2 : Sb w w.heap.size b2 m2 d2 y2) {e0 e1 e2 : Bool} (ok : (okS n1 z1 && okS n2 z2) = e0) (q1 : decide (m1 ≤ 60) = e1) (q2 : decide (m2 ≤ 60) = e2) (no : (e0 && e1 && e2) = false) :
  Calls Tryz.prog 6 #[.agg #[.slice a1 n1 c1, .int .i64 z1, .slice a2 n2 c2, .int .i64 z2], .agg #[.slice b1 m1 d1, .slice b2 m2 d2]] w fun e w' => e = .returned (.bool true) ∧ Below w.heap.size w w' := by
 have HS1 := za hs1
 have HS2 := za hs2
 have HR1 := za hr1
 have HR2 := za hr2
 have HO := za ok
 have HL := za hl
 have HB1 := za q1
 have HB2 := za q2
 clear hs1 hs2 hr1 hr2 ok hl q1 q2
 have HT := za hT
 clear hT
 have H := za (Ow.start w)
 have hc := (by decide : ∀ e0 e1 e2 : Bool, (e0 && e1 && e2) = false → e0 = false ∨ (e0 = true ∧ e1 = false) ∨ (e0 = true ∧ e1 = true ∧ e2 = false)) e0 e1 e2 no
 clear no
 rcases hc with rfl | ⟨rfl, rfl⟩ | ⟨rfl, rfl, rfl⟩
 all_goals
  go_enter Tryz.func6, Tryz.ntmps6
  go_wp2_with (first
   | ((with_reducible apply z0g H); (case hgd | ho | hx => exact rfl); clear H; intro _ _ H _ _; go_simp)
   | ((with_reducible apply z0t z4p ?hC H); (case hgd | ho | hx => exact rfl); (case hi => repeat first|exact z5|apply z8); (case hC => exact rfl); intro _ _; go_simp)
   | ((fail_if_success have := mk1); (with_reducible refine (z2h HO.out rfl rfl _ (HT.out.below H.out.bel) ((HS1.out.below H.out.bel).more H.out.bel.size) ((HS2.out.below H.out.bel).more H.out.bel.size)).mono ?_); rintro e wc ⟨F1, F2, r1, r2, P1, P2, rfl, hv, hu, hw, hx, hp, hq, hb⟩; replace H := zd H hb; have V1 := za hv; have V2 := za hu; have W1 := za hw; have W2 := za hx; have S1 := za hp; have S2 := za hq; have mk1 := trivial; clear hb hv hu hw hx hp hq)
   | ((with_reducible apply z0b zI H); (case hgd | ho => exact rfl); clear H; intro _ _ H _ _; go_simp)
   | ((with_reducible apply ze z0w H); (case hgd | ho => exact rfl); clear H; intro _ _ H _ _; go_simp)
   | ((fail_if_success have := ms1); (with_reducible apply z0a H); (case hgd | ho | hx | hy => exact rfl); (case hi => repeat first|exact z5|apply z8); (case h1 => exact V1.out); clear H; intro ws H _ _; simp only [qb, qc] at H; go_simp; have ms1 := trivial)
   | ((fail_if_success have := ms2); (with_reducible apply z0a H); (case hgd | ho | hx | hy => exact rfl); (case hi => repeat first|exact z5|apply z8); (case h1 => exact V2.out); clear H; intro ws H _ _; simp only [qb, qc] at H; go_simp; have ms2 := trivial)
   | ((with_reducible apply zj zD H); (case hgd | ho | hx | hy => exact rfl); (case hi => repeat first|exact z5|apply z8); clear H; intro ws H _ _; simp only [qb, qc] at H; go_simp)
   | ((with_reducible apply z0m z27 H); (case hgd | ho | hx => exact rfl); (case hi => repeat first|exact z5|apply z8); (case hj => exact rfl); intro _ _; go_simp)
   | ((fail_if_success have := mq1); (with_reducible refine (z03 HB1.out _ (HL.out.below H.out.bel) ((HR1.out.below H.out.bel).more H.out.bel.size)).mono ?_); rintro e wc ⟨k1, u1, rfl, hb⟩; replace H := zd H hb; have mq1 := trivial; clear hb)
   | ((fail_if_success have := mq2); (with_reducible refine (z03 HB2.out _ (HL.out.below H.out.bel) ((HR2.out.below H.out.bel).more H.out.bel.size)).mono ?_); rintro e wc ⟨k2, u2, rfl, hb⟩; replace H := zd H hb; have mq2 := trivial; clear hb)
   | ((with_reducible apply ze z3u H); (case hgd | ho => exact rfl); clear H; intro _ _ H _ _; go_simp)
   | ((with_reducible apply zj z1g H); (case hgd | ho | hx | hy => exact rfl); (case hi => repeat first|exact z5|apply z8); clear H; intro ws H _ _; simp only [qb] at H; go_simp)
   | ((with_reducible refine z1y ?hw ?h); (case hw => exact rfl); intro _ _; go_simp)
   | ((with_reducible refine (z0o _ (HT.out.below H.out.bel)).mono ?_); rintro e wc ⟨rfl, hb⟩; replace H := zd H hb; clear hb))
  go_ret
  exact ⟨rfl, H.out.bel⟩
theorem dmuls_k {a1 a2 b1 b2 : Option Addr} {n1 c1 x1 n2 c2 x2 m1 d1 y1 m2 d2 y2 : Nat} {k j : KL} {z1 z2 : Int} (w : World) (hT : Tp w) (hs1 : Sb w w.heap.size a1 n1 c1 x1) (hs2 : Sb w w.heap.size a2 n2 c2 x2) (hl : Tl true w) (hr1 : Sb w w.heap.size b1 m1 d1 y1) (hr2 : Sb w w.heap.size b2 m2 d2 y2) (ok : (okS n1 z1 && okS n2 z2) = true) (q1 : m1 ≤ 60) (q2 : m2 ≤ 60) (k1 : k.val = y1 % lN) (k2 : j.val = y2 % lN) :
  Calls Tryz.prog 6 #[.agg #[.slice a1 n1 c1, .int .i64 z1, .slice a2 n2 c2, .int .i64 z2], .agg #[.slice b1 m1 d1, .slice b2 m2 d2]] w fun e w' => e = .returned (.bool true) ∧ Below w.heap.size w w' := by
 have HS1 := za hs1
 have HS2 := za hs2
 have HR1 := za hr1
 have HR2 := za hr2
 have HO := za ok
 have HL := za hl
 have HN1 := za q1
 have HN2 := za q2
 have HK1 := za k1
 have HK2 := za k2
 clear hs1 hs2 hr1 hr2 ok hl q1 q2 k1 k2
 have HT := za hT
 clear hT
 have H := za (Ow.start w)
 go_enter Tryz.func6, Tryz.ntmps6
 go_upto_region 6 with (first
  | ((with_reducible apply z0g H); (case hgd | ho | hx => exact rfl); clear H; intro _ _ H _ _; go_simp)
  | ((with_reducible apply z0t z4p ?hC H); (case hgd | ho | hx => exact rfl); (case hi => repeat first|exact z5|apply z8); (case hC => exact rfl); intro _ _; go_simp)
  | ((fail_if_success have := mk1); (with_reducible refine (z2h HO.out rfl rfl _ (HT.out.below H.out.bel) ((HS1.out.below H.out.bel).more H.out.bel.size) ((HS2.out.below H.out.bel).more H.out.bel.size)).mono ?_); rintro e wc ⟨F1, F2, r1, r2, P1, P2, rfl, hv, hu, hw, hx, hp, hq, hb⟩; replace H := zd H hb; have V1 := za hv; have V2 := za hu; have W1 := za hw; have W2 := za hx; have S1 := za hp; have S2 := za hq; have mk1 := trivial; clear hb hv hu hw hx hp hq)
  | ((fail_if_success have := g5); (with_reducible apply z0b zI H); (case hgd | ho => exact rfl); clear H; intro w5 g5 H _ _; go_simp)
  | ((fail_if_success have := g6); (with_reducible apply z0b zI H); (case hgd | ho => exact rfl); clear H; intro w6 g6 H _ _; go_simp)
  | ((fail_if_success have := g7); (with_reducible apply ze z0w H); (case hgd | ho => exact rfl); clear H; intro w7 g7 H _ _; go_simp)
  | ((fail_if_success have := g8); (with_reducible apply ze z0w H); (case hgd | ho => exact rfl); clear H; intro w8 g8 H _ _; go_simp)
  | ((fail_if_success have := ms1); (with_reducible apply z0a H); (case hgd | ho | hx | hy => exact rfl); (case hi => repeat first|exact z5|apply z8); (case h1 => exact V1.out); clear H; intro ws H _ _; simp only [qb, qc] at H; go_simp; have ms1 := trivial)
  | ((fail_if_success have := ms2); (with_reducible apply z0a H); (case hgd | ho | hx | hy => exact rfl); (case hi => repeat first|exact z5|apply z8); (case h1 => exact V2.out); clear H; intro ws H _ _; simp only [qb, qc] at H; go_simp; have ms2 := trivial)
  | ((with_reducible apply zj zD H); (case hgd | ho | hx | hy => exact rfl); (case hi => repeat first|exact z5|apply z8); clear H; intro ws H _ _; simp only [qb, qc] at H; go_simp)
  | ((with_reducible apply z0m z27 H); (case hgd | ho | hx => exact rfl); (case hi => repeat first|exact z5|apply z8); (case hj => exact rfl); intro _ _; go_simp)
  | ((fail_if_success have := mq1); (with_reducible refine (z4o (k := k) _ (HL.out.below H.out.bel) HN1.out ((HR1.out.below H.out.bel).more H.out.bel.size) HK1.out).mono ?_); rintro e wc ⟨gs1, cs1, cu1, rfl, hge, hr, hs, hb⟩; replace H := za (H.out.add hb hge hr); have SG1 := za hs; have RG1 := za hr; have mq1 := trivial; clear hb hge hr hs)
  | ((fail_if_success have := mq2); (with_reducible refine (z4o (k := j) _ (HL.out.below H.out.bel) HN2.out ((HR2.out.below H.out.bel).more H.out.bel.size) HK2.out).mono ?_); rintro e wc ⟨gs2, cs2, cu2, rfl, hge, hr, hs, hb⟩; replace H := za (H.out.add hb hge hr); have SG2 := za hs; have RG2 := za hr; have mq2 := trivial; clear hb hge hr hs)
  | ((fail_if_success have := g10); (with_reducible apply ze z3u H); (case hgd | ho => exact rfl); clear H; intro w10 g10 H _ _; go_simp)
  | ((fail_if_success have := g13); (with_reducible apply ze z3u H); (case hgd | ho => exact rfl); clear H; intro w13 g13 H _ _; go_simp)
  | ((with_reducible apply zj z1g H); (case hgd | ho | hx | hy => exact rfl); (case hi => repeat first|exact z5|apply z8); clear H; intro ws H _ _; simp only [qb] at H; go_simp))
 clear mk1 ms1 ms2 mq1 mq2
 go_upto_region 7 with (first
  | ((with_reducible apply zr zD H); (case hgd | ho | hx => exact rfl); (case hi => repeat first|exact z5|apply z8); intro _ _; go_simp)
  | ((fail_if_success have := WT1); (with_reducible refine (z1a _ _ _ _ _ (by omega) (z2f RG1.out (H.out.row 3 rfl) SG1.out) W1.out).mono ?_); rintro e wc ⟨rt1, rfl, hv, hb⟩; replace H := zd H hb; clear hb; have WT1 := za hv; clear hv)
  | ((fail_if_success have := g16); (with_reducible apply ze z0w H); (case hgd | ho => exact rfl); clear H; intro w16 g16 H _ _; go_simp)
  | ((with_reducible apply zj zD H); (case hgd | ho | hx | hy => exact rfl); (case hi => repeat first|exact z5|apply z8); clear H; intro ws H _ _; simp only [qb] at H; go_simp))
 go_upto_region 8 with (first
  | ((with_reducible apply zr zD H); (case hgd | ho | hx => exact rfl); (case hi => repeat first|exact z5|apply z8); intro _ _; go_simp)
  | ((fail_if_success have := WT2); (with_reducible refine (z1a _ _ _ _ _ (by omega) (z2f RG2.out (H.out.row 2 rfl) SG2.out) W2.out).mono ?_); rintro e wc ⟨rt2, rfl, hv, hb⟩; replace H := zd H hb; clear hb; have WT2 := za hv; clear hv)
  | ((fail_if_success have := g17); (with_reducible apply ze z0w H); (case hgd | ho => exact rfl); clear H; intro w17 g17 H _ _; go_simp)
  | ((with_reducible apply zj zD H); (case hgd | ho | hx | hy => exact rfl); (case hi => repeat first|exact z5|apply z8); clear H; intro ws H _ _; simp only [qb] at H; go_simp))
 refine wp_region_noPanic ?_
 refine wp_region_held_drew (S := fun W => W.heap[g10]? = some (WB 70 7 (wd (k).val)) ∧ W.heap[g5]? = some (Cs 34 (AV 25 F1)) ∧ W.heap[g16]? = some (zv 38 .i64 48 (rt1)) ∧ W.heap[g13]? = some (WB 70 7 (wd (j).val)) ∧ W.heap[g6]? = some (Cs 34 (AV 25 F2)) ∧ W.heap[g17]? = some (zv 38 .i64 48 (rt2))) (by kernel_rfl) (⟨H.out.drew.row 4 rfl, H.out.drew.row 9 rfl, H.out.drew.row 1 rfl, H.out.drew.row 2 rfl, H.out.drew.row 8 rfl, H.out.drew.row 0 rfl⟩) (fun hH => ?_)
 replace H := za H.out.drew
 generalize World.drew _ = w8 at *
 refine zk 0 57 z1g rfl rfl rfl hH rfl rfl (fun _ h => h.1) ?_
 refine zE 1 58 rfl rfl rfl hH rfl rfl (fun _ h => h.2.1) ?_
 refine zk 3 60 zD rfl rfl rfl hH rfl rfl (fun _ h => h.2.2.1) ?_
 try simp only [Act.put, qa, qb, qc]
 refine zn 2 rfl fun K hK => ?_
 go_simp
 refine (z3m (k := k) _ (HT.out.below H.out.bel) V1.out).mono ?_
 rintro e wc ⟨r59, rfl, hv, hb⟩
 replace H := zd H hb
 have HV59 := za hv
 refine zc hK ⟨zb H 4, zb H 9, zb H 1, zb H 2, zb H 8, zb H 0⟩ fun hH => zn 4 rfl fun K hK => ?_
 go_simp
 refine (z10 _ (HT.out.below H.out.bel) HV59.out WT1.out (decide_eq_true rfl)).mono ?_
 rintro e wc ⟨rfl, hb⟩
 replace H := zd H hb
 refine zc hK ⟨zb H 4, zb H 9, zb H 1, zb H 2, zb H 8, zb H 0⟩ fun hH => ?_
 refine zh 5 62 (.bool true) hH ?_
 refine zk 6 63 z1g rfl rfl rfl hH rfl rfl (fun _ h => h.1) ?_
 refine zE 7 64 rfl rfl rfl hH rfl rfl (fun _ h => h.2.1) ?_
 refine zk 8 65 z1g rfl rfl rfl hH rfl rfl (fun _ h => h.2.2.2.1) ?_
 try simp only [Act.put, qa, qb, qc]
 refine zE 9 66 rfl rfl rfl hH rfl rfl (fun _ h => h.2.2.2.2.1) ?_
 refine zk 11 68 zD rfl rfl rfl hH rfl rfl (fun _ h => h.2.2.1) ?_
 refine zk 12 69 zD rfl rfl rfl hH rfl rfl (fun _ h => h.2.2.2.2.2) ?_
 try simp only [Act.put, qa, qb, qc]
 refine zn 10 rfl fun K hK => ?_
 go_simp
 refine (y6w (k := k) (j := j) _ (HT.out.below H.out.bel) V1.out V2.out).mono ?_
 rintro e wc ⟨r67, rfl, hv, hb⟩
 replace H := zd H hb
 have HV67 := za hv
 refine zc hK ⟨zb H 4, zb H 9, zb H 1, zb H 2, zb H 8, zb H 0⟩ fun hH => zn 13 rfl fun K hK => ?_
 go_simp
 refine (z1b _ WT1.out WT2.out).mono ?_
 rintro e wc ⟨r70, rfl, hv, hb⟩
 replace H := zd H hb
 have HV70 := za hv
 refine zc hK ⟨zb H 4, zb H 9, zb H 1, zb H 2, zb H 8, zb H 0⟩ fun hH => zn 14 rfl fun K hK => ?_
 go_simp
 refine (z10 _ (HT.out.below H.out.bel) HV67.out HV70.out (decide_eq_true rfl)).mono ?_
 rintro e wc ⟨rfl, hb⟩
 replace H := zd H hb
 refine zc hK ⟨zb H 4, zb H 9, zb H 1, zb H 2, zb H 8, zb H 0⟩ fun hH => ?_
 try simp only [Act.put, qa, qb, qc]
 refine zh 15 72 (.bool true) hH ?_
 refine zh 16 73 (.bool true) hH ?_
 refine zn 17 rfl fun K hK => ?_
 go_simp
 refine (z0o _ (HT.out.below H.out.bel)).mono ?_
 rintro e wc ⟨rfl, hb⟩
 replace H := zd H hb
 refine zc hK ⟨zb H 4, zb H 9, zb H 1, zb H 2, zb H 8, zb H 0⟩ fun hH => ?_
 refine zh 18 75 (.bool true) hH ?_
 refine zh 19 4 (.bool true) hH ?_
 refine zm ?_
 go_wp2_with fail
 go_ret
 exact ⟨rfl, H.out.bel⟩
theorem dmuls_walk {a1 a2 b1 b2 : Option Addr} {n1 c1 x1 n2 c2 x2 m1 d1 y1 m2 d2 y2 : Nat} {z1 z2 : Int} (w : World) (hT : Tp w) (hs1 : Sb w w.heap.size a1 n1 c1 x1) (hs2 : Sb w w.heap.size a2 n2 c2 x2) (hl : Tl true w) (hr1 : Sb w w.heap.size b1 m1 d1 y1) (hr2 : Sb w w.heap.size b2 m2 d2 y2) :
  Calls Tryz.prog 6 #[.agg #[.slice a1 n1 c1, .int .i64 z1, .slice a2 n2 c2, .int .i64 z2], .agg #[.slice b1 m1 d1, .slice b2 m2 d2]] w fun e w' => e = .returned (.bool true) ∧ Below w.heap.size w w' := by
 cases ok : (okS n1 z1 && okS n2 z2) with
 | false => exact dmuls_no w hT hs1 hs2 hl hr1 hr2 ok rfl rfl rfl
 | true =>
  cases q1 : decide (m1 ≤ 60) with
  | false => exact dmuls_no w hT hs1 hs2 hl hr1 hr2 ok q1 rfl rfl
  | true =>
   cases q2 : decide (m2 ≤ 60) with
   | false => exact dmuls_no w hT hs1 hs2 hl hr1 hr2 ok q1 q2 rfl
   | true => exact dmuls_k (k := ⟨y1 % lN, Nat.mod_lt _ z8s⟩) (j := ⟨y2 % lN, Nat.mod_lt _ z8s⟩) w hT hs1 hs2 hl hr1 hr2 ok (of_decide_eq_true q1) (of_decide_eq_true q2) rfl rfl
end Go.Proofs.YtgjbonikbmgfmaaGreatDoor
