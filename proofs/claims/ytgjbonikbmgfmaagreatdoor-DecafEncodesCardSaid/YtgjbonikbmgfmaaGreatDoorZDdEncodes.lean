/- Lemmas; no statement is proved here. -/
import Derived.Test.YtgjbonikbmgfmaaGreatDoorQAdemZDfLaw
import Derived.Test.YtgjbonikbmgfmaaGreatDoorQEZDfGo3
import Derived.Test.YtgjbonikbmgfmaaGreatDoorZDfEven
set_option maxRecDepth 8000
set_option maxHeartbeats 3200000
namespace Go.Proofs.YtgjbonikbmgfmaaGreatDoor
open Go.RowKit
theorem y3h {u v : K} (h1 : dfOk eC dK u) (h2 : dfOk eC dK v) (h : u = v) : decK u h1 = decK v h2 := by
 subst h
 rfl
theorem denc_no {a : Option Addr} {n c x : Nat} {z : Int} (w : World) (hT : Tp w) (hs : Sb w w.heap.size a n c x) (ok : okS n z = false) :
  Calls Tryz.prog 4 #[.agg #[.slice a n c, .int .i64 z]] w fun e w' => e = .returned (.bool true) ∧ Below w.heap.size w w' := by
 have HS1 := za hs
 have OK1 := za ok
 clear hs ok
 have HT := za hT
 clear hT
 have H := za (Ow.start w)
 go_enter Tryz.func4, Tryz.ntmps4
 go_wp2_with (first
  | ((with_reducible apply z0g H); (case hgd | ho | hx => exact rfl); clear H; intro _ _ H _ _; go_simp)
  | ((with_reducible apply z0t z35 ?hC H); (case hgd | ho | hx => exact rfl); (case hi => repeat first|exact z5|apply z8); (case hC => exact rfl); intro _ _; go_simp)
  | ((fail_if_success have := mk1); (with_reducible refine (z23 OK1.out _ (HT.out.below H.out.bel) ((HS1.out.below H.out.bel).more H.out.bel.size)).mono ?_); rintro e wc ⟨F1, r1, P1, rfl, hv, hw, hp, hb⟩; replace H := zd H hb; have V1 := za hv; have W1 := za hw; have S1 := za hp; have mk1 := trivial; clear hb hv hw hp)
  | ((with_reducible apply z0b zI H); (case hgd | ho => exact rfl); clear H; intro _ _ H _ _; go_simp)
  | ((with_reducible apply ze z0w H); (case hgd | ho => exact rfl); clear H; intro _ _ H _ _; go_simp)
  | ((fail_if_success have := ms1); (with_reducible apply z0a H); (case hgd | ho | hx | hy => exact rfl); (case hi => repeat first|exact z5|apply z8); (case h1 => exact V1.out); clear H; intro ws H _ _; simp only [qb, qc] at H; go_simp; have ms1 := trivial)
  | ((with_reducible apply zj zD H); (case hgd | ho | hx | hy => exact rfl); (case hi => repeat first|exact z5|apply z8); clear H; intro ws H _ _; simp only [qb] at H; go_simp)
  | ((fail_if_success have := mk2); (with_reducible refine (z12 OK1.out _ (HT.out.below H.out.bel) ((HS1.out.below H.out.bel).more H.out.bel.size)).mono ?_); rintro e wc ⟨v2, r2, P2, rfl, hv, hw, hp, hb⟩; replace H := zd H hb; have V2 := za hv; have W2 := za hw; have S2 := za hp; have mk2 := trivial; clear hb hv hw hp)
  | ((with_reducible apply ze z1d H); (case hgd | ho => exact rfl); clear H; intro _ _ H _ _; go_simp)
  | ((with_reducible apply zj zH H); (case hgd | ho | hx | hy => exact rfl); (case hi => repeat first|exact z5|apply z8); clear H; intro ws H _ _; simp only [qb, qc] at H; go_simp)
  | ((with_reducible refine (z0o _ (HT.out.below H.out.bel)).mono ?_); rintro e wc ⟨rfl, hb⟩; replace H := zd H hb; clear hb))
 go_ret
 exact ⟨rfl, H.out.bel⟩
theorem denc_even {a : Option Addr} {n c x : Nat} {z : Int} (w : World) (hT : Tp w) (hs : Sb w w.heap.size a n c x) (ok : okS n z = true) (hz : z.toNat % 2 = 0) :
  Calls Tryz.prog 4 #[.agg #[.slice a n c, .int .i64 z]] w fun e w' => e = .returned (.bool true) ∧ Below w.heap.size w w' := by
 have OA := za ok
 have HZ := za hz
 clear hz
 have HS1 := za hs
 have OK1 := za ok
 clear hs ok
 have HT := za hT
 clear hT
 have H := za (Ow.start w)
 go_enter Tryz.func4, Tryz.ntmps4
 go_upto_region 5 with (first
  | ((with_reducible apply z0g H); (case hgd | ho | hx => exact rfl); clear H; intro _ _ H _ _; go_simp)
  | ((with_reducible apply z0t z35 ?hC H); (case hgd | ho | hx => exact rfl); (case hi => repeat first|exact z5|apply z8); (case hC => exact rfl); intro _ _; go_simp)
  | ((fail_if_success have := mk1); (with_reducible refine (z23 OK1.out _ (HT.out.below H.out.bel) ((HS1.out.below H.out.bel).more H.out.bel.size)).mono ?_); rintro e wc ⟨F1, r1, P1, rfl, hv, hw, hp, hb⟩; replace H := zd H hb; have V1 := za hv; have W1 := za hw; have S1 := za hp; have mk1 := trivial; clear hb hv hw hp)
  | ((fail_if_success have := g3); (with_reducible apply z0b zI H); (case hgd | ho => exact rfl); clear H; intro w3 g3 H _ _; go_simp)
  | ((fail_if_success have := g4); (with_reducible apply ze z0w H); (case hgd | ho => exact rfl); clear H; intro w4 g4 H _ _; go_simp)
  | ((fail_if_success have := ms1); (with_reducible apply z0a H); (case hgd | ho | hx | hy => exact rfl); (case hi => repeat first|exact z5|apply z8); (case h1 => exact V1.out); clear H; intro ws H _ _; simp only [qb, qc] at H; go_simp; have ms1 := trivial)
  | ((with_reducible apply zj zD H); (case hgd | ho | hx | hy => exact rfl); (case hi => repeat first|exact z5|apply z8); clear H; intro ws H _ _; simp only [qb] at H; go_simp)
  | ((fail_if_success have := mk2); (with_reducible refine (z12 OK1.out _ (HT.out.below H.out.bel) ((HS1.out.below H.out.bel).more H.out.bel.size)).mono ?_); rintro e wc ⟨v2, r2, P2, rfl, hv, hw, hp, hb⟩; replace H := zd H hb; have V2 := za hv; have W2 := za hw; have S2 := za hp; have mk2 := trivial; clear hb hv hw hp)
  | ((with_reducible apply ze z1d H); (case hgd | ho => exact rfl); clear H; intro _ _ H _ _; go_simp)
  | ((fail_if_success have := g7); (with_reducible apply ze z0w H); (case hgd | ho => exact rfl); clear H; intro w7 g7 H _ _; go_simp)
  | ((with_reducible apply zj zH H); (case hgd | ho | hx | hy => exact rfl); (case hi => repeat first|exact z5|apply z8); clear H; intro ws H _ _; simp only [qb, qc] at H; go_simp))
 clear mk1 ms1 mk2
 have q1 := S1.out (by first | trivial | exact OA.out)
 have q2 := S2.out (by first | trivial | exact OA.out)
 clear S1 S2
 obtain rfl : P2 = P1 := q2.trans q1.symm
 have HA : Hid ((zC (1) - P2.x * P2.x * zC (-39081)) ^ (eC + 1) * (zC (1) - P2.x * P2.x * zC (-39081)) ^ (eC + 1) = (zC (1) - P2.x * P2.x * zC (-39081))) := za (by
  rw [q1]
  exact (y6l _ _).2 HZ.out)
 have HEV : Hid (decide ((zF zB lN P2).x = zC (0)) = true) := za (by
  rw [q1, z21]
  exact decide_eq_true ((y48 _ _).2 HZ.out))
 obtain ⟨okd, hels⟩ := y0a P2
 have HEN : Hid ((encK (z6 zB P2 P2)).val % 2 ≠ 1) := za (by
  have := y6g (z6 zB P2 P2)
  omega)
 have HD : Hid (∀ (w : World), Tp w → ∀ (a : Option Addr) (c : Nat), Sb w w.heap.size a 56 c (encK (z6 zB P2 P2)).val → ∃ D, Els2 (z6 zB P2 P2) D ∧ Calls Tryz.prog 13 #[.slice a 56 c] w fun e w' => ∃ r, e = .returned (.tuple #[DO r, .int .i64 0]) ∧ DeK r D ∧ Below w.heap.size w w') := za fun w hT a c hs => by
  have e : cN pN (encK (z6 zB P2 P2)).val = encK (z6 zB P2 P2) := cN_val _
  exact ⟨decK (encK (z6 zB P2 P2)) okd, hels, (z9g (x := (encK (z6 zB P2 P2)).val) w hT hs (encK (z6 zB P2 P2)).isLt (by rw [e]; exact HEN.out) (by rw [e]; exact okd)).mono fun _ _ ⟨r, he, hr, hb⟩ => ⟨r, he, (by
   rw [y3h _ okd e] at hr
   exact hr), hb⟩⟩
 clear q1 q2 hels
 go_upto_region 6 with (first
  | ((with_reducible apply z1i H); (case hgd | ho | hx => exact rfl); (case hi => repeat first|exact z5|apply z8); intro _ _; go_simp)
  | ((fail_if_success have := SE); (with_reducible refine (z4f _ (HT.out.below H.out.bel) V1.out).mono ?_); rintro e wc ⟨ge, ce, rfl, hs, hb⟩; replace H := zd H hb; clear hb; have SE := za hs; clear hs; have HB0 := H; have HT0 := HT; replace HT := za (HT.out.below H.out.bel); replace H := za (Ow.start wc)))
 obtain ⟨D, hD, hDC⟩ := HD.out _ HT.out _ _ SE.out
 have HE1 := za (z5e (b := true) ⟨fun _ => hD.symm, fun _ => rfl⟩)
 have HDC := za hDC
 clear hD hDC HD
 go_upto_region 7 with (first
  | ((fail_if_success have := VE); (with_reducible refine (HDC.out).mono ?_); rintro e wc ⟨kVE, rfl, hv, hb⟩; replace H := zd H hb; clear hb; have VE := za hv; clear hv)
  | ((with_reducible apply z0b zI H); (case hgd | ho => exact rfl); clear H; intro _ _ H _ _; go_simp)
  | ((fail_if_success have := ms2); (with_reducible apply z0a H); (case hgd | ho | hx | hy => exact rfl); (case hi => repeat first|exact z5|apply z8); (case h1 => exact VE.out); clear H; intro ws H _ _; simp only [qb] at H; go_simp; have ms2 := trivial))
 clear ms2 HDC
 replace SE := za ((SE.out.below H.out.bel).more H.out.bel.size)
 replace H := za (HB0.out.join H.out)
 replace HT := HT0
 clear HT0 HB0
 simp only [List.cons_append, List.nil_append] at H
 go_upto_region 9 with (first
  | ((with_reducible apply zr zD H); (case hgd | ho | hx => exact rfl); (case hi => repeat first|exact z5|apply z8); intro _ _; go_simp)
  | ((fail_if_success have := SR); (with_reducible refine (z73 _ W1.out).mono ?_); rintro e wc ⟨gr, cr, rfl, hs, hb⟩; replace SE := za (SE.out.call hb); replace H := zd H hb; clear hb; have SR := za hs; clear hs)
  | ((fail_if_success have := mkb); (with_reducible refine (z5h (b := true) (decide_eq_true rfl) _ SE.out SR.out).mono ?_); rintro e wc ⟨rfl, hb⟩; replace H := zd H hb; clear hb; have mkb := trivial)
  | ((with_reducible apply z4c H); (case hw | ho | hx => exact rfl); (case hi => repeat first|exact z5|apply z8); intro _ _; go_simp)
  | ((fail_if_success have := mke); (with_reducible refine (z2l _ (HT.out.below H.out.bel) VE.out V1.out HE1.out).mono ?_); rintro e wc ⟨rfl, hb⟩; replace H := zd H hb; clear hb; have mke := trivial))
 clear mkb mke HE1
 go_upto_region 12 with (first
  | ((with_reducible apply zr zH H); (case hgd | ho | hx => exact rfl); (case hi => repeat first|exact z5|apply z8); intro _ _; go_simp)
  | ((fail_if_success have := VO); (with_reducible refine (of14_on _ (HT.out.below H.out.bel) V2.out HA.out).mono ?_); rintro e wc ⟨kVO, rfl, hv, hb⟩; replace H := zd H hb; clear hb; have VO := za hv; clear hv)
  | ((fail_if_success have := g12); (with_reducible apply z0b zI H); (case hgd | ho => exact rfl); clear H; intro w12 g12 H _ _; go_simp)
  | ((with_reducible apply z0a H); (case hgd | ho | hx | hy => exact rfl); (case hi => repeat first|exact z5|apply z8); (case h1 => exact VO.out); clear H; intro ws H _ _; simp only [qb] at H; go_simp)
  | ((with_reducible apply zr zD H); (case hgd | ho | hx => exact rfl); (case hi => repeat first|exact z5|apply z8); intro _ _; go_simp)
  | ((fail_if_success have := mkv); (with_reducible refine (y6e _ W2.out HEV.out).mono ?_); rintro e wc ⟨rfl, hb⟩; replace H := zd H hb; clear hb; have mkv := trivial))
 clear mkv
 refine wp_region_noPanic ?_
 refine wp_region_held_drew (S := fun W => W.heap[g12]? = some (Cs 34 (AV 25 kVO)) ∧ W.heap[g3]? = some (Cs 34 (AV 25 F1)) ∧ W.heap[g7]? = some (zv 38 .i64 48 (r2))) (by kernel_rfl) (⟨H.out.drew.row 0 rfl, H.out.drew.row 5 rfl, H.out.drew.row 2 rfl⟩) (fun hH => ?_)
 replace H := za H.out.drew
 generalize World.drew _ = w8 at *
 refine zh 0 64 (.int .i64 0) hH ?_
 refine zh 1 65 (.bool true) hH ?_
 refine zh 2 66 (.bool true) hH ?_
 refine zE 3 67 rfl rfl rfl hH rfl rfl (fun _ h => h.1) ?_
 refine zE 5 69 rfl rfl rfl hH rfl rfl (fun _ h => h.2.1) ?_
 refine zn 4 rfl fun K hK => ?_
 go_simp
 refine (z6m _ (HT.out.below H.out.bel) VO.out).mono ?_
 rintro e wc ⟨r68, rfl, hv, hb⟩
 replace H := zd H hb
 have HV68 := za hv
 refine zc hK ⟨zb H 0, zb H 5, zb H 2⟩ fun hH => ?_
 try simp only [Act.put, qa, qb, qc]
 refine zn 6 rfl fun K hK => ?_
 go_simp
 refine (z2l _ (HT.out.below H.out.bel) HV68.out V1.out (decide_eq_true rfl)).mono ?_
 rintro e wc ⟨rfl, hb⟩
 replace H := zd H hb
 refine zc hK ⟨zb H 0, zb H 5, zb H 2⟩ fun hH => ?_
 refine zh 7 71 (.bool true) hH ?_
 refine zh 8 72 (.bool true) hH ?_
 refine zE 9 73 rfl rfl rfl hH rfl rfl (fun _ h => h.1) ?_
 refine zk 10 74 zD rfl rfl rfl hH rfl rfl (fun _ h => h.2.2) ?_
 refine zn 11 rfl fun K hK => ?_
 go_simp
 refine (z10 _ (HT.out.below H.out.bel) VO.out W2.out (decide_eq_true rfl)).mono ?_
 rintro e wc ⟨rfl, hb⟩
 replace H := zd H hb
 refine zc hK ⟨zb H 0, zb H 5, zb H 2⟩ fun hH => ?_
 try simp only [Act.put, qa, qb, qc]
 refine zh 12 76 (.bool true) hH ?_
 refine zh 13 77 (.bool true) hH ?_
 refine zn 14 rfl fun K hK => ?_
 go_simp
 refine (z0o _ (HT.out.below H.out.bel)).mono ?_
 rintro e wc ⟨rfl, hb⟩
 replace H := zd H hb
 refine zc hK ⟨zb H 0, zb H 5, zb H 2⟩ fun hH => ?_
 refine zh 15 79 (.bool true) hH ?_
 refine zh 16 2 (.bool true) hH ?_
 refine zm ?_
 go_wp2_with fail
 go_ret
 exact ⟨rfl, H.out.bel⟩
theorem denc_odd {a : Option Addr} {n c x : Nat} {z : Int} (w : World) (hT : Tp w) (hs : Sb w w.heap.size a n c x) (ok : okS n z = true) (hz : z.toNat % 2 ≠ 0) :
  Calls Tryz.prog 4 #[.agg #[.slice a n c, .int .i64 z]] w fun e w' => e = .returned (.bool true) ∧ Below w.heap.size w w' := by
 have OA := za ok
 have HZ := za hz
 clear hz
 have HS1 := za hs
 have OK1 := za ok
 clear hs ok
 have HT := za hT
 clear hT
 have H := za (Ow.start w)
 go_enter Tryz.func4, Tryz.ntmps4
 go_upto_region 5 with (first
  | ((with_reducible apply z0g H); (case hgd | ho | hx => exact rfl); clear H; intro _ _ H _ _; go_simp)
  | ((with_reducible apply z0t z35 ?hC H); (case hgd | ho | hx => exact rfl); (case hi => repeat first|exact z5|apply z8); (case hC => exact rfl); intro _ _; go_simp)
  | ((fail_if_success have := mk1); (with_reducible refine (z23 OK1.out _ (HT.out.below H.out.bel) ((HS1.out.below H.out.bel).more H.out.bel.size)).mono ?_); rintro e wc ⟨F1, r1, P1, rfl, hv, hw, hp, hb⟩; replace H := zd H hb; have V1 := za hv; have W1 := za hw; have S1 := za hp; have mk1 := trivial; clear hb hv hw hp)
  | ((with_reducible apply z0b zI H); (case hgd | ho => exact rfl); clear H; intro _ _ H _ _; go_simp)
  | ((with_reducible apply ze z0w H); (case hgd | ho => exact rfl); clear H; intro _ _ H _ _; go_simp)
  | ((fail_if_success have := ms1); (with_reducible apply z0a H); (case hgd | ho | hx | hy => exact rfl); (case hi => repeat first|exact z5|apply z8); (case h1 => exact V1.out); clear H; intro ws H _ _; simp only [qb, qc] at H; go_simp; have ms1 := trivial)
  | ((with_reducible apply zj zD H); (case hgd | ho | hx | hy => exact rfl); (case hi => repeat first|exact z5|apply z8); clear H; intro ws H _ _; simp only [qb] at H; go_simp)
  | ((fail_if_success have := mk2); (with_reducible refine (z12 OK1.out _ (HT.out.below H.out.bel) ((HS1.out.below H.out.bel).more H.out.bel.size)).mono ?_); rintro e wc ⟨v2, r2, P2, rfl, hv, hw, hp, hb⟩; replace H := zd H hb; have V2 := za hv; have W2 := za hw; have S2 := za hp; have mk2 := trivial; clear hb hv hw hp)
  | ((with_reducible apply ze z1d H); (case hgd | ho => exact rfl); clear H; intro _ _ H _ _; go_simp)
  | ((with_reducible apply zj zH H); (case hgd | ho | hx | hy => exact rfl); (case hi => repeat first|exact z5|apply z8); clear H; intro ws H _ _; simp only [qb, qc] at H; go_simp))
 clear mk1 ms1 mk2
 have q1 := S1.out (by first | trivial | exact OA.out)
 have q2 := S2.out (by first | trivial | exact OA.out)
 clear S1 S2
 obtain rfl : P2 = P1 := q2.trans q1.symm
 have HA : Hid ((zC (1) - P2.x * P2.x * zC (-39081)) ^ (eC + 1) * (zC (1) - P2.x * P2.x * zC (-39081)) ^ (eC + 1) ≠ (zC (1) - P2.x * P2.x * zC (-39081))) := za (by
  rw [q1]
  exact fun h => HZ.out ((y6l _ _).1 h))
 have HEV : Hid (decide ((zF zB lN P2).x = zC (0)) = false) := za (by
  rw [q1, z21]
  exact decide_eq_false fun h => HZ.out ((y48 _ _).1 h))
 obtain ⟨okd, hels⟩ := y0a P2
 have HEN : Hid ((encK (z6 zB P2 P2)).val % 2 ≠ 1) := za (by
  have := y6g (z6 zB P2 P2)
  omega)
 have HD : Hid (∀ (w : World), Tp w → ∀ (a : Option Addr) (c : Nat), Sb w w.heap.size a 56 c (encK (z6 zB P2 P2)).val → ∃ D, Els2 (z6 zB P2 P2) D ∧ Calls Tryz.prog 13 #[.slice a 56 c] w fun e w' => ∃ r, e = .returned (.tuple #[DO r, .int .i64 0]) ∧ DeK r D ∧ Below w.heap.size w w') := za fun w hT a c hs => by
  have e : cN pN (encK (z6 zB P2 P2)).val = encK (z6 zB P2 P2) := cN_val _
  exact ⟨decK (encK (z6 zB P2 P2)) okd, hels, (z9g (x := (encK (z6 zB P2 P2)).val) w hT hs (encK (z6 zB P2 P2)).isLt (by rw [e]; exact HEN.out) (by rw [e]; exact okd)).mono fun _ _ ⟨r, he, hr, hb⟩ => ⟨r, he, (by
   rw [y3h _ okd e] at hr
   exact hr), hb⟩⟩
 clear q1 q2 hels
 go_upto_region 6 with (first
  | ((with_reducible apply z1i H); (case hgd | ho | hx => exact rfl); (case hi => repeat first|exact z5|apply z8); intro _ _; go_simp)
  | ((fail_if_success have := SE); (with_reducible refine (z4f _ (HT.out.below H.out.bel) V1.out).mono ?_); rintro e wc ⟨ge, ce, rfl, hs, hb⟩; replace H := zd H hb; clear hb; have SE := za hs; clear hs; have HB0 := H; have HT0 := HT; replace HT := za (HT.out.below H.out.bel); replace H := za (Ow.start wc)))
 obtain ⟨D, hD, hDC⟩ := HD.out _ HT.out _ _ SE.out
 have HE1 := za (z5e (b := true) ⟨fun _ => hD.symm, fun _ => rfl⟩)
 have HDC := za hDC
 clear hD hDC HD
 go_upto_region 7 with (first
  | ((fail_if_success have := VE); (with_reducible refine (HDC.out).mono ?_); rintro e wc ⟨kVE, rfl, hv, hb⟩; replace H := zd H hb; clear hb; have VE := za hv; clear hv)
  | ((with_reducible apply z0b zI H); (case hgd | ho => exact rfl); clear H; intro _ _ H _ _; go_simp)
  | ((fail_if_success have := ms2); (with_reducible apply z0a H); (case hgd | ho | hx | hy => exact rfl); (case hi => repeat first|exact z5|apply z8); (case h1 => exact VE.out); clear H; intro ws H _ _; simp only [qb] at H; go_simp; have ms2 := trivial))
 clear ms2 HDC
 replace SE := za ((SE.out.below H.out.bel).more H.out.bel.size)
 replace H := za (HB0.out.join H.out)
 replace HT := HT0
 clear HT0 HB0
 simp only [List.cons_append, List.nil_append] at H
 go_upto_region 9 with (first
  | ((with_reducible apply zr zD H); (case hgd | ho | hx => exact rfl); (case hi => repeat first|exact z5|apply z8); intro _ _; go_simp)
  | ((fail_if_success have := SR); (with_reducible refine (z73 _ W1.out).mono ?_); rintro e wc ⟨gr, cr, rfl, hs, hb⟩; replace SE := za (SE.out.call hb); replace H := zd H hb; clear hb; have SR := za hs; clear hs)
  | ((fail_if_success have := mkb); (with_reducible refine (z5h (b := true) (decide_eq_true rfl) _ SE.out SR.out).mono ?_); rintro e wc ⟨rfl, hb⟩; replace H := zd H hb; clear hb; have mkb := trivial)
  | ((with_reducible apply z4c H); (case hw | ho | hx => exact rfl); (case hi => repeat first|exact z5|apply z8); intro _ _; go_simp)
  | ((fail_if_success have := mke); (with_reducible refine (z2l _ (HT.out.below H.out.bel) VE.out V1.out HE1.out).mono ?_); rintro e wc ⟨rfl, hb⟩; replace H := zd H hb; clear hb; have mke := trivial))
 clear mkb mke HE1
 go_wp2_with (first
  | ((with_reducible apply zr zH H); (case hgd | ho | hx => exact rfl); (case hi => repeat first|exact z5|apply z8); intro _ _; go_simp)
  | ((fail_if_success have := VO); (with_reducible refine (of14_off _ (HT.out.below H.out.bel) V2.out HA.out).mono ?_); rintro e wc ⟨kVO, rfl, hv, hb⟩; replace H := zd H hb; clear hb; have VO := za hv; clear hv)
  | ((with_reducible apply z0b zI H); (case hgd | ho => exact rfl); clear H; intro _ _ H _ _; go_simp)
  | ((with_reducible apply z0a H); (case hgd | ho | hx | hy => exact rfl); (case hi => repeat first|exact z5|apply z8); (case h1 => exact VO.out); clear H; intro ws H _ _; simp only [qb] at H; go_simp)
  | ((with_reducible apply zr zD H); (case hgd | ho | hx => exact rfl); (case hi => repeat first|exact z5|apply z8); intro _ _; go_simp)
  | ((fail_if_success have := mkv); (with_reducible refine (y6e _ W2.out HEV.out).mono ?_); rintro e wc ⟨rfl, hb⟩; replace H := zd H hb; clear hb; have mkv := trivial)
  | ((with_reducible refine (z0o _ (HT.out.below H.out.bel)).mono ?_); rintro e wc ⟨rfl, hb⟩; replace H := zd H hb; clear hb))
 go_ret
 exact ⟨rfl, H.out.bel⟩
theorem denc_walk {a : Option Addr} {n c x : Nat} {z : Int} (w : World) (hT : Tp w) (hs : Sb w w.heap.size a n c x) :
  Calls Tryz.prog 4 #[.agg #[.slice a n c, .int .i64 z]] w fun e w' => e = .returned (.bool true) ∧ Below w.heap.size w w' := by
 cases ok : okS n z with
 | false => exact denc_no w hT hs ok
 | true =>
  by_cases hz : z.toNat % 2 = 0
  ·exact denc_even w hT hs ok hz
  ·exact denc_odd w hT hs ok hz
end Go.Proofs.YtgjbonikbmgfmaaGreatDoor
