/- Lemmas; no statement is proved here. -/
import Derived.Test.YtgjbonikbmgfmaaGreatDoorZDfLaw
set_option maxRecDepth 8000
set_option maxHeartbeats 3200000
namespace Go.Proofs.YtgjbonikbmgfmaaGreatDoor
open Go.RowKit
theorem z97 {a : Option Addr} {c x : Nat} (w : World) (hs : Sb w w.heap.size a 56 c x) (h : x < pN) :
  Calls Tryz.prog 58 #[.slice a 56 c] w fun e w' => ∃ g, e = .returned (.tuple #[EV g, .int .i64 0]) ∧ EK g (cN pN x) ∧ Below w.heap.size w w' :=
 (z5g a c (bt x) w hs.sl (by rw [y2y, Nat.mod_eq_of_lt hs.fits]; exact h)).mono fun e w' ⟨he, hb⟩ => ⟨_, he, by
  have h := of_v (bt x)
  rw [y2y, Nat.mod_eq_of_lt hs.fits] at h
  exact h, hb⟩
theorem y89 {f : Nat → Nat} {a : K} {b : Bool} (w : World) (hf : EK f a) (h : decide (a.val % 2 = 1) = b) :
  Calls Tryz.prog 61 #[EV f] w fun e w' => e = .returned (.bool b) ∧ Below w.heap.size w w' := h ▸ negative_k w hf
theorem z9g {a : Option Addr} {c x : Nat} (w : World) (hT : Tp w) (hs : Sb w w.heap.size a 56 c x) (h : x < pN) (ho : (cN pN x).val % 2 ≠ 1) (ok : dfOk eC dK (cN pN x)) :
  Calls Tryz.prog 13 #[.slice a 56 c] w fun e w' => ∃ r, e = .returned (.tuple #[DO r, .int .i64 0]) ∧ DeK r (decK (cN pN x) ok) ∧ Below w.heap.size w w' := by
 have HOK : Hid (true = true ↔ dfOk eC dK (cN pN x)) := za ⟨fun _ => ok, fun _ => rfl⟩
 have HO := za (decide_eq_false ho)
 have HC := za (y3g dfK ok).1
 have HCO := za (fun (w : World) (f : Nat → Nat) (hT : Tp w) (hf : EK f (cN pN x)) => y4i (b := true) w hT hf ⟨fun _ => ok, fun _ => rfl⟩)
 clear HOK
 clear ho
 have VN := za (DeK.none fun _ => 0)
 have HS := za hs
 have HN := za h
 clear hs h
 have HT := za hT
 clear hT
 have H := za (Ow.start w)
 go_enter Tryz.func13, Tryz.ntmps13
 go_wp2_with (first
  | ((with_reducible apply z0b zI H); (case hgd | ho => exact rfl); clear H; intro _ _ H _ _; go_simp)
  | ((fail_if_success have := V1); (with_reducible refine (z97 _ ((HS.out.below H.out.bel).more H.out.bel.size) HN.out).mono ?_); rintro e wc ⟨h1, rfl, hv, hb⟩; replace H := zd H hb; clear hb; have V1 := za hv; clear hv)
  | ((with_reducible apply ze z9 H); (case hgd | ho => exact rfl); clear H; intro _ _ H _ _; go_simp)
  | ((with_reducible apply zj zt H); (case hgd | ho | hx | hy => exact rfl); (case hi => repeat first|exact z5|apply z8); clear H; intro ws H _ _; simp only [qb, qc] at H; go_simp)
  | ((with_reducible apply zr zt H); (case hgd | ho | hx => exact rfl); (case hi => repeat first|exact z5|apply z8); intro _ _; go_simp)
  | ((fail_if_success have := VX); (with_reducible refine (HCO.out _ _ (HT.out.below H.out.bel) V1.out).mono ?_); rintro e wc ⟨hx, hy, rfl, hv, hu, hb⟩; replace H := zd H hb; clear hb; have VX := za hv; have VY := za hu; clear hv hu)
  | ((fail_if_success have := VQ); (with_reducible refine (y32 _ (HT.out.below H.out.bel) VX.out VY.out HC.out).mono ?_); rintro e wc ⟨rq, rfl, hv, hb⟩; replace H := zd H hb; clear hb; have VQ := za (show PtK rq (decK (cN pN x) ok) from hv); clear hv)
  | ((with_reducible apply ze z1d H); (case hgd | ho => exact rfl); clear H; intro _ _ H _ _; go_simp)
  | ((with_reducible apply zj zH H); (case hgd | ho | hx | hy => exact rfl); (case hi => repeat first|exact z5|apply z8); clear H; intro ws H _ _; simp only [qb] at H; go_simp)
  | ((fail_if_success have := mkn); (with_reducible refine (y89 _ V1.out HO.out).mono ?_); rintro e wc ⟨rfl, hb⟩; replace H := zd H hb; clear hb; have mkn := trivial)
  | ((with_reducible apply zr zH H); (case hgd | ho | hx => exact rfl); (case hi => repeat first|exact z5|apply z8); intro _ _; go_simp)
  | ((fail_if_success have := V2); (with_reducible refine (z3i _ VQ.out).mono ?_); rintro e wc ⟨kV2, rfl, hv, hb⟩; replace H := zd H hb; clear hb; have V2 := za hv; clear hv)
  | ((with_reducible apply z0a H); (case hgd | ho | hx | hy => exact rfl); (case hi => repeat first|exact z5|apply z8); (case h1 => exact V2.out); clear H; intro ws H _ _; simp only [qb, qc] at H; go_simp))
 exact bodyPost_ret (z1x 4 z2w (z26 _) rfl _ H rfl rfl rfl) rfl ⟨_, rfl, V2.out, H.out.bel⟩
theorem y9q : encK (z0v : Pt pN dK) = 0 := y15 _
theorem aw_zz : z6 zB (z0v : Pt pN dK) z0v = z0v := z0n zB _
theorem aw_dec : ∃ ok : dfOk eC dK (cN pN 0), Els2 z0v (decK (cN pN 0) ok) := by
 have e : encK (z6 zB (z0v : Pt pN dK) z0v) = cN pN 0 := by rw [aw_zz, y9q, y4k]
 have h := y0a (z0v : Pt pN dK)
 rw [e, aw_zz] at h
 exact h
theorem aw_b : (z6 zB pB pB).x ≠ 0 := fun e => by
 have h := z7j zB pB pB
 rw [e] at h
 have h2 : pB.x * pB.y + pB.x * pB.y = 0 := by
  rw [← h]
  generalize 1 + dK * (pB.x * pB.x * (pB.y * pB.y)) = d
  grind
 exact absurd h2 (by decide +kernel)
theorem z0o (w : World) (hT : Tp w) :
  Calls Tryz.prog 10 #[] w fun e w' => e = .returned (.bool true) ∧ Below w.heap.size w w' := by
 obtain ⟨ok, hels⟩ := aw_dec
 have HD : Hid (∀ (w : World), Tp w → ∀ (a : Option Addr) (c : Nat), Sb w w.heap.size a 56 c (encK z0v).val → Calls Tryz.prog 13 #[.slice a 56 c] w fun e w' => ∃ r, e = .returned (.tuple #[DO r, .int .i64 0]) ∧ DeK r (decK (cN pN 0) ok) ∧ Below w.heap.size w w') := za fun w hT a c hs => by
  rw [y9q] at hs
  exact z9g (x := 0) w hT hs (by decide +kernel) (by decide +kernel) ok
 obtain ⟨D, hD⟩ : ∃ D, decK (cN pN 0) ok = D := ⟨_, rfl⟩
 rw [hD] at HD hels
 have E1 := za (z5e (b := true) ⟨fun _ => hels.symm, fun _ => rfl⟩ : decide (z6 zB D D = z6 zB z0v z0v) = true)
 have E2 := za (z5e (b := false) ⟨(fun h => by cases h), fun h => absurd (els_x' (hels.trans h.symm)) aw_b⟩ : decide (z6 zB (z6 zB pB pB) (z6 zB pB pB) = z6 zB D D) = false)
 have E3 := za (z5e (b := true) ⟨(fun _ => by
  have h := (Els2.rfl' (z6 zB pB pB)).add hels.symm
  rw [z0n] at h
  exact h), fun _ => rfl⟩ : decide (z6 zB (z6 zB (z6 zB pB pB) D) (z6 zB (z6 zB pB pB) D) = z6 zB (z6 zB pB pB) (z6 zB pB pB)) = true)
 clear hels hD
 have HT := za hT
 clear hT
 have H := za (Ow.start w)
 go_enter Tryz.func10, Tryz.ntmps10
 go_upto_region 4 with (first
  | ((fail_if_success have := VI); (with_reducible refine (z4l _).mono ?_); rintro e wc ⟨kVI, rfl, hv, hb⟩; replace H := zd H hb; clear hb; have VI := za hv; clear hv)
  | ((fail_if_success have := SE); (with_reducible refine (z4f _ (HT.out.below H.out.bel) VI.out).mono ?_); rintro e wc ⟨ge, ce, rfl, hs, hb⟩; replace H := zd H hb; clear hb; have HB0 := za H.out.bel; replace HT := za (HT.out.below H.out.bel); have SE := za hs; clear hs; replace H := za (Ow.start wc))
  | ((fail_if_success have := VE); (with_reducible refine (HD.out _ (HT.out.below H.out.bel) _ _ ((SE.out.below H.out.bel).more H.out.bel.size)).mono ?_); rintro e wc ⟨kVE, rfl, hv, hb⟩; replace H := zd H hb; clear hb; have VE := za hv; clear hv)
  | ((fail_if_success have := g2); (with_reducible apply z0b zI H); (case hgd | ho => exact rfl); clear H; intro w2 g2 H _ _; go_simp)
  | ((fail_if_success have := ms2); (with_reducible apply z0a H); (case hgd | ho | hx | hy => exact rfl); (case hi => repeat first|exact z5|apply z8); (case h1 => exact VE.out); clear H; intro ws H _ _; simp only [qb] at H; go_simp; have ms2 := trivial)
  | ((fail_if_success have := VB); (with_reducible refine (base_k _ (HT.out.below H.out.bel)).mono ?_); rintro e wc ⟨kVB, rfl, hv, hb⟩; replace H := zd H hb; clear hb; have VB := za hv; clear hv)
  | ((fail_if_success have := VT); (with_reducible refine (z6u _ (HT.out.below H.out.bel) VB.out).mono ?_); rintro e wc ⟨kVT, rfl, hv, hb⟩; replace H := zd H hb; clear hb; have VT := za hv; clear hv)
  | ((fail_if_success have := g4); (with_reducible apply z0b zI H); (case hgd | ho => exact rfl); clear H; intro w4 g4 H _ _; go_simp)
  | ((with_reducible apply z0a H); (case hgd | ho | hx | hy => exact rfl); (case hi => repeat first|exact z5|apply z8); (case h1 => exact VT.out); clear H; intro ws H _ _; simp only [qb] at H; go_simp))
 clear ms2 HD
 replace SE := za ((SE.out.below H.out.bel).more H.out.bel.size)
 refine wp_region_noPanic ?_
 refine wp_region_held_drew (S := fun W => W.heap[g2]? = some (Cs 34 (AV 25 kVE)) ∧ W.heap[g4]? = some (Cs 34 (AV 25 kVT))) (by kernel_rfl) (⟨H.out.drew.row 1 rfl, H.out.drew.row 0 rfl⟩) (fun hH => ?_)
 replace H := za H.out.drew
 replace SE := za SE.out.drew
 generalize World.drew _ = w8 at *
 refine zh 0 14 (.slice (some ⟨ge, 0, none⟩) 56 ce) hH ?_
 refine zn 1 rfl fun K hK => ?_
 refine own_wp_makeB 15 rfl H.out rfl (m := 56) rfl rfl (by omega) ?_
 intro w15 g15 H3 hb
 replace SE := za (SE.out.call hb)
 replace H := za H3
 have SM15 := za (yb_nought (H.out.row 0 rfl))
 refine zc hK ⟨zb H 2, zb H 1⟩ fun hH => zn 2 rfl fun K hK => ?_
 go_simp
 refine (z5h (b := true) (decide_eq_true (congrArg Fin.val y9q)) _ SE.out SM15.out).mono ?_
 rintro e wc ⟨rfl, hb⟩
 replace SE := za (SE.out.call hb)
 replace SM15 := za (SM15.out.call hb)
 replace H := zd H hb
 refine zc hK ⟨zb H 2, zb H 1⟩ fun hH => ?_
 refine zh 3 17 (.bool true) hH ?_
 refine zh 4 18 (.int .i64 0) hH ?_
 refine zh 5 19 (.bool true) hH ?_
 refine zh 6 20 (.bool true) hH ?_
 refine zh 7 21 (.bool true) hH ?_
 refine zE 8 22 rfl rfl rfl hH rfl rfl (fun _ h => h.1) ?_
 refine zn 9 rfl fun K hK => ?_
 go_simp
 refine (z4l _).mono ?_
 rintro e wc ⟨r23, rfl, hv, hb⟩
 replace SE := za (SE.out.call hb)
 replace SM15 := za (SM15.out.call hb)
 replace H := zd H hb
 have HV23 := za hv
 refine zc hK ⟨zb H 2, zb H 1⟩ fun hH => zn 10 rfl fun K hK => ?_
 go_simp
 refine (z2l _ (HT.out.below H.out.bel) VE.out HV23.out (E1.out)).mono ?_
 rintro e wc ⟨rfl, hb⟩
 replace SE := za (SE.out.call hb)
 replace SM15 := za (SM15.out.call hb)
 replace H := zd H hb
 refine zc hK ⟨zb H 2, zb H 1⟩ fun hH => ?_
 try simp only [Act.put, qa, qb, qc]
 refine zh 11 25 (.bool true) hH ?_
 refine zh 12 26 (.bool true) hH ?_
 refine zE 13 27 rfl rfl rfl hH rfl rfl (fun _ h => h.2) ?_
 refine zE 14 28 rfl rfl rfl hH rfl rfl (fun _ h => h.1) ?_
 refine zn 15 rfl fun K hK => ?_
 go_simp
 refine (z2l _ (HT.out.below H.out.bel) VT.out VE.out (E2.out)).mono ?_
 rintro e wc ⟨rfl, hb⟩
 replace SE := za (SE.out.call hb)
 replace SM15 := za (SM15.out.call hb)
 replace H := zd H hb
 refine zc hK ⟨zb H 2, zb H 1⟩ fun hH => ?_
 try simp only [Act.put, qa, qb, qc]
 refine zh 16 30 (.bool true) hH ?_
 refine zh 17 31 (.bool true) hH ?_
 refine zh 18 32 (.bool true) hH ?_
 refine zE 19 33 rfl rfl rfl hH rfl rfl (fun _ h => h.2) ?_
 refine zE 20 34 rfl rfl rfl hH rfl rfl (fun _ h => h.1) ?_
 refine zE 22 36 rfl rfl rfl hH rfl rfl (fun _ h => h.2) ?_
 try simp only [Act.put, qa, qb, qc]
 refine zn 21 rfl fun K hK => ?_
 go_simp
 refine (z15 _ (HT.out.below H.out.bel) VT.out VE.out).mono ?_
 rintro e wc ⟨r35, rfl, hv, hb⟩
 replace SE := za (SE.out.call hb)
 replace SM15 := za (SM15.out.call hb)
 replace H := zd H hb
 have HV35 := za hv
 refine zc hK ⟨zb H 2, zb H 1⟩ fun hH => zn 23 rfl fun K hK => ?_
 go_simp
 refine (z2l _ (HT.out.below H.out.bel) HV35.out VT.out (E3.out)).mono ?_
 rintro e wc ⟨rfl, hb⟩
 replace SE := za (SE.out.call hb)
 replace SM15 := za (SM15.out.call hb)
 replace H := zd H hb
 refine zc hK ⟨zb H 2, zb H 1⟩ fun hH => ?_
 refine zh 24 38 (.bool true) hH ?_
 refine zh 25 0 (.bool true) hH ?_
 refine zm ?_
 go_wp2_with fail
 go_ret
 exact ⟨rfl, HB0.out.trans (H.out.bel.mono HB0.out.size)⟩
end Go.Proofs.YtgjbonikbmgfmaaGreatDoor
