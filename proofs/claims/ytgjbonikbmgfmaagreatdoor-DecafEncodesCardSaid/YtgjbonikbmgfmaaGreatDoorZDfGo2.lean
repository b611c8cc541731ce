/- Lemmas; no statement is proved here. -/
import Derived.Test.YtgjbonikbmgfmaaGreatDoorBuZ
import Derived.Test.YtgjbonikbmgfmaaGreatDoorZPtAdd
import Derived.Test.YtgjbonikbmgfmaaGreatDoorZPtEq
set_option maxRecDepth 8000
set_option maxHeartbeats 3200000
namespace Go.Proofs.YtgjbonikbmgfmaaGreatDoor
open Go.RowKit
theorem y54 (F : Nat → Int) (s : Value) : (AV 25 (ics F s))[24]? = some s := by rw [z29 _ _ _ (by omega), ics_slot]
theorem z1j {F : Nat → Value} {P : Pt pN dK} (w : World) (hT : Tp w) (hF : DeK F P) :
  Calls Tryz.prog 70 #[DO F] w fun e w' => ∃ r, e = .returned (PO r) ∧ PtK r P ∧ Below w.heap.size w w' := by
 obtain ⟨v, b, rfl, h1, h0⟩ := hF.is
 have H1 := za h1
 have H0 := za h0
 clear hF h1 h0
 have HT := za hT
 clear hT
 cases b with
 | false =>
  have E0 := za (H0.out rfl)
  clear H0 H1
  have H := za (Ow.start w)
  go_enter Tryz.func70, Tryz.ntmps70
  go_wp2_with (first
   | ((with_reducible apply z0g H); (case hgd | ho | hx => exact rfl); clear H; intro _ _ H _ _; go_simp)
   | ((with_reducible apply ze z1d H); (case hgd | ho => exact rfl); clear H; intro _ _ H _ _; go_simp)
   | ((with_reducible apply z0m y0e H); (case hgd | ho | hx => exact rfl); (case hi => repeat first|exact z5|apply z8); (case hj => exact y54 _ _); intro _ _; go_simp)
   | ((fail_if_success have := VI); (with_reducible refine (z2k _ (HT.out.below H.out.bel)).mono ?_); rintro e wc ⟨kVI, rfl, hv, hb⟩; replace H := zd H hb; clear hb; have VI := za hv; clear hv)
   | ((with_reducible apply zj zH H); (case hgd | ho | hx | hy => exact rfl); (case hi => repeat first|exact z5|apply z8); clear H; intro ws H _ _; simp only [qb] at H; go_simp))
  exact bodyPost_ret (zy 0 zH rfl _ H rfl rfl) rfl ⟨_, rfl, VI.out.eq E0.out.symm, H.out.bel⟩
 | true =>
  have VP := za (H1.out rfl)
  clear H0 H1
  have H := za (Ow.start w)
  go_enter Tryz.func70, Tryz.ntmps70
  go_wp2_with (first
   | ((with_reducible apply z0g H); (case hgd | ho | hx => exact rfl); clear H; intro _ _ H _ _; go_simp)
   | ((with_reducible apply ze z1d H); (case hgd | ho => exact rfl); clear H; intro _ _ H _ _; go_simp)
   | ((with_reducible apply z0m y0e H); (case hgd | ho | hx => exact rfl); (case hi => repeat first|exact z5|apply z8); (case hj => exact y54 _ _); intro _ _; go_simp)
   | ((with_reducible apply y39 zH H); (case hgd | ho | hx => exact rfl); (case hi => repeat first|exact z5|apply z8); (case hp => omega); (case hC => exact ics_ints _ _); intro _ _; go_simp)
   | ((with_reducible apply zj zH H); (case hgd | ho | hx | hy => exact rfl); (case hi => repeat first|exact z5|apply z8); clear H; intro ws H _ _; simp only [qb] at H; go_simp))
  exact bodyPost_ret (zy 0 zH rfl _ H rfl rfl) rfl ⟨_, rfl, VP.out, H.out.bel⟩
theorem dopp_k {F : Nat → Value} {P : Pt pN dK} (w : World) (hT : Tp w) (hF : DeK F P) :
  Calls Tryz.prog 94 #[DO F] w fun e w' => ∃ r, e = .returned (PO r) ∧ PtK r (pneg P) ∧ Below w.heap.size w w' := by
 have V := za hF
 clear hF
 have HT := za hT
 clear hT
 have H := za (Ow.start w)
 go_enter Tryz.func94, Tryz.ntmps94
 go_wp2_with (first
  | ((with_reducible apply z0g H); (case hgd | ho | hx => exact rfl); clear H; intro _ _ H _ _; go_simp)
  | ((with_reducible apply ze z1d H); (case hgd | ho => exact rfl); clear H; intro _ _ H _ _; go_simp)
  | ((with_reducible apply z1i H); (case hgd | ho | hx => exact rfl); (case hi => repeat first|exact z5|apply z8); intro _ _; go_simp)
  | ((fail_if_success have := V1); (with_reducible refine (z1j _ (HT.out.below H.out.bel) V.out).mono ?_); rintro e wc ⟨kV1, rfl, hv, hb⟩; replace H := zd H hb; clear hb; have V1 := za hv; clear hv)
  | ((fail_if_success have := V2); (with_reducible refine (y1m _ (HT.out.below H.out.bel) V1.out).mono ?_); rintro e wc ⟨kV2, rfl, hv, hb⟩; replace H := zd H hb; clear hb; have V2 := za hv; clear hv)
  | ((with_reducible apply zj zH H); (case hgd | ho | hx | hy => exact rfl); (case hi => repeat first|exact z5|apply z8); clear H; intro ws H _ _; simp only [qb] at H; go_simp))
 exact bodyPost_ret (zy 0 zH rfl _ H rfl rfl) rfl ⟨_, rfl, V2.out, H.out.bel⟩
theorem z3i {v : Nat → Int} {P : Pt pN dK} (w : World) (hp : PtK v P) :
  Calls Tryz.prog 62 #[PO v] w fun e w' => ∃ r, e = .returned (DO r) ∧ DeK r (P) ∧ Below w.heap.size w w' := by
 have V := za (DeK.held hp)
 clear hp
 have H := za (Ow.start w)
 go_enter Tryz.func62, Tryz.ntmps62
 go_wp2_with (first
  | ((with_reducible apply zw H); (case hgd | ho | hx => exact rfl); clear H; intro _ _ H _ _; go_simp)
  | ((with_reducible apply z0b zI H); (case hgd | ho => exact rfl); clear H; intro _ _ H _ _; go_simp)
  | ((with_reducible apply zr zH H); (case hgd | ho | hx => exact rfl); (case hi => repeat first|exact z5|apply z8); intro _ _; go_simp)
  | ((with_reducible apply lay_build_De); (case hgd | ho | hx | hy => exact rfl); intro _ _; go_simp)
  | ((with_reducible apply z0a H); (case hgd | ho | hx | hy => exact rfl); (case hi => repeat first|exact z5|apply z8); (case h1 => exact V.out); clear H; intro ws H _ _; simp only [qb] at H; go_simp))
 exact bodyPost_ret (z0z 0 z2w (z26 _) rfl _ H rfl rfl) rfl ⟨_, rfl, V.out, H.out.bel⟩
theorem z8l (fn : FuncId) (hF : ∀ args w, (callFunc fn args).run Tryz.prog w = .ok (.enter fn args) w) {F G : Nat → Value} {P R : Pt pN dK} (hP : ∀ (w : World), Tp w → Calls Tryz.prog fn #[DO G] w fun e w' => ∃ r, e = .returned (PO r) ∧ PtK r R ∧ Below w.heap.size w w') (w : World) (hT : Tp w) (h1 : DeK F P) :
  Calls Tryz.prog 92 #[DO F, DO G, .func (.func fn) #[] #[]] w fun e w' => ∃ r, e = .returned (DO r) ∧ DeK r (z6 zB P R) ∧ Below w.heap.size w w' := by
 have HP := za hP
 have V1 := za h1
 clear hP h1
 have HT := za hT
 clear hT
 have H := za (Ow.start w)
 go_enter Tryz.func92, Tryz.ntmps92
 go_upto_region 1 with (first
  | ((fail_if_success have := g3); (with_reducible apply z0g H); (case hgd | ho | hx => exact rfl); clear H; intro w3 g3 H _ _; go_simp)
  | ((fail_if_success have := g4); (with_reducible apply z0g H); (case hgd | ho | hx => exact rfl); clear H; intro w4 g4 H _ _; go_simp)
  | ((fail_if_success have := g6); (with_reducible apply z0b zI H); (case hgd | ho => exact rfl); clear H; intro w6 g6 H _ _; go_simp))
 refine wp_region_noPanic ?_
 refine wp_region_held_drew (S := fun W => W.heap[g3]? = some (Cs 34 (AV 25 F)) ∧ W.heap[g4]? = some (Cs 34 (AV 25 G))) (by kernel_rfl) (⟨H.out.drew.row 2 rfl, H.out.drew.row 1 rfl⟩) (fun hH => ?_)
 replace H := za H.out.drew
 generalize World.drew _ = w8 at *
 refine zE 0 7 rfl rfl rfl hH rfl rfl (fun _ h => h.1) ?_
 refine zh 2 9 (.func (.func fn) #[] #[]) hH ?_
 refine zE 3 10 rfl rfl rfl hH rfl rfl (fun _ h => h.2) ?_
 refine zn 1 rfl fun K hK => ?_
 go_simp
 refine (z1j _ (HT.out.below H.out.bel) V1.out).mono ?_
 rintro e wc ⟨r8, rfl, hv, hb⟩
 replace H := zd H hb
 have HV8 := za hv
 refine zc hK ⟨zb H 2, zb H 1⟩ fun hH => zn 4 rfl fun K hK => ?_
 go_simp
 refine (HP.out _ (HT.out.below H.out.bel)).mono ?_
 rintro e wc ⟨r11, rfl, hv, hb⟩
 replace H := zd H hb
 have HV11 := za hv
 refine zc hK ⟨zb H 2, zb H 1⟩ fun hH => ?_
 try simp only [Act.put, qa, qb, qc]
 refine zn 5 rfl fun K hK => ?_
 go_simp
 refine (z6w _ (HT.out.below H.out.bel) HV8.out HV11.out).mono ?_
 rintro e wc ⟨r12, rfl, hv, hb⟩
 replace H := zd H hb
 have HV12 := za hv
 refine zc hK ⟨zb H 2, zb H 1⟩ fun hH => zn 6 rfl fun K hK => ?_
 go_simp
 refine (z3i _ HV12.out).mono ?_
 rintro e wc ⟨r13, rfl, hv, hb⟩
 replace H := zd H hb
 have HV13 := za hv
 refine zc hK ⟨zb H 2, zb H 1⟩ fun hH => zn 7 rfl fun K hK => ?_
 with_reducible refine z4g rfl ?_
 with_reducible refine z2o (t := 34) (x := .tmp 6) (y := .tmp 13) (b := g6) (F := r13) (G := (ics (fun _ => 0) (.bool false))) 0 ?_ H.out ?_ ?_ ?_ ?_ HV13.out ?_
 ·rfl
 ·rfl
 ·rfl
 ·rfl
 ·exact z5
 intro ws HS
 simp only [qb] at HS
 replace H := za HS
 refine zc hK ⟨zb H 2, zb H 1⟩ fun hH => ?_
 try simp only [qa]
 try simp only [Act.put]
 refine zm ?_
 go_wp2_with fail
 exact bodyPost_ret (z0z 0 z2w (z26 _) rfl _ H rfl rfl) rfl ⟨_, rfl, HV13.out, H.out.bel⟩
theorem z4l  (w : World) :
  Calls Tryz.prog 35 #[] w fun e w' => ∃ r, e = .returned (DO r) ∧ DeK r (z0v) ∧ Below w.heap.size w w' := by
 have V := za (DeK.none fun _ => 0)
 have H := za (Ow.start w)
 go_enter Tryz.func35, Tryz.ntmps35
 go_wp2_with (first
  | ((with_reducible apply z0b zI H); (case hgd | ho => exact rfl); clear H; intro _ _ H _ _; go_simp)
  | ((with_reducible apply z2j); (case hgd | ho => exact rfl); intro _ _; go_simp)
  | ((with_reducible apply z0a H); (case hgd | ho | hx | hy => exact rfl); (case hi => repeat first|exact z5|apply z8); (case h1 => exact V.out); clear H; intro ws H _ _; simp only [qb] at H; go_simp))
 exact bodyPost_ret (z0z 0 z2w (z26 _) rfl _ H rfl rfl) rfl ⟨_, rfl, V.out, H.out.bel⟩
theorem z6u {v : Nat → Int} {P : Pt pN dK} (w : World) (hT : Tp w) (hp : PtK v P) :
  Calls Tryz.prog 43 #[PO v] w fun e w' => ∃ r, e = .returned (DO r) ∧ DeK r (z6 zB P P) ∧ Below w.heap.size w w' := by
 have V := za hp
 clear hp
 have HT := za hT
 clear hT
 have H := za (Ow.start w)
 go_enter Tryz.func43, Tryz.ntmps43
 go_wp2_with (first
  | ((with_reducible apply zw H); (case hgd | ho | hx => exact rfl); clear H; intro _ _ H _ _; go_simp)
  | ((with_reducible apply z0b zI H); (case hgd | ho => exact rfl); clear H; intro _ _ H _ _; go_simp)
  | ((with_reducible apply zr zH H); (case hgd | ho | hx => exact rfl); (case hi => repeat first|exact z5|apply z8); intro _ _; go_simp)
  | ((fail_if_success have := V1); (with_reducible refine (z31 _ (HT.out.below H.out.bel) V.out).mono ?_); rintro e wc ⟨kV1, rfl, hv, hb⟩; replace H := zd H hb; clear hb; have V1 := za hv; clear hv)
  | ((fail_if_success have := V2); (with_reducible refine (z3i _ V1.out).mono ?_); rintro e wc ⟨kV2, rfl, hv, hb⟩; replace H := zd H hb; clear hb; have V2 := za hv; clear hv)
  | ((with_reducible apply z0a H); (case hgd | ho | hx | hy => exact rfl); (case hi => repeat first|exact z5|apply z8); (case h1 => exact V2.out); clear H; intro ws H _ _; simp only [qb] at H; go_simp))
 exact bodyPost_ret (z0z 0 z2w (z26 _) rfl _ H rfl rfl) rfl ⟨_, rfl, V2.out, H.out.bel⟩
theorem y4c {F : Nat → Value} {P : Pt pN dK} (w : World) (hT : Tp w) (h1 : DeK F P) :
  Calls Tryz.prog 30 #[DO F] w fun e w' => ∃ r, e = .returned (DO r) ∧ DeK r (pneg P) ∧ Below w.heap.size w w' := by
 have V := za h1
 clear h1
 have HT := za hT
 clear hT
 have H := za (Ow.start w)
 go_enter Tryz.func30, Tryz.ntmps30
 go_wp2_with (first
  | ((with_reducible apply z0g H); (case hgd | ho | hx => exact rfl); clear H; intro _ _ H _ _; go_simp)
  | ((with_reducible apply z0b zI H); (case hgd | ho => exact rfl); clear H; intro _ _ H _ _; go_simp)
  | ((with_reducible apply z1i H); (case hgd | ho | hx => exact rfl); (case hi => repeat first|exact z5|apply z8); intro _ _; go_simp)
  | ((fail_if_success have := V1); (with_reducible refine (dopp_k _ (HT.out.below H.out.bel) V.out).mono ?_); rintro e wc ⟨kV1, rfl, hv, hb⟩; replace H := zd H hb; clear hb; have V1 := za hv; clear hv)
  | ((fail_if_success have := V2); (with_reducible refine (z3i _ V1.out).mono ?_); rintro e wc ⟨kV2, rfl, hv, hb⟩; replace H := zd H hb; clear hb; have V2 := za hv; clear hv)
  | ((with_reducible apply z0a H); (case hgd | ho | hx | hy => exact rfl); (case hi => repeat first|exact z5|apply z8); (case h1 => exact V2.out); clear H; intro ws H _ _; simp only [qb] at H; go_simp))
 exact bodyPost_ret (z0z 0 z2w (z26 _) rfl _ H rfl rfl) rfl ⟨_, rfl, V2.out, H.out.bel⟩
theorem z6m {F : Nat → Value} {P : Pt pN dK} (w : World) (hT : Tp w) (h1 : DeK F P) :
  Calls Tryz.prog 22 #[DO F] w fun e w' => ∃ r, e = .returned (DO r) ∧ DeK r (z6 zB P P) ∧ Below w.heap.size w w' := by
 have V := za h1
 clear h1
 have HT := za hT
 clear hT
 have H := za (Ow.start w)
 go_enter Tryz.func22, Tryz.ntmps22
 go_wp2_with (first
  | ((with_reducible apply z0g H); (case hgd | ho | hx => exact rfl); clear H; intro _ _ H _ _; go_simp)
  | ((with_reducible apply z0b zI H); (case hgd | ho => exact rfl); clear H; intro _ _ H _ _; go_simp)
  | ((with_reducible apply z1i H); (case hgd | ho | hx => exact rfl); (case hi => repeat first|exact z5|apply z8); intro _ _; go_simp)
  | ((fail_if_success have := V1); (with_reducible refine (z1j _ (HT.out.below H.out.bel) V.out).mono ?_); rintro e wc ⟨kV1, rfl, hv, hb⟩; replace H := zd H hb; clear hb; have V1 := za hv; clear hv)
  | ((fail_if_success have := V2); (with_reducible refine (z6u _ (HT.out.below H.out.bel) V1.out).mono ?_); rintro e wc ⟨kV2, rfl, hv, hb⟩; replace H := zd H hb; clear hb; have V2 := za hv; clear hv)
  | ((with_reducible apply z0a H); (case hgd | ho | hx | hy => exact rfl); (case hi => repeat first|exact z5|apply z8); (case h1 => exact V2.out); clear H; intro ws H _ _; simp only [qb] at H; go_simp))
 exact bodyPost_ret (z0z 0 z2w (z26 _) rfl _ H rfl rfl) rfl ⟨_, rfl, V2.out, H.out.bel⟩
theorem z15 {F G : Nat → Value} {P Q : Pt pN dK} (w : World) (hT : Tp w) (h1 : DeK F P) (h2 : DeK G Q) :
  Calls Tryz.prog 26 #[DO F, DO G] w fun e w' => ∃ r, e = .returned (DO r) ∧ DeK r (z6 zB P (Q)) ∧ Below w.heap.size w w' := by
 have V1 := za h1
 have V2 := za h2
 clear h1 h2
 have HT := za hT
 clear hT
 have H := za (Ow.start w)
 go_enter Tryz.func26, Tryz.ntmps26
 go_wp2_with (first
  | ((with_reducible apply z0g H); (case hgd | ho | hx => exact rfl); clear H; intro _ _ H _ _; go_simp)
  | ((with_reducible apply z0b zI H); (case hgd | ho => exact rfl); clear H; intro _ _ H _ _; go_simp)
  | ((with_reducible apply z1i H); (case hgd | ho | hx => exact rfl); (case hi => repeat first|exact z5|apply z8); intro _ _; go_simp)
  | ((fail_if_success have := V3); (with_reducible refine (z8l 70 (z3g Tryz.func70 (by kernel_rfl) rfl) (fun w hT => z1j w hT V2.out) _ (HT.out.below H.out.bel) V1.out).mono ?_); rintro e wc ⟨kV3, rfl, hv, hb⟩; replace H := zd H hb; clear hb; have V3 := za hv; clear hv)
  | ((with_reducible apply z0a H); (case hgd | ho | hx | hy => exact rfl); (case hi => repeat first|exact z5|apply z8); (case h1 => exact V3.out); clear H; intro ws H _ _; simp only [qb] at H; go_simp))
 exact bodyPost_ret (z0z 0 z2w (z26 _) rfl _ H rfl rfl) rfl ⟨_, rfl, V3.out, H.out.bel⟩
theorem y1i {F G : Nat → Value} {P Q : Pt pN dK} (w : World) (hT : Tp w) (h1 : DeK F P) (h2 : DeK G Q) :
  Calls Tryz.prog 28 #[DO F, DO G] w fun e w' => ∃ r, e = .returned (DO r) ∧ DeK r (z6 zB P (pneg Q)) ∧ Below w.heap.size w w' := by
 have V1 := za h1
 have V2 := za h2
 clear h1 h2
 have HT := za hT
 clear hT
 have H := za (Ow.start w)
 go_enter Tryz.func28, Tryz.ntmps28
 go_wp2_with (first
  | ((with_reducible apply z0g H); (case hgd | ho | hx => exact rfl); clear H; intro _ _ H _ _; go_simp)
  | ((with_reducible apply z0b zI H); (case hgd | ho => exact rfl); clear H; intro _ _ H _ _; go_simp)
  | ((with_reducible apply z1i H); (case hgd | ho | hx => exact rfl); (case hi => repeat first|exact z5|apply z8); intro _ _; go_simp)
  | ((fail_if_success have := V3); (with_reducible refine (z8l 94 (z3g Tryz.func94 (by kernel_rfl) rfl) (fun w hT => dopp_k w hT V2.out) _ (HT.out.below H.out.bel) V1.out).mono ?_); rintro e wc ⟨kV3, rfl, hv, hb⟩; replace H := zd H hb; clear hb; have V3 := za hv; clear hv)
  | ((with_reducible apply z0a H); (case hgd | ho | hx | hy => exact rfl); (case hi => repeat first|exact z5|apply z8); (case h1 => exact V3.out); clear H; intro ws H _ _; simp only [qb] at H; go_simp))
 exact bodyPost_ret (z0z 0 z2w (z26 _) rfl _ H rfl rfl) rfl ⟨_, rfl, V3.out, H.out.bel⟩
theorem z2l {b : Bool} {F G : Nat → Value} {P Q : Pt pN dK} (w : World) (hT : Tp w) (h1 : DeK F P) (h2 : DeK G Q) (h : decide (z6 zB P P = z6 zB Q Q) = b) :
  Calls Tryz.prog 19 #[DO F, DO G] w fun e w' => e = .returned (.bool b) ∧ Below w.heap.size w w' := by
 have V1 := za h1
 have V2 := za h2
 have HE := za h
 clear h1 h2 h
 have HT := za hT
 clear hT
 have H := za (Ow.start w)
 go_enter Tryz.func19, Tryz.ntmps19
 go_upto_region 1 with (first
  | ((fail_if_success have := g2); (with_reducible apply z0g H); (case hgd | ho | hx => exact rfl); clear H; intro w2 g2 H _ _; go_simp)
  | ((fail_if_success have := g3); (with_reducible apply z0g H); (case hgd | ho | hx => exact rfl); clear H; intro w3 g3 H _ _; go_simp))
 refine wp_region_noPanic ?_
 refine wp_region_held_drew (S := fun W => W.heap[g2]? = some (Cs 34 (AV 25 F)) ∧ W.heap[g3]? = some (Cs 34 (AV 25 G))) (by kernel_rfl) (⟨H.out.drew.row 1 rfl, H.out.drew.row 0 rfl⟩) (fun hH => ?_)
 replace H := za H.out.drew
 generalize World.drew _ = w8 at *
 refine zE 0 5 rfl rfl rfl hH rfl rfl (fun _ h => h.1) ?_
 refine zE 3 8 rfl rfl rfl hH rfl rfl (fun _ h => h.2) ?_
 refine zn 1 rfl fun K hK => ?_
 go_simp
 refine (z1j _ (HT.out.below H.out.bel) V1.out).mono ?_
 rintro e wc ⟨r6, rfl, hv, hb⟩
 replace H := zd H hb
 have HV6 := za hv
 refine zc hK ⟨zb H 1, zb H 0⟩ fun hH => ?_
 try simp only [Act.put, qa, qb, qc]
 refine zn 2 rfl fun K hK => ?_
 go_simp
 refine (z31 _ (HT.out.below H.out.bel) HV6.out).mono ?_
 rintro e wc ⟨r7, rfl, hv, hb⟩
 replace H := zd H hb
 have HV7 := za hv
 refine zc hK ⟨zb H 1, zb H 0⟩ fun hH => zn 4 rfl fun K hK => ?_
 go_simp
 refine (z1j _ (HT.out.below H.out.bel) V2.out).mono ?_
 rintro e wc ⟨r9, rfl, hv, hb⟩
 replace H := zd H hb
 have HV9 := za hv
 refine zc hK ⟨zb H 1, zb H 0⟩ fun hH => zn 5 rfl fun K hK => ?_
 go_simp
 refine (z31 _ (HT.out.below H.out.bel) HV9.out).mono ?_
 rintro e wc ⟨r10, rfl, hv, hb⟩
 replace H := zd H hb
 have HV10 := za hv
 refine zc hK ⟨zb H 1, zb H 0⟩ fun hH => ?_
 try simp only [Act.put, qa, qb, qc]
 refine zn 6 rfl fun K hK => ?_
 go_simp
 refine (z9w _ (HT.out.below H.out.bel) HV7.out HV10.out HE.out).mono ?_
 rintro e wc ⟨rfl, hb⟩
 replace H := zd H hb
 refine zc hK ⟨zb H 1, zb H 0⟩ fun hH => ?_
 refine zh 7 4 (.bool b) hH ?_
 refine zm ?_
 go_wp2_with fail
 go_ret
 exact ⟨rfl, H.out.bel⟩
end Go.Proofs.YtgjbonikbmgfmaaGreatDoor
