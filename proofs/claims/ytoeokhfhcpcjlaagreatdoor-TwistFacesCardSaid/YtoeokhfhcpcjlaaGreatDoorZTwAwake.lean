/-
 The law's awake. No statement is proved here: lemmas for the walks.
-/
import Derived.Test.YtoeokhfhcpcjlaaGreatDoorZTwLaw
import Derived.Test.YtoeokhfhcpcjlaaGreatDoorZPtBase
import Derived.Test.YtoeokhfhcpcjlaaGreatDoorZPtEq
import Derived.Deep.CutRange
set_option maxRecDepth 8000
set_option maxHeartbeats 3200000
namespace Go.Proofs.YtoeokhfhcpcjlaaGreatDoor
open Go.RowKit
theorem tq_on : (ofZ 1 : K) * ofZ 1 + ofZ 0 * ofZ 0 = 1 + dK * (ofZ 1 * ofZ 1 * (ofZ 0 * ofZ 0)) := by decide +kernel
theorem tq_is : (⟨ofZ 1, ofZ 0, tq_on⟩ : Pt pN dK) = z1e := Pt.same y1g y1f
theorem tq_off : ¬ tOn (ofZ 1) (ofZ 1) := by
 unfold tOn
 decide +kernel
theorem tq_one : decide (wtX (z1e : Pt pN dK) = wtX (pzero : Pt pN dK) ∧ wtY (z1e : Pt pN dK) = wtY (pzero : Pt pN dK)) = true :=
 decide_eq_true ⟨z3d.trans z4b.symm, z6i.trans z5w.symm⟩
theorem tq_two : decide (wtX (pzero : Pt pN dK) = wtX (z1e : Pt pN dK) ∧ wtY (pzero : Pt pN dK) = wtY (z1e : Pt pN dK)) = true :=
 decide_eq_true ⟨z4b.trans z3d.symm, z5w.trans z6i.symm⟩
theorem tq_base : decide (wtX pB = wtX (z1e : Pt pN dK) ∧ wtY pB = wtY (z1e : Pt pN dK)) = false :=
 decide_eq_false fun h => absurd (z5a twK (h.1.trans z3d)).2 (by decide +kernel)
theorem rowS2 : IsRow Tryz.prog 55 4 := ⟨⟨_, Tryz.underlying55, rfl⟩, by kernel_rfl⟩
theorem z5x (w : World) (hT : Tp w) :
  Calls Tryz.prog 9 #[] w fun e w' => e = .returned (.bool true) ∧ Below w.heap.size w w' := by
 have HT := Lib.hid hT
 clear hT
 have H := Lib.hid (Ow.start w)
 go_enter Tryz.func9, Tryz.ntmps9
 go_upto_region 4 with (first
  | ((fail_if_success have := V1); (with_reducible refine (int_k (1) _ (HT.out.below H.out.bel) (by omega) (by omega)).mono ?_); rintro e wc ⟨kV1, rfl, hv, hb⟩; replace H := hcall H hb; clear hb; have V1 := Lib.hid hv; clear hv)
  | ((fail_if_success have := V2); (with_reducible refine (int_k (0) _ (HT.out.below H.out.bel) (by omega) (by omega)).mono ?_); rintro e wc ⟨kV2, rfl, hv, hb⟩; replace H := hcall H hb; clear hb; have V2 := Lib.hid hv; clear hv)
  | ((fail_if_success have := VQ); (with_reducible refine (z76 _ (HT.out.below H.out.bel) V1.out V2.out tq_on).mono ?_); rintro e wc ⟨kQ, rfl, hv, hb⟩; replace H := hcall H hb; clear hb; have VQ := Lib.hid (hv.eq tq_is); clear hv)
  | ((fail_if_success have := g1); (fail_if_success have := g1); (with_reducible apply z0b nilPt H); (case hgd | ho => exact rfl); clear H; intro w1 g1 H _ _; go_simp)
  | ((with_reducible apply z0e rowPt H); (case hgd | ho | hx | hy => exact rfl); (case hi => repeat first|exact at0|apply atS); clear H; intro ws H _ _; simp only [qb] at H; go_simp)
  | ((fail_if_success have := V3); (with_reducible refine (int_k (1) _ (HT.out.below H.out.bel) (by omega) (by omega)).mono ?_); rintro e wc ⟨kV3, rfl, hv, hb⟩; replace H := hcall H hb; clear hb; have V3 := Lib.hid hv; clear hv)
  | ((fail_if_success have := V4); (with_reducible refine (int_k (1) _ (HT.out.below H.out.bel) (by omega) (by omega)).mono ?_); rintro e wc ⟨kV4, rfl, hv, hb⟩; replace H := hcall H hb; clear hb; have V4 := Lib.hid hv; clear hv)
  | ((fail_if_success have := mk1); (with_reducible refine (twOf_off _ (HT.out.below H.out.bel) V3.out V4.out tq_off).mono ?_); rintro e wc ⟨rfl, hb⟩; replace H := hcall H hb; clear hb; have mk1 := trivial)
  | ((fail_if_success have := g3); (fail_if_success have := g3); (with_reducible apply z0b nilTO H); (case hgd | ho => exact rfl); clear H; intro w3 g3 H _ _; go_simp)
  | ((with_reducible apply z0e rowTO H); (case hgd | ho | hx | hy => exact rfl); (case hi => repeat first|exact at0|apply atS); clear H; intro ws H _ _; simp only [qb] at H; go_simp)
  | ((with_reducible apply z0g rowPt H); (case hgd | ho | hx => exact rfl); (case hi => repeat first|exact at0|apply atS); intro _ _; go_simp)
  | ((fail_if_success have := VA); (with_reducible refine (z3s _ (HT.out.below H.out.bel) VQ.out).mono ?_); rintro e wc ⟨kVA, rfl, hv, hb⟩; replace H := hcall H hb; clear hb; have VA := Lib.hid hv; clear hv)
  | ((fail_if_success have := g5); (fail_if_success have := g5); (with_reducible apply z0b nilTO H); (case hgd | ho => exact rfl); clear H; intro w5 g5 H _ _; go_simp))
 clear mk1
 refine wp_region_noPanic ?_
 refine wp_region_held_drew (S := fun W => W.heap[g5]? = some (Blk 46 .u64 16 (kVA))) (by kernel_rfl) (H.out.drew.row 0 rfl) (fun hH => ?_)
 replace H := Lib.hid H.out.drew
 generalize World.drew _ = w8 at *
 refine z0a 0 20 (.int .i64 0) rfl rfl rfl hH (fun w hw => by go_simp) ?_
 try simp only [Act.put, qa, qb, qc]
 refine z0a 1 21 (.bool true) rfl rfl rfl hH (fun w hw => by go_simp) ?_
 try simp only [Act.put, qa, qb, qc]
 refine z0a 2 22 (.bool true) rfl rfl rfl hH (fun w hw => by go_simp) ?_
 try simp only [Act.put, qa, qb, qc]
 refine z0f 3 23 rowTO rfl rfl rfl hH rfl rfl (fun _ h => h) ?_
 try simp only [Act.put, qa, qb, qc]
 refine rd1 4 rfl fun K hK => ?_
 go_simp
 refine (twIdentity_k _ (HT.out.below H.out.bel)).mono ?_
 rintro e wc ⟨r24, rfl, hv, hb⟩
 replace H := hcall H hb
 have HV24 := Lib.hid hv
 clear hH
 refine hK.out _ _ (H.out.row 0 rfl) fun hH => ?_
 clear hK K hb hv
 try simp only [Act.put, qa, qb, qc]
 refine rd1 5 rfl fun K hK => ?_
 go_simp
 refine (z17 _ (HT.out.below H.out.bel) VA.out HV24.out (tq_one)).mono ?_
 rintro e wc ⟨rfl, hb⟩
 replace H := hcall H hb
 clear hH
 refine hK.out _ _ (H.out.row 0 rfl) fun hH => ?_
 clear hK K hb
 try simp only [Act.put, qa, qb, qc]
 refine z0a 6 26 (.bool true) rfl rfl rfl hH (fun w hw => by go_simp) ?_
 try simp only [Act.put, qa, qb, qc]
 refine z0a 7 27 (.bool true) rfl rfl rfl hH (fun w hw => by go_simp) ?_
 try simp only [Act.put, qa, qb, qc]
 refine z0f 10 30 rowTO rfl rfl rfl hH rfl rfl (fun _ h => h) ?_
 try simp only [Act.put, qa, qb, qc]
 refine rd1 8 rfl fun K hK => ?_
 go_simp
 refine (z1c _ (HT.out.below H.out.bel)).mono ?_
 rintro e wc ⟨r28, rfl, hv, hb⟩
 replace H := hcall H hb
 have HV28 := Lib.hid hv
 clear hH
 refine hK.out _ _ (H.out.row 0 rfl) fun hH => ?_
 clear hK K hb hv
 try simp only [Act.put, qa, qb, qc]
 refine rd1 9 rfl fun K hK => ?_
 go_simp
 refine (z3s _ (HT.out.below H.out.bel) HV28.out).mono ?_
 rintro e wc ⟨r29, rfl, hv, hb⟩
 replace H := hcall H hb
 have HV29 := Lib.hid hv
 clear hH
 refine hK.out _ _ (H.out.row 0 rfl) fun hH => ?_
 clear hK K hb hv
 try simp only [Act.put, qa, qb, qc]
 refine rd1 11 rfl fun K hK => ?_
 go_simp
 refine (z17 _ (HT.out.below H.out.bel) HV29.out VA.out (tq_two)).mono ?_
 rintro e wc ⟨rfl, hb⟩
 replace H := hcall H hb
 clear hH
 refine hK.out _ _ (H.out.row 0 rfl) fun hH => ?_
 clear hK K hb
 try simp only [Act.put, qa, qb, qc]
 refine z0a 12 32 (.bool true) rfl rfl rfl hH (fun w hw => by go_simp) ?_
 try simp only [Act.put, qa, qb, qc]
 refine z0a 13 33 (.bool true) rfl rfl rfl hH (fun w hw => by go_simp) ?_
 try simp only [Act.put, qa, qb, qc]
 refine z0f 16 36 rowTO rfl rfl rfl hH rfl rfl (fun _ h => h) ?_
 try simp only [Act.put, qa, qb, qc]
 refine rd1 14 rfl fun K hK => ?_
 go_simp
 refine (base_k _ (HT.out.below H.out.bel)).mono ?_
 rintro e wc ⟨r34, rfl, hv, hb⟩
 replace H := hcall H hb
 have HV34 := Lib.hid hv
 clear hH
 refine hK.out _ _ (H.out.row 0 rfl) fun hH => ?_
 clear hK K hb hv
 try simp only [Act.put, qa, qb, qc]
 refine rd1 15 rfl fun K hK => ?_
 go_simp
 refine (z3s _ (HT.out.below H.out.bel) HV34.out).mono ?_
 rintro e wc ⟨r35, rfl, hv, hb⟩
 replace H := hcall H hb
 have HV35 := Lib.hid hv
 clear hH
 refine hK.out _ _ (H.out.row 0 rfl) fun hH => ?_
 clear hK K hb hv
 try simp only [Act.put, qa, qb, qc]
 refine rd1 17 rfl fun K hK => ?_
 go_simp
 refine (z17 _ (HT.out.below H.out.bel) HV35.out VA.out (tq_base)).mono ?_
 rintro e wc ⟨rfl, hb⟩
 replace H := hcall H hb
 clear hH
 refine hK.out _ _ (H.out.row 0 rfl) fun hH => ?_
 clear hK K hb
 try simp only [Act.put, qa, qb, qc]
 refine z0a 18 38 (.bool true) rfl rfl rfl hH (fun w hw => by go_simp) ?_
 try simp only [Act.put, qa, qb, qc]
 refine z0a 19 39 (.bool true) rfl rfl rfl hH (fun w hw => by go_simp) ?_
 try simp only [Act.put, qa, qb, qc]
 refine z0a 20 40 (.bool true) rfl rfl rfl hH (fun w hw => by go_simp) ?_
 try simp only [Act.put, qa, qb, qc]
 refine z0a 21 41 (.int .i64 13) rfl rfl rfl hH (fun w hw => by go_simp) ?_
 try simp only [Act.put, qa, qb, qc]
 refine z0a 22 42 (.bool true) rfl rfl rfl hH (fun w hw => by go_simp) ?_
 try simp only [Act.put, qa, qb, qc]
 refine z0a 23 43 (.bool true) rfl rfl rfl hH (fun w hw => by go_simp) ?_
 try simp only [Act.put, qa, qb, qc]
 refine z0a 24 0 (.bool true) rfl rfl rfl hH (fun w hw => by go_simp) ?_
 try simp only [Act.put, qa, qb]
 try simp only [Act.put]
 refine wpAnyH_done (by kernel_rfl) ?_ _
 refine NoPanic.normal ?_
 clear hH
 go_wp2_with fail
 go_ret
 exact ⟨rfl, H.out.bel⟩
end Go.Proofs.YtoeokhfhcpcjlaaGreatDoor
