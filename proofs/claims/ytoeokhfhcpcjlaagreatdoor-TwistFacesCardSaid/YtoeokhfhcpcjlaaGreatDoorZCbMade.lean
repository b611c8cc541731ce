/-
 The contracts of the law's Same and Made. No statement is proved here: lemmas for the walks.
-/
import Derived.Test.YtoeokhfhcpcjlaaGreatDoorBuN
import Derived.Test.YtoeokhfhcpcjlaaGreatDoorZCbTor
import Derived.Test.YtoeokhfhcpcjlaaGreatDoorBuB
import Derived.Test.YtoeokhfhcpcjlaaGreatDoorBuX
import Derived.Test.YtoeokhfhcpcjlaaGreatDoorZRfCdE
import Derived.Test.YtoeokhfhcpcjlaaGreatDoorZRfTimes
import Derived.Test.YtoeokhfhcpcjlaaGreatDoorZPtAdd
import Derived.Test.YtoeokhfhcpcjlaaGreatDoorZPtBase
import Derived.Deep.CutRange
set_option maxRecDepth 8000
set_option maxHeartbeats 3200000
namespace Go.Proofs.YtoeokhfhcpcjlaaGreatDoor
open Go.RowKit
theorem made11_far {a : Option Addr} {n c : Nat} {z : Int} (w : World) (hT : Tp w) (hn : 57 < n) :
  Calls Tryz.prog 10 #[.agg #[.slice a n c, .int .i64 z]] w fun e w' => ∃ v r P, e = .returned (.tuple #[PO v, QO r, .bool false]) ∧ PtK v P ∧ RfK r P ∧ Below w.heap.size w w' := by
 have d1 : decide ((57 : Int) < (n : Int)) = true := by simp; omega
 clear hn
 have HT := Lib.hid hT
 clear hT
 have H := Lib.hid (Ow.start w)
 go_enter Tryz.func10, Tryz.ntmps10
 go_wp2_with (first
  | ((fail_if_success have := g1); (with_reducible apply z15 H); (case hgd | ho | hx => exact rfl); clear H; intro w1 g1 H _ _; go_simp)
  | ((fail_if_success have := g2); (with_reducible apply z0b nilPt H); (case hgd | ho => exact rfl); clear H; intro w2 g2 H _ _; go_simp)
  | ((fail_if_success have := g3); (with_reducible apply z0b nilQt H); (case hgd | ho => exact rfl); clear H; intro w3 g3 H _ _; go_simp)
  | ((with_reducible apply z04 z3j H); (case hgd | ho | hx => exact rfl); (case hi => repeat first|exact at0|apply atS); (case hj => exact rfl); intro _ _; go_simp)
  | ((with_reducible apply z04 z39 H); (case hgd | ho | hx => exact rfl); (case hi => repeat first|exact at0|apply atS); (case hj => exact rfl); intro _ _; go_simp)
  | ((with_reducible apply z29 z39 H); (case hw | ho | hx => exact rfl); (case hi => repeat first|exact at0|apply atS); (case hj => exact rfl); intro _ _; go_simp)
  | ((with_reducible refine z6z ?hw ?h); (case hw => exact rfl); intro _ _; go_simp)
  | ((fail_if_success have := mk1); (with_reducible refine (z1c _ (HT.out.below H.out.bel)).mono ?_); rintro e wc ⟨k1, rfl, hv, hb⟩; replace H := hcall H hb; have V1 := Lib.hid hv; have mk1 := trivial; clear hb hv)
  | ((fail_if_success have := mk2); (with_reducible refine (z1u _).mono ?_); rintro e wc ⟨r1, rfl, hv, hb⟩; replace H := hcall H hb; have W1 := Lib.hid hv; have mk2 := trivial; clear hb hv)
  | ((with_reducible apply z0e rowPt H); (case hgd | ho | hx | hy => exact rfl); (case hi => repeat first|exact at0|apply atS); clear H; intro ws H _ _; simp only [qb, qc] at H; go_simp)
  | ((with_reducible apply z0e rowQt H); (case hgd | ho | hx | hy => exact rfl); (case hi => repeat first|exact at0|apply atS); clear H; intro ws H _ _; simp only [qb] at H; go_simp))
 exact bodyPost_ret (z06 1 0 rowPt rowQt rfl _ H rfl rfl rfl rfl rfl) rfl ⟨_, _, _, rfl, V1.out, W1.out, H.out.bel⟩
theorem made11_low {a : Option Addr} {n c : Nat} {z : Int} (w : World) (hT : Tp w) (hn : n ≤ 57) (hz : z < 0) :
  Calls Tryz.prog 10 #[.agg #[.slice a n c, .int .i64 z]] w fun e w' => ∃ v r P, e = .returned (.tuple #[PO v, QO r, .bool false]) ∧ PtK v P ∧ RfK r P ∧ Below w.heap.size w w' := by
 have d1 : decide ((57 : Int) < (n : Int)) = false := by simp; omega
 have d2 : decide (z < 0) = true := by simp; omega
 clear hn hz
 have HT := Lib.hid hT
 clear hT
 have H := Lib.hid (Ow.start w)
 go_enter Tryz.func10, Tryz.ntmps10
 go_wp2_with (first
  | ((fail_if_success have := g1); (with_reducible apply z15 H); (case hgd | ho | hx => exact rfl); clear H; intro w1 g1 H _ _; go_simp)
  | ((fail_if_success have := g2); (with_reducible apply z0b nilPt H); (case hgd | ho => exact rfl); clear H; intro w2 g2 H _ _; go_simp)
  | ((fail_if_success have := g3); (with_reducible apply z0b nilQt H); (case hgd | ho => exact rfl); clear H; intro w3 g3 H _ _; go_simp)
  | ((with_reducible apply z04 z3j H); (case hgd | ho | hx => exact rfl); (case hi => repeat first|exact at0|apply atS); (case hj => exact rfl); intro _ _; go_simp)
  | ((with_reducible apply z04 z39 H); (case hgd | ho | hx => exact rfl); (case hi => repeat first|exact at0|apply atS); (case hj => exact rfl); intro _ _; go_simp)
  | ((with_reducible apply z29 z39 H); (case hw | ho | hx => exact rfl); (case hi => repeat first|exact at0|apply atS); (case hj => exact rfl); intro _ _; go_simp)
  | ((with_reducible refine z6z ?hw ?h); (case hw => exact rfl); intro _ _; go_simp)
  | ((fail_if_success have := mk1); (with_reducible refine (z1c _ (HT.out.below H.out.bel)).mono ?_); rintro e wc ⟨k1, rfl, hv, hb⟩; replace H := hcall H hb; have V1 := Lib.hid hv; have mk1 := trivial; clear hb hv)
  | ((fail_if_success have := mk2); (with_reducible refine (z1u _).mono ?_); rintro e wc ⟨r1, rfl, hv, hb⟩; replace H := hcall H hb; have W1 := Lib.hid hv; have mk2 := trivial; clear hb hv)
  | ((with_reducible apply z0e rowPt H); (case hgd | ho | hx | hy => exact rfl); (case hi => repeat first|exact at0|apply atS); clear H; intro ws H _ _; simp only [qb, qc] at H; go_simp)
  | ((with_reducible apply z0e rowQt H); (case hgd | ho | hx | hy => exact rfl); (case hi => repeat first|exact at0|apply atS); clear H; intro ws H _ _; simp only [qb] at H; go_simp))
 exact bodyPost_ret (z06 1 0 rowPt rowQt rfl _ H rfl rfl rfl rfl rfl) rfl ⟨_, _, _, rfl, V1.out, W1.out, H.out.bel⟩
theorem made11_high {a : Option Addr} {n c : Nat} {z : Int} (w : World) (hT : Tp w) (hn : n ≤ 57) (h0 : 0 ≤ z) (hz : 3 < z) :
  Calls Tryz.prog 10 #[.agg #[.slice a n c, .int .i64 z]] w fun e w' => ∃ v r P, e = .returned (.tuple #[PO v, QO r, .bool false]) ∧ PtK v P ∧ RfK r P ∧ Below w.heap.size w w' := by
 have d1 : decide ((57 : Int) < (n : Int)) = false := by simp; omega
 have d2 : decide (z < 0) = false := by simp; omega
 have d3 : decide (3 < z) = true := by simp; omega
 clear hn h0 hz
 have HT := Lib.hid hT
 clear hT
 have H := Lib.hid (Ow.start w)
 go_enter Tryz.func10, Tryz.ntmps10
 go_wp2_with (first
  | ((fail_if_success have := g1); (with_reducible apply z15 H); (case hgd | ho | hx => exact rfl); clear H; intro w1 g1 H _ _; go_simp)
  | ((fail_if_success have := g2); (with_reducible apply z0b nilPt H); (case hgd | ho => exact rfl); clear H; intro w2 g2 H _ _; go_simp)
  | ((fail_if_success have := g3); (with_reducible apply z0b nilQt H); (case hgd | ho => exact rfl); clear H; intro w3 g3 H _ _; go_simp)
  | ((with_reducible apply z04 z3j H); (case hgd | ho | hx => exact rfl); (case hi => repeat first|exact at0|apply atS); (case hj => exact rfl); intro _ _; go_simp)
  | ((with_reducible apply z04 z39 H); (case hgd | ho | hx => exact rfl); (case hi => repeat first|exact at0|apply atS); (case hj => exact rfl); intro _ _; go_simp)
  | ((with_reducible apply z29 z39 H); (case hw | ho | hx => exact rfl); (case hi => repeat first|exact at0|apply atS); (case hj => exact rfl); intro _ _; go_simp)
  | ((with_reducible refine z6z ?hw ?h); (case hw => exact rfl); intro _ _; go_simp)
  | ((fail_if_success have := mk1); (with_reducible refine (z1c _ (HT.out.below H.out.bel)).mono ?_); rintro e wc ⟨k1, rfl, hv, hb⟩; replace H := hcall H hb; have V1 := Lib.hid hv; have mk1 := trivial; clear hb hv)
  | ((fail_if_success have := mk2); (with_reducible refine (z1u _).mono ?_); rintro e wc ⟨r1, rfl, hv, hb⟩; replace H := hcall H hb; have W1 := Lib.hid hv; have mk2 := trivial; clear hb hv)
  | ((with_reducible apply z0e rowPt H); (case hgd | ho | hx | hy => exact rfl); (case hi => repeat first|exact at0|apply atS); clear H; intro ws H _ _; simp only [qb, qc] at H; go_simp)
  | ((with_reducible apply z0e rowQt H); (case hgd | ho | hx | hy => exact rfl); (case hi => repeat first|exact at0|apply atS); clear H; intro ws H _ _; simp only [qb] at H; go_simp))
 exact bodyPost_ret (z06 1 0 rowPt rowQt rfl _ H rfl rfl rfl rfl rfl) rfl ⟨_, _, _, rfl, V1.out, W1.out, H.out.bel⟩
theorem made11_k {a : Option Addr} {n c x : Nat} {z : Int} (w : World) (hT : Tp w) (hs : Sb w w.heap.size a n c x) (hn : n ≤ 57) (h0 : 0 ≤ z) (hz : z ≤ 3) :
  Calls Tryz.prog 10 #[.agg #[.slice a n c, .int .i64 z]] w fun e w' => ∃ v r P, e = .returned (.tuple #[PO v, QO r, .bool true]) ∧ PtK v P ∧ RfK r P ∧ Below w.heap.size w w' := by
 have d1 : decide ((57 : Int) < (n : Int)) = false := by simp; omega
 have d2 : decide (z < 0) = false := by simp; omega
 have d3 : decide (3 < z) = false := by simp; omega
 have HS := Lib.hid hs
 have HN := Lib.hid hn
 have H0 := Lib.hid h0
 have HZ := Lib.hid hz
 clear hs hn h0 hz
 have HT := Lib.hid hT
 clear hT
 have H := Lib.hid (Ow.start w)
 go_enter Tryz.func10, Tryz.ntmps10
 go_upto_region 3 with (first
  | ((fail_if_success have := g1); (with_reducible apply z15 H); (case hgd | ho | hx => exact rfl); clear H; intro w1 g1 H _ _; go_simp)
  | ((fail_if_success have := g2); (with_reducible apply z0b nilPt H); (case hgd | ho => exact rfl); clear H; intro w2 g2 H _ _; go_simp)
  | ((fail_if_success have := g3); (with_reducible apply z0b nilQt H); (case hgd | ho => exact rfl); clear H; intro w3 g3 H _ _; go_simp)
  | ((with_reducible apply z04 z3j H); (case hgd | ho | hx => exact rfl); (case hi => repeat first|exact at0|apply atS); (case hj => exact rfl); intro _ _; go_simp)
  | ((with_reducible apply z04 z39 H); (case hgd | ho | hx => exact rfl); (case hi => repeat first|exact at0|apply atS); (case hj => exact rfl); intro _ _; go_simp)
  | ((with_reducible apply z29 z39 H); (case hw | ho | hx => exact rfl); (case hi => repeat first|exact at0|apply atS); (case hj => exact rfl); intro _ _; go_simp)
  | ((with_reducible refine z6z ?hw ?h); (case hw => exact rfl); intro _ _; go_simp))
 go_cut [5] from 24 to 31 (fun v5 wx => ∃ g5 r31 P31, v5 = .pointer (some ⟨g5, 0, none⟩) ∧ RfK r31 P31 ∧ Ow w wx [(g5, Blk 40 .i64 48 (r31)), (g3, Blk 40 .i64 48 fun _ => 0), (g2, Blk 38 .u64 24 fun _ => 0), (g1, Cs 25 #[.slice a n c, .int .i64 z])])
 case first =>
  go_wp2_with fail
  refine wp_region_noPanic ?_
  refine wp_region_held_drew (S := fun W => W.heap[g1]? = some (Cs 25 #[.slice a n c, .int .i64 z])) (by kernel_rfl) (H.out.drew.row 2 rfl) (fun hH => ?_)
  replace H := Lib.hid H.out.drew
  generalize World.drew _ = w8 at *
  refine z0a 0 24 (.pointer (some ⟨g1, 0, none⟩)) rfl rfl rfl hH (fun w hw => by go_simp) ?_
  try simp only [Act.put, qa, qb, qc]
  refine held_C 1 25 z3j rfl rfl rfl hH rfl rfl (fun _ h => h) rfl ?_
  try simp only [Act.put, qa, qb, qc]
  refine z0a 4 28 (.pointer (some ⟨g1, 1, none⟩)) rfl rfl rfl hH (fun w hw => by go_simp) ?_
  try simp only [Act.put, qa, qb, qc]
  refine held_C 5 29 z39 rfl rfl rfl hH rfl rfl (fun _ h => h) rfl ?_
  try simp only [Act.put, qa, qb, qc]
  refine rdn [2, 8] (rdc rfl (fun K hK => ?_) (rdc rfl (fun K hK => ?_) rdz))
  ·skip
   go_simp
   refine (z67 _).mono ?_
   rintro e wc ⟨r26, rfl, hv, hb⟩
   replace H := hcall H hb
   have HV26 := Lib.hid hv
   clear hH
   refine hK.out _ _ (H.out.row 2 rfl) fun hH => ?_
   clear hK K hb hv
   try simp only [Act.put, qa, qb, qc]
   refine rdn [3, 8] (rdc rfl (fun K hK => ?_) (rdc rfl (fun K hK => ?_) rdz))
   ·skip
    go_simp
    refine (z4e _ _ _ _ _ (Nat.le_trans HN.out (by omega)) ((HS.out.below H.out.bel).more H.out.bel.size) HV26.out).mono ?_
    rintro e wc ⟨r27, rfl, hv, hb⟩
    replace H := hcall H hb
    have HV27 := Lib.hid hv
    clear hH
    refine hK.out _ _ (H.out.row 2 rfl) fun hH => ?_
    clear hK K hb hv
    try simp only [Act.put, qa, qb, qc]
    refine rdn [6, 8] (rdc rfl (fun K hK => ?_) (rdc rfl (fun K hK => ?_) rdz))
    ·skip
     go_simp
     refine (tor_k _ _ H0.out HZ.out).mono ?_
     rintro e wc ⟨r30, Q30, rfl, hv, hb⟩
     replace H := hcall H hb
     have HV30 := Lib.hid hv
     clear hH
     refine hK.out _ _ (H.out.row 2 rfl) fun hH => ?_
     clear hK K hb hv
     try simp only [Act.put, qa, qb, qc]
     refine rdn [7, 8] (rdc rfl (fun K hK => ?_) (rdc rfl (fun K hK => ?_) rdz))
     ·skip
      go_simp
      refine (z1g _ HV27.out HV30.out).mono ?_
      rintro e wc ⟨r31, rfl, hv, hb⟩
      replace H := hcall H hb
      have HV31 := Lib.hid hv
      clear hH
      refine hK.out _ _ (H.out.row 2 rfl) fun hH => ?_
      clear hK K hb hv
      try simp only [Act.put, qa, qb, qc]
      refine rd1 8 rfl fun K hK => ?_
      refine z0c 5 rfl nilQt H.out rfl ?_
      intro w5 g5 H3 hb
      replace H := Lib.hid H3
      clear hH
      refine hK.out _ _ (H.out.row 3 rfl) fun hH => ?_
      clear hK K H3 hb
      try simp only [Act.put, qa, qb, qc]
      refine rd1 9 rfl fun K hK => ?_
      refine z0l 0 rfl rowQt H.out rfl rfl rfl rfl ?_
      intro ws HS
      simp only [qb] at HS
      replace H := Lib.hid HS
      clear hH
      refine hK.out _ _ (H.out.row 3 rfl) fun hH => ?_
      clear hK K HS
      try simp only [qa]
      try simp only [Act.put]
      refine wpAnyH_done (by kernel_rfl) ?_ _
      refine NoPanic.normal ?_
      clear hH
      clear HS HN H0 HZ HT
      obtain ⟨P31, e31⟩ : ∃ P, padd edK (pmul edK x pB) Q30 = P := ⟨_, rfl⟩
      rw [e31] at HV31
      clear e31
      go_wp2_with fail
      go_meet
      exact ⟨g5, r31, P31, rfl, HV31.out, H.out⟩
     ·skip
      refine z0c 5 rfl nilQt H.out rfl ?_
      intro w5 g5 H3 hb
      replace H := Lib.hid H3
      clear hH
      refine hK.out _ _ (H.out.row 3 rfl) fun hH => ?_
      clear hK K H3 hb
      try simp only [Act.put, qa, qb, qc]
      refine rd1 7 rfl fun K hK => ?_
      go_simp
      refine (z1g _ HV27.out HV30.out).mono ?_
      rintro e wc ⟨r31, rfl, hv, hb⟩
      replace H := hcall H hb
      have HV31 := Lib.hid hv
      clear hH
      refine hK.out _ _ (H.out.row 3 rfl) fun hH => ?_
      clear hK K hb hv
      try simp only [Act.put, qa, qb, qc]
      refine rd1 9 rfl fun K hK => ?_
      refine z0l 0 rfl rowQt H.out rfl rfl rfl rfl ?_
      intro ws HS
      simp only [qb] at HS
      replace H := Lib.hid HS
      clear hH
      refine hK.out _ _ (H.out.row 3 rfl) fun hH => ?_
      clear hK K HS
      try simp only [qa]
      try simp only [Act.put]
      refine wpAnyH_done (by kernel_rfl) ?_ _
      refine NoPanic.normal ?_
      clear hH
      clear HS HN H0 HZ HT
      obtain ⟨P31, e31⟩ : ∃ P, padd edK (pmul edK x pB) Q30 = P := ⟨_, rfl⟩
      rw [e31] at HV31
      clear e31
      go_wp2_with fail
      go_meet
      exact ⟨g5, r31, P31, rfl, HV31.out, H.out⟩
    ·skip
     refine z0c 5 rfl nilQt H.out rfl ?_
     intro w5 g5 H3 hb
     replace H := Lib.hid H3
     clear hH
     refine hK.out _ _ (H.out.row 3 rfl) fun hH => ?_
     clear hK K H3 hb
     try simp only [Act.put, qa, qb, qc]
     refine rd1 6 rfl fun K hK => ?_
     go_simp
     refine (tor_k _ _ H0.out HZ.out).mono ?_
     rintro e wc ⟨r30, Q30, rfl, hv, hb⟩
     replace H := hcall H hb
     have HV30 := Lib.hid hv
     clear hH
     refine hK.out _ _ (H.out.row 3 rfl) fun hH => ?_
     clear hK K hb hv
     try simp only [Act.put, qa, qb, qc]
     refine rd1 7 rfl fun K hK => ?_
     go_simp
     refine (z1g _ HV27.out HV30.out).mono ?_
     rintro e wc ⟨r31, rfl, hv, hb⟩
     replace H := hcall H hb
     have HV31 := Lib.hid hv
     clear hH
     refine hK.out _ _ (H.out.row 3 rfl) fun hH => ?_
     clear hK K hb hv
     try simp only [Act.put, qa, qb, qc]
     refine rd1 9 rfl fun K hK => ?_
     refine z0l 0 rfl rowQt H.out rfl rfl rfl rfl ?_
     intro ws HS
     simp only [qb] at HS
     replace H := Lib.hid HS
     clear hH
     refine hK.out _ _ (H.out.row 3 rfl) fun hH => ?_
     clear hK K HS
     try simp only [qa]
     try simp only [Act.put]
     refine wpAnyH_done (by kernel_rfl) ?_ _
     refine NoPanic.normal ?_
     clear hH
     clear HS HN H0 HZ HT
     obtain ⟨P31, e31⟩ : ∃ P, padd edK (pmul edK x pB) Q30 = P := ⟨_, rfl⟩
     rw [e31] at HV31
     clear e31
     go_wp2_with fail
     go_meet
     exact ⟨g5, r31, P31, rfl, HV31.out, H.out⟩
   ·skip
    refine z0c 5 rfl nilQt H.out rfl ?_
    intro w5 g5 H3 hb
    replace H := Lib.hid H3
    clear hH
    refine hK.out _ _ (H.out.row 3 rfl) fun hH => ?_
    clear hK K H3 hb
    try simp only [Act.put, qa, qb, qc]
    refine rd1 3 rfl fun K hK => ?_
    go_simp
    refine (z4e _ _ _ _ _ (Nat.le_trans HN.out (by omega)) ((HS.out.below H.out.bel).more H.out.bel.size) HV26.out).mono ?_
    rintro e wc ⟨r27, rfl, hv, hb⟩
    replace H := hcall H hb
    have HV27 := Lib.hid hv
    clear hH
    refine hK.out _ _ (H.out.row 3 rfl) fun hH => ?_
    clear hK K hb hv
    try simp only [Act.put, qa, qb, qc]
    refine rd1 6 rfl fun K hK => ?_
    go_simp
    refine (tor_k _ _ H0.out HZ.out).mono ?_
    rintro e wc ⟨r30, Q30, rfl, hv, hb⟩
    replace H := hcall H hb
    have HV30 := Lib.hid hv
    clear hH
    refine hK.out _ _ (H.out.row 3 rfl) fun hH => ?_
    clear hK K hb hv
    try simp only [Act.put, qa, qb, qc]
    refine rd1 7 rfl fun K hK => ?_
    go_simp
    refine (z1g _ HV27.out HV30.out).mono ?_
    rintro e wc ⟨r31, rfl, hv, hb⟩
    replace H := hcall H hb
    have HV31 := Lib.hid hv
    clear hH
    refine hK.out _ _ (H.out.row 3 rfl) fun hH => ?_
    clear hK K hb hv
    try simp only [Act.put, qa, qb, qc]
    refine rd1 9 rfl fun K hK => ?_
    refine z0l 0 rfl rowQt H.out rfl rfl rfl rfl ?_
    intro ws HS
    simp only [qb] at HS
    replace H := Lib.hid HS
    clear hH
    refine hK.out _ _ (H.out.row 3 rfl) fun hH => ?_
    clear hK K HS
    try simp only [qa]
    try simp only [Act.put]
    refine wpAnyH_done (by kernel_rfl) ?_ _
    refine NoPanic.normal ?_
    clear hH
    clear HS HN H0 HZ HT
    obtain ⟨P31, e31⟩ : ∃ P, padd edK (pmul edK x pB) Q30 = P := ⟨_, rfl⟩
    rw [e31] at HV31
    clear e31
    go_wp2_with fail
    go_meet
    exact ⟨g5, r31, P31, rfl, HV31.out, H.out⟩
  ·skip
   refine z0c 5 rfl nilQt H.out rfl ?_
   intro w5 g5 H3 hb
   replace H := Lib.hid H3
   clear hH
   refine hK.out _ _ (H.out.row 3 rfl) fun hH => ?_
   clear hK K H3 hb
   try simp only [Act.put, qa, qb, qc]
   refine rd1 2 rfl fun K hK => ?_
   go_simp
   refine (z67 _).mono ?_
   rintro e wc ⟨r26, rfl, hv, hb⟩
   replace H := hcall H hb
   have HV26 := Lib.hid hv
   clear hH
   refine hK.out _ _ (H.out.row 3 rfl) fun hH => ?_
   clear hK K hb hv
   try simp only [Act.put, qa, qb, qc]
   refine rd1 3 rfl fun K hK => ?_
   go_simp
   refine (z4e _ _ _ _ _ (Nat.le_trans HN.out (by omega)) ((HS.out.below H.out.bel).more H.out.bel.size) HV26.out).mono ?_
   rintro e wc ⟨r27, rfl, hv, hb⟩
   replace H := hcall H hb
   have HV27 := Lib.hid hv
   clear hH
   refine hK.out _ _ (H.out.row 3 rfl) fun hH => ?_
   clear hK K hb hv
   try simp only [Act.put, qa, qb, qc]
   refine rd1 6 rfl fun K hK => ?_
   go_simp
   refine (tor_k _ _ H0.out HZ.out).mono ?_
   rintro e wc ⟨r30, Q30, rfl, hv, hb⟩
   replace H := hcall H hb
   have HV30 := Lib.hid hv
   clear hH
   refine hK.out _ _ (H.out.row 3 rfl) fun hH => ?_
   clear hK K hb hv
   try simp only [Act.put, qa, qb, qc]
   refine rd1 7 rfl fun K hK => ?_
   go_simp
   refine (z1g _ HV27.out HV30.out).mono ?_
   rintro e wc ⟨r31, rfl, hv, hb⟩
   replace H := hcall H hb
   have HV31 := Lib.hid hv
   clear hH
   refine hK.out _ _ (H.out.row 3 rfl) fun hH => ?_
   clear hK K hb hv
   try simp only [Act.put, qa, qb, qc]
   refine rd1 9 rfl fun K hK => ?_
   refine z0l 0 rfl rowQt H.out rfl rfl rfl rfl ?_
   intro ws HS
   simp only [qb] at HS
   replace H := Lib.hid HS
   clear hH
   refine hK.out _ _ (H.out.row 3 rfl) fun hH => ?_
   clear hK K HS
   try simp only [qa]
   try simp only [Act.put]
   refine wpAnyH_done (by kernel_rfl) ?_ _
   refine NoPanic.normal ?_
   clear hH
   clear HS HN H0 HZ HT
   obtain ⟨P31, e31⟩ : ∃ P, padd edK (pmul edK x pB) Q30 = P := ⟨_, rfl⟩
   rw [e31] at HV31
   clear e31
   go_wp2_with fail
   go_meet
   exact ⟨g5, r31, P31, rfl, HV31.out, H.out⟩
 clear H
 obtain ⟨g5, r31, P31, rfl, hv31, HRR⟩ := hcut
 have HV31 := Lib.hid hv31
 have H := Lib.hid HRR
 clear HRR hv31
 go_upto_region 5 with (first
  | ((with_reducible apply z0g rowQt H); (case hgd | ho | hx => exact rfl); (case hi => repeat first|exact at0|apply atS); intro _ _; go_simp)
  | ((fail_if_success have := mk1); (with_reducible refine (refEncode_k _ HV31.out).mono ?_); rintro e wc ⟨ge, ce, rfl, hs, hb⟩; replace H := hcall H hb; have SE := Lib.hid hs; have mk1 := trivial; clear hb hs)
  | ((fail_if_success have := mk2); (with_reducible refine (decode_on _ (HT.out.below H.out.bel) SE.out rfl).mono ?_); rintro e wc ⟨k1, rfl, hv, hb⟩; replace H := hcall H hb; have V1 := Lib.hid hv; have mk2 := trivial; clear hb hv)
  | ((fail_if_success have := g6); (with_reducible apply z0b nilPt H); (case hgd | ho => exact rfl); clear H; intro w6 g6 H _ _; go_simp)
  | ((with_reducible apply z0e rowPt H); (case hgd | ho | hx | hy => exact rfl); (case hi => repeat first|exact at0|apply atS); clear H; intro ws H _ _; simp only [qb] at H; go_simp))
 clear SE mk1 mk2
 refine wp_region_noPanic ?_
 refine wp_region_held_drew (S := fun W => W.heap[g6]? = some (Blk 38 .u64 24 (k1)) ∧ W.heap[g5]? = some (Blk 40 .i64 48 (r31))) (by kernel_rfl) (⟨H.out.drew.row 0 rfl, H.out.drew.row 1 rfl⟩) (fun hH => ?_)
 replace H := Lib.hid H.out.drew
 generalize World.drew _ = w8 at *
 refine z0f 0 38 rowPt rfl rfl rfl hH rfl rfl (fun _ h => h.1) ?_
 try simp only [Act.put, qa, qb, qc]
 refine z0f 1 39 rowQt rfl rfl rfl hH rfl rfl (fun _ h => h.2) ?_
 try simp only [Act.put, qa, qb, qc]
 refine z0a 2 40 (.int .i64 0) rfl rfl rfl hH (fun w hw => by go_simp) ?_
 try simp only [Act.put, qa, qb, qc]
 refine z0a 3 41 (.bool true) rfl rfl rfl hH (fun w hw => by go_simp) ?_
 try simp only [Act.put, qa, qb, qc]
 refine rd1 4 rfl fun K hK => ?_
 refine z0l 3 rfl rowPt H.out rfl rfl rfl rfl ?_
 intro ws HS
 simp only [qb, qc] at HS
 replace H := Lib.hid HS
 clear hH
 refine hK.out _ _ ⟨H.out.row 0 rfl, H.out.row 1 rfl⟩ fun hH => ?_
 clear hK K HS
 try simp only [qa]
 refine rd1 5 rfl fun K hK => ?_
 refine z0l 2 rfl rowQt H.out rfl rfl rfl rfl ?_
 intro ws HS
 simp only [qb, qc] at HS
 replace H := Lib.hid HS
 clear hH
 refine hK.out _ _ ⟨H.out.row 0 rfl, H.out.row 1 rfl⟩ fun hH => ?_
 clear hK K HS
 try simp only [qa]
 refine z0a 6 4 (.bool true) rfl rfl rfl hH (fun w hw => by go_simp) ?_
 try simp only [Act.put, qa, qb, qc]
 try simp only [Act.put]
 refine wpAnyH_done (by kernel_rfl) ?_ _
 refine NoPanic.normal ?_
 clear hH
 go_wp2_with fail
 exact bodyPost_ret (z06 3 2 rowPt rowQt rfl _ H rfl rfl rfl rfl rfl) rfl ⟨_, _, P31, rfl, V1.out, HV31.out, H.out.bel⟩
def okS (n : Nat) (z : Int) : Bool := decide (n ≤ 57 ∧ 0 ≤ z ∧ z ≤ 3)
theorem z6a {a : Option Addr} {n c x : Nat} {z : Int} {b : Bool} (hb : okS n z = b) (w : World) (hT : Tp w) (hs : Sb w w.heap.size a n c x) :
  Calls Tryz.prog 10 #[.agg #[.slice a n c, .int .i64 z]] w fun e w' => ∃ v r P, e = .returned (.tuple #[PO v, QO r, .bool b]) ∧ PtK v P ∧ RfK r P ∧ Below w.heap.size w w' := by
 by_cases h1 : 57 < n
 ·have e : okS n z = false := by unfold okS; exact decide_eq_false (by omega)
  rw [e] at hb
  subst hb
  exact made11_far w hT h1
 by_cases h2 : z < 0
 ·have e : okS n z = false := by unfold okS; exact decide_eq_false (by omega)
  rw [e] at hb
  subst hb
  exact made11_low w hT (by omega) h2
 by_cases h3 : 3 < z
 ·have e : okS n z = false := by unfold okS; exact decide_eq_false (by omega)
  rw [e] at hb
  subst hb
  exact made11_high w hT (by omega) (by omega) h3
 have e : okS n z = true := by unfold okS; exact decide_eq_true (by omega)
 rw [e] at hb
 subst hb
 exact made11_k w hT hs (by omega) (by omega) (by omega)
end Go.Proofs.YtoeokhfhcpcjlaaGreatDoor
