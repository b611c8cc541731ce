/-
 The contract of the reference's sum of points. No statement is proved here: lemmas for the walks.
-/
import Derived.Test.YtoeokhfhcpcjlaaGreatDoorZRfPt
import Derived.Deep.CutRange
set_option maxRecDepth 8000
set_option maxHeartbeats 3200000
namespace Go.Proofs.YtoeokhfhcpcjlaaGreatDoor
open Go.RowKit
theorem z1g {v1 v2 : Nat → Int} {P1 P2 : Pt pN dK} (w : World) (q1 : RfK v1 P1) (q2 : RfK v2 P2) :
  Calls Tryz.prog 45 #[QO v1, QO v2] w fun e w' => ∃ r, e = .returned (QO r) ∧ RfK r (padd edK P1 P2) ∧ Below w.heap.size w w' := by
 obtain ⟨X1, Y1, Z1, rfl, r1⟩ := q1.is
 have R1 := Lib.hid r1
 clear q1 r1
 obtain ⟨X2, Y2, Z2, rfl, r2⟩ := q2.is
 have R2 := Lib.hid r2
 clear q2 r2
 have HA := Lib.hid (Rp.add edK R1.out R2.out)
 clear R1 R2
 have H := Lib.hid (Ow.start w)
 go_enter Tryz.func45, Tryz.ntmps45
 go_upto_region 5 with (first
  | ((fail_if_success have := g2); (with_reducible apply z0h H); (case hgd | ho | hx => exact rfl); clear H; intro w2 g2 H _ _; go_simp)
  | ((fail_if_success have := g3); (fail_if_success have := g3); (with_reducible apply z0h H); (case hgd | ho | hx => exact rfl); clear H; intro w3 g3 H _ _; go_simp)
  | ((fail_if_success have := g4); (fail_if_success have := g4); (with_reducible apply z0b nilQt H); (case hgd | ho => exact rfl); clear H; intro w4 g4 H _ _; go_simp)
  | ((with_reducible apply z4j rowF H); (case hgd | ho | hx => exact rfl); (case hi => repeat first|exact at0|apply atS); (case hp => first | exact z30 | exact z3z | exact z85); intro _ _; go_simp)
  | ((with_reducible apply z0g rowF H); (case hgd | ho | hx => exact rfl); (case hi => repeat first|exact at0|apply atS); intro _ _; go_simp)
  | ((with_reducible apply z0e rowF H); (case hgd | ho | hx | hy => exact rfl); (case hi => repeat first|exact at0|apply atS); clear H; intro ws H _ _; simp only [qb] at H; go_simp)
  | ((fail_if_success have := g5); (with_reducible refine (z0q (Z1) (Z2) _).mono ?_); rintro e wc ⟨rfl, hb⟩; replace H := hcall H hb; clear hb)
  | ((fail_if_success have := g5); (fail_if_success have := g5); (with_reducible apply z0b intsF.zero H); (case hgd | ho => exact rfl); clear H; intro w5 g5 H _ _; go_simp)
  | ((fail_if_success have := g6); (with_reducible refine (z0q (Z1 * Z2) (Z1 * Z2) _).mono ?_); rintro e wc ⟨rfl, hb⟩; replace H := hcall H hb; clear hb)
  | ((fail_if_success have := g6); (fail_if_success have := g6); (with_reducible apply z0b intsF.zero H); (case hgd | ho => exact rfl); clear H; intro w6 g6 H _ _; go_simp)
  | ((fail_if_success have := g7); (with_reducible refine (z0q (X1) (Y2) _).mono ?_); rintro e wc ⟨rfl, hb⟩; replace H := hcall H hb; clear hb)
  | ((fail_if_success have := g7); (fail_if_success have := g7); (with_reducible apply z0b intsF.zero H); (case hgd | ho => exact rfl); clear H; intro w7 g7 H _ _; go_simp)
  | ((fail_if_success have := g8); (with_reducible refine (z0q (X2) (Y1) _).mono ?_); rintro e wc ⟨rfl, hb⟩; replace H := hcall H hb; clear hb)
  | ((fail_if_success have := g8); (fail_if_success have := g8); (with_reducible apply z0b intsF.zero H); (case hgd | ho => exact rfl); clear H; intro w8 g8 H _ _; go_simp))
 go_cut [9] from 32 to 36 (fun v9 wx => ∃ g9, v9 = .pointer (some ⟨g9, 0, none⟩) ∧ Ow w wx [(g9, Blk 31 .i64 16 (dF ((dK * ((X1 * Y2) * (X2 * Y1)))).val)), (g8, Blk 31 .i64 16 (dF ((X2 * Y1)).val)), (g7, Blk 31 .i64 16 (dF ((X1 * Y2)).val)), (g6, Blk 31 .i64 16 (dF (((Z1 * Z2) * (Z1 * Z2))).val)), (g5, Blk 31 .i64 16 (dF ((Z1 * Z2)).val)), (g4, Blk 40 .i64 48 fun _ => 0), (g3, Blk 40 .i64 48 ((t3 16 (dF (X2).val) (dF (Y2).val) (dF (Z2).val)))), (g2, Blk 40 .i64 48 ((t3 16 (dF (X1).val) (dF (Y1).val) (dF (Z1).val))))])
 case first =>
  go_wp2_with fail
  refine wp_region_noPanic ?_
  refine wp_region_held_drew (S := fun W => W.heap[g7]? = some (Blk 31 .i64 16 (dF ((X1 * Y2)).val)) ∧ W.heap[g8]? = some (Blk 31 .i64 16 (dF ((X2 * Y1)).val))) (by kernel_rfl) (⟨H.out.drew.row 1 rfl, H.out.drew.row 0 rfl⟩) (fun hH => ?_)
  replace H := Lib.hid H.out.drew
  generalize World.drew _ = w8 at *
  refine z0f 1 33 rowF rfl rfl rfl hH rfl rfl (fun _ h => h.1) ?_
  try simp only [Act.put, qa, qb, qc]
  refine z0f 2 34 rowF rfl rfl rfl hH rfl rfl (fun _ h => h.2) ?_
  try simp only [Act.put, qa, qb, qc]
  refine rdn [0, 5] (rdc rfl (fun K hK => ?_) (rdc rfl (fun K hK => ?_) rdz))
  ·skip
   go_simp
   refine (refD_k _).mono ?_
   rintro e wc ⟨rfl, hb⟩
   replace H := hcall H hb
   clear hH
   refine hK.out _ _ ⟨H.out.row 1 rfl, H.out.row 0 rfl⟩ fun hH => ?_
   clear hK K hb
   try simp only [Act.put, qa, qb, qc]
   refine rdn [3, 5] (rdc rfl (fun K hK => ?_) (rdc rfl (fun K hK => ?_) rdz))
   ·skip
    go_simp
    refine (z0q _ _ _).mono ?_
    rintro e wc ⟨rfl, hb⟩
    replace H := hcall H hb
    clear hH
    refine hK.out _ _ ⟨H.out.row 1 rfl, H.out.row 0 rfl⟩ fun hH => ?_
    clear hK K hb
    try simp only [Act.put, qa, qb, qc]
    refine rdn [4, 5] (rdc rfl (fun K hK => ?_) (rdc rfl (fun K hK => ?_) rdz))
    ·skip
     go_simp
     refine (z0q _ _ _).mono ?_
     rintro e wc ⟨rfl, hb⟩
     replace H := hcall H hb
     clear hH
     refine hK.out _ _ ⟨H.out.row 1 rfl, H.out.row 0 rfl⟩ fun hH => ?_
     clear hK K hb
     try simp only [Act.put, qa, qb, qc]
     refine rd1 5 rfl fun K hK => ?_
     refine z0c 9 rfl intsF.zero H.out rfl ?_
     intro w9 g9 H3 hb
     replace H := Lib.hid H3
     clear hH
     refine hK.out _ _ ⟨H.out.row 2 rfl, H.out.row 1 rfl⟩ fun hH => ?_
     clear hK K H3 hb
     try simp only [Act.put, qa, qb, qc]
     refine rd1 6 rfl fun K hK => ?_
     refine z0d 0 rowF H.out rfl rfl rfl rfl ?_
     intro ws HS
     simp only [qb] at HS
     replace H := Lib.hid HS
     clear hH
     refine hK.out _ _ ⟨H.out.row 2 rfl, H.out.row 1 rfl⟩ fun hH => ?_
     clear hK K HS
     try simp only [Act.put, qa]
     try simp only [Act.put]
     refine wpAnyH_done (by kernel_rfl) ?_ _
     refine NoPanic.normal ?_
     clear hH
     go_wp2_with fail
     go_meet
     exact ⟨g9, rfl, H.out⟩
    ·skip
     refine z0c 9 rfl intsF.zero H.out rfl ?_
     intro w9 g9 H3 hb
     replace H := Lib.hid H3
     clear hH
     refine hK.out _ _ ⟨H.out.row 2 rfl, H.out.row 1 rfl⟩ fun hH => ?_
     clear hK K H3 hb
     try simp only [Act.put, qa, qb, qc]
     refine rd1 4 rfl fun K hK => ?_
     go_simp
     refine (z0q _ _ _).mono ?_
     rintro e wc ⟨rfl, hb⟩
     replace H := hcall H hb
     clear hH
     refine hK.out _ _ ⟨H.out.row 2 rfl, H.out.row 1 rfl⟩ fun hH => ?_
     clear hK K hb
     try simp only [Act.put, qa, qb, qc]
     refine rd1 6 rfl fun K hK => ?_
     refine z0d 0 rowF H.out rfl rfl rfl rfl ?_
     intro ws HS
     simp only [qb] at HS
     replace H := Lib.hid HS
     clear hH
     refine hK.out _ _ ⟨H.out.row 2 rfl, H.out.row 1 rfl⟩ fun hH => ?_
     clear hK K HS
     try simp only [Act.put, qa]
     try simp only [Act.put]
     refine wpAnyH_done (by kernel_rfl) ?_ _
     refine NoPanic.normal ?_
     clear hH
     go_wp2_with fail
     go_meet
     exact ⟨g9, rfl, H.out⟩
   ·skip
    refine z0c 9 rfl intsF.zero H.out rfl ?_
    intro w9 g9 H3 hb
    replace H := Lib.hid H3
    clear hH
    refine hK.out _ _ ⟨H.out.row 2 rfl, H.out.row 1 rfl⟩ fun hH => ?_
    clear hK K H3 hb
    try simp only [Act.put, qa, qb, qc]
    refine rd1 3 rfl fun K hK => ?_
    go_simp
    refine (z0q _ _ _).mono ?_
    rintro e wc ⟨rfl, hb⟩
    replace H := hcall H hb
    clear hH
    refine hK.out _ _ ⟨H.out.row 2 rfl, H.out.row 1 rfl⟩ fun hH => ?_
    clear hK K hb
    try simp only [Act.put, qa, qb, qc]
    refine rd1 4 rfl fun K hK => ?_
    go_simp
    refine (z0q _ _ _).mono ?_
    rintro e wc ⟨rfl, hb⟩
    replace H := hcall H hb
    clear hH
    refine hK.out _ _ ⟨H.out.row 2 rfl, H.out.row 1 rfl⟩ fun hH => ?_
    clear hK K hb
    try simp only [Act.put, qa, qb, qc]
    refine rd1 6 rfl fun K hK => ?_
    refine z0d 0 rowF H.out rfl rfl rfl rfl ?_
    intro ws HS
    simp only [qb] at HS
    replace H := Lib.hid HS
    clear hH
    refine hK.out _ _ ⟨H.out.row 2 rfl, H.out.row 1 rfl⟩ fun hH => ?_
    clear hK K HS
    try simp only [Act.put, qa]
    try simp only [Act.put]
    refine wpAnyH_done (by kernel_rfl) ?_ _
    refine NoPanic.normal ?_
    clear hH
    go_wp2_with fail
    go_meet
    exact ⟨g9, rfl, H.out⟩
  ·skip
   refine z0c 9 rfl intsF.zero H.out rfl ?_
   intro w9 g9 H3 hb
   replace H := Lib.hid H3
   clear hH
   refine hK.out _ _ ⟨H.out.row 2 rfl, H.out.row 1 rfl⟩ fun hH => ?_
   clear hK K H3 hb
   try simp only [Act.put, qa, qb, qc]
   refine rd1 0 rfl fun K hK => ?_
   go_simp
   refine (refD_k _).mono ?_
   rintro e wc ⟨rfl, hb⟩
   replace H := hcall H hb
   clear hH
   refine hK.out _ _ ⟨H.out.row 2 rfl, H.out.row 1 rfl⟩ fun hH => ?_
   clear hK K hb
   try simp only [Act.put, qa, qb, qc]
   refine rd1 3 rfl fun K hK => ?_
   go_simp
   refine (z0q _ _ _).mono ?_
   rintro e wc ⟨rfl, hb⟩
   replace H := hcall H hb
   clear hH
   refine hK.out _ _ ⟨H.out.row 2 rfl, H.out.row 1 rfl⟩ fun hH => ?_
   clear hK K hb
   try simp only [Act.put, qa, qb, qc]
   refine rd1 4 rfl fun K hK => ?_
   go_simp
   refine (z0q _ _ _).mono ?_
   rintro e wc ⟨rfl, hb⟩
   replace H := hcall H hb
   clear hH
   refine hK.out _ _ ⟨H.out.row 2 rfl, H.out.row 1 rfl⟩ fun hH => ?_
   clear hK K hb
   try simp only [Act.put, qa, qb, qc]
   refine rd1 6 rfl fun K hK => ?_
   refine z0d 0 rowF H.out rfl rfl rfl rfl ?_
   intro ws HS
   simp only [qb] at HS
   replace H := Lib.hid HS
   clear hH
   refine hK.out _ _ ⟨H.out.row 2 rfl, H.out.row 1 rfl⟩ fun hH => ?_
   clear hK K HS
   try simp only [Act.put, qa]
   try simp only [Act.put]
   refine wpAnyH_done (by kernel_rfl) ?_ _
   refine NoPanic.normal ?_
   clear hH
   go_wp2_with fail
   go_meet
   exact ⟨g9, rfl, H.out⟩
 clear H
 obtain ⟨g9, rfl, HRR⟩ := hcut
 have H := Lib.hid HRR
 clear HRR 
 go_upto_region 8 with (first
  | ((with_reducible apply z0g rowF H); (case hgd | ho | hx => exact rfl); (case hi => repeat first|exact at0|apply atS); intro _ _; go_simp)
  | ((with_reducible apply z0e rowF H); (case hgd | ho | hx | hy => exact rfl); (case hi => repeat first|exact at0|apply atS); clear H; intro ws H _ _; simp only [qb] at H; go_simp)
  | ((fail_if_success have := g10); (with_reducible refine (z6p ((Z1 * Z2) * (Z1 * Z2)) (dK * ((X1 * Y2) * (X2 * Y1))) _).mono ?_); rintro e wc ⟨rfl, hb⟩; replace H := hcall H hb; clear hb)
  | ((fail_if_success have := g10); (fail_if_success have := g10); (with_reducible apply z0b intsF.zero H); (case hgd | ho => exact rfl); clear H; intro w10 g10 H _ _; go_simp)
  | ((fail_if_success have := g11); (with_reducible refine (z3t ((Z1 * Z2) * (Z1 * Z2)) (dK * ((X1 * Y2) * (X2 * Y1))) _).mono ?_); rintro e wc ⟨rfl, hb⟩; replace H := hcall H hb; clear hb)
  | ((fail_if_success have := g11); (fail_if_success have := g11); (with_reducible apply z0b intsF.zero H); (case hgd | ho => exact rfl); clear H; intro w11 g11 H _ _; go_simp))
 go_cut [12] from 43 to 47 (fun v12 wx => ∃ g12, v12 = .pointer (some ⟨g12, 0, none⟩) ∧ Ow w wx [(g12, Blk 31 .i64 16 (dF (((Z1 * Z2) * ((X1 * Y2) + (X2 * Y1)))).val)), (g11, Blk 31 .i64 16 (dF ((((Z1 * Z2) * (Z1 * Z2)) - (dK * ((X1 * Y2) * (X2 * Y1))))).val)), (g10, Blk 31 .i64 16 (dF ((((Z1 * Z2) * (Z1 * Z2)) + (dK * ((X1 * Y2) * (X2 * Y1))))).val)), (g9, Blk 31 .i64 16 (dF ((dK * ((X1 * Y2) * (X2 * Y1)))).val)), (g8, Blk 31 .i64 16 (dF ((X2 * Y1)).val)), (g7, Blk 31 .i64 16 (dF ((X1 * Y2)).val)), (g6, Blk 31 .i64 16 (dF (((Z1 * Z2) * (Z1 * Z2))).val)), (g5, Blk 31 .i64 16 (dF ((Z1 * Z2)).val)), (g4, Blk 40 .i64 48 fun _ => 0), (g3, Blk 40 .i64 48 ((t3 16 (dF (X2).val) (dF (Y2).val) (dF (Z2).val)))), (g2, Blk 40 .i64 48 ((t3 16 (dF (X1).val) (dF (Y1).val) (dF (Z1).val))))])
 case first =>
  go_wp2_with fail
  refine wp_region_noPanic ?_
  refine wp_region_held_drew (S := fun W => W.heap[g5]? = some (Blk 31 .i64 16 (dF ((Z1 * Z2)).val)) ∧ W.heap[g7]? = some (Blk 31 .i64 16 (dF ((X1 * Y2)).val)) ∧ W.heap[g8]? = some (Blk 31 .i64 16 (dF ((X2 * Y1)).val))) (by kernel_rfl) (⟨H.out.drew.row 6 rfl, H.out.drew.row 4 rfl, H.out.drew.row 3 rfl⟩) (fun hH => ?_)
  replace H := Lib.hid H.out.drew
  generalize World.drew _ = w8 at *
  refine z0f 0 43 rowF rfl rfl rfl hH rfl rfl (fun _ h => h.1) ?_
  try simp only [Act.put, qa, qb, qc]
  refine z0f 1 44 rowF rfl rfl rfl hH rfl rfl (fun _ h => h.2.1) ?_
  try simp only [Act.put, qa, qb, qc]
  refine z0f 2 45 rowF rfl rfl rfl hH rfl rfl (fun _ h => h.2.2) ?_
  try simp only [Act.put, qa, qb, qc]
  refine rdn [3, 5] (rdc rfl (fun K hK => ?_) (rdc rfl (fun K hK => ?_) rdz))
  ·skip
   go_simp
   refine (z6p _ _ _).mono ?_
   rintro e wc ⟨rfl, hb⟩
   replace H := hcall H hb
   clear hH
   refine hK.out _ _ ⟨H.out.row 6 rfl, H.out.row 4 rfl, H.out.row 3 rfl⟩ fun hH => ?_
   clear hK K hb
   try simp only [Act.put, qa, qb, qc]
   refine rdn [4, 5] (rdc rfl (fun K hK => ?_) (rdc rfl (fun K hK => ?_) rdz))
   ·skip
    go_simp
    refine (z0q _ _ _).mono ?_
    rintro e wc ⟨rfl, hb⟩
    replace H := hcall H hb
    clear hH
    refine hK.out _ _ ⟨H.out.row 6 rfl, H.out.row 4 rfl, H.out.row 3 rfl⟩ fun hH => ?_
    clear hK K hb
    try simp only [Act.put, qa, qb, qc]
    refine rd1 5 rfl fun K hK => ?_
    refine z0c 12 rfl intsF.zero H.out rfl ?_
    intro w12 g12 H3 hb
    replace H := Lib.hid H3
    clear hH
    refine hK.out _ _ ⟨H.out.row 7 rfl, H.out.row 5 rfl, H.out.row 4 rfl⟩ fun hH => ?_
    clear hK K H3 hb
    try simp only [Act.put, qa, qb, qc]
    refine rd1 6 rfl fun K hK => ?_
    refine z0d 0 rowF H.out rfl rfl rfl rfl ?_
    intro ws HS
    simp only [qb] at HS
    replace H := Lib.hid HS
    clear hH
    refine hK.out _ _ ⟨H.out.row 7 rfl, H.out.row 5 rfl, H.out.row 4 rfl⟩ fun hH => ?_
    clear hK K HS
    try simp only [Act.put, qa]
    try simp only [Act.put]
    refine wpAnyH_done (by kernel_rfl) ?_ _
    refine NoPanic.normal ?_
    clear hH
    go_wp2_with fail
    go_meet
    exact ⟨g12, rfl, H.out⟩
   ·skip
    refine z0c 12 rfl intsF.zero H.out rfl ?_
    intro w12 g12 H3 hb
    replace H := Lib.hid H3
    clear hH
    refine hK.out _ _ ⟨H.out.row 7 rfl, H.out.row 5 rfl, H.out.row 4 rfl⟩ fun hH => ?_
    clear hK K H3 hb
    try simp only [Act.put, qa, qb, qc]
    refine rd1 4 rfl fun K hK => ?_
    go_simp
    refine (z0q _ _ _).mono ?_
    rintro e wc ⟨rfl, hb⟩
    replace H := hcall H hb
    clear hH
    refine hK.out _ _ ⟨H.out.row 7 rfl, H.out.row 5 rfl, H.out.row 4 rfl⟩ fun hH => ?_
    clear hK K hb
    try simp only [Act.put, qa, qb, qc]
    refine rd1 6 rfl fun K hK => ?_
    refine z0d 0 rowF H.out rfl rfl rfl rfl ?_
    intro ws HS
    simp only [qb] at HS
    replace H := Lib.hid HS
    clear hH
    refine hK.out _ _ ⟨H.out.row 7 rfl, H.out.row 5 rfl, H.out.row 4 rfl⟩ fun hH => ?_
    clear hK K HS
    try simp only [Act.put, qa]
    try simp only [Act.put]
    refine wpAnyH_done (by kernel_rfl) ?_ _
    refine NoPanic.normal ?_
    clear hH
    go_wp2_with fail
    go_meet
    exact ⟨g12, rfl, H.out⟩
  ·skip
   refine z0c 12 rfl intsF.zero H.out rfl ?_
   intro w12 g12 H3 hb
   replace H := Lib.hid H3
   clear hH
   refine hK.out _ _ ⟨H.out.row 7 rfl, H.out.row 5 rfl, H.out.row 4 rfl⟩ fun hH => ?_
   clear hK K H3 hb
   try simp only [Act.put, qa, qb, qc]
   refine rd1 3 rfl fun K hK => ?_
   go_simp
   refine (z6p _ _ _).mono ?_
   rintro e wc ⟨rfl, hb⟩
   replace H := hcall H hb
   clear hH
   refine hK.out _ _ ⟨H.out.row 7 rfl, H.out.row 5 rfl, H.out.row 4 rfl⟩ fun hH => ?_
   clear hK K hb
   try simp only [Act.put, qa, qb, qc]
   refine rd1 4 rfl fun K hK => ?_
   go_simp
   refine (z0q _ _ _).mono ?_
   rintro e wc ⟨rfl, hb⟩
   replace H := hcall H hb
   clear hH
   refine hK.out _ _ ⟨H.out.row 7 rfl, H.out.row 5 rfl, H.out.row 4 rfl⟩ fun hH => ?_
   clear hK K hb
   try simp only [Act.put, qa, qb, qc]
   refine rd1 6 rfl fun K hK => ?_
   refine z0d 0 rowF H.out rfl rfl rfl rfl ?_
   intro ws HS
   simp only [qb] at HS
   replace H := Lib.hid HS
   clear hH
   refine hK.out _ _ ⟨H.out.row 7 rfl, H.out.row 5 rfl, H.out.row 4 rfl⟩ fun hH => ?_
   clear hK K HS
   try simp only [Act.put, qa]
   try simp only [Act.put]
   refine wpAnyH_done (by kernel_rfl) ?_ _
   refine NoPanic.normal ?_
   clear hH
   go_wp2_with fail
   go_meet
   exact ⟨g12, rfl, H.out⟩
 clear H
 obtain ⟨g12, rfl, HRR⟩ := hcut
 have H := Lib.hid HRR
 clear HRR 
 go_upto_region 9 with fail
 go_cut [13] from 48 to 60 (fun v13 wx => ∃ g13, v13 = .pointer (some ⟨g13, 0, none⟩) ∧ Ow w wx [(g13, Blk 31 .i64 16 (dF (((Z1 * Z2) * ((Y1 * Y2) - (X1 * X2)))).val)), (g12, Blk 31 .i64 16 (dF (((Z1 * Z2) * ((X1 * Y2) + (X2 * Y1)))).val)), (g11, Blk 31 .i64 16 (dF ((((Z1 * Z2) * (Z1 * Z2)) - (dK * ((X1 * Y2) * (X2 * Y1))))).val)), (g10, Blk 31 .i64 16 (dF ((((Z1 * Z2) * (Z1 * Z2)) + (dK * ((X1 * Y2) * (X2 * Y1))))).val)), (g9, Blk 31 .i64 16 (dF ((dK * ((X1 * Y2) * (X2 * Y1)))).val)), (g8, Blk 31 .i64 16 (dF ((X2 * Y1)).val)), (g7, Blk 31 .i64 16 (dF ((X1 * Y2)).val)), (g6, Blk 31 .i64 16 (dF (((Z1 * Z2) * (Z1 * Z2))).val)), (g5, Blk 31 .i64 16 (dF ((Z1 * Z2)).val)), (g4, Blk 40 .i64 48 fun _ => 0), (g3, Blk 40 .i64 48 ((t3 16 (dF (X2).val) (dF (Y2).val) (dF (Z2).val)))), (g2, Blk 40 .i64 48 ((t3 16 (dF (X1).val) (dF (Y1).val) (dF (Z1).val))))])
 case first =>
  go_wp2_with fail
  refine wp_region_noPanic ?_
  refine wp_region_held_drew (S := fun W => W.heap[g5]? = some (Blk 31 .i64 16 (dF ((Z1 * Z2)).val)) ∧ W.heap[g2]? = some (Blk 40 .i64 48 ((t3 16 (dF (X1).val) (dF (Y1).val) (dF (Z1).val)))) ∧ W.heap[g3]? = some (Blk 40 .i64 48 ((t3 16 (dF (X2).val) (dF (Y2).val) (dF (Z2).val))))) (by kernel_rfl) (⟨H.out.drew.row 7 rfl, H.out.drew.row 10 rfl, H.out.drew.row 9 rfl⟩) (fun hH => ?_)
  replace H := Lib.hid H.out.drew
  generalize World.drew _ = w8 at *
  refine z0f 0 48 rowF rfl rfl rfl hH rfl rfl (fun _ h => h.1) ?_
  try simp only [Act.put, qa, qb, qc]
  refine z0a 1 49 (.pointer (some ⟨g2, 16, none⟩)) rfl rfl rfl hH (fun w hw => by go_simp) ?_
  try simp only [Act.put, qa, qb, qc]
  refine z0k 2 50 rowF rfl rfl rfl hH rfl rfl z3z (fun _ h => h.2.1) ?_
  try simp only [Act.put, qa, qb, qc]
  refine z0a 3 51 (.pointer (some ⟨g3, 16, none⟩)) rfl rfl rfl hH (fun w hw => by go_simp) ?_
  try simp only [Act.put, qa, qb, qc]
  refine z0k 4 52 rowF rfl rfl rfl hH rfl rfl z3z (fun _ h => h.2.2) ?_
  try simp only [Act.put, qa, qb, qc]
  refine z0a 6 54 (.pointer (some ⟨g2, 0, none⟩)) rfl rfl rfl hH (fun w hw => by go_simp) ?_
  try simp only [Act.put, qa, qb, qc]
  refine z0k 7 55 rowF rfl rfl rfl hH rfl rfl z30 (fun _ h => h.2.1) ?_
  try simp only [Act.put, qa, qb, qc]
  refine z0a 8 56 (.pointer (some ⟨g3, 0, none⟩)) rfl rfl rfl hH (fun w hw => by go_simp) ?_
  try simp only [Act.put, qa, qb, qc]
  refine z0k 9 57 rowF rfl rfl rfl hH rfl rfl z30 (fun _ h => h.2.2) ?_
  try simp only [Act.put, qa, qb, qc]
  refine rdn [5, 13] (rdc rfl (fun K hK => ?_) (rdc rfl (fun K hK => ?_) rdz))
  ·skip
   go_simp
   refine (z0q _ _ _).mono ?_
   rintro e wc ⟨rfl, hb⟩
   replace H := hcall H hb
   clear hH
   refine hK.out _ _ ⟨H.out.row 7 rfl, H.out.row 10 rfl, H.out.row 9 rfl⟩ fun hH => ?_
   clear hK K hb
   try simp only [Act.put, qa, qb, qc]
   refine rdn [10, 13] (rdc rfl (fun K hK => ?_) (rdc rfl (fun K hK => ?_) rdz))
   ·skip
    go_simp
    refine (z0q _ _ _).mono ?_
    rintro e wc ⟨rfl, hb⟩
    replace H := hcall H hb
    clear hH
    refine hK.out _ _ ⟨H.out.row 7 rfl, H.out.row 10 rfl, H.out.row 9 rfl⟩ fun hH => ?_
    clear hK K hb
    try simp only [Act.put, qa, qb, qc]
    refine rdn [11, 13] (rdc rfl (fun K hK => ?_) (rdc rfl (fun K hK => ?_) rdz))
    ·skip
     go_simp
     refine (z3t _ _ _).mono ?_
     rintro e wc ⟨rfl, hb⟩
     replace H := hcall H hb
     clear hH
     refine hK.out _ _ ⟨H.out.row 7 rfl, H.out.row 10 rfl, H.out.row 9 rfl⟩ fun hH => ?_
     clear hK K hb
     try simp only [Act.put, qa, qb, qc]
     refine rdn [12, 13] (rdc rfl (fun K hK => ?_) (rdc rfl (fun K hK => ?_) rdz))
     ·skip
      go_simp
      refine (z0q _ _ _).mono ?_
      rintro e wc ⟨rfl, hb⟩
      replace H := hcall H hb
      clear hH
      refine hK.out _ _ ⟨H.out.row 7 rfl, H.out.row 10 rfl, H.out.row 9 rfl⟩ fun hH => ?_
      clear hK K hb
      try simp only [Act.put, qa, qb, qc]
      refine rd1 13 rfl fun K hK => ?_
      refine z0c 13 rfl intsF.zero H.out rfl ?_
      intro w13 g13 H3 hb
      replace H := Lib.hid H3
      clear hH
      refine hK.out _ _ ⟨H.out.row 8 rfl, H.out.row 11 rfl, H.out.row 10 rfl⟩ fun hH => ?_
      clear hK K H3 hb
      try simp only [Act.put, qa, qb, qc]
      refine rd1 14 rfl fun K hK => ?_
      refine z0d 0 rowF H.out rfl rfl rfl rfl ?_
      intro ws HS
      simp only [qb] at HS
      replace H := Lib.hid HS
      clear hH
      refine hK.out _ _ ⟨H.out.row 8 rfl, H.out.row 11 rfl, H.out.row 10 rfl⟩ fun hH => ?_
      clear hK K HS
      try simp only [Act.put, qa]
      try simp only [Act.put]
      refine wpAnyH_done (by kernel_rfl) ?_ _
      refine NoPanic.normal ?_
      clear hH
      go_wp2_with fail
      go_meet
      exact ⟨g13, rfl, H.out⟩
     ·skip
      refine z0c 13 rfl intsF.zero H.out rfl ?_
      intro w13 g13 H3 hb
      replace H := Lib.hid H3
      clear hH
      refine hK.out _ _ ⟨H.out.row 8 rfl, H.out.row 11 rfl, H.out.row 10 rfl⟩ fun hH => ?_
      clear hK K H3 hb
      try simp only [Act.put, qa, qb, qc]
      refine rd1 12 rfl fun K hK => ?_
      go_simp
      refine (z0q _ _ _).mono ?_
      rintro e wc ⟨rfl, hb⟩
      replace H := hcall H hb
      clear hH
      refine hK.out _ _ ⟨H.out.row 8 rfl, H.out.row 11 rfl, H.out.row 10 rfl⟩ fun hH => ?_
      clear hK K hb
      try simp only [Act.put, qa, qb, qc]
      refine rd1 14 rfl fun K hK => ?_
      refine z0d 0 rowF H.out rfl rfl rfl rfl ?_
      intro ws HS
      simp only [qb] at HS
      replace H := Lib.hid HS
      clear hH
      refine hK.out _ _ ⟨H.out.row 8 rfl, H.out.row 11 rfl, H.out.row 10 rfl⟩ fun hH => ?_
      clear hK K HS
      try simp only [Act.put, qa]
      try simp only [Act.put]
      refine wpAnyH_done (by kernel_rfl) ?_ _
      refine NoPanic.normal ?_
      clear hH
      go_wp2_with fail
      go_meet
      exact ⟨g13, rfl, H.out⟩
    ·skip
     refine z0c 13 rfl intsF.zero H.out rfl ?_
     intro w13 g13 H3 hb
     replace H := Lib.hid H3
     clear hH
     refine hK.out _ _ ⟨H.out.row 8 rfl, H.out.row 11 rfl, H.out.row 10 rfl⟩ fun hH => ?_
     clear hK K H3 hb
     try simp only [Act.put, qa, qb, qc]
     refine rd1 11 rfl fun K hK => ?_
     go_simp
     refine (z3t _ _ _).mono ?_
     rintro e wc ⟨rfl, hb⟩
     replace H := hcall H hb
     clear hH
     refine hK.out _ _ ⟨H.out.row 8 rfl, H.out.row 11 rfl, H.out.row 10 rfl⟩ fun hH => ?_
     clear hK K hb
     try simp only [Act.put, qa, qb, qc]
     refine rd1 12 rfl fun K hK => ?_
     go_simp
     refine (z0q _ _ _).mono ?_
     rintro e wc ⟨rfl, hb⟩
     replace H := hcall H hb
     clear hH
     refine hK.out _ _ ⟨H.out.row 8 rfl, H.out.row 11 rfl, H.out.row 10 rfl⟩ fun hH => ?_
     clear hK K hb
     try simp only [Act.put, qa, qb, qc]
     refine rd1 14 rfl fun K hK => ?_
     refine z0d 0 rowF H.out rfl rfl rfl rfl ?_
     intro ws HS
     simp only [qb] at HS
     replace H := Lib.hid HS
     clear hH
     refine hK.out _ _ ⟨H.out.row 8 rfl, H.out.row 11 rfl, H.out.row 10 rfl⟩ fun hH => ?_
     clear hK K HS
     try simp only [Act.put, qa]
     try simp only [Act.put]
     refine wpAnyH_done (by kernel_rfl) ?_ _
     refine NoPanic.normal ?_
     clear hH
     go_wp2_with fail
     go_meet
     exact ⟨g13, rfl, H.out⟩
   ·skip
    refine z0c 13 rfl intsF.zero H.out rfl ?_
    intro w13 g13 H3 hb
    replace H := Lib.hid H3
    clear hH
    refine hK.out _ _ ⟨H.out.row 8 rfl, H.out.row 11 rfl, H.out.row 10 rfl⟩ fun hH => ?_
    clear hK K H3 hb
    try simp only [Act.put, qa, qb, qc]
    refine rd1 10 rfl fun K hK => ?_
    go_simp
    refine (z0q _ _ _).mono ?_
    rintro e wc ⟨rfl, hb⟩
    replace H := hcall H hb
    clear hH
    refine hK.out _ _ ⟨H.out.row 8 rfl, H.out.row 11 rfl, H.out.row 10 rfl⟩ fun hH => ?_
    clear hK K hb
    try simp only [Act.put, qa, qb, qc]
    refine rd1 11 rfl fun K hK => ?_
    go_simp
    refine (z3t _ _ _).mono ?_
    rintro e wc ⟨rfl, hb⟩
    replace H := hcall H hb
    clear hH
    refine hK.out _ _ ⟨H.out.row 8 rfl, H.out.row 11 rfl, H.out.row 10 rfl⟩ fun hH => ?_
    clear hK K hb
    try simp only [Act.put, qa, qb, qc]
    refine rd1 12 rfl fun K hK => ?_
    go_simp
    refine (z0q _ _ _).mono ?_
    rintro e wc ⟨rfl, hb⟩
    replace H := hcall H hb
    clear hH
    refine hK.out _ _ ⟨H.out.row 8 rfl, H.out.row 11 rfl, H.out.row 10 rfl⟩ fun hH => ?_
    clear hK K hb
    try simp only [Act.put, qa, qb, qc]
    refine rd1 14 rfl fun K hK => ?_
    refine z0d 0 rowF H.out rfl rfl rfl rfl ?_
    intro ws HS
    simp only [qb] at HS
    replace H := Lib.hid HS
    clear hH
    refine hK.out _ _ ⟨H.out.row 8 rfl, H.out.row 11 rfl, H.out.row 10 rfl⟩ fun hH => ?_
    clear hK K HS
    try simp only [Act.put, qa]
    try simp only [Act.put]
    refine wpAnyH_done (by kernel_rfl) ?_ _
    refine NoPanic.normal ?_
    clear hH
    go_wp2_with fail
    go_meet
    exact ⟨g13, rfl, H.out⟩
  ·skip
   refine z0c 13 rfl intsF.zero H.out rfl ?_
   intro w13 g13 H3 hb
   replace H := Lib.hid H3
   clear hH
   refine hK.out _ _ ⟨H.out.row 8 rfl, H.out.row 11 rfl, H.out.row 10 rfl⟩ fun hH => ?_
   clear hK K H3 hb
   try simp only [Act.put, qa, qb, qc]
   refine rd1 5 rfl fun K hK => ?_
   go_simp
   refine (z0q _ _ _).mono ?_
   rintro e wc ⟨rfl, hb⟩
   replace H := hcall H hb
   clear hH
   refine hK.out _ _ ⟨H.out.row 8 rfl, H.out.row 11 rfl, H.out.row 10 rfl⟩ fun hH => ?_
   clear hK K hb
   try simp only [Act.put, qa, qb, qc]
   refine rd1 10 rfl fun K hK => ?_
   go_simp
   refine (z0q _ _ _).mono ?_
   rintro e wc ⟨rfl, hb⟩
   replace H := hcall H hb
   clear hH
   refine hK.out _ _ ⟨H.out.row 8 rfl, H.out.row 11 rfl, H.out.row 10 rfl⟩ fun hH => ?_
   clear hK K hb
   try simp only [Act.put, qa, qb, qc]
   refine rd1 11 rfl fun K hK => ?_
   go_simp
   refine (z3t _ _ _).mono ?_
   rintro e wc ⟨rfl, hb⟩
   replace H := hcall H hb
   clear hH
   refine hK.out _ _ ⟨H.out.row 8 rfl, H.out.row 11 rfl, H.out.row 10 rfl⟩ fun hH => ?_
   clear hK K hb
   try simp only [Act.put, qa, qb, qc]
   refine rd1 12 rfl fun K hK => ?_
   go_simp
   refine (z0q _ _ _).mono ?_
   rintro e wc ⟨rfl, hb⟩
   replace H := hcall H hb
   clear hH
   refine hK.out _ _ ⟨H.out.row 8 rfl, H.out.row 11 rfl, H.out.row 10 rfl⟩ fun hH => ?_
   clear hK K hb
   try simp only [Act.put, qa, qb, qc]
   refine rd1 14 rfl fun K hK => ?_
   refine z0d 0 rowF H.out rfl rfl rfl rfl ?_
   intro ws HS
   simp only [qb] at HS
   replace H := Lib.hid HS
   clear hH
   refine hK.out _ _ ⟨H.out.row 8 rfl, H.out.row 11 rfl, H.out.row 10 rfl⟩ fun hH => ?_
   clear hK K HS
   try simp only [Act.put, qa]
   try simp only [Act.put]
   refine wpAnyH_done (by kernel_rfl) ?_ _
   refine NoPanic.normal ?_
   clear hH
   go_wp2_with fail
   go_meet
   exact ⟨g13, rfl, H.out⟩
 clear H
 obtain ⟨g13, rfl, HRR⟩ := hcut
 have H := Lib.hid HRR
 clear HRR 
 go_upto_region 10 with fail
 refine wp_region_noPanic ?_
 refine wp_region_held_drew (S := fun W => W.heap[g12]? = some (Blk 31 .i64 16 (dF (((Z1 * Z2) * ((X1 * Y2) + (X2 * Y1)))).val)) ∧ W.heap[g11]? = some (Blk 31 .i64 16 (dF ((((Z1 * Z2) * (Z1 * Z2)) - (dK * ((X1 * Y2) * (X2 * Y1))))).val)) ∧ W.heap[g13]? = some (Blk 31 .i64 16 (dF (((Z1 * Z2) * ((Y1 * Y2) - (X1 * X2)))).val)) ∧ W.heap[g10]? = some (Blk 31 .i64 16 (dF ((((Z1 * Z2) * (Z1 * Z2)) + (dK * ((X1 * Y2) * (X2 * Y1))))).val))) (by kernel_rfl) (⟨H.out.drew.row 1 rfl, H.out.drew.row 2 rfl, H.out.drew.row 0 rfl, H.out.drew.row 3 rfl⟩) (fun hH => ?_)
 replace H := Lib.hid H.out.drew
 generalize World.drew _ = w8 at *
 refine z0f 0 61 rowF rfl rfl rfl hH rfl rfl (fun _ h => h.1) ?_
 try simp only [Act.put, qa, qb, qc]
 refine z0f 1 62 rowF rfl rfl rfl hH rfl rfl (fun _ h => h.2.1) ?_
 try simp only [Act.put, qa, qb, qc]
 refine z0f 3 64 rowF rfl rfl rfl hH rfl rfl (fun _ h => h.2.2.1) ?_
 try simp only [Act.put, qa, qb, qc]
 refine z0f 4 65 rowF rfl rfl rfl hH rfl rfl (fun _ h => h.2.2.2) ?_
 try simp only [Act.put, qa, qb, qc]
 refine z0f 6 67 rowF rfl rfl rfl hH rfl rfl (fun _ h => h.2.2.2) ?_
 try simp only [Act.put, qa, qb, qc]
 refine z0f 7 68 rowF rfl rfl rfl hH rfl rfl (fun _ h => h.2.1) ?_
 try simp only [Act.put, qa, qb, qc]
 refine rd1 2 rfl fun K hK => ?_
 go_simp
 refine (z0q _ _ _).mono ?_
 rintro e wc ⟨rfl, hb⟩
 replace H := hcall H hb
 clear hH
 refine hK.out _ _ ⟨H.out.row 1 rfl, H.out.row 2 rfl, H.out.row 0 rfl, H.out.row 3 rfl⟩ fun hH => ?_
 clear hK K hb
 try simp only [Act.put, qa, qb, qc]
 refine rd1 5 rfl fun K hK => ?_
 go_simp
 refine (z0q _ _ _).mono ?_
 rintro e wc ⟨rfl, hb⟩
 replace H := hcall H hb
 clear hH
 refine hK.out _ _ ⟨H.out.row 1 rfl, H.out.row 2 rfl, H.out.row 0 rfl, H.out.row 3 rfl⟩ fun hH => ?_
 clear hK K hb
 try simp only [Act.put, qa, qb, qc]
 refine rd1 8 rfl fun K hK => ?_
 go_simp
 refine (z0q _ _ _).mono ?_
 rintro e wc ⟨rfl, hb⟩
 replace H := hcall H hb
 clear hH
 refine hK.out _ _ ⟨H.out.row 1 rfl, H.out.row 2 rfl, H.out.row 0 rfl, H.out.row 3 rfl⟩ fun hH => ?_
 clear hK K hb
 try simp only [Act.put, qa, qb, qc]
 refine z8f 9 70 rfl rfl rfl hH rfl rfl rfl rfl ?_
 try simp only [Act.put, qa, qb, qc]
 refine rd1 10 rfl fun K hK => ?_
 refine z0d 9 rowQt H.out rfl rfl rfl rfl ?_
 intro ws HS
 simp only [qb, qc] at HS
 replace H := Lib.hid HS
 clear hH
 refine hK.out _ _ ⟨H.out.row 1 rfl, H.out.row 2 rfl, H.out.row 0 rfl, H.out.row 3 rfl⟩ fun hH => ?_
 clear hK K HS
 try simp only [Act.put, qa]
 try simp only [Act.put]
 refine wpAnyH_done (by kernel_rfl) ?_ _
 refine NoPanic.normal ?_
 clear hH
 go_wp2_with fail
 exact bodyPost_ret (z0i 9 rowQt rfl _ H rfl rfl) rfl ⟨_, rfl, ⟨_, _, _, rfl, HA.out⟩, H.out.bel⟩
end Go.Proofs.YtoeokhfhcpcjlaaGreatDoor
