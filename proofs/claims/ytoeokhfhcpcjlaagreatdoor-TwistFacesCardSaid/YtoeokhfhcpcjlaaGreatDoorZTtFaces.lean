/-
 The walk of TwistFaces. No statement is proved here: lemmas for the walks.
-/
import Derived.Test.YtoeokhfhcpcjlaaGreatDoorZTwAwake
import Derived.Test.YtoeokhfhcpcjlaaGreatDoorZPtAdd
import Derived.Test.YtoeokhfhcpcjlaaGreatDoorBuY
import Derived.Deep.CutRange
set_option maxRecDepth 8000
set_option maxHeartbeats 3200000
namespace Go.Proofs.YtoeokhfhcpcjlaaGreatDoor
open Go.RowKit
theorem zml_four (P : Pt pN dK) : zml 4 P = four P := by
 unfold zml
 rw [if_neg (by omega), show (4 : Int).natAbs = 2 * (2 * 1) from rfl, z3w, z3w, z83]
theorem tor_nought {n : Nat} {Q : Pt pN dK} (h : TorP n Q) : wtX Q = 0 := by
 obtain ⟨x, y, hx, hy, hc⟩ := h
 refine ax_tor Q ?_
 rw [hx, hy]
 rcases hc with ⟨_, e1, e2⟩ | ⟨_, e1, e2⟩ | ⟨_, e1, e2⟩ | ⟨_, e1, e2⟩ <;> (rw [e1, e2]; decide +kernel)
theorem tor_x (k : Nat) (w : World) (h : k ≤ 3) : Calls Tryz.prog 37 #[.int .i64 (k : Int)] w fun e w' => ∃ (X Y Z : K) (Q : Pt pN dK), e = .returned (QO (t3 16 (dF X.val) (dF Y.val) (dF Z.val))) ∧ X = Q.x ∧ Y = Q.y ∧ Z = 1 ∧ TorP k Q ∧ Below w.heap.size w w' := by
 rcases (by omega : k = 0 ∨ k = 1 ∨ k = 2 ∨ k = 3) with rfl | rfl | rfl | rfl
 ·exact tor0_x w
 ·exact tor1_x w
 ·exact tor2_x w
 ·exact tor3_x w
theorem TorP.one {n : Nat} {Q R : Pt pN dK} (h : TorP n Q) (h' : TorP n R) : Q = R := by
 obtain ⟨x, y, hx, hy, hc⟩ := h
 obtain ⟨x', y', hx', hy', hc'⟩ := h'
 refine Pt.same ?_ ?_
 ·rw [hx, hx']
  rcases hc with ⟨e, e1, _⟩ | ⟨e, e1, _⟩ | ⟨e, e1, _⟩ | ⟨e, e1, _⟩ <;> rcases hc' with ⟨f, f1, _⟩ | ⟨f, f1, _⟩ | ⟨f, f1, _⟩ | ⟨f, f1, _⟩ <;> first | (exfalso; omega) | exact e1.trans f1.symm
 ·rw [hy, hy']
  rcases hc with ⟨e, _, e1⟩ | ⟨e, _, e1⟩ | ⟨e, _, e1⟩ | ⟨e, _, e1⟩ <;> rcases hc' with ⟨f, _, f1⟩ | ⟨f, _, f1⟩ | ⟨f, _, f1⟩ | ⟨f, _, f1⟩ <;> first | (exfalso; omega) | exact e1.trans f1.symm
theorem run_field0 (f g h : Nat → Int) (w : World) : (Instr.field 40 (.agg (AZ .i64 48 (t3 16 f g h))) 0).run Tryz.prog w = .ok (.agg (AZ .i64 16 f)) w := by kernel_rfl
theorem run_field1 (f g h : Nat → Int) (w : World) : (Instr.field 40 (.agg (AZ .i64 48 (t3 16 f g h))) 1).run Tryz.prog w = .ok (.agg (AZ .i64 16 g)) w := by kernel_rfl
section
variable {ops : Array Oper} {rest : List Oper} {o : Oper} {a : Act} {w : World} {Q : Exit → Act → World → Prop}
theorem lay_field0 (hgd : o.guard = none) {x : Operand} (ho : o.op = .field 40 x 0) {f g h : Nat → Int} (hx : a.eval x = .agg (AZ .i64 48 (t3 16 f g h)))
  (k : ∀ K : Act → World → Prop, (∀ a w, wpList Tryz.prog ops Q rest a w → K a w) → K (a.put o.dst (.agg (AZ .i64 16 f))) w) : wpList Tryz.prog ops Q (o :: rest) a w :=
 wpList_plain hgd fun K hK => by
  unfold Oper.wp execOp
  simp only [ho, hx, Sem.run_bind, run_field0, Result.andThen_ok]
  exact k K hK
theorem lay_field1 (hgd : o.guard = none) {x : Operand} (ho : o.op = .field 40 x 1) {f g h : Nat → Int} (hx : a.eval x = .agg (AZ .i64 48 (t3 16 f g h)))
  (k : ∀ K : Act → World → Prop, (∀ a w, wpList Tryz.prog ops Q rest a w → K a w) → K (a.put o.dst (.agg (AZ .i64 16 g))) w) : wpList Tryz.prog ops Q (o :: rest) a w :=
 wpList_plain hgd fun K hK => by
  unfold Oper.wp execOp
  simp only [ho, hx, Sem.run_bind, run_field1, Result.andThen_ok]
  exact k K hK
end
theorem cN_own (x : K) : cN pN x.val = x := Fin.ext (Nat.mod_eq_of_lt x.isLt)
theorem tfaces_no {a1 a2 : Option Addr} {n1 c1 x1 n2 c2 x2 : Nat} {z1 z2 : Int} (w : World) (hT : Tp w) (hs1 : Sb w w.heap.size a1 n1 c1 x1) (hs2 : Sb w w.heap.size a2 n2 c2 x2) (ok : (okS n1 z1 && okS n2 z2) = false) :
  Calls Tryz.prog 7 #[.agg #[.slice a1 n1 c1, .int .i64 z1, .slice a2 n2 c2, .int .i64 z2]] w fun e w' => e = .returned (.bool true) ∧ Below w.heap.size w w' := by
 have HS1 := Lib.hid hs1
 have HS2 := Lib.hid hs2
 have HO := Lib.hid ok
 clear hs1 hs2 ok
 have HT := Lib.hid hT
 clear hT
 have H := Lib.hid (Ow.start w)
 go_enter Tryz.func7, Tryz.ntmps7
 go_wp2_with (first
  | ((fail_if_success have := g1); (with_reducible apply z15 H); (case hgd | ho | hx => exact rfl); clear H; intro w1 g1 H _ _; go_simp)
  | ((with_reducible apply z7f rowS2 ?hC H); (case hgd | ho | hx => exact rfl); (case hi => repeat first|exact at0|apply atS); (case hC => exact rfl); intro _ _; go_simp)
  | ((fail_if_success have := mk1); (with_reducible refine (z66 HO.out rfl rfl _ (HT.out.below H.out.bel) ((HS1.out.below H.out.bel).more H.out.bel.size) ((HS2.out.below H.out.bel).more H.out.bel.size)).mono ?_); rintro e wc ⟨v1, v2, r1, r2, P1, P2, rfl, hv, hu, hw, hx, hb⟩; replace H := hcall H hb; have V1 := Lib.hid hv; have V2 := Lib.hid hu; have W1 := Lib.hid hw; have W2 := Lib.hid hx; have mk1 := trivial; clear hb hv hu hw hx)
  | ((fail_if_success have := g3); (fail_if_success have := g3); (with_reducible apply z0b nilPP H); (case hgd | ho => exact rfl); clear H; intro w3 g3 H _ _; go_simp)
  | ((fail_if_success have := g4); (fail_if_success have := g4); (with_reducible apply z0b nilQQ H); (case hgd | ho => exact rfl); clear H; intro w4 g4 H _ _; go_simp)
  | ((with_reducible apply z0e rowPP H); (case hgd | ho | hx | hy => exact rfl); (case hi => repeat first|exact at0|apply atS); clear H; intro ws H _ _; simp only [qb, qc] at H; go_simp)
  | ((with_reducible apply z0e rowQQ H); (case hgd | ho | hx | hy => exact rfl); (case hi => repeat first|exact at0|apply atS); clear H; intro ws H _ _; simp only [qb] at H; go_simp)
  | ((with_reducible refine (z5x _ (HT.out.below H.out.bel)).mono ?_); rintro e wc ⟨rfl, hb⟩; replace H := hcall H hb; clear hb))
 go_ret
 exact ⟨rfl, H.out.bel⟩
theorem tfaces_k {a1 a2 : Option Addr} {n1 c1 x1 n2 c2 x2 : Nat} {z1 z2 : Int} (w : World) (hT : Tp w) (hs1 : Sb w w.heap.size a1 n1 c1 x1) (hs2 : Sb w w.heap.size a2 n2 c2 x2) (ok : (okS n1 z1 && okS n2 z2) = true) :
  Calls Tryz.prog 7 #[.agg #[.slice a1 n1 c1, .int .i64 z1, .slice a2 n2 c2, .int .i64 z2]] w fun e w' => e = .returned (.bool true) ∧ Below w.heap.size w w' := by
 have HS1 := Lib.hid hs1
 have HS2 := Lib.hid hs2
 have HO := Lib.hid ok
 clear hs1 hs2 ok
 have HT := Lib.hid hT
 clear hT
 have H := Lib.hid (Ow.start w)
 go_enter Tryz.func7, Tryz.ntmps7
 go_upto_region 4 with (first
  | ((fail_if_success have := g1); (with_reducible apply z15 H); (case hgd | ho | hx => exact rfl); clear H; intro w1 g1 H _ _; go_simp)
  | ((with_reducible apply z7f rowS2 ?hC H); (case hgd | ho | hx => exact rfl); (case hi => repeat first|exact at0|apply atS); (case hC => exact rfl); intro _ _; go_simp)
  | ((fail_if_success have := mk1); (with_reducible refine (z66 HO.out rfl rfl _ (HT.out.below H.out.bel) ((HS1.out.below H.out.bel).more H.out.bel.size) ((HS2.out.below H.out.bel).more H.out.bel.size)).mono ?_); rintro e wc ⟨v1, v2, r1, r2, P1, P2, rfl, hv, hu, hw, hx, hb⟩; replace H := hcall H hb; have V1 := Lib.hid hv; have V2 := Lib.hid hu; have W1 := Lib.hid hw; have W2 := Lib.hid hx; have mk1 := trivial; clear hb hv hu hw hx)
  | ((fail_if_success have := g3); (fail_if_success have := g3); (with_reducible apply z0b nilPP H); (case hgd | ho => exact rfl); clear H; intro w3 g3 H _ _; go_simp)
  | ((fail_if_success have := g4); (fail_if_success have := g4); (with_reducible apply z0b nilQQ H); (case hgd | ho => exact rfl); clear H; intro w4 g4 H _ _; go_simp)
  | ((with_reducible apply z0e rowPP H); (case hgd | ho | hx | hy => exact rfl); (case hi => repeat first|exact at0|apply atS); clear H; intro ws H _ _; simp only [qb, qc] at H; go_simp)
  | ((with_reducible apply z0e rowQQ H); (case hgd | ho | hx | hy => exact rfl); (case hi => repeat first|exact at0|apply atS); clear H; intro ws H _ _; simp only [qb] at H; go_simp))
 clear mk1
 go_cut [6] from 25 to 30 (fun v6 wx => ∃ g6 r30, v6 = .pointer (some ⟨g6, 0, none⟩) ∧ PtK r30 (padd edK P1 (pneg P2)) ∧ Ow w wx [(g6, Blk 38 .u64 24 (r30)), (g4, Blk 57 .i64 96 ((t2 48 r1 r2))), (g3, Blk 56 .u64 48 ((t2 24 v1 v2))), (g1, Cs 55 #[.slice a1 n1 c1, .int .i64 z1, .slice a2 n2 c2, .int .i64 z2])])
 case first =>
  go_wp2_with fail
  refine wp_region_noPanic ?_
  refine wp_region_held_drew (S := fun W => W.heap[g3]? = some (Blk 56 .u64 48 ((t2 24 v1 v2)))) (by kernel_rfl) (H.out.drew.row 1 rfl) (fun hH => ?_)
  replace H := Lib.hid H.out.drew
  generalize World.drew _ = w8 at *
  refine z0a 0 25 (.pointer (some ⟨g3, 0, none⟩)) rfl rfl rfl hH (fun w hw => by go_simp) ?_
  try simp only [Act.put, qa, qb, qc]
  refine z0k 1 26 rowPt rfl rfl rfl hH rfl rfl z5h (fun _ h => h) ?_
  try simp only [Act.put, qa, qb, qc]
  refine z0a 2 27 (.pointer (some ⟨g3, 24, none⟩)) rfl rfl rfl hH (fun w hw => by go_simp) ?_
  try simp only [Act.put, qa, qb, qc]
  refine z0k 3 28 rowPt rfl rfl rfl hH rfl rfl z8b (fun _ h => h) ?_
  try simp only [Act.put, qa, qb, qc]
  refine rdn [4, 6] (rdc rfl (fun K hK => ?_) (rdc rfl (fun K hK => ?_) rdz))
  ·skip
   go_simp
   refine (z77 _ (HT.out.below H.out.bel) V2.out).mono ?_
   rintro e wc ⟨r29, rfl, hv, hb⟩
   replace H := hcall H hb
   have HV29 := Lib.hid hv
   clear hH
   refine hK.out _ _ (H.out.row 1 rfl) fun hH => ?_
   clear hK K hb hv
   try simp only [Act.put, qa, qb, qc]
   refine rdn [5, 6] (rdc rfl (fun K hK => ?_) (rdc rfl (fun K hK => ?_) rdz))
   ·skip
    go_simp
    refine (z3l _ (HT.out.below H.out.bel) V1.out HV29.out).mono ?_
    rintro e wc ⟨r30, rfl, hv, hb⟩
    replace H := hcall H hb
    have HV30 := Lib.hid hv
    clear hH
    refine hK.out _ _ (H.out.row 1 rfl) fun hH => ?_
    clear hK K hb hv
    try simp only [Act.put, qa, qb, qc]
    refine rd1 6 rfl fun K hK => ?_
    refine z0c 6 rfl nilPt H.out rfl ?_
    intro w6 g6 H3 hb
    replace H := Lib.hid H3
    clear hH
    refine hK.out _ _ (H.out.row 2 rfl) fun hH => ?_
    clear hK K H3 hb
    try simp only [Act.put, qa, qb, qc]
    refine rd1 7 rfl fun K hK => ?_
    refine z0l 0 rfl rowPt H.out rfl rfl rfl rfl ?_
    intro ws HS
    simp only [qb] at HS
    replace H := Lib.hid HS
    clear hH
    refine hK.out _ _ (H.out.row 2 rfl) fun hH => ?_
    clear hK K HS
    try simp only [qa]
    try simp only [Act.put]
    refine wpAnyH_done (by kernel_rfl) ?_ _
    refine NoPanic.normal ?_
    clear hH
    go_wp2_with fail
    go_meet
    exact ⟨g6, r30, rfl, HV30.out, H.out⟩
   ·skip
    refine z0c 6 rfl nilPt H.out rfl ?_
    intro w6 g6 H3 hb
    replace H := Lib.hid H3
    clear hH
    refine hK.out _ _ (H.out.row 2 rfl) fun hH => ?_
    clear hK K H3 hb
    try simp only [Act.put, qa, qb, qc]
    refine rd1 5 rfl fun K hK => ?_
    go_simp
    refine (z3l _ (HT.out.below H.out.bel) V1.out HV29.out).mono ?_
    rintro e wc ⟨r30, rfl, hv, hb⟩
    replace H := hcall H hb
    have HV30 := Lib.hid hv
    clear hH
    refine hK.out _ _ (H.out.row 2 rfl) fun hH => ?_
    clear hK K hb hv
    try simp only [Act.put, qa, qb, qc]
    refine rd1 7 rfl fun K hK => ?_
    refine z0l 0 rfl rowPt H.out rfl rfl rfl rfl ?_
    intro ws HS
    simp only [qb] at HS
    replace H := Lib.hid HS
    clear hH
    refine hK.out _ _ (H.out.row 2 rfl) fun hH => ?_
    clear hK K HS
    try simp only [qa]
    try simp only [Act.put]
    refine wpAnyH_done (by kernel_rfl) ?_ _
    refine NoPanic.normal ?_
    clear hH
    go_wp2_with fail
    go_meet
    exact ⟨g6, r30, rfl, HV30.out, H.out⟩
  ·skip
   refine z0c 6 rfl nilPt H.out rfl ?_
   intro w6 g6 H3 hb
   replace H := Lib.hid H3
   clear hH
   refine hK.out _ _ (H.out.row 2 rfl) fun hH => ?_
   clear hK K H3 hb
   try simp only [Act.put, qa, qb, qc]
   refine rd1 4 rfl fun K hK => ?_
   go_simp
   refine (z77 _ (HT.out.below H.out.bel) V2.out).mono ?_
   rintro e wc ⟨r29, rfl, hv, hb⟩
   replace H := hcall H hb
   have HV29 := Lib.hid hv
   clear hH
   refine hK.out _ _ (H.out.row 2 rfl) fun hH => ?_
   clear hK K hb hv
   try simp only [Act.put, qa, qb, qc]
   refine rd1 5 rfl fun K hK => ?_
   go_simp
   refine (z3l _ (HT.out.below H.out.bel) V1.out HV29.out).mono ?_
   rintro e wc ⟨r30, rfl, hv, hb⟩
   replace H := hcall H hb
   have HV30 := Lib.hid hv
   clear hH
   refine hK.out _ _ (H.out.row 2 rfl) fun hH => ?_
   clear hK K hb hv
   try simp only [Act.put, qa, qb, qc]
   refine rd1 7 rfl fun K hK => ?_
   refine z0l 0 rfl rowPt H.out rfl rfl rfl rfl ?_
   intro ws HS
   simp only [qb] at HS
   replace H := Lib.hid HS
   clear hH
   refine hK.out _ _ (H.out.row 2 rfl) fun hH => ?_
   clear hK K HS
   try simp only [qa]
   try simp only [Act.put]
   refine wpAnyH_done (by kernel_rfl) ?_ _
   refine NoPanic.normal ?_
   clear hH
   go_wp2_with fail
   go_meet
   exact ⟨g6, r30, rfl, HV30.out, H.out⟩
 clear H
 obtain ⟨g6, r30, rfl, hv30, HRR⟩ := hcut
 have HV30 := Lib.hid hv30
 have H := Lib.hid HRR
 clear HRR hv30
 obtain ⟨e9, he9⟩ : ∃ e9, decide (wtX P1 = wtX P2 ∧ wtY P1 = wtY P2) = e9 := ⟨_, rfl⟩
 have HE2 : Hid (decide (four (padd edK P1 (pneg P2)) = pzero) = e9) := Lib.hid (by
  rw [← he9]
  exact decide_eq_decide.2 (z42 P1 P2).symm)
 have HE1 := Lib.hid he9
 clear he9
 go_upto_region 6 with (first
  | ((with_reducible apply z0g rowPt H); (case hgd | ho | hx => exact rfl); (case hi => repeat first|exact at0|apply atS); intro _ _; go_simp)
  | ((fail_if_success have := VM); (with_reducible refine (small_k 4 _ (HT.out.below H.out.bel) HV30.out (by omega) (by omega)).mono ?_); rintro e wc ⟨km, rfl, hv, hb⟩; replace H := hcall H hb; clear hb; have VM := Lib.hid (hv.eq (zml_four _)); clear hv)
  | ((fail_if_success have := g7); (fail_if_success have := g7); (with_reducible apply z0b nilPt H); (case hgd | ho => exact rfl); clear H; intro w7 g7 H _ _; go_simp)
  | ((with_reducible apply z0e rowPt H); (case hgd | ho | hx | hy => exact rfl); (case hi => repeat first|exact at0|apply atS); clear H; intro ws H _ _; simp only [qb] at H; go_simp))
 go_wp2_with fail
 go_loopg [9] 4 (fun gk v9 wr => ∃ k : Nat, k + gk = 4 ∧ v9 = .int .i64 (k : Int) ∧ Ow w wr [(g7, Blk 38 .u64 24 (km)), (g6, Blk 38 .u64 24 (r30)), (g4, Blk 57 .i64 96 ((t2 48 r1 r2))), (g3, Blk 56 .u64 48 ((t2 24 v1 v2))), (g1, Cs 55 #[.slice a1 n1 c1, .int .i64 z1, .slice a2 n2 c2, .int .i64 z2])])
 case atStart => exact ⟨0, by omega, rfl, H.out⟩
 case round =>
  clear H
  obtain ⟨k, hk, rfl, HR⟩ := hrel
  have H := Lib.hid HR
  clear HR
  cases gk with
  | zero =>
   obtain rfl : k = 4 := by omega
   clear hk
   go_upto_region 14 with fail
   cases e9 with
   | false =>
    refine wp_region_noPanic ?_
    refine wp_region_held_drew (S := fun W => W.heap[g3]? = some (Blk 56 .u64 48 ((t2 24 v1 v2))) ∧ W.heap[g7]? = some (Blk 38 .u64 24 (km))) (by kernel_rfl) (⟨H.out.drew.row 3 rfl, H.out.drew.row 0 rfl⟩) (fun hH => ?_)
    replace H := Lib.hid H.out.drew
    generalize World.drew _ = w8 at *
    refine z0a 0 84 (.int .i64 0) rfl rfl rfl hH (fun w hw => by go_simp) ?_
    try simp only [Act.put, qa, qb, qc]
    refine z0a 1 85 (.bool true) rfl rfl rfl hH (fun w hw => by go_simp) ?_
    try simp only [Act.put, qa, qb, qc]
    refine z0a 2 86 (.bool true) rfl rfl rfl hH (fun w hw => by go_simp) ?_
    try simp only [Act.put, qa, qb, qc]
    refine z0a 3 87 (.pointer (some ⟨g3, 0, none⟩)) rfl rfl rfl hH (fun w hw => by go_simp) ?_
    try simp only [Act.put, qa, qb, qc]
    refine z0k 4 88 rowPt rfl rfl rfl hH rfl rfl z5h (fun _ h => h.1) ?_
    try simp only [Act.put, qa, qb, qc]
    refine z0a 6 90 (.pointer (some ⟨g3, 24, none⟩)) rfl rfl rfl hH (fun w hw => by go_simp) ?_
    try simp only [Act.put, qa, qb, qc]
    refine z0k 7 91 rowPt rfl rfl rfl hH rfl rfl z8b (fun _ h => h.1) ?_
    try simp only [Act.put, qa, qb, qc]
    refine z0f 10 94 rowPt rfl rfl rfl hH rfl rfl (fun _ h => h.2) ?_
    try simp only [Act.put, qa, qb, qc]
    refine rd1 5 rfl fun K hK => ?_
    go_simp
    refine (z3s _ (HT.out.below H.out.bel) V1.out).mono ?_
    rintro e wc ⟨r89, rfl, hv, hb⟩
    replace H := hcall H hb
    have HV89 := Lib.hid hv
    clear hH
    refine hK.out _ _ ⟨H.out.row 3 rfl, H.out.row 0 rfl⟩ fun hH => ?_
    clear hK K hb hv
    try simp only [Act.put, qa, qb, qc]
    refine rd1 8 rfl fun K hK => ?_
    go_simp
    refine (z3s _ (HT.out.below H.out.bel) V2.out).mono ?_
    rintro e wc ⟨r92, rfl, hv, hb⟩
    replace H := hcall H hb
    have HV92 := Lib.hid hv
    clear hH
    refine hK.out _ _ ⟨H.out.row 3 rfl, H.out.row 0 rfl⟩ fun hH => ?_
    clear hK K hb hv
    try simp only [Act.put, qa, qb, qc]
    refine rd1 9 rfl fun K hK => ?_
    go_simp
    refine (z17 _ (HT.out.below H.out.bel) HV89.out HV92.out (HE1.out)).mono ?_
    rintro e wc ⟨rfl, hb⟩
    replace H := hcall H hb
    clear hH
    refine hK.out _ _ ⟨H.out.row 3 rfl, H.out.row 0 rfl⟩ fun hH => ?_
    clear hK K hb
    try simp only [Act.put, qa, qb, qc]
    refine rd1 11 rfl fun K hK => ?_
    go_simp
    refine (z1c _ (HT.out.below H.out.bel)).mono ?_
    rintro e wc ⟨r95, rfl, hv, hb⟩
    replace H := hcall H hb
    have HV95 := Lib.hid hv
    clear hH
    refine hK.out _ _ ⟨H.out.row 3 rfl, H.out.row 0 rfl⟩ fun hH => ?_
    clear hK K hb hv
    try simp only [Act.put, qa, qb, qc]
    refine rd1 12 rfl fun K hK => ?_
    go_simp
    refine (z69 _ (HT.out.below H.out.bel) VM.out HV95.out HE2.out).mono ?_
    rintro e wc ⟨rfl, hb⟩
    replace H := hcall H hb
    clear hH
    refine hK.out _ _ ⟨H.out.row 3 rfl, H.out.row 0 rfl⟩ fun hH => ?_
    clear hK K hb
    try simp only [Act.put, qa, qb, qc]
    refine z0a 13 97 (.bool true) rfl rfl rfl hH (fun w hw => by go_simp) ?_
    try simp only [Act.put, qa, qb, qc]
    refine z0a 14 98 (.bool true) rfl rfl rfl hH (fun w hw => by go_simp) ?_
    try simp only [Act.put, qa, qb, qc]
    refine z0a 15 99 (.bool true) rfl rfl rfl hH (fun w hw => by go_simp) ?_
    try simp only [Act.put, qa, qb, qc]
    refine rd1 16 rfl fun K hK => ?_
    go_simp
    refine (z5x _ (HT.out.below H.out.bel)).mono ?_
    rintro e wc ⟨rfl, hb⟩
    replace H := hcall H hb
    clear hH
    refine hK.out _ _ ⟨H.out.row 3 rfl, H.out.row 0 rfl⟩ fun hH => ?_
    clear hK K hb
    try simp only [Act.put, qa, qb, qc]
    refine z0a 17 101 (.bool true) rfl rfl rfl hH (fun w hw => by go_simp) ?_
    try simp only [Act.put, qa, qb, qc]
    refine z0a 18 2 (.bool true) rfl rfl rfl hH (fun w hw => by go_simp) ?_
    try simp only [Act.put, qa, qb, qc]
    try simp only [Act.put]
    refine wpAnyH_done (by kernel_rfl) ?_ _
    refine NoPanic.normal ?_
    clear hH
    go_wp2_with fail
    try rw [Exit.noGoto_ret]
    go_ret
    exact ⟨rfl, H.out.bel⟩
   | true =>
    refine wp_region_noPanic ?_
    refine wp_region_held_drew (S := fun W => W.heap[g3]? = some (Blk 56 .u64 48 ((t2 24 v1 v2))) ∧ W.heap[g7]? = some (Blk 38 .u64 24 (km))) (by kernel_rfl) (⟨H.out.drew.row 3 rfl, H.out.drew.row 0 rfl⟩) (fun hH => ?_)
    replace H := Lib.hid H.out.drew
    generalize World.drew _ = w8 at *
    refine z0a 0 84 (.int .i64 0) rfl rfl rfl hH (fun w hw => by go_simp) ?_
    try simp only [Act.put, qa, qb, qc]
    refine z0a 1 85 (.bool true) rfl rfl rfl hH (fun w hw => by go_simp) ?_
    try simp only [Act.put, qa, qb, qc]
    refine z0a 2 86 (.bool true) rfl rfl rfl hH (fun w hw => by go_simp) ?_
    try simp only [Act.put, qa, qb, qc]
    refine z0a 3 87 (.pointer (some ⟨g3, 0, none⟩)) rfl rfl rfl hH (fun w hw => by go_simp) ?_
    try simp only [Act.put, qa, qb, qc]
    refine z0k 4 88 rowPt rfl rfl rfl hH rfl rfl z5h (fun _ h => h.1) ?_
    try simp only [Act.put, qa, qb, qc]
    refine z0a 6 90 (.pointer (some ⟨g3, 24, none⟩)) rfl rfl rfl hH (fun w hw => by go_simp) ?_
    try simp only [Act.put, qa, qb, qc]
    refine z0k 7 91 rowPt rfl rfl rfl hH rfl rfl z8b (fun _ h => h.1) ?_
    try simp only [Act.put, qa, qb, qc]
    refine z0f 10 94 rowPt rfl rfl rfl hH rfl rfl (fun _ h => h.2) ?_
    try simp only [Act.put, qa, qb, qc]
    refine rd1 5 rfl fun K hK => ?_
    go_simp
    refine (z3s _ (HT.out.below H.out.bel) V1.out).mono ?_
    rintro e wc ⟨r89, rfl, hv, hb⟩
    replace H := hcall H hb
    have HV89 := Lib.hid hv
    clear hH
    refine hK.out _ _ ⟨H.out.row 3 rfl, H.out.row 0 rfl⟩ fun hH => ?_
    clear hK K hb hv
    try simp only [Act.put, qa, qb, qc]
    refine rd1 8 rfl fun K hK => ?_
    go_simp
    refine (z3s _ (HT.out.below H.out.bel) V2.out).mono ?_
    rintro e wc ⟨r92, rfl, hv, hb⟩
    replace H := hcall H hb
    have HV92 := Lib.hid hv
    clear hH
    refine hK.out _ _ ⟨H.out.row 3 rfl, H.out.row 0 rfl⟩ fun hH => ?_
    clear hK K hb hv
    try simp only [Act.put, qa, qb, qc]
    refine rd1 9 rfl fun K hK => ?_
    go_simp
    refine (z17 _ (HT.out.below H.out.bel) HV89.out HV92.out (HE1.out)).mono ?_
    rintro e wc ⟨rfl, hb⟩
    replace H := hcall H hb
    clear hH
    refine hK.out _ _ ⟨H.out.row 3 rfl, H.out.row 0 rfl⟩ fun hH => ?_
    clear hK K hb
    try simp only [Act.put, qa, qb, qc]
    refine rd1 11 rfl fun K hK => ?_
    go_simp
    refine (z1c _ (HT.out.below H.out.bel)).mono ?_
    rintro e wc ⟨r95, rfl, hv, hb⟩
    replace H := hcall H hb
    have HV95 := Lib.hid hv
    clear hH
    refine hK.out _ _ ⟨H.out.row 3 rfl, H.out.row 0 rfl⟩ fun hH => ?_
    clear hK K hb hv
    try simp only [Act.put, qa, qb, qc]
    refine rd1 12 rfl fun K hK => ?_
    go_simp
    refine (z69 _ (HT.out.below H.out.bel) VM.out HV95.out HE2.out).mono ?_
    rintro e wc ⟨rfl, hb⟩
    replace H := hcall H hb
    clear hH
    refine hK.out _ _ ⟨H.out.row 3 rfl, H.out.row 0 rfl⟩ fun hH => ?_
    clear hK K hb
    try simp only [Act.put, qa, qb, qc]
    refine z0a 13 97 (.bool true) rfl rfl rfl hH (fun w hw => by go_simp) ?_
    try simp only [Act.put, qa, qb, qc]
    refine z0a 14 98 (.bool true) rfl rfl rfl hH (fun w hw => by go_simp) ?_
    try simp only [Act.put, qa, qb, qc]
    refine z0a 15 99 (.bool true) rfl rfl rfl hH (fun w hw => by go_simp) ?_
    try simp only [Act.put, qa, qb, qc]
    refine rd1 16 rfl fun K hK => ?_
    go_simp
    refine (z5x _ (HT.out.below H.out.bel)).mono ?_
    rintro e wc ⟨rfl, hb⟩
    replace H := hcall H hb
    clear hH
    refine hK.out _ _ ⟨H.out.row 3 rfl, H.out.row 0 rfl⟩ fun hH => ?_
    clear hK K hb
    try simp only [Act.put, qa, qb, qc]
    refine z0a 17 101 (.bool true) rfl rfl rfl hH (fun w hw => by go_simp) ?_
    try simp only [Act.put, qa, qb, qc]
    refine z0a 18 2 (.bool true) rfl rfl rfl hH (fun w hw => by go_simp) ?_
    try simp only [Act.put, qa, qb, qc]
    try simp only [Act.put]
    refine wpAnyH_done (by kernel_rfl) ?_ _
    refine NoPanic.normal ?_
    clear hH
    go_wp2_with fail
    try rw [Exit.noGoto_ret]
    go_ret
    exact ⟨rfl, H.out.bel⟩
  | succ gk9 =>
   have hlt : k < 4 := by omega
   have k3 : Hid (k ≤ 3) := Lib.hid (by omega)
   have hid : decide ((k : Int) < 4) = true := by simp; omega
   have kn : (k : Int) < 4 := by omega
   have HK := Lib.hid hk
   clear hk hlt
   go_upto_region 10 with (first
    | ((fail_if_success have := mt1); (with_reducible refine (tor_x k _ k3.out).mono ?_); rintro e wc ⟨X1, Y1, Z1, Q1, rfl, hx, hy, hz, hq, hb⟩; replace H := hcall H hb; clear hb; have HX1 := Lib.hid hx; have HY1 := Lib.hid hy; have HQ1 := Lib.hid hq; have mt1 := trivial; clear hx hy hz hq)
    | ((with_reducible apply lay_field0); (case hgd | ho | hx => exact rfl); intro _ _; go_simp)
    | ((fail_if_success have := SB1); (with_reducible refine (z5d _ _).mono ?_); rintro e wc ⟨gb1, cb1, rfl, hs, hb⟩; replace H := hcall H hb; clear hb; have SB1 := Lib.hid hs; clear hs)
    | ((fail_if_success have := VF1); (with_reducible refine (z7r _ SB1.out).mono ?_); rintro e wc ⟨kf1, rfl, hv, hb⟩; replace H := hcall H hb; clear hb; have VF1 := Lib.hid (hv.eq (cN_own _)); clear hv)
    | ((fail_if_success have := g10); (fail_if_success have := g10); (with_reducible apply z0b nilE H); (case hgd | ho => exact rfl); clear H; intro w10 g10 H _ _; go_simp)
    | ((with_reducible apply z0e rowE H); (case hgd | ho | hx | hy => exact rfl); (case hi => repeat first|exact at0|apply atS); clear H; intro ws H _ _; simp only [qb] at H; go_simp))
   go_upto_region 11 with (first
    | ((fail_if_success have := mt2); (with_reducible refine (tor_x k _ k3.out).mono ?_); rintro e wc ⟨X2, Y2, Z2, Q2, rfl, hx, hy, hz, hq, hb⟩; replace H := hcall H hb; clear hb; have HX2 := Lib.hid hx; have HY2 := Lib.hid hy; have HQ2 := Lib.hid hq; have mt2 := trivial; clear hx hy hz hq)
    | ((with_reducible apply lay_field1); (case hgd | ho | hx => exact rfl); intro _ _; go_simp)
    | ((fail_if_success have := SB2); (with_reducible refine (z5d _ _).mono ?_); rintro e wc ⟨gb2, cb2, rfl, hs, hb⟩; replace H := hcall H hb; clear hb; have SB2 := Lib.hid hs; clear hs)
    | ((fail_if_success have := VF2); (with_reducible refine (z7r _ SB2.out).mono ?_); rintro e wc ⟨kf2, rfl, hv, hb⟩; replace H := hcall H hb; clear hb; have VF2 := Lib.hid (hv.eq (cN_own _)); clear hv)
    | ((fail_if_success have := g12); (fail_if_success have := g12); (with_reducible apply z0b nilE H); (case hgd | ho => exact rfl); clear H; intro w12 g12 H _ _; go_simp)
    | ((with_reducible apply z0e rowE H); (case hgd | ho | hx | hy => exact rfl); (case hi => repeat first|exact at0|apply atS); clear H; intro ws H _ _; simp only [qb] at H; go_simp))
   have E21 : Q2 = Q1 := HQ2.out.one HQ1.out
   subst E21
   have VG1 := Lib.hid (VF1.out.eq HX1.out)
   have VG2 := Lib.hid (VF2.out.eq HY2.out)
   go_upto_region 12 with (first
    | ((with_reducible apply z0g rowE H); (case hgd | ho | hx => exact rfl); (case hi => repeat first|exact at0|apply atS); intro _ _; go_simp)
    | ((fail_if_success have := VT); (with_reducible refine (z76 _ (HT.out.below H.out.bel) VG1.out VG2.out Q2.on).mono ?_); rintro e wc ⟨kt, rfl, hv, hb⟩; replace H := hcall H hb; clear hb; have VT := Lib.hid hv; clear hv)
    | ((fail_if_success have := g14); (fail_if_success have := g14); (with_reducible apply z0b nilPt H); (case hgd | ho => exact rfl); clear H; intro w14 g14 H _ _; go_simp)
    | ((with_reducible apply z0e rowPt H); (case hgd | ho | hx | hy => exact rfl); (case hi => repeat first|exact at0|apply atS); clear H; intro ws H _ _; simp only [qb] at H; go_simp))
   clear mt1 mt2
   refine wp_region_noPanic ?_
   refine wp_region_held_drew (S := fun W => W.heap[g3]? = some (Blk 56 .u64 48 ((t2 24 v1 v2))) ∧ W.heap[g14]? = some (Blk 38 .u64 24 (kt))) (by kernel_rfl) (⟨H.out.drew.row 6 rfl, H.out.drew.row 0 rfl⟩) (fun hH => ?_)
   replace H := Lib.hid H.out.drew
   generalize World.drew _ = w8 at *
   refine z0a 0 62 (.int .i64 0) rfl rfl rfl hH (fun w hw => by go_simp) ?_
   try simp only [Act.put, qa, qb, qc]
   refine z0a 1 63 (.bool false) rfl rfl rfl hH (fun w hw => by go_simp) ?_
   try simp only [Act.put, qa, qb, qc]
   refine z0a 2 64 (.bool false) rfl rfl rfl hH (fun w hw => by go_simp) ?_
   try simp only [Act.put, qa, qb, qc]
   refine z0a 3 65 (.int .i64 0) rfl rfl rfl hH (fun w hw => by go_simp) ?_
   try simp only [Act.put, qa, qb, qc]
   refine z0a 4 66 (.bool false) rfl rfl rfl hH (fun w hw => by go_simp) ?_
   try simp only [Act.put, qa, qb, qc]
   refine z0a 5 67 (.bool false) rfl rfl rfl hH (fun w hw => by go_simp) ?_
   try simp only [Act.put, qa, qb, qc]
   refine z0a 6 68 (.bool false) rfl rfl rfl hH (fun w hw => by go_simp) ?_
   try simp only [Act.put, qa, qb, qc]
   refine z0a 7 69 (.int .i64 0) rfl rfl rfl hH (fun w hw => by go_simp) ?_
   try simp only [Act.put, qa, qb, qc]
   refine z0a 8 70 (.bool false) rfl rfl rfl hH (fun w hw => by go_simp) ?_
   try simp only [Act.put, qa, qb, qc]
   refine z0a 9 71 (.bool false) rfl rfl rfl hH (fun w hw => by go_simp) ?_
   try simp only [Act.put, qa, qb, qc]
   refine z0a 10 72 (.bool false) rfl rfl rfl hH (fun w hw => by go_simp) ?_
   try simp only [Act.put, qa, qb, qc]
   refine z0a 11 73 (.pointer (some ⟨g3, 0, none⟩)) rfl rfl rfl hH (fun w hw => by go_simp) ?_
   try simp only [Act.put, qa, qb, qc]
   refine z0k 12 74 rowPt rfl rfl rfl hH rfl rfl z5h (fun _ h => h.1) ?_
   try simp only [Act.put, qa, qb, qc]
   refine z0f 13 75 rowPt rfl rfl rfl hH rfl rfl (fun _ h => h.2) ?_
   try simp only [Act.put, qa, qb, qc]
   refine z0a 16 78 (.pointer (some ⟨g3, 0, none⟩)) rfl rfl rfl hH (fun w hw => by go_simp) ?_
   try simp only [Act.put, qa, qb, qc]
   refine z0k 17 79 rowPt rfl rfl rfl hH rfl rfl z5h (fun _ h => h.1) ?_
   try simp only [Act.put, qa, qb, qc]
   refine rd1 14 rfl fun K hK => ?_
   go_simp
   refine (z3l _ (HT.out.below H.out.bel) V1.out VT.out).mono ?_
   rintro e wc ⟨r76, rfl, hv, hb⟩
   replace H := hcall H hb
   have HV76 := Lib.hid hv
   clear hH
   refine hK.out _ _ ⟨H.out.row 6 rfl, H.out.row 0 rfl⟩ fun hH => ?_
   clear hK K hb hv
   try simp only [Act.put, qa, qb, qc]
   refine rd1 15 rfl fun K hK => ?_
   go_simp
   refine (z3s _ (HT.out.below H.out.bel) HV76.out).mono ?_
   rintro e wc ⟨r77, rfl, hv, hb⟩
   replace H := hcall H hb
   have HV77 := Lib.hid hv
   clear hH
   refine hK.out _ _ ⟨H.out.row 6 rfl, H.out.row 0 rfl⟩ fun hH => ?_
   clear hK K hb hv
   try simp only [Act.put, qa, qb, qc]
   refine rd1 18 rfl fun K hK => ?_
   go_simp
   refine (z3s _ (HT.out.below H.out.bel) V1.out).mono ?_
   rintro e wc ⟨r80, rfl, hv, hb⟩
   replace H := hcall H hb
   have HV80 := Lib.hid hv
   clear hH
   refine hK.out _ _ ⟨H.out.row 6 rfl, H.out.row 0 rfl⟩ fun hH => ?_
   clear hK K hb hv
   try simp only [Act.put, qa, qb, qc]
   refine rd1 19 rfl fun K hK => ?_
   go_simp
   refine (z17 _ (HT.out.below H.out.bel) HV77.out HV80.out (decide_eq_true (ax_moved P1 Q2 (tor_nought HQ2.out)))).mono ?_
   rintro e wc ⟨rfl, hb⟩
   replace H := hcall H hb
   clear hH
   refine hK.out _ _ ⟨H.out.row 6 rfl, H.out.row 0 rfl⟩ fun hH => ?_
   clear hK K hb
   try simp only [Act.put, qa, qb, qc]
   refine z0a 20 82 (.bool false) rfl rfl rfl hH (fun w hw => by go_simp) ?_
   try simp only [Act.put, qa, qb, qc]
   refine z0a 21 83 (.bool false) rfl rfl rfl hH (fun w hw => by go_simp) ?_
   try simp only [Act.put, qa, qb, qc]
   try simp only [Act.put]
   refine wpAnyH_done (by kernel_rfl) ?_ _
   refine NoPanic.normal ?_
   clear hH
   go_wp2_with fail
   go_roundg gk9
   case rel => exact ⟨k + 1, by (have := HK.out; omega), by go_num, H.out.pop.pop.pop⟩
   case measure => omega
theorem tfaces_walk {a1 a2 : Option Addr} {n1 c1 x1 n2 c2 x2 : Nat} {z1 z2 : Int} (w : World) (hT : Tp w) (hs1 : Sb w w.heap.size a1 n1 c1 x1) (hs2 : Sb w w.heap.size a2 n2 c2 x2) :
  Calls Tryz.prog 7 #[.agg #[.slice a1 n1 c1, .int .i64 z1, .slice a2 n2 c2, .int .i64 z2]] w fun e w' => e = .returned (.bool true) ∧ Below w.heap.size w w' := by
 cases ok : (okS n1 z1 && okS n2 z2) with
 | false => exact tfaces_no w hT hs1 hs2 ok
 | true => exact tfaces_k w hT hs1 hs2 ok
end Go.Proofs.YtoeokhfhcpcjlaaGreatDoor
