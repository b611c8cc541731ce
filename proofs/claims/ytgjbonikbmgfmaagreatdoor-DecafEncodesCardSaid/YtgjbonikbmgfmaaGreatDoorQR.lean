/- Lemmas; no statement is proved here. -/
import Derived.Test.YtgjbonikbmgfmaaGreatDoorBuX
set_option maxRecDepth 8000
set_option maxHeartbeats 3200000
namespace Go.Proofs.YtgjbonikbmgfmaaGreatDoor
open Go.RowKit
theorem z1s (a b : K) (w : World) : Calls Tryz.prog 50 #[FV a.val, FV b.val] w fun e w' => e = .returned (FV (a + b).val) ∧ Below w.heap.size w w' := by
 rw [Fin.val_add]
 exact y0x _ _ w a.isLt b.isLt
theorem z1r (a b : K) (w : World) : Calls Tryz.prog 51 #[FV a.val, FV b.val] w fun e w' => e = .returned (FV (a - b).val) ∧ Below w.heap.size w w' := by
 rw [Fin.sub_def]
 have := refSub_any a.val b.val w a.isLt b.isLt
 rw [Nat.add_comm] at this
 exact this
theorem refInv_k (a : K) (w : World) : Calls Tryz.prog 117 #[FV a.val] w fun e w' => e = .returned (FV (inv a).val) ∧ Below w.heap.size w w' := z2r w
theorem refD_k (w : World) : Calls Tryz.prog 93 #[] w fun e w' => e = .returned (FV dK.val) ∧ Below w.heap.size w w' := by
 have HD := za y3j
 obtain ⟨d, hd⟩ : ∃ d, dK = d := ⟨_, rfl⟩
 rw [hd] at HD ⊢
 clear hd
 have H := za (Ow.start w)
 go_enter Tryz.func93, Tryz.ntmps93
 go_wp2_with (first
  | ((with_reducible apply ze zA.zero H); (case hgd | ho => exact rfl); clear H; intro _ _ H _ _; go_simp)
  | ((with_reducible refine (z0p _ (-39081) (by omega) (by omega)).mono ?_); rintro e wc ⟨rfl, hb⟩; replace H := zd H hb; clear hb; rw [HD.out])
  | ((with_reducible apply zj z4 H); (case hgd | ho | hx | hy => exact rfl); (case hi => repeat first|exact z5|apply z8); clear H; intro ws H _ _; simp only [qb] at H; go_simp))
 exact bodyPost_ret (zy 0 z4 rfl _ H rfl rfl) rfl ⟨rfl, H.out.bel⟩
theorem z1e (w : World) : Calls Tryz.prog 47 #[] w fun e w' => ∃ r, e = .returned (QO r) ∧ RfK r z0v ∧ Below w.heap.size w w' := by
 have H := za (Ow.start w)
 go_enter Tryz.func47, Tryz.ntmps47
 go_wp2_with (first
  | ((with_reducible apply ze z0w H); (case hgd | ho => exact rfl); clear H; intro _ _ H _ _; go_simp)
  | ((with_reducible apply z2u); (case hgd | ho => exact rfl); intro _ _; go_simp)
  | ((with_reducible refine (z0p _ 1 (by omega) (by omega)).mono ?_); rintro e wc ⟨rfl, hb⟩; replace H := zd H hb; clear hb)
  | ((with_reducible apply z2t); (case hgd | ho | hx | hy | hz => exact rfl); intro _ _; go_simp)
  | ((with_reducible apply zj zD H); (case hgd | ho | hx | hy => exact rfl); (case hi => repeat first|exact z5|apply z8); clear H; intro ws H _ _; simp only [qb] at H; go_simp))
 exact bodyPost_ret (zy 0 zD rfl _ H rfl rfl) rfl ⟨_, rfl, ⟨0, _, _, rfl, by rw [z00]; exact Rp.zero zB⟩, H.out.bel⟩
theorem z0k {v1 : Nat → Int} {P1 : Pt pN dK} (w : World) (q1 : RfK v1 P1) :
  Calls Tryz.prog 48 #[QO v1] w fun e w' => e = .returned (.tuple #[FV P1.x.val, FV P1.y.val]) ∧ Below w.heap.size w w' := by
 obtain ⟨X1, Y1, Z1, rfl, r1⟩ := q1.is
 have R1 := za r1
 clear q1 r1
 have HA := za (R1.out.affine zB)
 have H := za (Ow.start w)
 go_enter Tryz.func48, Tryz.ntmps48
 go_wp2_with (first
  | ((fail_if_success have := g1); (with_reducible apply zw H); (case hgd | ho | hx => exact rfl); clear H; intro w1 g1 H _ _; go_simp)
  | ((fail_if_success have := g2); (with_reducible apply ze zA.zero H); (case hgd | ho => exact rfl); clear H; intro w2 g2 H _ _; go_simp)
  | ((fail_if_success have := g3); (with_reducible apply ze zA.zero H); (case hgd | ho => exact rfl); clear H; intro w3 g3 H _ _; go_simp)
  | ((with_reducible apply z78 z4 H); (case hgd | ho | hx => exact rfl); (case hi => repeat first|exact z5|apply z8); (case hp => first | exact z6d | exact z6c | exact y1p); intro _ _; go_simp)
  | ((with_reducible refine (refInv_k Z1 _).mono ?_); rintro e wc ⟨rfl, hb⟩; replace H := zd H hb; clear hb)
  | ((fail_if_success have := g4); (with_reducible apply ze zA.zero H); (case hgd | ho => exact rfl); clear H; intro w4 g4 H _ _; go_simp)
  | ((with_reducible apply zj z4 H); (case hgd | ho | hx | hy => exact rfl); (case hi => repeat first|exact z5|apply z8); clear H; intro ws H _ _; simp only [qb] at H; go_simp))
 refine wp_region_noPanic ?_
 refine wp_region_held_drew (S := fun W => W.heap[g1]? = some (zv 38 .i64 48 ((t3 16 (dF (X1).val) (dF (Y1).val) (dF (Z1).val)))) ∧ W.heap[g4]? = some (zv 36 .i64 16 (dF ((inv Z1)).val))) (by kernel_rfl) (⟨H.out.drew.row 3 rfl, H.out.drew.row 0 rfl⟩) (fun hH => ?_)
 replace H := za H.out.drew
 generalize World.drew _ = w8 at *
 refine zh 0 8 (.pointer (some ⟨g1, 0, none⟩)) hH ?_
 refine z0i 1 9 z4 rfl rfl rfl hH rfl rfl z6d (fun _ h => h.1) ?_
 refine zk 2 10 z4 rfl rfl rfl hH rfl rfl (fun _ h => h.2) ?_
 refine zh 4 12 (.pointer (some ⟨g1, 16, none⟩)) hH ?_
 refine z0i 5 13 z4 rfl rfl rfl hH rfl rfl z6c (fun _ h => h.1) ?_
 refine zk 6 14 z4 rfl rfl rfl hH rfl rfl (fun _ h => h.2) ?_
 refine zn 3 rfl fun K hK => ?_
 go_simp
 refine (z0d _ _ _).mono ?_
 rintro e wc ⟨rfl, hb⟩
 replace H := zd H hb
 refine zc hK ⟨zb H 3, zb H 0⟩ fun hH => ?_
 try simp only [Act.put, qa, qb, qc]
 refine zn 7 rfl fun K hK => ?_
 go_simp
 refine (z0d _ _ _).mono ?_
 rintro e wc ⟨rfl, hb⟩
 replace H := zd H hb
 refine zc hK ⟨zb H 3, zb H 0⟩ fun hH => zn 8 rfl fun K hK => ?_
 refine zl 2 z4 H.out rfl rfl rfl rfl ?_
 intro ws HS
 simp only [qb, qc] at HS
 replace H := za HS
 refine zc hK ⟨zb H 3, zb H 0⟩ fun hH => ?_
 try simp only [Act.put, qa]
 refine zn 9 rfl fun K hK => ?_
 refine zl 1 z4 H.out rfl rfl rfl rfl ?_
 intro ws HS
 simp only [qb, qc] at HS
 replace H := za HS
 refine zc hK ⟨zb H 3, zb H 0⟩ fun hH => ?_
 try simp only [Act.put]
 refine zm ?_
 go_wp2_with fail
 rw [HA.out.1, HA.out.2] at H
 exact bodyPost_ret (z6z 2 1 z4 rfl _ H rfl rfl rfl rfl) rfl ⟨rfl, H.out.bel⟩
theorem OwnB.like {w : World} {base : Nat} {v : Value} {n : Nat} {f g : Nat → BitVec 8} (h : OwnB w base v n f) (hfg : ∀ i, i < n → f i = g i) : OwnB w base v n g := by
 unfold OwnB at h ⊢
 rwa [List.map_congr_left (fun i hi => by rw [hfg i (List.mem_range.1 hi)])] at h
theorem OwnB.code {w : World} {base : Nat} {v : Value} {P : Pt pN dK} (h : OwnB w base v 57 (bt (cdN P))) : ∃ g c, v = .slice (some ⟨g, 0, none⟩) 57 c ∧ Sb w w.heap.size (some ⟨g, 0, none⟩) 57 c (cdN P) := by
 obtain ⟨g, c, _, e, _, _, hs⟩ := h.sl (by omega)
 exact ⟨g, c, e, hs, cdN_lt P⟩
theorem refEncode_odd {v1 : Nat → Int} {P1 : Pt pN dK} (w : World) (q1 : RfK v1 P1) (hp : decide (P1.x.val % 2 = 1) = true) (hs : sg P1.x = 128) :
  Calls Tryz.prog 85 #[QO v1] w fun e w' => ∃ g c, e = .returned (.slice (some ⟨g, 0, none⟩) 57 c) ∧ Sb w' w'.heap.size (some ⟨g, 0, none⟩) 57 c (cdN P1) ∧ Below w.heap.size w w' := by
 have W1 := za q1
 have HP := za hp
 have HL := za (fun j hj => (congrFun (y4l P1.y.val) j).trans (y9l P1 (i := j) hj).symm)
 have HC : Hid (U (bt (cdN P1) 56) = .int .u8 128) := za (by rw [y4j, hs]; rfl)
 clear q1 hp hs
 have H := za (Ow.start w)
 go_enter Tryz.func85, Tryz.ntmps85
 go_wp2_with (first
  | ((with_reducible apply zw H); (case hgd | ho | hx => exact rfl); clear H; intro _ _ H _ _; go_simp)
  | ((with_reducible apply zr zD H); (case hgd | ho | hx => exact rfl); (case hi => repeat first|exact z5|apply z8); intro _ _; go_simp)
  | ((fail_if_success have := A1); (with_reducible refine (z0k _ W1.out).mono ?_); rintro e wc ⟨rfl, hb⟩; replace H := zd H hb; clear hb; have A1 := trivial)
  | ((with_reducible apply ze zA.zero H); (case hgd | ho => exact rfl); clear H; intro _ _ H _ _; go_simp)
  | ((with_reducible apply zj z4 H); (case hgd | ho | hx | hy => exact rfl); (case hi => repeat first|exact z5|apply z8); clear H; intro ws H _ _; simp only [qb, qc] at H; go_simp)
  | ((with_reducible apply zr z4 H); (case hgd | ho | hx => exact rfl); (case hi => repeat first|exact z5|apply z8); intro _ _; go_simp)
  | ((with_reducible refine (z3q _).mono ?_); rw [HP.out]; rintro e wc ⟨rfl, hb⟩; replace H := zd H hb; clear hb)
  | ((with_reducible refine (z4j _ _).mono ?_); rintro e wc ⟨vb, B, rfl, hB, hB2, ho, hb⟩; have HO := za (ho.like HL.out); have HB := za (Nat.le_trans H.out.bel.size hB); have HB2 := za hB2; replace H := zd H hb; clear hb ho hB hB2)
  | ((with_reducible apply z0y); (case hgd | ho | hs | hx => exact rfl); (case hown => exact HO.out.alloc _); (case hc => rw [HC.out]; simp); (case hn => omega); (case hbase => exact Nat.le_trans HB2.out (by simp)); intro v' w' ho' hb'; have HO' := za ho'; have HB' := za hb'; clear ho' hb'; intro _ _; go_simp))
 go_ret
 obtain ⟨g, c, rfl, hs⟩ := HO'.out.code
 exact ⟨g, c, rfl, hs, (H.out.bel.alloc H.out.bel.size _).trans (HB'.out.mono HB.out)⟩
theorem refEncode_even {v1 : Nat → Int} {P1 : Pt pN dK} (w : World) (q1 : RfK v1 P1) (hp : decide (P1.x.val % 2 = 1) = false) (hs : sg P1.x = 0) :
  Calls Tryz.prog 85 #[QO v1] w fun e w' => ∃ g c, e = .returned (.slice (some ⟨g, 0, none⟩) 57 c) ∧ Sb w' w'.heap.size (some ⟨g, 0, none⟩) 57 c (cdN P1) ∧ Below w.heap.size w w' := by
 have W1 := za q1
 have HP := za hp
 have HL := za (fun j hj => (congrFun (y4l P1.y.val) j).trans (y9l P1 (i := j) hj).symm)
 have HC : Hid (U (bt (cdN P1) 56) = .int .u8 0) := za (by rw [y4j, hs]; rfl)
 clear q1 hp hs
 have H := za (Ow.start w)
 go_enter Tryz.func85, Tryz.ntmps85
 go_wp2_with (first
  | ((with_reducible apply zw H); (case hgd | ho | hx => exact rfl); clear H; intro _ _ H _ _; go_simp)
  | ((with_reducible apply zr zD H); (case hgd | ho | hx => exact rfl); (case hi => repeat first|exact z5|apply z8); intro _ _; go_simp)
  | ((fail_if_success have := A1); (with_reducible refine (z0k _ W1.out).mono ?_); rintro e wc ⟨rfl, hb⟩; replace H := zd H hb; clear hb; have A1 := trivial)
  | ((with_reducible apply ze zA.zero H); (case hgd | ho => exact rfl); clear H; intro _ _ H _ _; go_simp)
  | ((with_reducible apply zj z4 H); (case hgd | ho | hx | hy => exact rfl); (case hi => repeat first|exact z5|apply z8); clear H; intro ws H _ _; simp only [qb, qc] at H; go_simp)
  | ((with_reducible apply zr z4 H); (case hgd | ho | hx => exact rfl); (case hi => repeat first|exact z5|apply z8); intro _ _; go_simp)
  | ((with_reducible refine (z3q _).mono ?_); rw [HP.out]; rintro e wc ⟨rfl, hb⟩; replace H := zd H hb; clear hb)
  | ((with_reducible refine (z4j _ _).mono ?_); rintro e wc ⟨vb, B, rfl, hB, hB2, ho, hb⟩; have HO := za (ho.like HL.out); have HB := za (Nat.le_trans H.out.bel.size hB); have HB2 := za hB2; replace H := zd H hb; clear hb ho hB hB2)
  | ((with_reducible apply z0y); (case hgd | ho | hs | hx => exact rfl); (case hown => exact HO.out.alloc _); (case hc => rw [HC.out]; simp); (case hn => omega); (case hbase => exact Nat.le_trans HB2.out (by simp)); intro v' w' ho' hb'; have HO' := za ho'; have HB' := za hb'; clear ho' hb'; intro _ _; go_simp))
 go_ret
 obtain ⟨g, c, rfl, hs⟩ := HO'.out.code
 exact ⟨g, c, rfl, hs, (H.out.bel.alloc H.out.bel.size _).trans (HB'.out.mono HB.out)⟩
theorem refEncode_k {v1 : Nat → Int} {P1 : Pt pN dK} (w : World) (q1 : RfK v1 P1) :
  Calls Tryz.prog 85 #[QO v1] w fun e w' => ∃ g c, e = .returned (.slice (some ⟨g, 0, none⟩) 57 c) ∧ Sb w' w'.heap.size (some ⟨g, 0, none⟩) 57 c (cdN P1) ∧ Below w.heap.size w w' := by
 rcases sg_or P1.x with ⟨h1, h2⟩ | ⟨h1, h2⟩
 ·exact refEncode_odd w q1 (decide_eq_true h1) h2
 ·exact refEncode_even w q1 (decide_eq_false (by omega)) h2
theorem z1b {v1 v2 : Nat → Int} {P1 P2 : Pt pN dK} (w : World) (q1 : RfK v1 P1) (q2 : RfK v2 P2) :
  Calls Tryz.prog 27 #[QO v1, QO v2] w fun e w' => ∃ r, e = .returned (QO r) ∧ RfK r (z6 zB P1 P2) ∧ Below w.heap.size w w' := by
 obtain ⟨X1, Y1, Z1, rfl, r1⟩ := q1.is
 have R1 := za r1
 clear q1 r1
 obtain ⟨X2, Y2, Z2, rfl, r2⟩ := q2.is
 have R2 := za r2
 clear q2 r2
 have HA := za (Rp.add zB R1.out R2.out)
 clear R1 R2
 have H := za (Ow.start w)
 go_enter Tryz.func27, Tryz.ntmps27
 go_upto_region 5 with (first
  | ((fail_if_success have := g2); (with_reducible apply zw H); (case hgd | ho | hx => exact rfl); clear H; intro w2 g2 H _ _; go_simp)
  | ((fail_if_success have := g3); (with_reducible apply zw H); (case hgd | ho | hx => exact rfl); clear H; intro w3 g3 H _ _; go_simp)
  | ((fail_if_success have := g4); (with_reducible apply ze z0w H); (case hgd | ho => exact rfl); clear H; intro w4 g4 H _ _; go_simp)
  | ((with_reducible apply z78 z4 H); (case hgd | ho | hx => exact rfl); (case hi => repeat first|exact z5|apply z8); (case hp => first | exact z6d | exact z6c | exact y1p); intro _ _; go_simp)
  | ((with_reducible apply zr z4 H); (case hgd | ho | hx => exact rfl); (case hi => repeat first|exact z5|apply z8); intro _ _; go_simp)
  | ((with_reducible apply zj z4 H); (case hgd | ho | hx | hy => exact rfl); (case hi => repeat first|exact z5|apply z8); clear H; intro ws H _ _; simp only [qb] at H; go_simp)
  | ((fail_if_success have := g5); (with_reducible refine (z0d (Z1) (Z2) _).mono ?_); rintro e wc ⟨rfl, hb⟩; replace H := zd H hb; clear hb)
  | ((fail_if_success have := g5); (with_reducible apply ze zA.zero H); (case hgd | ho => exact rfl); clear H; intro w5 g5 H _ _; go_simp)
  | ((fail_if_success have := g6); (with_reducible refine (z0d (Z1 * Z2) (Z1 * Z2) _).mono ?_); rintro e wc ⟨rfl, hb⟩; replace H := zd H hb; clear hb)
  | ((fail_if_success have := g6); (with_reducible apply ze zA.zero H); (case hgd | ho => exact rfl); clear H; intro w6 g6 H _ _; go_simp)
  | ((fail_if_success have := g7); (with_reducible refine (z0d (X1) (Y2) _).mono ?_); rintro e wc ⟨rfl, hb⟩; replace H := zd H hb; clear hb)
  | ((fail_if_success have := g7); (with_reducible apply ze zA.zero H); (case hgd | ho => exact rfl); clear H; intro w7 g7 H _ _; go_simp)
  | ((fail_if_success have := g8); (with_reducible refine (z0d (X2) (Y1) _).mono ?_); rintro e wc ⟨rfl, hb⟩; replace H := zd H hb; clear hb)
  | ((fail_if_success have := g8); (with_reducible apply ze zA.zero H); (case hgd | ho => exact rfl); clear H; intro w8 g8 H _ _; go_simp))
 go_cut [9] from 32 to 36 (fun v9 wx => ∃ g9, v9 = .pointer (some ⟨g9, 0, none⟩) ∧ Ow w wx [(g9, zv 36 .i64 16 (dF ((dK * ((X1 * Y2) * (X2 * Y1)))).val)), (g8, zv 36 .i64 16 (dF ((X2 * Y1)).val)), (g7, zv 36 .i64 16 (dF ((X1 * Y2)).val)), (g6, zv 36 .i64 16 (dF (((Z1 * Z2) * (Z1 * Z2))).val)), (g5, zv 36 .i64 16 (dF ((Z1 * Z2)).val)), (g4, zv 38 .i64 48 fun _ => 0), (g3, zv 38 .i64 48 ((t3 16 (dF (X2).val) (dF (Y2).val) (dF (Z2).val)))), (g2, zv 38 .i64 48 ((t3 16 (dF (X1).val) (dF (Y1).val) (dF (Z1).val))))])
 case first =>
  go_wp2_with fail
  refine wp_region_noPanic ?_
  refine wp_region_held_drew (S := fun W => W.heap[g7]? = some (zv 36 .i64 16 (dF ((X1 * Y2)).val)) ∧ W.heap[g8]? = some (zv 36 .i64 16 (dF ((X2 * Y1)).val))) (by kernel_rfl) (⟨H.out.drew.row 1 rfl, H.out.drew.row 0 rfl⟩) (fun hH => ?_)
  replace H := za H.out.drew
  generalize World.drew _ = w8 at *
  refine zk 1 33 z4 rfl rfl rfl hH rfl rfl (fun _ h => h.1) ?_
  refine zk 2 34 z4 rfl rfl rfl hH rfl rfl (fun _ h => h.2) ?_
  refine zK [0, 5] (zG rfl (fun K hK => ?_) (zG rfl (fun K hK => ?_) zJ))
  ·skip
   go_simp
   refine (refD_k _).mono ?_
   rintro e wc ⟨rfl, hb⟩
   replace H := zd H hb
   refine zc hK ⟨zb H 1, zb H 0⟩ fun hH => ?_
   try simp only [Act.put, qa, qb, qc]
   refine zK [3, 5] (zG rfl (fun K hK => ?_) (zG rfl (fun K hK => ?_) zJ))
   ·skip
    go_simp
    refine (z0d _ _ _).mono ?_
    rintro e wc ⟨rfl, hb⟩
    replace H := zd H hb
    refine zc hK ⟨zb H 1, zb H 0⟩ fun hH => zK [4, 5] (zG rfl (fun K hK => ?_) (zG rfl (fun K hK => ?_) zJ))
    ·skip
     go_simp
     refine (z0d _ _ _).mono ?_
     rintro e wc ⟨rfl, hb⟩
     replace H := zd H hb
     refine zc hK ⟨zb H 1, zb H 0⟩ fun hH => zn 5 rfl fun K hK => ?_
     refine zg 9 rfl zA.zero H.out rfl ?_
     intro w9 g9 H3 hb
     replace H := za H3
     refine zc hK ⟨zb H 2, zb H 1⟩ fun hH => ?_
     try simp only [Act.put, qa, qb, qc]
     refine zn 6 rfl fun K hK => ?_
     refine zl 0 z4 H.out rfl rfl rfl rfl ?_
     intro ws HS
     simp only [qb] at HS
     replace H := za HS
     refine zc hK ⟨zb H 2, zb H 1⟩ fun hH => ?_
     try simp only [Act.put, qa]
     refine zm ?_
     go_wp2_with fail
     go_meet
     exact ⟨g9, rfl, H.out⟩
    ·skip
     refine zg 9 rfl zA.zero H.out rfl ?_
     intro w9 g9 H3 hb
     replace H := za H3
     refine zc hK ⟨zb H 2, zb H 1⟩ fun hH => zn 4 rfl fun K hK => ?_
     go_simp
     refine (z0d _ _ _).mono ?_
     rintro e wc ⟨rfl, hb⟩
     replace H := zd H hb
     refine zc hK ⟨zb H 2, zb H 1⟩ fun hH => zn 6 rfl fun K hK => ?_
     refine zl 0 z4 H.out rfl rfl rfl rfl ?_
     intro ws HS
     simp only [qb] at HS
     replace H := za HS
     refine zc hK ⟨zb H 2, zb H 1⟩ fun hH => ?_
     try simp only [Act.put, qa]
     refine zm ?_
     go_wp2_with fail
     go_meet
     exact ⟨g9, rfl, H.out⟩
   ·skip
    refine zg 9 rfl zA.zero H.out rfl ?_
    intro w9 g9 H3 hb
    replace H := za H3
    refine zc hK ⟨zb H 2, zb H 1⟩ fun hH => ?_
    try simp only [Act.put, qa, qb, qc]
    refine zn 3 rfl fun K hK => ?_
    go_simp
    refine (z0d _ _ _).mono ?_
    rintro e wc ⟨rfl, hb⟩
    replace H := zd H hb
    refine zc hK ⟨zb H 2, zb H 1⟩ fun hH => zn 4 rfl fun K hK => ?_
    go_simp
    refine (z0d _ _ _).mono ?_
    rintro e wc ⟨rfl, hb⟩
    replace H := zd H hb
    refine zc hK ⟨zb H 2, zb H 1⟩ fun hH => zn 6 rfl fun K hK => ?_
    refine zl 0 z4 H.out rfl rfl rfl rfl ?_
    intro ws HS
    simp only [qb] at HS
    replace H := za HS
    refine zc hK ⟨zb H 2, zb H 1⟩ fun hH => ?_
    try simp only [Act.put, qa]
    refine zm ?_
    go_wp2_with fail
    go_meet
    exact ⟨g9, rfl, H.out⟩
  ·skip
   refine zg 9 rfl zA.zero H.out rfl ?_
   intro w9 g9 H3 hb
   replace H := za H3
   refine zc hK ⟨zb H 2, zb H 1⟩ fun hH => ?_
   try simp only [Act.put, qa, qb, qc]
   refine zn 0 rfl fun K hK => ?_
   go_simp
   refine (refD_k _).mono ?_
   rintro e wc ⟨rfl, hb⟩
   replace H := zd H hb
   refine zc hK ⟨zb H 2, zb H 1⟩ fun hH => zn 3 rfl fun K hK => ?_
   go_simp
   refine (z0d _ _ _).mono ?_
   rintro e wc ⟨rfl, hb⟩
   replace H := zd H hb
   refine zc hK ⟨zb H 2, zb H 1⟩ fun hH => zn 4 rfl fun K hK => ?_
   go_simp
   refine (z0d _ _ _).mono ?_
   rintro e wc ⟨rfl, hb⟩
   replace H := zd H hb
   refine zc hK ⟨zb H 2, zb H 1⟩ fun hH => ?_
   try simp only [Act.put, qa, qb, qc]
   refine zn 6 rfl fun K hK => ?_
   refine zl 0 z4 H.out rfl rfl rfl rfl ?_
   intro ws HS
   simp only [qb] at HS
   replace H := za HS
   refine zc hK ⟨zb H 2, zb H 1⟩ fun hH => ?_
   try simp only [Act.put, qa]
   refine zm ?_
   go_wp2_with fail
   go_meet
   exact ⟨g9, rfl, H.out⟩
 clear H
 obtain ⟨g9, rfl, HRR⟩ := hcut
 have H := za HRR
 clear HRR 
 go_upto_region 8 with (first
  | ((with_reducible apply zr z4 H); (case hgd | ho | hx => exact rfl); (case hi => repeat first|exact z5|apply z8); intro _ _; go_simp)
  | ((with_reducible apply zj z4 H); (case hgd | ho | hx | hy => exact rfl); (case hi => repeat first|exact z5|apply z8); clear H; intro ws H _ _; simp only [qb] at H; go_simp)
  | ((fail_if_success have := g10); (with_reducible refine (z1s ((Z1 * Z2) * (Z1 * Z2)) (dK * ((X1 * Y2) * (X2 * Y1))) _).mono ?_); rintro e wc ⟨rfl, hb⟩; replace H := zd H hb; clear hb)
  | ((fail_if_success have := g10); (with_reducible apply ze zA.zero H); (case hgd | ho => exact rfl); clear H; intro w10 g10 H _ _; go_simp)
  | ((fail_if_success have := g11); (with_reducible refine (z1r ((Z1 * Z2) * (Z1 * Z2)) (dK * ((X1 * Y2) * (X2 * Y1))) _).mono ?_); rintro e wc ⟨rfl, hb⟩; replace H := zd H hb; clear hb)
  | ((fail_if_success have := g11); (with_reducible apply ze zA.zero H); (case hgd | ho => exact rfl); clear H; intro w11 g11 H _ _; go_simp))
 go_cut [12] from 43 to 47 (fun v12 wx => ∃ g12, v12 = .pointer (some ⟨g12, 0, none⟩) ∧ Ow w wx [(g12, zv 36 .i64 16 (dF (((Z1 * Z2) * ((X1 * Y2) + (X2 * Y1)))).val)), (g11, zv 36 .i64 16 (dF ((((Z1 * Z2) * (Z1 * Z2)) - (dK * ((X1 * Y2) * (X2 * Y1))))).val)), (g10, zv 36 .i64 16 (dF ((((Z1 * Z2) * (Z1 * Z2)) + (dK * ((X1 * Y2) * (X2 * Y1))))).val)), (g9, zv 36 .i64 16 (dF ((dK * ((X1 * Y2) * (X2 * Y1)))).val)), (g8, zv 36 .i64 16 (dF ((X2 * Y1)).val)), (g7, zv 36 .i64 16 (dF ((X1 * Y2)).val)), (g6, zv 36 .i64 16 (dF (((Z1 * Z2) * (Z1 * Z2))).val)), (g5, zv 36 .i64 16 (dF ((Z1 * Z2)).val)), (g4, zv 38 .i64 48 fun _ => 0), (g3, zv 38 .i64 48 ((t3 16 (dF (X2).val) (dF (Y2).val) (dF (Z2).val)))), (g2, zv 38 .i64 48 ((t3 16 (dF (X1).val) (dF (Y1).val) (dF (Z1).val))))])
 case first =>
  go_wp2_with fail
  refine wp_region_noPanic ?_
  refine wp_region_held_drew (S := fun W => W.heap[g5]? = some (zv 36 .i64 16 (dF ((Z1 * Z2)).val)) ∧ W.heap[g7]? = some (zv 36 .i64 16 (dF ((X1 * Y2)).val)) ∧ W.heap[g8]? = some (zv 36 .i64 16 (dF ((X2 * Y1)).val))) (by kernel_rfl) (⟨H.out.drew.row 6 rfl, H.out.drew.row 4 rfl, H.out.drew.row 3 rfl⟩) (fun hH => ?_)
  replace H := za H.out.drew
  generalize World.drew _ = w8 at *
  refine zk 0 43 z4 rfl rfl rfl hH rfl rfl (fun _ h => h.1) ?_
  refine zk 1 44 z4 rfl rfl rfl hH rfl rfl (fun _ h => h.2.1) ?_
  refine zk 2 45 z4 rfl rfl rfl hH rfl rfl (fun _ h => h.2.2) ?_
  try simp only [Act.put, qa, qb, qc]
  refine zK [3, 5] (zG rfl (fun K hK => ?_) (zG rfl (fun K hK => ?_) zJ))
  ·skip
   go_simp
   refine (z1s _ _ _).mono ?_
   rintro e wc ⟨rfl, hb⟩
   replace H := zd H hb
   refine zc hK ⟨zb H 6, zb H 4, zb H 3⟩ fun hH => zK [4, 5] (zG rfl (fun K hK => ?_) (zG rfl (fun K hK => ?_) zJ))
   ·skip
    go_simp
    refine (z0d _ _ _).mono ?_
    rintro e wc ⟨rfl, hb⟩
    replace H := zd H hb
    refine zc hK ⟨zb H 6, zb H 4, zb H 3⟩ fun hH => zn 5 rfl fun K hK => ?_
    refine zg 12 rfl zA.zero H.out rfl ?_
    intro w12 g12 H3 hb
    replace H := za H3
    refine zc hK ⟨zb H 7, zb H 5, zb H 4⟩ fun hH => ?_
    try simp only [Act.put, qa, qb, qc]
    refine zn 6 rfl fun K hK => ?_
    refine zl 0 z4 H.out rfl rfl rfl rfl ?_
    intro ws HS
    simp only [qb] at HS
    replace H := za HS
    refine zc hK ⟨zb H 7, zb H 5, zb H 4⟩ fun hH => ?_
    try simp only [Act.put, qa]
    refine zm ?_
    go_wp2_with fail
    go_meet
    exact ⟨g12, rfl, H.out⟩
   ·skip
    refine zg 12 rfl zA.zero H.out rfl ?_
    intro w12 g12 H3 hb
    replace H := za H3
    refine zc hK ⟨zb H 7, zb H 5, zb H 4⟩ fun hH => zn 4 rfl fun K hK => ?_
    go_simp
    refine (z0d _ _ _).mono ?_
    rintro e wc ⟨rfl, hb⟩
    replace H := zd H hb
    refine zc hK ⟨zb H 7, zb H 5, zb H 4⟩ fun hH => zn 6 rfl fun K hK => ?_
    refine zl 0 z4 H.out rfl rfl rfl rfl ?_
    intro ws HS
    simp only [qb] at HS
    replace H := za HS
    refine zc hK ⟨zb H 7, zb H 5, zb H 4⟩ fun hH => ?_
    try simp only [Act.put, qa]
    refine zm ?_
    go_wp2_with fail
    go_meet
    exact ⟨g12, rfl, H.out⟩
  ·skip
   refine zg 12 rfl zA.zero H.out rfl ?_
   intro w12 g12 H3 hb
   replace H := za H3
   refine zc hK ⟨zb H 7, zb H 5, zb H 4⟩ fun hH => ?_
   try simp only [Act.put, qa, qb, qc]
   refine zn 3 rfl fun K hK => ?_
   go_simp
   refine (z1s _ _ _).mono ?_
   rintro e wc ⟨rfl, hb⟩
   replace H := zd H hb
   refine zc hK ⟨zb H 7, zb H 5, zb H 4⟩ fun hH => zn 4 rfl fun K hK => ?_
   go_simp
   refine (z0d _ _ _).mono ?_
   rintro e wc ⟨rfl, hb⟩
   replace H := zd H hb
   refine zc hK ⟨zb H 7, zb H 5, zb H 4⟩ fun hH => zn 6 rfl fun K hK => ?_
   refine zl 0 z4 H.out rfl rfl rfl rfl ?_
   intro ws HS
   simp only [qb] at HS
   replace H := za HS
   refine zc hK ⟨zb H 7, zb H 5, zb H 4⟩ fun hH => ?_
   try simp only [Act.put, qa]
   refine zm ?_
   go_wp2_with fail
   go_meet
   exact ⟨g12, rfl, H.out⟩
 clear H
 obtain ⟨g12, rfl, HRR⟩ := hcut
 have H := za HRR
 clear HRR 
 go_upto_region 9 with fail
 go_cut [13] from 48 to 60 (fun v13 wx => ∃ g13, v13 = .pointer (some ⟨g13, 0, none⟩) ∧ Ow w wx [(g13, zv 36 .i64 16 (dF (((Z1 * Z2) * ((Y1 * Y2) - (X1 * X2)))).val)), (g12, zv 36 .i64 16 (dF (((Z1 * Z2) * ((X1 * Y2) + (X2 * Y1)))).val)), (g11, zv 36 .i64 16 (dF ((((Z1 * Z2) * (Z1 * Z2)) - (dK * ((X1 * Y2) * (X2 * Y1))))).val)), (g10, zv 36 .i64 16 (dF ((((Z1 * Z2) * (Z1 * Z2)) + (dK * ((X1 * Y2) * (X2 * Y1))))).val)), (g9, zv 36 .i64 16 (dF ((dK * ((X1 * Y2) * (X2 * Y1)))).val)), (g8, zv 36 .i64 16 (dF ((X2 * Y1)).val)), (g7, zv 36 .i64 16 (dF ((X1 * Y2)).val)), (g6, zv 36 .i64 16 (dF (((Z1 * Z2) * (Z1 * Z2))).val)), (g5, zv 36 .i64 16 (dF ((Z1 * Z2)).val)), (g4, zv 38 .i64 48 fun _ => 0), (g3, zv 38 .i64 48 ((t3 16 (dF (X2).val) (dF (Y2).val) (dF (Z2).val)))), (g2, zv 38 .i64 48 ((t3 16 (dF (X1).val) (dF (Y1).val) (dF (Z1).val))))])
 case first =>
  go_wp2_with fail
  refine wp_region_noPanic ?_
  refine wp_region_held_drew (S := fun W => W.heap[g5]? = some (zv 36 .i64 16 (dF ((Z1 * Z2)).val)) ∧ W.heap[g2]? = some (zv 38 .i64 48 ((t3 16 (dF (X1).val) (dF (Y1).val) (dF (Z1).val)))) ∧ W.heap[g3]? = some (zv 38 .i64 48 ((t3 16 (dF (X2).val) (dF (Y2).val) (dF (Z2).val))))) (by kernel_rfl) (⟨H.out.drew.row 7 rfl, H.out.drew.row 10 rfl, H.out.drew.row 9 rfl⟩) (fun hH => ?_)
  replace H := za H.out.drew
  generalize World.drew _ = w8 at *
  refine zk 0 48 z4 rfl rfl rfl hH rfl rfl (fun _ h => h.1) ?_
  try simp only [Act.put, qa, qb, qc]
  refine zh 1 49 (.pointer (some ⟨g2, 16, none⟩)) hH ?_
  refine z0i 2 50 z4 rfl rfl rfl hH rfl rfl z6c (fun _ h => h.2.1) ?_
  refine zh 3 51 (.pointer (some ⟨g3, 16, none⟩)) hH ?_
  refine z0i 4 52 z4 rfl rfl rfl hH rfl rfl z6c (fun _ h => h.2.2) ?_
  refine zh 6 54 (.pointer (some ⟨g2, 0, none⟩)) hH ?_
  refine z0i 7 55 z4 rfl rfl rfl hH rfl rfl z6d (fun _ h => h.2.1) ?_
  refine zh 8 56 (.pointer (some ⟨g3, 0, none⟩)) hH ?_
  refine z0i 9 57 z4 rfl rfl rfl hH rfl rfl z6d (fun _ h => h.2.2) ?_
  refine zK [5, 13] (zG rfl (fun K hK => ?_) (zG rfl (fun K hK => ?_) zJ))
  ·skip
   go_simp
   refine (z0d _ _ _).mono ?_
   rintro e wc ⟨rfl, hb⟩
   replace H := zd H hb
   refine zc hK ⟨zb H 7, zb H 10, zb H 9⟩ fun hH => zK [10, 13] (zG rfl (fun K hK => ?_) (zG rfl (fun K hK => ?_) zJ))
   ·skip
    go_simp
    refine (z0d _ _ _).mono ?_
    rintro e wc ⟨rfl, hb⟩
    replace H := zd H hb
    refine zc hK ⟨zb H 7, zb H 10, zb H 9⟩ fun hH => ?_
    try simp only [Act.put, qa, qb, qc]
    refine zK [11, 13] (zG rfl (fun K hK => ?_) (zG rfl (fun K hK => ?_) zJ))
    ·skip
     go_simp
     refine (z1r _ _ _).mono ?_
     rintro e wc ⟨rfl, hb⟩
     replace H := zd H hb
     refine zc hK ⟨zb H 7, zb H 10, zb H 9⟩ fun hH => zK [12, 13] (zG rfl (fun K hK => ?_) (zG rfl (fun K hK => ?_) zJ))
     ·skip
      go_simp
      refine (z0d _ _ _).mono ?_
      rintro e wc ⟨rfl, hb⟩
      replace H := zd H hb
      refine zc hK ⟨zb H 7, zb H 10, zb H 9⟩ fun hH => zn 13 rfl fun K hK => ?_
      refine zg 13 rfl zA.zero H.out rfl ?_
      intro w13 g13 H3 hb
      replace H := za H3
      refine zc hK ⟨zb H 8, zb H 11, zb H 10⟩ fun hH => ?_
      try simp only [Act.put, qa, qb, qc]
      refine zn 14 rfl fun K hK => ?_
      refine zl 0 z4 H.out rfl rfl rfl rfl ?_
      intro ws HS
      simp only [qb] at HS
      replace H := za HS
      refine zc hK ⟨zb H 8, zb H 11, zb H 10⟩ fun hH => ?_
      try simp only [Act.put, qa]
      refine zm ?_
      go_wp2_with fail
      go_meet
      exact ⟨g13, rfl, H.out⟩
     ·skip
      refine zg 13 rfl zA.zero H.out rfl ?_
      intro w13 g13 H3 hb
      replace H := za H3
      refine zc hK ⟨zb H 8, zb H 11, zb H 10⟩ fun hH => zn 12 rfl fun K hK => ?_
      go_simp
      refine (z0d _ _ _).mono ?_
      rintro e wc ⟨rfl, hb⟩
      replace H := zd H hb
      refine zc hK ⟨zb H 8, zb H 11, zb H 10⟩ fun hH => zn 14 rfl fun K hK => ?_
      refine zl 0 z4 H.out rfl rfl rfl rfl ?_
      intro ws HS
      simp only [qb] at HS
      replace H := za HS
      refine zc hK ⟨zb H 8, zb H 11, zb H 10⟩ fun hH => ?_
      try simp only [Act.put, qa]
      refine zm ?_
      go_wp2_with fail
      go_meet
      exact ⟨g13, rfl, H.out⟩
    ·skip
     refine zg 13 rfl zA.zero H.out rfl ?_
     intro w13 g13 H3 hb
     replace H := za H3
     refine zc hK ⟨zb H 8, zb H 11, zb H 10⟩ fun hH => ?_
     try simp only [Act.put, qa, qb, qc]
     refine zn 11 rfl fun K hK => ?_
     go_simp
     refine (z1r _ _ _).mono ?_
     rintro e wc ⟨rfl, hb⟩
     replace H := zd H hb
     refine zc hK ⟨zb H 8, zb H 11, zb H 10⟩ fun hH => zn 12 rfl fun K hK => ?_
     go_simp
     refine (z0d _ _ _).mono ?_
     rintro e wc ⟨rfl, hb⟩
     replace H := zd H hb
     refine zc hK ⟨zb H 8, zb H 11, zb H 10⟩ fun hH => zn 14 rfl fun K hK => ?_
     refine zl 0 z4 H.out rfl rfl rfl rfl ?_
     intro ws HS
     simp only [qb] at HS
     replace H := za HS
     refine zc hK ⟨zb H 8, zb H 11, zb H 10⟩ fun hH => ?_
     try simp only [Act.put, qa]
     refine zm ?_
     go_wp2_with fail
     go_meet
     exact ⟨g13, rfl, H.out⟩
   ·skip
    refine zg 13 rfl zA.zero H.out rfl ?_
    intro w13 g13 H3 hb
    replace H := za H3
    refine zc hK ⟨zb H 8, zb H 11, zb H 10⟩ fun hH => ?_
    try simp only [Act.put, qa, qb, qc]
    refine zn 10 rfl fun K hK => ?_
    go_simp
    refine (z0d _ _ _).mono ?_
    rintro e wc ⟨rfl, hb⟩
    replace H := zd H hb
    refine zc hK ⟨zb H 8, zb H 11, zb H 10⟩ fun hH => zn 11 rfl fun K hK => ?_
    go_simp
    refine (z1r _ _ _).mono ?_
    rintro e wc ⟨rfl, hb⟩
    replace H := zd H hb
    refine zc hK ⟨zb H 8, zb H 11, zb H 10⟩ fun hH => zn 12 rfl fun K hK => ?_
    go_simp
    refine (z0d _ _ _).mono ?_
    rintro e wc ⟨rfl, hb⟩
    replace H := zd H hb
    refine zc hK ⟨zb H 8, zb H 11, zb H 10⟩ fun hH => ?_
    try simp only [Act.put, qa, qb, qc]
    refine zn 14 rfl fun K hK => ?_
    refine zl 0 z4 H.out rfl rfl rfl rfl ?_
    intro ws HS
    simp only [qb] at HS
    replace H := za HS
    refine zc hK ⟨zb H 8, zb H 11, zb H 10⟩ fun hH => ?_
    try simp only [Act.put, qa]
    refine zm ?_
    go_wp2_with fail
    go_meet
    exact ⟨g13, rfl, H.out⟩
  ·skip
   refine zg 13 rfl zA.zero H.out rfl ?_
   intro w13 g13 H3 hb
   replace H := za H3
   refine zc hK ⟨zb H 8, zb H 11, zb H 10⟩ fun hH => zn 5 rfl fun K hK => ?_
   go_simp
   refine (z0d _ _ _).mono ?_
   rintro e wc ⟨rfl, hb⟩
   replace H := zd H hb
   refine zc hK ⟨zb H 8, zb H 11, zb H 10⟩ fun hH => zn 10 rfl fun K hK => ?_
   go_simp
   refine (z0d _ _ _).mono ?_
   rintro e wc ⟨rfl, hb⟩
   replace H := zd H hb
   refine zc hK ⟨zb H 8, zb H 11, zb H 10⟩ fun hH => ?_
   try simp only [Act.put, qa, qb, qc]
   refine zn 11 rfl fun K hK => ?_
   go_simp
   refine (z1r _ _ _).mono ?_
   rintro e wc ⟨rfl, hb⟩
   replace H := zd H hb
   refine zc hK ⟨zb H 8, zb H 11, zb H 10⟩ fun hH => zn 12 rfl fun K hK => ?_
   go_simp
   refine (z0d _ _ _).mono ?_
   rintro e wc ⟨rfl, hb⟩
   replace H := zd H hb
   refine zc hK ⟨zb H 8, zb H 11, zb H 10⟩ fun hH => zn 14 rfl fun K hK => ?_
   refine zl 0 z4 H.out rfl rfl rfl rfl ?_
   intro ws HS
   simp only [qb] at HS
   replace H := za HS
   refine zc hK ⟨zb H 8, zb H 11, zb H 10⟩ fun hH => ?_
   try simp only [Act.put, qa]
   refine zm ?_
   go_wp2_with fail
   go_meet
   exact ⟨g13, rfl, H.out⟩
 clear H
 obtain ⟨g13, rfl, HRR⟩ := hcut
 have H := za HRR
 clear HRR 
 go_upto_region 10 with fail
 refine wp_region_noPanic ?_
 refine wp_region_held_drew (S := fun W => W.heap[g12]? = some (zv 36 .i64 16 (dF (((Z1 * Z2) * ((X1 * Y2) + (X2 * Y1)))).val)) ∧ W.heap[g11]? = some (zv 36 .i64 16 (dF ((((Z1 * Z2) * (Z1 * Z2)) - (dK * ((X1 * Y2) * (X2 * Y1))))).val)) ∧ W.heap[g13]? = some (zv 36 .i64 16 (dF (((Z1 * Z2) * ((Y1 * Y2) - (X1 * X2)))).val)) ∧ W.heap[g10]? = some (zv 36 .i64 16 (dF ((((Z1 * Z2) * (Z1 * Z2)) + (dK * ((X1 * Y2) * (X2 * Y1))))).val))) (by kernel_rfl) (⟨H.out.drew.row 1 rfl, H.out.drew.row 2 rfl, H.out.drew.row 0 rfl, H.out.drew.row 3 rfl⟩) (fun hH => ?_)
 replace H := za H.out.drew
 generalize World.drew _ = w8 at *
 refine zk 0 61 z4 rfl rfl rfl hH rfl rfl (fun _ h => h.1) ?_
 try simp only [Act.put, qa, qb, qc]
 refine zk 1 62 z4 rfl rfl rfl hH rfl rfl (fun _ h => h.2.1) ?_
 refine zk 3 64 z4 rfl rfl rfl hH rfl rfl (fun _ h => h.2.2.1) ?_
 refine zk 4 65 z4 rfl rfl rfl hH rfl rfl (fun _ h => h.2.2.2) ?_
 try simp only [Act.put, qa, qb, qc]
 refine zk 6 67 z4 rfl rfl rfl hH rfl rfl (fun _ h => h.2.2.2) ?_
 refine zk 7 68 z4 rfl rfl rfl hH rfl rfl (fun _ h => h.2.1) ?_
 refine zn 2 rfl fun K hK => ?_
 go_simp
 refine (z0d _ _ _).mono ?_
 rintro e wc ⟨rfl, hb⟩
 replace H := zd H hb
 refine zc hK ⟨zb H 1, zb H 2, zb H 0, zb H 3⟩ fun hH => ?_
 try simp only [Act.put, qa, qb, qc]
 refine zn 5 rfl fun K hK => ?_
 go_simp
 refine (z0d _ _ _).mono ?_
 rintro e wc ⟨rfl, hb⟩
 replace H := zd H hb
 refine zc hK ⟨zb H 1, zb H 2, zb H 0, zb H 3⟩ fun hH => zn 8 rfl fun K hK => ?_
 go_simp
 refine (z0d _ _ _).mono ?_
 rintro e wc ⟨rfl, hb⟩
 replace H := zd H hb
 refine zc hK ⟨zb H 1, zb H 2, zb H 0, zb H 3⟩ fun hH => ?_
 refine z94 9 70 rfl rfl rfl hH rfl rfl rfl rfl ?_
 try simp only [Act.put, qa, qb, qc]
 refine zn 10 rfl fun K hK => ?_
 refine zl 9 zD H.out rfl rfl rfl rfl ?_
 intro ws HS
 simp only [qb, qc] at HS
 replace H := za HS
 refine zc hK ⟨zb H 1, zb H 2, zb H 0, zb H 3⟩ fun hH => ?_
 try simp only [Act.put, qa]
 refine zm ?_
 go_wp2_with fail
 exact bodyPost_ret (zy 9 zD rfl _ H rfl rfl) rfl ⟨_, rfl, ⟨_, _, _, rfl, HA.out⟩, H.out.bel⟩
theorem half_bit (x j : Nat) : x / 2 ^ j = 2 * (x / 2 ^ (j + 1)) + x / 2 ^ j % 2 := by
 rw [Nat.pow_succ, ← Nat.div_div_eq_div_mul]
 omega
theorem z1a (a : Option Addr) (n c x : Nat) {v : Nat → Int} {P : Pt pN dK} (w : World) (hn : n ≤ 100) (hs : Sb w w.heap.size a n c x) (p1 : RfK v P) :
  Calls Tryz.prog 32 #[.slice a n c, QO v] w fun e w' => ∃ r, e = .returned (QO r) ∧ RfK r (zF zB x P) ∧ Below w.heap.size w w' := by
 have HS := za hs
 have Q := za p1
 have hl : bl x ≤ 8 * n := (y2a x _).2 hs.fits
 obtain ⟨nn, hnn⟩ : ∃ nn, bl x = nn := ⟨_, rfl⟩
 have HX : Hid (x / 2 ^ nn = 0) := za (by rw [← hnn]; exact Nat.div_eq_of_lt (y0f x))
 have HL : Hid (∀ w, Sb w w.heap.size a n c x → Calls Tryz.prog 99 #[.slice a n c] w fun e w' => e = .returned (.int .i64 (nn : Int)) ∧ w' = w) := za (fun w h => hnn ▸ z72 a n c x w (by omega) h)
 have HBI : Hid (∀ (j : Nat) w, j ≤ 800 → Sb w w.heap.size a n c x → Calls Tryz.prog 100 #[.slice a n c, .int .i64 (j : Int)] w fun e w' => e = .returned (.int .i64 (((x / 2 ^ j % 2 : Nat)) : Int)) ∧ w' = w) := za (fun j w hj h => by
  have := z3c a n c x (j : Int) w (by omega) (by omega) h
  have e : bitI x (j : Int) = ((x / 2 ^ j % 2 : Nat) : Int) := by
   unfold bitI
   rw [if_neg (by omega)]
   rfl
  rwa [e] at this)
 have n800 : (nn : Int) ≤ 800 := by omega
 have fn1 : IntKind.i64.wrap ((nn : Int) - 1) = (nn : Int) - 1 := IntWalk.i64_in _ (by omega)
 clear hs p1 hl hnn hn
 have H := za (Ow.start w)
 go_enter Tryz.func32, Tryz.ntmps32
 go_wp2_with (first
  | ((fail_if_success have := g3); (with_reducible apply zw H); (case hgd | ho | hx => exact rfl); clear H; intro w3 g3 H _ _; go_simp)
  | ((fail_if_success have := g4); (with_reducible apply ze z0w H); (case hgd | ho => exact rfl); clear H; intro w4 g4 H _ _; go_simp)
  | ((fail_if_success have := V0); (with_reducible refine (z1e _).mono ?_); rintro e wc ⟨k0, rfl, hv, hb⟩; replace H := zd H hb; clear hb; have V0 := za hv; clear hv)
  | ((fail_if_success have := g5); (with_reducible apply ze z0w H); (case hgd | ho => exact rfl); clear H; intro w5 g5 H _ _; go_simp)
  | ((with_reducible apply zj zD H); (case hgd | ho | hx | hy => exact rfl); (case hi => repeat first|exact z5|apply z8); clear H; intro ws H _ _; simp only [qb] at H; go_simp)
  | ((with_reducible refine (HL.out _ ((HS.out.below H.out.bel).more H.out.bel.size)).mono ?_); rintro e w' ⟨rfl, hww⟩; have hww' := hww.symm; subst hww'))
 clear fn1
 go_loopw [6] (fun v6 wr => ∃ (m : Nat) (r : Nat → Int), m ≤ nn ∧ v6 = .int .i64 ((m : Int) - 1) ∧ RfK r (zF zB (x / 2 ^ m) P) ∧ Ow w wr [(g5, zv 38 .i64 48 r), (g4, zv 38 .i64 48 fun _ => 0), (g3, zv 38 .i64 48 v)]) (fun v6 _ => (intOf v6 + 1).toNat)
 case atStart => exact ⟨nn, k0, Nat.le_refl _, rfl, by rw [HX.out]; exact V0.out.eq (z4r zB P).symm, H.out⟩
 case round =>
  clear H V0
  obtain ⟨m, r, hm, rfl, hp, HR⟩ := hrel
  have VP := za hp
  have H := za HR
  clear hp HR
  cases m with
  | zero =>
   rw [show ((0 : Nat) : Int) - 1 = -1 from rfl]
   go_wp2_with (first
    | ((with_reducible apply zr zD H); (case hgd | ho | hx => exact rfl); (case hi => repeat first|exact z5|apply z8); intro _ _; go_simp)
    | ((with_reducible apply zj zD H); (case hgd | ho | hx | hy => exact rfl); (case hi => repeat first|exact z5|apply z8); clear H; intro ws H _ _; simp only [qb, qc] at H; go_simp))
   exact bodyPost_ret (zy 1 zD rfl _ H rfl rfl) rfl ⟨_, rfl, VP.out.eq (by rw [Nat.pow_zero, Nat.div_one]), H.out.bel⟩
  | succ j =>
   have ej : ((j + 1 : Nat) : Int) - 1 = (j : Int) := by omega
   rw [ej]
   clear ej
   have hid : decide ((0 : Int) ≤ (j : Int)) = true := by simp
   have HJ := za hm
   have j800 : (j : Int) ≤ 800 := by omega
   have j800' : j ≤ 800 := by omega
   have HE : Hid (x / 2 ^ j = 2 * (x / 2 ^ (j + 1)) + x / 2 ^ j % 2) := za (half_bit x j)
   have HBJ := za (fun w h => HBI.out j w j800' h)
   rcases Nat.mod_two_eq_zero_or_one (x / 2 ^ j) with hu2 | hu2
   ·rw [hu2] at HE HBJ
    clear hu2 hm
    go_wp2_with (first
     | ((with_reducible apply zr zD H); (case hgd | ho | hx => exact rfl); (case hi => repeat first|exact z5|apply z8); intro _ _; go_simp)
     | ((with_reducible apply zj zD H); (case hgd | ho | hx | hy => exact rfl); (case hi => repeat first|exact z5|apply z8); clear H; intro ws H _ _; simp only [qb] at H; go_simp)
     | ((fail_if_success have := V1); (with_reducible refine (z1b _ VP.out VP.out).mono ?_); rintro e wc ⟨k1, rfl, hv, hb⟩; replace H := zd H hb; clear hb; have V1 := za hv; clear hv)
     | ((with_reducible refine (HBJ.out _ ((HS.out.below H.out.bel).more H.out.bel.size)).mono ?_); rintro e w' ⟨rfl, hww⟩; have hww' := hww.symm; subst hww'))
    go_roundw
    case rel => exact ⟨j, k1, by have := HJ.out; omega, by go_num, by rw [HE.out, Nat.add_zero, z2x]; exact V1.out, H.out⟩
    case measure => (simp [intOf] <;> omega)
   ·rw [hu2] at HE HBJ
    clear hu2 hm
    go_wp2_with (first
     | ((with_reducible apply zr zD H); (case hgd | ho | hx => exact rfl); (case hi => repeat first|exact z5|apply z8); intro _ _; go_simp)
     | ((with_reducible apply zj zD H); (case hgd | ho | hx | hy => exact rfl); (case hi => repeat first|exact z5|apply z8); clear H; intro ws H _ _; simp only [qb] at H; go_simp)
     | ((fail_if_success have := V1); (with_reducible refine (z1b _ VP.out VP.out).mono ?_); rintro e wc ⟨k1, rfl, hv, hb⟩; replace H := zd H hb; clear hb; have V1 := za hv; clear hv)
     | ((with_reducible refine (HBJ.out _ ((HS.out.below H.out.bel).more H.out.bel.size)).mono ?_); rintro e w' ⟨rfl, hww⟩; have hww' := hww.symm; subst hww')
     | ((fail_if_success have := V2); (with_reducible refine (z1b _ V1.out Q.out).mono ?_); rintro e wc ⟨k2, rfl, hv, hb⟩; replace H := zd H hb; clear hb; have V2 := za hv; clear hv))
    go_roundw
    case rel => exact ⟨j, k2, by have := HJ.out; omega, by go_num, by rw [HE.out, z1q, z2x]; exact V2.out, H.out⟩
    case measure => (simp [intOf] <;> omega)
end Go.Proofs.YtgjbonikbmgfmaaGreatDoor
