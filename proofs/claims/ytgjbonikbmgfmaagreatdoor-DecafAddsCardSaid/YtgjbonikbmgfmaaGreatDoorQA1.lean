/- Lemmas; no statement is proved here. -/
import Derived.Test.YtgjbonikbmgfmaaGreatDoorQK
import Derived.Test.YtgjbonikbmgfmaaGreatDoorQAdem2
import Derived.Test.YtgjbonikbmgfmaaGreatDoorZDfGo2
set_option maxRecDepth 20000
set_option maxHeartbeats 3200000
namespace Go.Proofs.YtgjbonikbmgfmaaGreatDoor
open Go.ChangeShapes Go.WideShapes Go.ChangeAt Go.RowKit
section
variable {H : Type} {enc : TypeId × Value → H}
theorem open_bool12 {W : World} {base b : Nat} {sp : Nat → Bool} {held : Bool} {v : Value} {d : DataW H} {p : List MemPlace} (hv : Value.okWide Tryz.prog W .any base 4 v) (_h : DataW.Trod enc Tryz.prog W b sp held 4 v d p) : ∃ q, v = .bool q := by
 obtain ⟨q, rfl⟩ := okWide_bool Tryz.underlying4 hv
 exact ⟨q, rfl⟩
end
section
variable {p c : Nat} [NeZero p] {d n s e f : Fin p}
theorem dfE_neg (x y : Fin p) : dfE c n e f (-x) (-y) = dfE c n e f x y ∨ dfE c n e f (-x) (-y) = ab (-(n * dfR c (n * ((x + x * y) * (x - x * y) * (x * x))) * (x * (f * ab (dfR c (n * ((x + x * y) * (x - x * y) * (x * x))) * ((x + x * y) * (x - x * y)) * e) - x * y)))) := by
 right
 unfold dfE
 simp only []
 rw [show -x * -y = x * y by grind, show (-x + x * y) * (-x - x * y) = (x + x * y) * (x - x * y) by grind, show -x * -x = x * x by grind]
 congr 1
 generalize dfR c (n * ((x + x * y) * (x - x * y) * (x * x))) = r
 generalize f * ab (r * ((x + x * y) * (x - x * y)) * e) - x * y = v
 grind
theorem dfE_half (h : DfF p c d n s e f) (x y : Fin p) : dfE c n e f (-x) (-y) = dfE c n e f x y := by
 rcases dfE_neg (c := c) (n := n) (e := e) (f := f) x y with k | k
 ·exact k
 ·rw [k, ab_neg (y1a h)]
  rfl
end
theorem enc_half (P : Pt pN dK) : encK (z6 zB P z5n) = encK P := by
 unfold encK
 rw [y58, y83]
 exact dfE_half dfK P.x P.y
theorem enc_els {P Q : Pt pN dK} (h : Els2 P Q) : encK P = encK Q := by
 rcases h with rfl | rfl
 ·rfl
 ·exact (enc_half P).symm
theorem y6f (P Q : Pt pN dK) : encK (z6 zB P P) = encK (z6 zB Q Q) ↔ Els2 (z6 zB P P) (z6 zB Q Q) := by
 constructor
 ·intro e
  obtain ⟨ok1, h1⟩ := y0a P
  obtain ⟨ok2, h2⟩ := y0a Q
  have e2 : decK (encK (z6 zB P P)) ok1 = decK (encK (z6 zB Q Q)) ok2 := by
   revert ok1 ok2
   rw [e]
   intro _ _ _ _
   rfl
  rw [← e2] at h2
  exact h1.trans h2.symm
 ·exact enc_els
open Go.RowKit
theorem z7x (n : Int) {F G : Nat → Value} {P Q R : Pt pN dK} (w : World) (hT : Tp w) (h1 : DeK F P) (h2 : DeK G Q) (hR : (if n % 2 = 0 then P else Q) = R) :
  Calls Tryz.prog 25 #[.int .i64 n, DO F, DO G] w fun e w' => ∃ r, e = .returned (DO r) ∧ DeK r (R) ∧ Below w.heap.size w w' := by
 have V1 := za h1
 have V2 := za h2
 have HR := za hR
 clear h1 h2 hR
 have HT := za hT
 clear hT
 have H := za (Ow.start w)
 go_enter Tryz.func25, Tryz.ntmps25
 go_upto_region 1 with (first
  | ((fail_if_success have := g4); (with_reducible apply z0g H); (case hgd | ho | hx => exact rfl); clear H; intro w4 g4 H _ _; go_simp)
  | ((fail_if_success have := g5); (with_reducible apply z0g H); (case hgd | ho | hx => exact rfl); clear H; intro w5 g5 H _ _; go_simp)
  | ((fail_if_success have := g6); (with_reducible apply z0b zI H); (case hgd | ho => exact rfl); clear H; intro w6 g6 H _ _; go_simp))
 refine wp_region_noPanic ?_
 refine wp_region_held_drew (S := fun W => W.heap[g4]? = some (Cs 34 (AV 25 F)) ∧ W.heap[g5]? = some (Cs 34 (AV 25 G))) (by kernel_rfl) (⟨H.out.drew.row 2 rfl, H.out.drew.row 1 rfl⟩) (fun hH => ?_)
 replace H := za H.out.drew
 generalize World.drew _ = w8 at *
 refine zh 0 7 (.int .i64 n) hH ?_
 refine zE 1 8 rfl rfl rfl hH rfl rfl (fun _ h => h.1) ?_
 refine zE 3 10 rfl rfl rfl hH rfl rfl (fun _ h => h.2) ?_
 refine zn 2 rfl fun K hK => ?_
 go_simp
 refine (z1j _ (HT.out.below H.out.bel) V1.out).mono ?_
 rintro e wc ⟨r9, rfl, hv, hb⟩
 replace H := zd H hb
 have HV9 := za hv
 refine zc hK ⟨zb H 2, zb H 1⟩ fun hH => ?_
 try simp only [Act.put, qa, qb, qc]
 refine zn 4 rfl fun K hK => ?_
 go_simp
 refine (z1j _ (HT.out.below H.out.bel) V2.out).mono ?_
 rintro e wc ⟨r11, rfl, hv, hb⟩
 replace H := zd H hb
 have HV11 := za hv
 refine zc hK ⟨zb H 2, zb H 1⟩ fun hH => zn 5 rfl fun K hK => ?_
 go_simp
 refine (z6a n _ HV9.out HV11.out HR.out).mono ?_
 rintro e wc ⟨r12, rfl, hv, hb⟩
 replace H := zd H hb
 have HV12 := za hv
 refine zc hK ⟨zb H 2, zb H 1⟩ fun hH => zn 6 rfl fun K hK => ?_
 go_simp
 refine (z3i _ HV12.out).mono ?_
 rintro e wc ⟨r13, rfl, hv, hb⟩
 replace H := zd H hb
 have HV13 := za hv
 refine zc hK ⟨zb H 2, zb H 1⟩ fun hH => ?_
 try simp only [Act.put, qa, qb, qc]
 refine zn 7 rfl fun K hK => ?_
 with_reducible refine z4g rfl ?_
 with_reducible refine z2o (t := 34) (x := .tmp 6) (y := .tmp 13) (b := g6) (F := r13) (G := (ics (fun _ => 0) (.bool false))) 0 ?_ H.out ?_ ?_ ?_ ?_ HV13.out ?_
 ·rfl
 ·rfl
 ·rfl
 ·rfl
 ·exact z5
 intro ws HS
 simp only [qb] at HS
 replace H := za HS
 refine zc hK ⟨zb H 2, zb H 1⟩ fun hH => ?_
 try simp only [qa]
 try simp only [Act.put]
 refine zm ?_
 go_wp2_with fail
 exact bodyPost_ret (z0z 0 z2w (z26 _) rfl _ H rfl rfl) rfl ⟨_, rfl, HV13.out, H.out.bel⟩
theorem rp_negq {X1 Y1 Z1 : K} {P : Pt pN dK} (r1 : Rp X1 Y1 Z1 P) : Rp (-X1) Y1 Z1 (pneg P) := ⟨by have := r1.x; show -X1 = -P.x * Z1; grind, r1.y, r1.z⟩
theorem z58 {v1 : Nat → Int} {P1 : Pt pN dK} (w : World) (q1 : RfK v1 P1) :
  Calls Tryz.prog 29 #[QO v1] w fun e w' => ∃ r, e = .returned (QO r) ∧ RfK r (pneg P1) ∧ Below w.heap.size w w' := by
 obtain ⟨X1, Y1, Z1, rfl, r1⟩ := q1.is
 have R1 := za r1
 clear q1 r1
 have H := za (Ow.start w)
 go_enter Tryz.func29, Tryz.ntmps29
 go_wp2_with (first
  | ((fail_if_success have := g1); (with_reducible apply zw H); (case hgd | ho | hx => exact rfl); clear H; intro w1 g1 H _ _; go_simp)
  | ((with_reducible apply ze z0w H); (case hgd | ho => exact rfl); clear H; intro _ _ H _ _; go_simp))
 refine wp_region_noPanic ?_
 refine wp_region_held_drew (S := fun W => W.heap[g1]? = some (zv 38 .i64 48 ((t3 16 (dF (X1).val) (dF (Y1).val) (dF (Z1).val))))) (by kernel_rfl) (H.out.drew.row 1 rfl) (fun hH => ?_)
 replace H := za H.out.drew
 generalize World.drew _ = w8 at *
 refine zh 0 3 (.pointer (some ⟨g1, 0, none⟩)) hH ?_
 refine z0i 1 4 z4 rfl rfl rfl hH rfl rfl z6d (fun _ h => h) ?_
 refine zh 3 6 (.pointer (some ⟨g1, 16, none⟩)) hH ?_
 refine z0i 4 7 z4 rfl rfl rfl hH rfl rfl z6c (fun _ h => h) ?_
 refine zh 5 8 (.pointer (some ⟨g1, 32, none⟩)) hH ?_
 refine z0i 6 9 z4 rfl rfl rfl hH rfl rfl y1p (fun _ h => h) ?_
 refine zn 2 rfl fun K hK => ?_
 go_simp
 refine (z7e _ _).mono ?_
 rintro e wc ⟨rfl, hb⟩
 replace H := zd H hb
 refine zc hK (zb H 1) fun hH => ?_
 refine z94 7 10 rfl rfl rfl hH rfl rfl rfl rfl ?_
 try simp only [Act.put, qa, qb, qc]
 refine zn 8 rfl fun K hK => ?_
 refine zl 0 zD H.out rfl rfl rfl rfl ?_
 intro ws HS
 simp only [qb] at HS
 replace H := za HS
 refine zc hK (zb H 1) fun hH => ?_
 try simp only [Act.put, qa]
 refine zm ?_
 go_wp2_with fail
 exact bodyPost_ret (zy 0 zD rfl _ H rfl rfl) rfl ⟨_, rfl, ⟨_, _, _, rfl, rp_negq R1.out⟩, H.out.bel⟩
theorem refEq14_k {v u : Nat → Int} {P Q : Pt pN dK} {b : Bool} (w : World) (hp : RfK v P) (hq : RfK u Q) (h : decide (P.x * Q.y = P.y * Q.x) = b) :
  Calls Tryz.prog 24 #[QO v, QO u] w fun e w' => e = .returned (.bool b) ∧ Below w.heap.size w w' := by
 have W1 := za hp
 have W2 := za hq
 have HB := za h
 clear hp hq h
 have H := za (Ow.start w)
 go_enter Tryz.func24, Tryz.ntmps24
 go_upto_region 3 with (first
  | ((with_reducible apply zw H); (case hgd | ho | hx => exact rfl); clear H; intro _ _ H _ _; go_simp)
  | ((with_reducible apply zr zD H); (case hgd | ho | hx => exact rfl); (case hi => repeat first|exact z5|apply z8); intro _ _; go_simp)
  | ((fail_if_success have := mk1); (with_reducible refine (z0k _ W1.out).mono ?_); rintro e wc ⟨rfl, hb⟩; replace H := zd H hb; clear hb; have mk1 := trivial)
  | ((fail_if_success have := mk2); (with_reducible refine (z0k _ W2.out).mono ?_); rintro e wc ⟨rfl, hb⟩; replace H := zd H hb; clear hb; have mk2 := trivial)
  | ((fail_if_success have := g5); (with_reducible apply ze zA.zero H); (case hgd | ho => exact rfl); clear H; intro w5 g5 H _ _; go_simp)
  | ((fail_if_success have := g6); (with_reducible apply ze zA.zero H); (case hgd | ho => exact rfl); clear H; intro w6 g6 H _ _; go_simp)
  | ((fail_if_success have := g7); (with_reducible apply ze zA.zero H); (case hgd | ho => exact rfl); clear H; intro w7 g7 H _ _; go_simp)
  | ((fail_if_success have := g8); (with_reducible apply ze zA.zero H); (case hgd | ho => exact rfl); clear H; intro w8 g8 H _ _; go_simp)
  | ((with_reducible apply zj z4 H); (case hgd | ho | hx | hy => exact rfl); (case hi => repeat first|exact z5|apply z8); clear H; intro ws H _ _; simp only [qb, qc] at H; go_simp))
 clear mk1 mk2
 refine wp_region_noPanic ?_
 refine wp_region_held_drew (S := fun W => W.heap[g5]? = some (zv 36 .i64 16 (dF (P.x).val)) ∧ W.heap[g8]? = some (zv 36 .i64 16 (dF (Q.y).val)) ∧ W.heap[g6]? = some (zv 36 .i64 16 (dF (P.y).val)) ∧ W.heap[g7]? = some (zv 36 .i64 16 (dF (Q.x).val))) (by kernel_rfl) (⟨H.out.drew.row 3 rfl, H.out.drew.row 0 rfl, H.out.drew.row 2 rfl, H.out.drew.row 1 rfl⟩) (fun hH => ?_)
 replace H := za H.out.drew
 generalize World.drew _ = w8 at *
 refine zk 0 19 z4 rfl rfl rfl hH rfl rfl (fun _ h => h.1) ?_
 refine zk 1 20 z4 rfl rfl rfl hH rfl rfl (fun _ h => h.2.1) ?_
 refine zk 3 22 z4 rfl rfl rfl hH rfl rfl (fun _ h => h.2.2.1) ?_
 try simp only [Act.put, qa, qb, qc]
 refine zk 4 23 z4 rfl rfl rfl hH rfl rfl (fun _ h => h.2.2.2) ?_
 refine zn 2 rfl fun K hK => ?_
 go_simp
 refine (z0d _ _ _).mono ?_
 rintro e wc ⟨rfl, hb⟩
 replace H := zd H hb
 refine zc hK ⟨zb H 3, zb H 0, zb H 2, zb H 1⟩ fun hH => zn 5 rfl fun K hK => ?_
 go_simp
 refine (z0d _ _ _).mono ?_
 rintro e wc ⟨rfl, hb⟩
 replace H := zd H hb
 refine zc hK ⟨zb H 3, zb H 0, zb H 2, zb H 1⟩ fun hH => ?_
 try simp only [Act.put, qa, qb, qc]
 refine zn 6 rfl fun K hK => ?_
 go_simp
 refine (z9r _ _ _ HB.out).mono ?_
 rintro e wc ⟨rfl, hb⟩
 replace H := zd H hb
 refine zc hK ⟨zb H 3, zb H 0, zb H 2, zb H 1⟩ fun hH => ?_
 refine zh 7 4 (.bool b) hH ?_
 refine zm ?_
 go_wp2_with fail
 go_ret
 exact ⟨rfl, H.out.bel⟩
end Go.Proofs.YtgjbonikbmgfmaaGreatDoor
