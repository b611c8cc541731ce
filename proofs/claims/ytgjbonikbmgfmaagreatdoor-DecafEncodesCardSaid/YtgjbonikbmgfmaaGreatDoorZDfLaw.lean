/- Lemmas; no statement is proved here. -/
import Derived.Test.YtgjbonikbmgfmaaGreatDoorZDfGo6
import Derived.Test.YtgjbonikbmgfmaaGreatDoorQP
set_option maxRecDepth 8000
set_option maxHeartbeats 3200000
namespace Go.Proofs.YtgjbonikbmgfmaaGreatDoor
open Go.RowKit
theorem z5h {a a' : Option Addr} {n c c' x y : Nat} {b : Bool} (h : decide (x = y) = b) (w : World) (h1 : Sb w w.heap.size a n c x) (h2 : Sb w w.heap.size a' n c' y) (hn : n ≤ 100000 := by omega) :
  Calls Tryz.prog 16 #[.slice a n c, .slice a' n c'] w fun e w' => e = .returned (.bool b) ∧ Below w.heap.size w w' := h ▸ cmp_same11 a a' n c c' x y w hn h1 h2
theorem z23 {a : Option Addr} {n c x : Nat} {z : Int} {b : Bool} (hb : okS n z = b) (w : World) (hT : Tp w) (hs : Sb w w.heap.size a n c x) :
  Calls Tryz.prog 11 #[.agg #[.slice a n c, .int .i64 z]] w fun e w' => ∃ F r P, e = .returned (.tuple #[DO F, QO r, .bool b]) ∧ DeK F (z6 zB P P) ∧ RfK r (z6 zB P P) ∧ (b = true → P = spot x z.toNat) ∧ Below w.heap.size w w' := by
 have OK1 := za hb
 have HS1 := za hs
 clear hb hs
 have HT := za hT
 clear hT
 cases b with
 | false =>
  have H := za (Ow.start w)
  go_enter Tryz.func11, Tryz.ntmps11
  go_wp2_with (first
   | ((with_reducible apply z0g H); (case hgd | ho | hx => exact rfl); clear H; intro _ _ H _ _; go_simp)
   | ((fail_if_success have := g2); (with_reducible apply z0b zI H); (case hgd | ho => exact rfl); clear H; intro w2 g2 H _ _; go_simp)
   | ((fail_if_success have := g3); (with_reducible apply ze z0w H); (case hgd | ho => exact rfl); clear H; intro w3 g3 H _ _; go_simp)
   | ((with_reducible apply z0t z35 ?hC H); (case hgd | ho | hx => exact rfl); (case hi => repeat first|exact z5|apply z8); (case hC => exact rfl); intro _ _; go_simp)
   | ((fail_if_success have := mk1); (with_reducible refine (z12 OK1.out _ (HT.out.below H.out.bel) ((HS1.out.below H.out.bel).more H.out.bel.size)).mono ?_); rintro e wc ⟨v1, r1, P1, rfl, hv, hw, hp, hb⟩; replace H := zd H hb; have V1 := za hv; have W1 := za hw; have S1 := za hp; have mk1 := trivial; clear hb hv hw hp)
   | ((fail_if_success have := g5); (with_reducible apply ze z1d H); (case hgd | ho => exact rfl); clear H; intro w5 g5 H _ _; go_simp)
   | ((fail_if_success have := g6); (with_reducible apply ze z0w H); (case hgd | ho => exact rfl); clear H; intro w6 g6 H _ _; go_simp)
   | ((with_reducible apply zj zH H); (case hgd | ho | hx | hy => exact rfl); (case hi => repeat first|exact z5|apply z8); clear H; intro ws H _ _; simp only [qb, qc] at H; go_simp)
   | ((with_reducible apply zj zD H); (case hgd | ho | hx | hy => exact rfl); (case hi => repeat first|exact z5|apply z8); clear H; intro ws H _ _; simp only [qb, qc] at H; go_simp)
   | ((fail_if_success have := V2); (with_reducible refine (z4l _).mono ?_); rintro e wc ⟨kV2, rfl, hv, hb⟩; replace H := zd H hb; clear hb; have V2 := za hv; clear hv)
   | ((fail_if_success have := W2); (with_reducible refine (z1e _).mono ?_); rintro e wc ⟨r2, rfl, hv, hb⟩; replace H := zd H hb; clear hb; have W2 := za hv; clear hv)
   | ((with_reducible apply z0a H); (case hgd | ho | hx | hy => exact rfl); (case hi => repeat first|exact z5|apply z8); (case h1 => exact V2.out); clear H; intro ws H _ _; simp only [qb, qc] at H; go_simp))
  have EZ : (z0v : Pt pN dK) = z6 zB z0v z0v := (z0n zB _).symm
  exact bodyPost_ret (z6s 3 2 z2w zD (z26 _) rfl _ H rfl rfl rfl rfl rfl) rfl ⟨_, _, z0v, rfl, V2.out.eq EZ, W2.out.eq EZ, (fun e => by cases e), H.out.bel⟩
 | true =>
  have H := za (Ow.start w)
  go_enter Tryz.func11, Tryz.ntmps11
  go_upto_region 4 with (first
   | ((with_reducible apply z0g H); (case hgd | ho | hx => exact rfl); clear H; intro _ _ H _ _; go_simp)
   | ((fail_if_success have := g2); (with_reducible apply z0b zI H); (case hgd | ho => exact rfl); clear H; intro w2 g2 H _ _; go_simp)
   | ((fail_if_success have := g3); (with_reducible apply ze z0w H); (case hgd | ho => exact rfl); clear H; intro w3 g3 H _ _; go_simp)
   | ((with_reducible apply z0t z35 ?hC H); (case hgd | ho | hx => exact rfl); (case hi => repeat first|exact z5|apply z8); (case hC => exact rfl); intro _ _; go_simp)
   | ((fail_if_success have := mk1); (with_reducible refine (z12 OK1.out _ (HT.out.below H.out.bel) ((HS1.out.below H.out.bel).more H.out.bel.size)).mono ?_); rintro e wc ⟨v1, r1, P1, rfl, hv, hw, hp, hb⟩; replace H := zd H hb; have V1 := za hv; have W1 := za hw; have S1 := za hp; have mk1 := trivial; clear hb hv hw hp)
   | ((fail_if_success have := g5); (with_reducible apply ze z1d H); (case hgd | ho => exact rfl); clear H; intro w5 g5 H _ _; go_simp)
   | ((fail_if_success have := g6); (with_reducible apply ze z0w H); (case hgd | ho => exact rfl); clear H; intro w6 g6 H _ _; go_simp)
   | ((with_reducible apply zj zH H); (case hgd | ho | hx | hy => exact rfl); (case hi => repeat first|exact z5|apply z8); clear H; intro ws H _ _; simp only [qb, qc] at H; go_simp)
   | ((with_reducible apply zj zD H); (case hgd | ho | hx | hy => exact rfl); (case hi => repeat first|exact z5|apply z8); clear H; intro ws H _ _; simp only [qb] at H; go_simp))
  clear mk1
  refine wp_region_noPanic ?_
  refine wp_region_held_drew (S := fun W => W.heap[g5]? = some (zv 32 .u64 24 (v1)) ∧ W.heap[g6]? = some (zv 38 .i64 48 (r1))) (by kernel_rfl) (⟨H.out.drew.row 1 rfl, H.out.drew.row 0 rfl⟩) (fun hH => ?_)
  replace H := za H.out.drew
  generalize World.drew _ = w8 at *
  refine zk 0 18 zH rfl rfl rfl hH rfl rfl (fun _ h => h.1) ?_
  refine zk 2 20 zD rfl rfl rfl hH rfl rfl (fun _ h => h.2) ?_
  refine zk 3 21 zD rfl rfl rfl hH rfl rfl (fun _ h => h.2) ?_
  try simp only [Act.put, qa, qb, qc]
  refine zn 1 rfl fun K hK => ?_
  go_simp
  refine (z6u _ (HT.out.below H.out.bel) V1.out).mono ?_
  rintro e wc ⟨r19, rfl, hv, hb⟩
  replace H := zd H hb
  have HV19 := za hv
  refine zc hK ⟨zb H 1, zb H 0⟩ fun hH => zn 4 rfl fun K hK => ?_
  go_simp
  refine (z1b _ W1.out W1.out).mono ?_
  rintro e wc ⟨r22, rfl, hv, hb⟩
  replace H := zd H hb
  have HV22 := za hv
  refine zc hK ⟨zb H 1, zb H 0⟩ fun hH => zn 5 rfl fun K hK => ?_
  with_reducible refine z4g rfl ?_
  with_reducible refine z2o (t := 34) (x := .tmp 2) (y := .tmp 19) (b := g2) (F := r19) (G := (ics (fun _ => 0) (.bool false))) 3 ?_ H.out ?_ ?_ ?_ ?_ HV19.out ?_
  ·rfl
  ·rfl
  ·rfl
  ·rfl
  ·exact at3
  intro ws HS
  simp only [qb, qc] at HS
  replace H := za HS
  refine zc hK ⟨zb H 1, zb H 0⟩ fun hH => ?_
  try simp only [qa]
  refine zn 6 rfl fun K hK => ?_
  refine zu 2 rfl zD H.out rfl rfl rfl rfl ?_
  intro ws HS
  simp only [qb, qc] at HS
  replace H := za HS
  refine zc hK ⟨zb H 1, zb H 0⟩ fun hH => ?_
  try simp only [qa]
  refine zh 7 4 (.bool true) hH ?_
  refine zm ?_
  go_wp2_with fail
  exact bodyPost_ret (z6s 3 2 z2w zD (z26 _) rfl _ H rfl rfl rfl rfl rfl) rfl ⟨_, _, P1, rfl, HV19.out, HV22.out, S1.out, H.out.bel⟩
def PairP (x1 x2 : Nat) (z1 z2 : Int) (w : World) (o1 o2 : Bool) (e : Ending) (w' : World) : Prop := ∃ F G r s P Q, e = .returned (.tuple #[DO F, DO G, QO r, QO s, .bool (o1 && o2)]) ∧ DeK F (z6 zB P P) ∧ DeK G (z6 zB Q Q) ∧ RfK r (z6 zB P P) ∧ RfK s (z6 zB Q Q) ∧ (o1 = true → P = spot x1 z1.toNat) ∧ (o2 = true → Q = spot x2 z2.toNat) ∧ Below w.heap.size w w'
theorem z2h {a1 a2 : Option Addr} {n1 c1 x1 n2 c2 x2 : Nat} {z1 z2 : Int} {o1 o2 b : Bool} (hb : (o1 && o2) = b) (ok1 : okS n1 z1 = o1) (ok2 : okS n2 z2 = o2) (w : World) (hT : Tp w) (hs1 : Sb w w.heap.size a1 n1 c1 x1) (hs2 : Sb w w.heap.size a2 n2 c2 x2) :
  Calls Tryz.prog 23 #[.agg #[.slice a1 n1 c1, .int .i64 z1, .slice a2 n2 c2, .int .i64 z2]] w fun e w' => ∃ F G r s P Q, e = .returned (.tuple #[DO F, DO G, QO r, QO s, .bool b]) ∧ DeK F (z6 zB P P) ∧ DeK G (z6 zB Q Q) ∧ RfK r (z6 zB P P) ∧ RfK s (z6 zB Q Q) ∧ (o1 = true → P = spot x1 z1.toNat) ∧ (o2 = true → Q = spot x2 z2.toNat) ∧ Below w.heap.size w w' := by
 subst hb
 refine Calls.mono (R := fun e w' => PairP x1 x2 z1 z2 w o1 o2 e w') ?_ (fun _ _ h => h)
 have HS1 := za hs1
 have HS2 := za hs2
 have OK1 := za ok1
 have OK2 := za ok2
 clear hs1 hs2 ok1 ok2
 have HT := za hT
 clear hT
 have H := za (Ow.start w)
 go_enter Tryz.func23, Tryz.ntmps23
 go_upto_region 3 with (first
  | ((with_reducible apply z0g H); (case hgd | ho | hx => exact rfl); clear H; intro _ _ H _ _; go_simp)
  | ((fail_if_success have := g2); (with_reducible apply z0b zI H); (case hgd | ho => exact rfl); clear H; intro w2 g2 H _ _; go_simp)
  | ((fail_if_success have := g3); (with_reducible apply z0b zI H); (case hgd | ho => exact rfl); clear H; intro w3 g3 H _ _; go_simp)
  | ((fail_if_success have := g4); (with_reducible apply ze z0w H); (case hgd | ho => exact rfl); clear H; intro w4 g4 H _ _; go_simp)
  | ((fail_if_success have := g5); (with_reducible apply ze z0w H); (case hgd | ho => exact rfl); clear H; intro w5 g5 H _ _; go_simp)
  | ((with_reducible apply z6f z35 H); (case hgd | ho | hx => exact rfl); (case hi => repeat first|exact z5|apply z8); (case h0 | h1 => exact rfl); intro _ _; go_simp)
  | ((fail_if_success have := mk1); (with_reducible refine (z23 OK1.out _ (HT.out.below H.out.bel) ((HS1.out.below H.out.bel).more H.out.bel.size)).mono ?_); rintro e wc ⟨F1, r1, P1, rfl, hv, hw, hp, hb⟩; replace H := zd H hb; have V1 := za hv; have W1 := za hw; have S1 := za hp; have mk1 := trivial; clear hb hv hw hp)
  | ((fail_if_success have := mk2); (with_reducible refine (z23 OK2.out _ (HT.out.below H.out.bel) ((HS2.out.below H.out.bel).more H.out.bel.size)).mono ?_); rintro e wc ⟨F2, r2, P2, rfl, hv, hw, hp, hb⟩; replace H := zd H hb; have V2 := za hv; have W2 := za hw; have S2 := za hp; have mk2 := trivial; clear hb hv hw hp)
  | ((fail_if_success have := ms1); (with_reducible apply z0a H); (case hgd | ho | hx | hy => exact rfl); (case hi => repeat first|exact z5|apply z8); (case h1 => exact V1.out); clear H; intro ws H _ _; simp only [qb, qc] at H; go_simp; have ms1 := trivial)
  | ((with_reducible apply z0a H); (case hgd | ho | hx | hy => exact rfl); (case hi => repeat first|exact z5|apply z8); (case h1 => exact V2.out); clear H; intro ws H _ _; simp only [qb, qc] at H; go_simp)
  | ((with_reducible apply zj zD H); (case hgd | ho | hx | hy => exact rfl); (case hi => repeat first|exact z5|apply z8); clear H; intro ws H _ _; simp only [qb, qc] at H; go_simp))
 clear mk1 mk2 ms1
 cases o1 with
 | true =>
  clear OK1 OK2
  refine wp_region_noPanic ?_
  refine wp_region_held_drew (S := fun W => W.heap[g2]? = some (Cs 34 (AV 25 F1)) ∧ W.heap[g3]? = some (Cs 34 (AV 25 F2)) ∧ W.heap[g4]? = some (zv 38 .i64 48 (r1)) ∧ W.heap[g5]? = some (zv 38 .i64 48 (r2))) (by kernel_rfl) (⟨H.out.drew.row 3 rfl, H.out.drew.row 2 rfl, H.out.drew.row 1 rfl, H.out.drew.row 0 rfl⟩) (fun hH => ?_)
  replace H := za H.out.drew
  generalize World.drew _ = w8 at *
  refine zE 0 23 rfl rfl rfl hH rfl rfl (fun _ h => h.1) ?_
  refine zE 1 24 rfl rfl rfl hH rfl rfl (fun _ h => h.2.1) ?_
  refine zk 2 25 zD rfl rfl rfl hH rfl rfl (fun _ h => h.2.2.1) ?_
  try simp only [Act.put, qa, qb, qc]
  refine zk 3 26 zD rfl rfl rfl hH rfl rfl (fun _ h => h.2.2.2) ?_
  refine zh 4 27 (.bool true) hH ?_
  refine zh 5 28 (.bool true) hH ?_
  refine zh 6 29 (.bool o2) hH ?_
  refine zh 7 30 (.bool o2) hH ?_
  refine z1u 1 [8] _ rfl (by decide) (by decide +kernel) (z4h (by kernel_rfl)) (fun j hj => ?_) _ hH ?_
  ·obtain rfl : j = 8 := by simpa using hj
   ·exact z9e 8 rfl rfl rfl rfl rfl rfl (fun _ h => h.1) V1.out
  simp only [List.foldl_cons, List.foldl_nil]
  refine z1u 1 [9] _ rfl (by decide) (by decide +kernel) (z4h (by kernel_rfl)) (fun j hj => ?_) _ hH ?_
  ·obtain rfl : j = 9 := by simpa using hj
   ·exact z9e 9 rfl rfl rfl rfl rfl rfl (fun _ h => h.2.1) V2.out
  simp only [List.foldl_cons, List.foldl_nil]
  refine z1u 1 [10] _ rfl (by decide) (by decide +kernel) (z4h (by kernel_rfl)) (fun j hj => ?_) _ hH ?_
  ·obtain rfl : j = 10 := by simpa using hj
   ·exact z9d 10 zD rfl rfl rfl rfl rfl rfl (fun _ h => h.2.2.1)
  simp only [List.foldl_cons, List.foldl_nil]
  refine z1u 1 [11] _ rfl (by decide) (by decide +kernel) (z4h (by kernel_rfl)) (fun j hj => ?_) _ hH ?_
  ·obtain rfl : j = 11 := by simpa using hj
   ·exact z9d 11 zD rfl rfl rfl rfl rfl rfl (fun _ h => h.2.2.2)
  simp only [List.foldl_cons, List.foldl_nil]
  refine zh 12 6 (.bool o2) hH ?_
  refine zm ?_
  go_wp2_with fail
  exact bodyPost_ret (z5k 3 2 1 0 z2w zD (z26 _) (z26 _) rfl _ H rfl rfl rfl rfl rfl rfl rfl rfl rfl) rfl (by unfold PairP; exact ⟨_, _, _, _, _, _, rfl, V1.out, V2.out, W1.out, W2.out, (fun _ => S1.out trivial), S2.out, H.out.bel⟩)
 | false =>
  clear OK1 OK2
  refine wp_region_noPanic ?_
  refine wp_region_held_drew (S := fun W => W.heap[g2]? = some (Cs 34 (AV 25 F1)) ∧ W.heap[g3]? = some (Cs 34 (AV 25 F2)) ∧ W.heap[g4]? = some (zv 38 .i64 48 (r1)) ∧ W.heap[g5]? = some (zv 38 .i64 48 (r2))) (by kernel_rfl) (⟨H.out.drew.row 3 rfl, H.out.drew.row 2 rfl, H.out.drew.row 1 rfl, H.out.drew.row 0 rfl⟩) (fun hH => ?_)
  replace H := za H.out.drew
  generalize World.drew _ = w8 at *
  refine zE 0 23 rfl rfl rfl hH rfl rfl (fun _ h => h.1) ?_
  refine zE 1 24 rfl rfl rfl hH rfl rfl (fun _ h => h.2.1) ?_
  refine zk 2 25 zD rfl rfl rfl hH rfl rfl (fun _ h => h.2.2.1) ?_
  try simp only [Act.put, qa, qb, qc]
  refine zk 3 26 zD rfl rfl rfl hH rfl rfl (fun _ h => h.2.2.2) ?_
  refine zh 4 27 (.bool false) hH ?_
  refine zh 5 28 (.bool false) hH ?_
  refine z2c 6 29 rfl rfl rfl hH ?_
  refine zh 7 30 (.bool false) hH ?_
  refine z1u 1 [8] _ rfl (by decide) (by decide +kernel) (z4h (by kernel_rfl)) (fun j hj => ?_) _ hH ?_
  ·obtain rfl : j = 8 := by simpa using hj
   ·exact z9e 8 rfl rfl rfl rfl rfl rfl (fun _ h => h.1) V1.out
  simp only [List.foldl_cons, List.foldl_nil]
  refine z1u 1 [9] _ rfl (by decide) (by decide +kernel) (z4h (by kernel_rfl)) (fun j hj => ?_) _ hH ?_
  ·obtain rfl : j = 9 := by simpa using hj
   ·exact z9e 9 rfl rfl rfl rfl rfl rfl (fun _ h => h.2.1) V2.out
  simp only [List.foldl_cons, List.foldl_nil]
  refine z1u 1 [10] _ rfl (by decide) (by decide +kernel) (z4h (by kernel_rfl)) (fun j hj => ?_) _ hH ?_
  ·obtain rfl : j = 10 := by simpa using hj
   ·exact z9d 10 zD rfl rfl rfl rfl rfl rfl (fun _ h => h.2.2.1)
  simp only [List.foldl_cons, List.foldl_nil]
  refine z1u 1 [11] _ rfl (by decide) (by decide +kernel) (z4h (by kernel_rfl)) (fun j hj => ?_) _ hH ?_
  ·obtain rfl : j = 11 := by simpa using hj
   ·exact z9d 11 zD rfl rfl rfl rfl rfl rfl (fun _ h => h.2.2.2)
  simp only [List.foldl_cons, List.foldl_nil]
  refine zh 12 6 (.bool false) hH ?_
  refine zm ?_
  go_wp2_with fail
  exact bodyPost_ret (z5k 3 2 1 0 z2w zD (z26 _) (z26 _) rfl _ H rfl rfl rfl rfl rfl rfl rfl rfl rfl) rfl (by unfold PairP; exact ⟨_, _, _, _, _, _, rfl, V1.out, V2.out, W1.out, W2.out, (fun h => by cases h), S2.out, H.out.bel⟩)
end Go.Proofs.YtgjbonikbmgfmaaGreatDoor
