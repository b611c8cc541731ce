/- Lemmas; no statement is proved here. -/
import Derived.Test.YtgjbonikbmgfmaaGreatDoorQDZPtOf
import Derived.Test.YtgjbonikbmgfmaaGreatDoorQA
set_option maxRecDepth 8000
set_option maxHeartbeats 3200000
namespace Go.Proofs.YtgjbonikbmgfmaaGreatDoor
open Go.RowKit
theorem y2o {f g : Nat → Nat} {X Y : K} (w : World) (hT : Tp w) (hf : EK f X) (hg : EK g Y) :
  Calls Tryz.prog 60 #[EV f, EV g] w fun e w' => ∃ r z, e = .returned (.tuple #[PO r, .int .i64 z]) ∧ Below w.heap.size w w' := by
 by_cases h : X * X + Y * Y = 1 + dK * (X * X * (Y * Y))
 ·exact (y32 w hT hf hg h).mono fun _ _ ⟨r, he, _, hb⟩ => ⟨r, 0, he, hb⟩
 ·exact (ptOf_off w hT hf hg h).mono fun _ _ ⟨he, hb⟩ => ⟨_, 13, he, hb⟩
theorem fdec_far {a : Option Addr} {c x : Nat} (w : World) (hs : Sb w w.heap.size a 56 c x) (h : pN ≤ x) :
  Calls Tryz.prog 58 #[.slice a 56 c] w fun e w' => e = .returned (.tuple #[EV fun _ => 0, .int .i64 12]) ∧ Below w.heap.size w w' :=
 y1b a c (bt x) w hs.sl (by rw [y2y, Nat.mod_eq_of_lt hs.fits]; exact h)
theorem dec14_size {a : Option Addr} {n c : Nat} (w : World) (hn : n ≠ 56) :
  Calls Tryz.prog 13 #[.slice a n c] w fun e w' => ∃ r, e = .returned (.tuple #[DO r, .int .i64 11]) ∧ DeK r (z0v) ∧ Below w.heap.size w w' := by
 have V2 := za (DeK.none fun _ => 0)
 have HN := za hn
 clear hn
 have H := za (Ow.start w)
 go_enter Tryz.func13, Tryz.ntmps13
 go_wp2_with (first
  | ((with_reducible apply z0b zI H); (case hgd | ho => exact rfl); clear H; intro _ _ H _ _; go_simp)
  | ((fail_if_success have := mkd); (with_reducible refine (decode_bad _ _ _ _ HN.out).mono ?_); rintro e wc ⟨rfl, hb⟩; replace H := zd H hb; clear hb; have mkd := trivial)
  | ((with_reducible apply ze z9 H); (case hgd | ho => exact rfl); clear H; intro _ _ H _ _; go_simp)
  | ((with_reducible apply zj zt H); (case hgd | ho | hx | hy => exact rfl); (case hi => repeat first|exact z5|apply z8); clear H; intro ws H _ _; simp only [qb] at H; go_simp)
  | ((with_reducible apply z2j); (case hgd | ho => exact rfl); intro _ _; go_simp)
  | ((with_reducible apply z0a H); (case hgd | ho | hx | hy => exact rfl); (case hi => repeat first|exact z5|apply z8); (case h1 => exact (DeK.none fun _ => 0)); clear H; intro ws H _ _; simp only [qb, qc] at H; go_simp))
 exact bodyPost_ret (z1x 1 z2w (z26 _) rfl _ H rfl rfl rfl) rfl ⟨_, rfl, V2.out, H.out.bel⟩
theorem dec14_far {a : Option Addr} {c x : Nat} (w : World) (hs : Sb w w.heap.size a 56 c x) (h : pN ≤ x) :
  Calls Tryz.prog 13 #[.slice a 56 c] w fun e w' => ∃ r, e = .returned (.tuple #[DO r, .int .i64 12]) ∧ DeK r (z0v) ∧ Below w.heap.size w w' := by
 have V2 := za (DeK.none fun _ => 0)
 have HS := za hs
 have HN := za h
 clear hs h
 have H := za (Ow.start w)
 go_enter Tryz.func13, Tryz.ntmps13
 go_wp2_with (first
  | ((with_reducible apply z0b zI H); (case hgd | ho => exact rfl); clear H; intro _ _ H _ _; go_simp)
  | ((fail_if_success have := mkd); (with_reducible refine (fdec_far _ ((HS.out.below H.out.bel).more H.out.bel.size) HN.out).mono ?_); rintro e wc ⟨rfl, hb⟩; replace H := zd H hb; clear hb; have mkd := trivial)
  | ((with_reducible apply ze z9 H); (case hgd | ho => exact rfl); clear H; intro _ _ H _ _; go_simp)
  | ((with_reducible apply zj zt H); (case hgd | ho | hx | hy => exact rfl); (case hi => repeat first|exact z5|apply z8); clear H; intro ws H _ _; simp only [qb] at H; go_simp)
  | ((with_reducible apply z2j); (case hgd | ho => exact rfl); intro _ _; go_simp)
  | ((with_reducible apply z0a H); (case hgd | ho | hx | hy => exact rfl); (case hi => repeat first|exact z5|apply z8); (case h1 => exact (DeK.none fun _ => 0)); clear H; intro ws H _ _; simp only [qb, qc] at H; go_simp))
 exact bodyPost_ret (z1x 1 z2w (z26 _) rfl _ H rfl rfl rfl) rfl ⟨_, rfl, V2.out, H.out.bel⟩
theorem dec14_odd {a : Option Addr} {c x : Nat} (w : World) (hT : Tp w) (hs : Sb w w.heap.size a 56 c x) (h : x < pN) (ho : (cN pN x).val % 2 = 1) :
  Calls Tryz.prog 13 #[.slice a 56 c] w fun e w' => ∃ r, e = .returned (.tuple #[DO r, .int .i64 12]) ∧ DeK r (z0v) ∧ Below w.heap.size w w' := by
 obtain ⟨b, hb0⟩ : ∃ b : Bool, b = true ↔ dfOk eC dK (cN pN x) := by
  by_cases ok : dfOk eC dK (cN pN x)
  ·exact ⟨true, fun _ => ok, fun _ => rfl⟩
  ·exact ⟨false, (fun e => by cases e), fun e => absurd e ok⟩
 have HOK := za hb0
 have HO := za (decide_eq_true ho)
 clear hb0 ho
 have VN := za (DeK.none fun _ => 0)
 have HS := za hs
 have HN := za h
 clear hs h
 have HT := za hT
 clear hT
 have H := za (Ow.start w)
 go_enter Tryz.func13, Tryz.ntmps13
 go_wp2_with (first
  | ((with_reducible apply z0b zI H); (case hgd | ho => exact rfl); clear H; intro _ _ H _ _; go_simp)
  | ((fail_if_success have := V1); (with_reducible refine (z97 _ ((HS.out.below H.out.bel).more H.out.bel.size) HN.out).mono ?_); rintro e wc ⟨h1, rfl, hv, hb⟩; replace H := zd H hb; clear hb; have V1 := za hv; clear hv)
  | ((with_reducible apply ze z9 H); (case hgd | ho => exact rfl); clear H; intro _ _ H _ _; go_simp)
  | ((with_reducible apply zj zt H); (case hgd | ho | hx | hy => exact rfl); (case hi => repeat first|exact z5|apply z8); clear H; intro ws H _ _; simp only [qb, qc] at H; go_simp)
  | ((with_reducible apply zr zt H); (case hgd | ho | hx => exact rfl); (case hi => repeat first|exact z5|apply z8); intro _ _; go_simp)
  | ((fail_if_success have := VX); (with_reducible refine (y4i _ (HT.out.below H.out.bel) V1.out HOK.out).mono ?_); rintro e wc ⟨hx, hy, rfl, hv, hu, hb⟩; replace H := zd H hb; clear hb; have VX := za hv; have VY := za hu; clear hv hu)
  | ((fail_if_success have := mkq); (with_reducible refine (y2o _ (HT.out.below H.out.bel) VX.out VY.out).mono ?_); rintro e wc ⟨rq, zq, rfl, hb⟩; replace H := zd H hb; clear hb; have mkq := trivial)
  | ((with_reducible apply ze z1d H); (case hgd | ho => exact rfl); clear H; intro _ _ H _ _; go_simp)
  | ((with_reducible apply zj zH H); (case hgd | ho | hx | hy => exact rfl); (case hi => repeat first|exact z5|apply z8); clear H; intro ws H _ _; simp only [qb] at H; go_simp)
  | ((fail_if_success have := mkn); (with_reducible refine (y89 _ V1.out HO.out).mono ?_); rintro e wc ⟨rfl, hb⟩; replace H := zd H hb; clear hb; have mkn := trivial)
  | ((with_reducible refine z1y ?hw ?h); (case hw => exact rfl); intro _ _; go_simp)
  | ((with_reducible apply z2j); (case hgd | ho => exact rfl); intro _ _; go_simp)
  | ((with_reducible apply z0a H); (case hgd | ho | hx | hy => exact rfl); (case hi => repeat first|exact z5|apply z8); (case h1 => exact (DeK.none fun _ => 0)); clear H; intro ws H _ _; simp only [qb, qc] at H; go_simp))
 exact bodyPost_ret (z1x 4 z2w (z26 _) rfl _ H rfl rfl rfl) rfl ⟨_, rfl, VN.out, H.out.bel⟩
theorem dec14_no {a : Option Addr} {c x : Nat} (w : World) (hT : Tp w) (hs : Sb w w.heap.size a 56 c x) (h : x < pN) (ho : (cN pN x).val % 2 ≠ 1) (ok : ¬ dfOk eC dK (cN pN x)) :
  Calls Tryz.prog 13 #[.slice a 56 c] w fun e w' => ∃ r, e = .returned (.tuple #[DO r, .int .i64 12]) ∧ DeK r (z0v) ∧ Below w.heap.size w w' := by
 have HOK : Hid (false = true ↔ dfOk eC dK (cN pN x)) := za ⟨(fun e => by cases e), fun e => absurd e ok⟩
 have HO := za (decide_eq_false ho)
 clear ho ok
 have VN := za (DeK.none fun _ => 0)
 have HS := za hs
 have HN := za h
 clear hs h
 have HT := za hT
 clear hT
 have H := za (Ow.start w)
 go_enter Tryz.func13, Tryz.ntmps13
 go_wp2_with (first
  | ((with_reducible apply z0b zI H); (case hgd | ho => exact rfl); clear H; intro _ _ H _ _; go_simp)
  | ((fail_if_success have := V1); (with_reducible refine (z97 _ ((HS.out.below H.out.bel).more H.out.bel.size) HN.out).mono ?_); rintro e wc ⟨h1, rfl, hv, hb⟩; replace H := zd H hb; clear hb; have V1 := za hv; clear hv)
  | ((with_reducible apply ze z9 H); (case hgd | ho => exact rfl); clear H; intro _ _ H _ _; go_simp)
  | ((with_reducible apply zj zt H); (case hgd | ho | hx | hy => exact rfl); (case hi => repeat first|exact z5|apply z8); clear H; intro ws H _ _; simp only [qb, qc] at H; go_simp)
  | ((with_reducible apply zr zt H); (case hgd | ho | hx => exact rfl); (case hi => repeat first|exact z5|apply z8); intro _ _; go_simp)
  | ((fail_if_success have := VX); (with_reducible refine (y4i _ (HT.out.below H.out.bel) V1.out HOK.out).mono ?_); rintro e wc ⟨hx, hy, rfl, hv, hu, hb⟩; replace H := zd H hb; clear hb; have VX := za hv; have VY := za hu; clear hv hu)
  | ((fail_if_success have := mkq); (with_reducible refine (y2o _ (HT.out.below H.out.bel) VX.out VY.out).mono ?_); rintro e wc ⟨rq, zq, rfl, hb⟩; replace H := zd H hb; clear hb; have mkq := trivial)
  | ((with_reducible apply ze z1d H); (case hgd | ho => exact rfl); clear H; intro _ _ H _ _; go_simp)
  | ((with_reducible apply zj zH H); (case hgd | ho | hx | hy => exact rfl); (case hi => repeat first|exact z5|apply z8); clear H; intro ws H _ _; simp only [qb] at H; go_simp)
  | ((fail_if_success have := mkn); (with_reducible refine (y89 _ V1.out HO.out).mono ?_); rintro e wc ⟨rfl, hb⟩; replace H := zd H hb; clear hb; have mkn := trivial)
  | ((with_reducible refine z1y ?hw ?h); (case hw => exact rfl); intro _ _; go_simp)
  | ((with_reducible apply z2j); (case hgd | ho => exact rfl); intro _ _; go_simp)
  | ((with_reducible apply z0a H); (case hgd | ho | hx | hy => exact rfl); (case hi => repeat first|exact z5|apply z8); (case h1 => exact (DeK.none fun _ => 0)); clear H; intro ws H _ _; simp only [qb, qc] at H; go_simp))
 exact bodyPost_ret (z1x 4 z2w (z26 _) rfl _ H rfl rfl rfl) rfl ⟨_, rfl, VN.out, H.out.bel⟩
end Go.Proofs.YtgjbonikbmgfmaaGreatDoor
