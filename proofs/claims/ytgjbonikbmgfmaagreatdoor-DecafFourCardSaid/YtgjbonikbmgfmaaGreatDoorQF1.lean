/- Lemmas; no statement is proved here. -/
import Derived.Test.YtgjbonikbmgfmaaGreatDoorBuQ
import Derived.Test.YtgjbonikbmgfmaaGreatDoorZPtAdd
set_option maxRecDepth 8000
set_option maxHeartbeats 3200000
namespace Go.Proofs.YtgjbonikbmgfmaaGreatDoor
open Go.RowKit
theorem z86 {v1 : Nat → Int} {P1 : Pt pN dK} (w : World) (hT : Tp w) (p1 : PtK v1 P1) :
  Calls Tryz.prog 40 #[PO v1] w fun e w' => ∃ r, e = .returned (PO r) ∧ PtK r (z6 zB (z6 zB P1 P1) (z6 zB P1 P1)) ∧ Below w.heap.size w w' := by
 have Q1 := za p1
 clear p1
 have HT := za hT
 clear hT
 have H := za (Ow.start w)
 go_enter Tryz.func40, Tryz.ntmps40
 go_wp2_with (first
  | ((with_reducible apply zw H); (case hgd | ho | hx => exact rfl); clear H; intro _ _ H _ _; go_simp)
  | ((with_reducible apply ze z1d H); (case hgd | ho => exact rfl); clear H; intro _ _ H _ _; go_simp)
  | ((with_reducible apply zr zH H); (case hgd | ho | hx => exact rfl); (case hi => repeat first|exact z5|apply z8); intro _ _; go_simp)
  | ((fail_if_success have := V1); (with_reducible refine (z31 _ (HT.out.below H.out.bel) Q1.out).mono ?_); rintro e wc ⟨k1, rfl, hv, hb⟩; replace H := zd H hb; clear hb; have V1 := za hv; clear hv)
  | ((fail_if_success have := V2); (with_reducible refine (z31 _ (HT.out.below H.out.bel) V1.out).mono ?_); rintro e wc ⟨k2, rfl, hv, hb⟩; replace H := zd H hb; clear hb; have V2 := za hv; clear hv)
  | ((with_reducible apply zj zH H); (case hgd | ho | hx | hy => exact rfl); (case hi => repeat first|exact z5|apply z8); clear H; intro ws H _ _; simp only [qb] at H; go_simp))
 exact bodyPost_ret (zy 0 zH rfl _ H rfl rfl) rfl ⟨_, rfl, V2.out, H.out.bel⟩
theorem half_four {R : Pt pN dK} (h : Els2 z0v R) : z6 zB R R = z0v := by
 rcases h with rfl | rfl
 ·exact z0n zB _
 ·rw [z11 zB z0v, z0n, z7q]
theorem y6j (P Q : Pt pN dK) : Els2 (z6 zB P P) (z6 zB Q Q) ↔ z6 zB (z6 zB (z6 zB P (pneg Q)) (z6 zB P (pneg Q))) (z6 zB (z6 zB P (pneg Q)) (z6 zB P (pneg Q))) = z0v := by
 obtain ⟨R, hR⟩ : ∃ R, z6 zB P (pneg Q) = R := ⟨_, rfl⟩
 have hP : P = z6 zB Q R := by rw [← hR, ← z0r, z11 zB Q P, z0r, z2n, z0n]
 rw [hR]
 have h2 : z6 zB P P = z6 zB (z6 zB Q Q) (z6 zB R R) := by rw [hP, z2y]
 rw [h2]
 constructor
 ·intro h
  apply half_four
  rcases h.symm with e | e
  ·exact .inl (z5w zB (e.trans (z0n zB _).symm))
  ·exact .inr ((z5w zB e).trans (by rw [z11 zB z0v, z0n]))
 ·intro h
  have h3 := (Els2.rfl' (z6 zB Q Q)).add (y4z h)
  rw [z0n] at h3
  exact h3.symm
end Go.Proofs.YtgjbonikbmgfmaaGreatDoor
