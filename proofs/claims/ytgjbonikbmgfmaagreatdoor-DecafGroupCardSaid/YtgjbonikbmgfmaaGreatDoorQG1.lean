/- Lemmas; no statement is proved here. -/
import Derived.Test.YtgjbonikbmgfmaaGreatDoorQGms8
namespace Go.Proofs.YtgjbonikbmgfmaaGreatDoor
theorem y6i {E : Pt pN dK} (h : Ord E) : Els2 z0v (z6 zB (zF zB (lN - 1) E) E) := by
 rw [← z1q, show lN - 1 + 1 = lN from rfl]
 exact h
theorem els_neg {E : Pt pN dK} (h : Ord E) : Els2 (pneg E) (zF zB (lN - 1) E) := by
 have h1 := (y6i h).add (Els2.rfl' (pneg E))
 rw [z0r, z2n, z0n, z11 zB z0v, z0n] at h1
 exact h1
open Go.ChangeShapes Go.WideShapes Go.ChangeAt Go.RowKit
abbrev z5z : List (String × DataW Unit) := [("chicory/field.prime", Rows.laid_chicory_field_prime), ("chicory/scalar.order", Rows.laid_chicory_scalar_order)]
theorem tp_two14 {W : World} (h : laidMetH Tryz.prog z5z W) : Tp W := y41 (rest := z5z.tail) (show laidMet Tryz.prog z5z W from h)
theorem to_two14 {W : World} (h : laidMetH Tryz.prog z5z W) : Tl false W := ⟨y2v (show laidMet Tryz.prog z5z W from h), fun hr => by cases hr⟩
end Go.Proofs.YtgjbonikbmgfmaaGreatDoor
