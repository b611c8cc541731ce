/-
  Sums of points, as fractions. No statement is proved here: lemmas for the walks.
-/
import Derived.Test.YthdapglpaaigaaaDoorZPtMem
import Derived.Deep.CutRange
namespace Go.Proofs.YthdapglpaaigaaaDoor


theorem sum_ring (X1 Y1 Z1 X2 Y2 Z2 d : K) :
    ((X1 + Y1) * (X2 + Y2) - (X1 * X2 + Y1 * Y2)) * (Z1 * Z2) * (Z1 * Z2 * (Z1 * Z2) - X1 * X2 * (Y1 * Y2) * d) = Z1 * Z2 * (X1 * Y2 + X2 * Y1) * (Z1 * Z2 * (Z1 * Z2) - d * (X1 * Y2 * (X2 * Y1))) ∧
    (Y1 * Y2 - X1 * X2) * (Z1 * Z2) * (Z1 * Z2 * (Z1 * Z2) + X1 * X2 * (Y1 * Y2) * d) = Z1 * Z2 * (Y1 * Y2 - X1 * X2) * (Z1 * Z2 * (Z1 * Z2) + d * (X1 * Y2 * (X2 * Y1))) ∧
    (Z1 * Z2 * (Z1 * Z2) + X1 * X2 * (Y1 * Y2) * d) * (Z1 * Z2 * (Z1 * Z2) - X1 * X2 * (Y1 * Y2) * d) = (Z1 * Z2 * (Z1 * Z2) + d * (X1 * Y2 * (X2 * Y1))) * (Z1 * Z2 * (Z1 * Z2) - d * (X1 * Y2 * (X2 * Y1))) := by
  refine ⟨?_, ?_, ?_⟩ <;> grind
section
variable {P Q : Pt pN dK} {X1 Y1 Z1 X2 Y2 Z2 : K}
/-- The program's sum. -/
theorem Rp.sum (r1 : Rp X1 Y1 Z1 P) (r2 : Rp X2 Y2 Z2 Q) :
    Rp (((X1 + Y1) * (X2 + Y2) - (X1 * X2 + Y1 * Y2)) * (Z1 * Z2) * (Z1 * Z2 * (Z1 * Z2) - X1 * X2 * (Y1 * Y2) * dK)) ((Y1 * Y2 - X1 * X2) * (Z1 * Z2) * (Z1 * Z2 * (Z1 * Z2) + X1 * X2 * (Y1 * Y2) * dK))
      ((Z1 * Z2 * (Z1 * Z2) + X1 * X2 * (Y1 * Y2) * dK) * (Z1 * Z2 * (Z1 * Z2) - X1 * X2 * (Y1 * Y2) * dK)) (padd edK P Q) := by
  have h := Rp.add edK r1 r2
  rw [(sum_ring X1 Y1 Z1 X2 Y2 Z2 dK).1, (sum_ring X1 Y1 Z1 X2 Y2 Z2 dK).2.1, (sum_ring X1 Y1 Z1 X2 Y2 Z2 dK).2.2]
  exact h
instance pt_dec : DecidableEq (Pt pN dK) := fun a b => decidable_of_iff (a.x = b.x ∧ a.y = b.y) ⟨fun h => Pt.same h.1 h.2, fun h => ⟨by rw [h], by rw [h]⟩⟩
theorem pt_on {d : K} (P : Pt pN d) : P.x * P.x + P.y * P.y = 1 + d * (P.x * P.x * (P.y * P.y)) := by
  have := P.on
  grind
theorem curve_dbl {x y d : K} (h : x * x + y * y = 1 + d * (x * x * (y * y))) (X3 Y3 : K) (hx : X3 * (1 + d * (x * x * (y * y))) = x * y + x * y) (hy : Y3 * (1 - d * (x * x * (y * y))) = y * y - x * x) (Z : K) :
    ((x * Z + y * Z) * (x * Z + y * Z) - (x * Z * (x * Z) + y * Z * (y * Z))) * (Z * Z * (1 + 1) - (x * Z * (x * Z) + y * Z * (y * Z))) = X3 * ((x * Z * (x * Z) + y * Z * (y * Z)) * (Z * Z * (1 + 1) - (x * Z * (x * Z) + y * Z * (y * Z)))) ∧
    (y * Z * (y * Z) - x * Z * (x * Z)) * (x * Z * (x * Z) + y * Z * (y * Z)) = Y3 * ((x * Z * (x * Z) + y * Z * (y * Z)) * (Z * Z * (1 + 1) - (x * Z * (x * Z) + y * Z * (y * Z)))) ∧
    (x * Z * (x * Z) + y * Z * (y * Z)) * (Z * Z * (1 + 1) - (x * Z * (x * Z) + y * Z * (y * Z))) = Z * Z * (Z * Z) * ((1 + d * (x * x * (y * y))) * (1 - d * (x * x * (y * y)))) := by
  generalize d * (x * x * (y * y)) = t at *
  have e1 : x * Z * (x * Z) + y * Z * (y * Z) = Z * Z * (1 + t) := by
    rw [← h]
    clear h hx hy
    grind
  have e2 : Z * Z * (1 + 1) - Z * Z * (1 + t) = Z * Z * (1 - t) := by
    clear h hx hy e1
    grind
  have e3 : (x * Z + y * Z) * (x * Z + y * Z) - Z * Z * (1 + t) = Z * Z * (x * y + x * y) := by
    rw [← e1]
    clear h hx hy e1 e2
    grind
  have e4 : y * Z * (y * Z) - x * Z * (x * Z) = Z * Z * (y * y - x * x) := by
    clear h hx hy e1 e2 e3
    grind
  rw [e1, e2, e3, e4, ← hx, ← hy]
  clear e1 e2 e3 e4 h hx hy
  refine ⟨?_, ?_, ?_⟩ <;> grind
theorem Rp.double (r : Rp X1 Y1 Z1 P) :
    Rp (((X1 + Y1) * (X1 + Y1) - (X1 * X1 + Y1 * Y1)) * (Z1 * Z1 * (1 + 1) - (X1 * X1 + Y1 * Y1))) ((Y1 * Y1 - X1 * X1) * (X1 * X1 + Y1 * Y1)) ((X1 * X1 + Y1 * Y1) * (Z1 * Z1 * (1 + 1) - (X1 * X1 + Y1 * Y1))) (padd edK P P) := by
  obtain ⟨e1, e2, n1⟩ := r
  subst e1 e2
  have hc : P.x * P.x + P.y * P.y = 1 + dK * (P.x * P.x * (P.y * P.y)) := pt_on P
  have u1 : 1 + dK * (P.x * P.x * (P.y * P.y)) ≠ 0 := edK.plus P P
  have u2 : 1 - dK * (P.x * P.x * (P.y * P.y)) ≠ 0 := edK.minus P P
  have hx : (padd edK P P).x * (1 + dK * (P.x * P.x * (P.y * P.y))) = P.x * P.y + P.x * P.y := padd_x edK P P
  have hy : (padd edK P P).y * (1 - dK * (P.x * P.x * (P.y * P.y))) = P.y * P.y - P.x * P.x := padd_y edK P P
  obtain ⟨f1, f2, f3⟩ := curve_dbl hc _ _ hx hy Z1
  refine ⟨f1, f2, ?_⟩
  rw [f3]
  exact fp_mul_ne prime_pN (fp_mul_ne prime_pN (fp_mul_ne prime_pN n1 n1) (fp_mul_ne prime_pN n1 n1)) (fp_mul_ne prime_pN u1 u2)
/-- Two squares together are 0 just if both are. -/
theorem squares_zero (a b : K) : a * a + b * b = 0 ↔ a = 0 ∧ b = 0 := by
  constructor
  · intro h
    exact neg_no_sq prime_pN pN_c (a := a) (b := b) (by grind)
  · rintro ⟨h1, h2⟩
    rw [h1, h2]
    decide +kernel
theorem Rp.equal (r1 : Rp X1 Y1 Z1 P) (r2 : Rp X2 Y2 Z2 Q) :
    (X1 * Z2 - X2 * Z1) * (X1 * Z2 - X2 * Z1) + (Y1 * Z2 - Y2 * Z1) * (Y1 * Z2 - Y2 * Z1) = 0 ↔ P = Q := by
  rw [squares_zero, Rp.same edK r1 r2]
  have e : ∀ a b : K, a - b = 0 ↔ a = b := fun a b => ⟨fun h => by grind, fun h => by rw [h]; grind⟩
  rw [e, e]
end
end Go.Proofs.YthdapglpaaigaaaDoor
