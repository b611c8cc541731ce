/-
 Lemmas for the walks, several texts in one. No statement is proved here.
-/
import Derived.Test.YtoeokhfhcpcjlaaGreatDoorBuG
import Derived.Test.YtoeokhfhcpcjlaaGreatDoorBuH
namespace Go.Proofs.YtoeokhfhcpcjlaaGreatDoor
structure L4 (p : Nat) where
 x0 : Fin p
 z0 : Fin p
 x1 : Fin p
 z1 : Fin p
section
variable {p : Nat} [NeZero p]
def ldX (x z : Fin p) : Fin p := (x + z) * (x + z) * ((x - z) * (x - z))
def ldW (x z : Fin p) : Fin p := (x + z) * (x + z) - (x - z) * (x - z)
def ldZ (c x z : Fin p) : Fin p := ldW x z * ((x + z) * (x + z) + c * ldW x z)
def ldU (x z v w : Fin p) : Fin p := (v - w) * (x + z) + (v + w) * (x - z)
def ldD (x z v w : Fin p) : Fin p := (v - w) * (x + z) - (v + w) * (x - z)
def ldA (c u : Fin p) (s : L4 p) : L4 p :=
 ⟨ldX s.x0 s.z0, ldZ c s.x0 s.z0, ldU s.x0 s.z0 s.x1 s.z1 * ldU s.x0 s.z0 s.x1 s.z1, u * (ldD s.x0 s.z0 s.x1 s.z1 * ldD s.x0 s.z0 s.x1 s.z1)⟩
def L4.turn (s : L4 p) : L4 p := ⟨s.x1, s.z1, s.x0, s.z0⟩
def ldB (c u : Fin p) (b : Bool) (s : L4 p) : L4 p := if b then (ldA c u s.turn).turn else ldA c u s
def lad (c u : Fin p) : Nat → Nat → L4 p
 | 0, _ => ⟨1, 0, u, 1⟩
 | t + 1, n => ldB c u (decide (n % 2 = 1)) (lad c u t (n / 2))
def ladR (s : L4 p) : Fin p := s.x0 * inv s.z0
variable {d : Fin p}
def Rp4 (X Z : Pt p d → Fin p) (a b : Pt p d) (s : L4 p) : Prop :=
 ∃ k l : Fin p, k ≠ 0 ∧ l ≠ 0 ∧ s.x0 = k * X a ∧ s.z0 = k * Z a ∧ s.x1 = l * X b ∧ s.z1 = l * Z b
theorem Rp4.turn {X Z : Pt p d → Fin p} {a b : Pt p d} {s : L4 p} (h : Rp4 X Z a b s) : Rp4 X Z b a s.turn := by
 obtain ⟨k, l, hk, hl, h1, h2, h3, h4⟩ := h
 exact ⟨l, k, hl, hk, h3, h4, h1, h2⟩
end
section
variable {p : Nat} [NeZero p] {d : Fin p}
theorem z5s (h : EdF p d) : (2 : Fin p) ≠ 0 := fun e => z13 h.pr (y06 h.pr h.two (show (1 : Fin p) = -1 by grind))
end
def cK : K := cN pN 39081
@[irreducible] def ldV (u : K) (n : Nat) : K := ladR (lad cK u n n)
open Go.RowKit
def t2 (m : Nat) (f g : Nat → Int) : Nat → Int := fun i => if i < m then f i else g (i - m)
def t4 (m : Nat) (f g h k : Nat → Int) : Nat → Int := fun i => if i < m then f i else if i < 2 * m then g (i - m) else if i < 3 * m then h (i - 2 * m) else k (i - 3 * m)
theorem y0n {f g : Nat → Int} : Part .u64 16 (t2 8 f g) 0 8 f := ⟨by omega, z0x fun i hi => by unfold t2; rw [Nat.zero_add, if_pos hi]⟩
theorem y0m {f g : Nat → Int} : Part .u64 16 (t2 8 f g) 8 8 g := ⟨by omega, z0x fun i hi => by unfold t2; rw [if_neg (by omega), show 8 + i - 8 = i by omega]⟩
abbrev E2 (v : Nat → Int) : Value := .agg (AZ .u64 16 v)
abbrev F4 (v : Nat → Int) : Value := .agg (AZ .i64 64 v)
section
variable {ops : Array Oper} {rest : List Oper} {o : Oper} {a : Act} {w : World} {Q : Exit → Act → World → Prop}
end
section
variable {md : Region.Mode} {ops : Array Oper} {Q : Exit → Act → World → Prop} {S : World → Prop} {fuel : Nat} {listed : Array Bool} {a : Act} {w : World}
end
section
variable {p : Nat} [NeZero p] {d : Fin p}
structure TwF (p : Nat) [NeZero p] (d n s : Fin p) : Prop where
 ed : EdF p d
 eq : n = 1 - d
 sq : n - 1 = s * s
 ne : s ≠ 0
 no : ∀ u v : Fin p, u * u = n * (v * v) → v = 0
def wtS (a : Pt p d) : Fin p := 2 * (a.x * a.y)
def wtC (a : Pt p d) : Fin p := a.y * a.y - a.x * a.x
def wtG (a : Pt p d) : Fin p := a.x * a.x + a.y * a.y
def wtF (a : Pt p d) : Fin p := 2 - (a.x * a.x + a.y * a.y)
theorem wtFG (a : Pt p d) : wtF a = 2 - wtG a := rfl
theorem wtCSG (a : Pt p d) : wtC a * wtC a + wtS a * wtS a = wtG a * wtG a := by
 unfold wtC wtS wtG
 generalize a.x = x
 generalize a.y = y
 grind
theorem wtSG (a : Pt p d) : d * (wtS a * wtS a) = 4 * (wtG a - 1) := by
 have := a.on
 unfold wtS wtG
 generalize a.x = x at *
 generalize a.y = y at *
 grind
theorem z90 (h : EdF p d) (a : Pt p d) : wtG a ≠ 0 := by
 have := h.plus a a
 unfold wtG
 rw [a.on]
 exact this
theorem z3e (h : EdF p d) (a : Pt p d) : wtF a ≠ 0 := by
 have := h.minus a a
 unfold wtF
 rw [a.on]
 intro e
 refine this ?_
 rw [← e]
 generalize a.x = x
 generalize a.y = y
 grind
variable {n s : Fin p}
theorem z3r (h : TwF p d n s) (a : Pt p d) : wtC a ≠ 0 := fun e => by
 have o := a.on
 have hn := h.eq
 have h1 := h.no (d * (a.x * a.x) - 1) 1 (by
  unfold wtC at e
  generalize a.x = x at *
  generalize a.y = y at *
  have e1 : y * y = x * x := by clear o hn; grind
  rw [e1] at o
  clear e e1
  grind)
 exact z13 h.ed.pr h1
theorem wtCF (h : TwF p d n s) (a : Pt p d) : wtC a * wtC a + n * (wtS a * wtS a) = wtF a * wtF a := by
 have h1 := wtCSG a
 have h2 := wtSG a
 have h3 := wtFG a
 have h4 := h.eq
 generalize wtC a = C at *
 generalize wtS a = S at *
 generalize wtG a = G at *
 generalize wtF a = F at *
 grind
def wtX (a : Pt p d) : Fin p := wtS a * inv (wtC a)
def wtY (a : Pt p d) : Fin p := wtG a * inv (wtF a)
theorem z2h (h : TwF p d n s) (a : Pt p d) : wtX a * wtC a = wtS a := by
 have := z5p h.ed.pr (z3r h a)
 unfold wtX
 grind
theorem z16 (h : EdF p d) (a : Pt p d) : wtY a * wtF a = wtG a := by
 have := z5p h.pr (z3e h a)
 unfold wtY
 grind
theorem z9z (h : EdF p d) (a b : Pt p d) : (1 + d * (a.x * b.x * (a.y * b.y))) * (1 - d * (a.x * b.x * (a.y * b.y))) = wtG a + wtG b - wtG a * wtG b := by
 have h3 := wtSG a
 have h4 := wtSG b
 have e2 : 16 * ((1 + d * (a.x * b.x * (a.y * b.y))) * (1 - d * (a.x * b.x * (a.y * b.y)))) = 16 - (d * (wtS a * wtS a)) * (d * (wtS b * wtS b)) := by
  clear h3 h4
  unfold wtS
  generalize a.x = x
  generalize a.y = y
  generalize b.x = u
  generalize b.y = v
  grind
 rw [h3, h4] at e2
 have two := z5s h
 have n16 : (16 : Fin p) ≠ 0 := by
  rw [show (16 : Fin p) = 2 * 2 * (2 * 2) by grind]
  exact z0j h.pr (z0j h.pr two two) (z0j h.pr two two)
 refine z0u h.pr n16 (e2.trans ?_)
 generalize wtG a = G
 generalize wtG b = H
 clear e2 h3 h4
 grind
theorem wtS_sum (h : EdF p d) (a b : Pt p d) : wtS (padd h a b) * (wtG a + wtG b - wtG a * wtG b) = wtS a * wtC b + wtS b * wtC a := by
 have h1 := z3h h a b
 have h2 := z3g h a b
 have e1 := z9z h a b
 rw [← e1]
 clear e1
 unfold wtS wtC
 generalize (padd h a b).x = r at *
 generalize (padd h a b).y = t at *
 generalize a.x = x at *
 generalize a.y = y at *
 generalize b.x = u at *
 generalize b.y = v at *
 rw [show 2 * (r * t) * ((1 + d * (x * u * (y * v))) * (1 - d * (x * u * (y * v)))) = 2 * ((r * (1 + d * (x * u * (y * v)))) * (t * (1 - d * (x * u * (y * v))))) by clear h1 h2; grind, h1, h2]
 clear h1 h2
 grind
theorem wtM_ne (h : EdF p d) (a b : Pt p d) : wtG a + wtG b - wtG a * wtG b ≠ 0 := by
 rw [← z9z h]
 exact z0j h.pr (h.plus a b) (h.minus a b)
theorem wtN_eq (a b : Pt p d) : (a.y * b.y - a.x * b.x) * (a.y * b.y - a.x * b.x) - (a.x * b.y + b.x * a.y) * (a.x * b.y + b.x * a.y) = wtC a * wtC b - wtS a * wtS b
  ∧ (a.y * b.y - a.x * b.x) * (a.y * b.y - a.x * b.x) + (a.x * b.y + b.x * a.y) * (a.x * b.y + b.x * a.y) = wtG a * wtG b := by
 unfold wtC wtS wtG
 generalize a.x = x
 generalize a.y = y
 generalize b.x = u
 generalize b.y = v
 constructor <;> grind
theorem z8m (h : EdF p d) (a b : Pt p d) : ∃ D : Fin p, 4 * D = d * (wtS a * wtS b) ∧ 1 - D * D = wtG a + wtG b - wtG a * wtG b
  ∧ wtC (padd h a b) * ((1 - D * D) * (1 - D * D)) = (wtC a * wtC b - wtS a * wtS b) * (1 + D * D) + 2 * D * (wtG a * wtG b)
  ∧ wtG (padd h a b) * ((1 - D * D) * (1 - D * D)) = wtG a * wtG b * (1 + D * D) + 2 * D * (wtC a * wtC b - wtS a * wtS b) := by
 have h1 := z3h h a b
 have h2 := z3g h a b
 have h3 := z9z h a b
 have h4 := wtN_eq a b
 refine ⟨d * (a.x * b.x * (a.y * b.y)), ?_, ?_, ?_, ?_⟩
 ·unfold wtS
  clear h1 h2 h3 h4
  generalize a.x = x
  generalize a.y = y
  generalize b.x = u
  generalize b.y = v
  grind
 ·rw [← h3]
  clear h1 h2 h3 h4
  grind
 ·rw [← h4.1, ← h4.2]
  unfold wtC
  clear h3 h4
  generalize (padd h a b).x = r at *
  generalize (padd h a b).y = t at *
  generalize d * (a.x * b.x * (a.y * b.y)) = D at *
  generalize a.x * b.y + b.x * a.y = V at *
  generalize a.y * b.y - a.x * b.x = W at *
  rw [← h1, ← h2]
  clear h1 h2
  grind
 ·rw [← h4.1, ← h4.2]
  unfold wtG
  clear h3 h4
  generalize (padd h a b).x = r at *
  generalize (padd h a b).y = t at *
  generalize d * (a.x * b.x * (a.y * b.y)) = D at *
  generalize a.x * b.y + b.x * a.y = V at *
  generalize a.y * b.y - a.x * b.x = W at *
  rw [← h1, ← h2]
  clear h1 h2
  grind
theorem tw_den (h : TwF p d n s) (a b : Pt p d) : (wtC a * wtC b * (wtF a * wtF b)) * (wtC a * wtC b * (wtF a * wtF b)) ≠ n * (wtS a * wtS b * (wtG a * wtG b)) * (n * (wtS a * wtS b * (wtG a * wtG b))) := fun e => by
 have hp := h.ed.pr
 have a1 := wtCSG a
 have a2 := wtCF h a
 have b1 := wtCSG b
 have b2 := wtCF h b
 have ca := z3r h a
 have cb := z3r h b
 have fa := z3e h.ed a
 have fb := z3e h.ed b
 have hn := h.no
 have hs := h.sq
 have hs0 := h.ne
 generalize wtC a = C at *
 generalize wtC b = C' at *
 generalize wtF a = F at *
 generalize wtF b = F' at *
 generalize wtS a = S at *
 generalize wtS b = S' at *
 generalize wtG a = G at *
 generalize wtG b = G' at *
 have k : (C * C' * (C * C') - n * (S * S' * (S * S'))) * (F * F' * (F * F') - n * ((n - 1) * (S * S' * (S * S')))) = 0 := by
  have e1 : (C * C') * (C * C') = (F * F - n * (S * S)) * (F' * F' - n * (S' * S')) := by rw [← a2, ← b2]; clear e a1 a2 b1 b2 ca cb fa fb hn hs hs0; grind
  have e2 : (G * G') * (G * G') = (F * F - (n - 1) * (S * S)) * (F' * F' - (n - 1) * (S' * S')) := by
   rw [show (G * G') * (G * G') = (G * G) * (G' * G') by grind, ← a1, ← b1, ← a2, ← b2]
   clear e e1 a1 a2 b1 b2 ca cb fa fb hn hs hs0
   grind
  have e3 : (F * F - n * (S * S)) * (F' * F' - n * (S' * S')) * (F * F' * (F * F')) = n * n * (S * S' * (S * S')) * ((F * F - (n - 1) * (S * S)) * (F' * F' - (n - 1) * (S' * S'))) := by
   rw [← e1, ← e2]
   clear e1 e2 a1 a2 b1 b2 ca cb fa fb hn hs hs0
   grind
  rw [e1]
  clear e e1 e2 a1 a2 b1 b2 ca cb fa fb hn hs hs0
  grind
 rcases z0r hp k with k1 | k1
 ·have h1 := hn (C * C') (S * S') (by clear e a1 a2 b1 b2 k hs; grind)
  rw [h1] at k1
  exact z0j hp (z0j hp ca cb) (z0j hp ca cb) (by rw [← k1]; grind)
 ·rw [hs] at k1
  have h1 := hn (F * F') (s * (S * S')) (by clear e a1 a2 b1 b2 k hs; grind)
  have h2 : S * S' = 0 := by
   rcases z0r hp h1 with k2 | k2
   ·exact absurd k2 hs0
   ·exact k2
  rw [h2] at k1
  exact z0j hp (z0j hp fa fb) (z0j hp fa fb) (by rw [← k1]; grind)
def wtc (n : Fin p) (a b : Pt p d) : Fin p := n * (wtX a * wtY b * (wtY a * wtX b))
theorem z7z (h : TwF p d n s) (a b : Pt p d) : wtc n a b * (wtC a * wtC b * (wtF a * wtF b)) = n * (wtS a * wtS b * (wtG a * wtG b)) := by
 rw [← z2h h a, ← z2h h b, ← z16 h.ed a, ← z16 h.ed b]
 unfold wtc
 generalize wtX a = X
 generalize wtX b = X'
 generalize wtY a = Y
 generalize wtY b = Y'
 generalize wtC a = C
 generalize wtC b = C'
 generalize wtF a = F
 generalize wtF b = F'
 grind
theorem tw_less (h : TwF p d n s) (a b : Pt p d) : 1 - wtc n a b ≠ 0 := fun e => tw_den h a b (by
 have h1 := z7z h a b
 rw [show wtc n a b = 1 by grind] at h1
 rw [← h1]
 clear h1 e
 grind)
theorem z8t (h : TwF p d n s) (a b : Pt p d) : wtX (padd h.ed a b) * (1 - wtc n a b) = wtX a * wtY b + wtY a * wtX b := by
 have hp := h.ed.pr
 have ca := z3r h a
 have cb := z3r h b
 have cs := z3r h (padd h.ed a b)
 have fa := z3e h.ed a
 have fb := z3e h.ed b
 have hm := wtM_ne h.ed a b
 have e1 := z7z h a b
 have e2 := z2h h (padd h.ed a b)
 have e3 := wtS_sum h.ed a b
 obtain ⟨D, d1, d2, d3, -⟩ := z8m h.ed a b
 have xa := z2h h a
 have xb := z2h h b
 have ya := z16 h.ed a
 have yb := z16 h.ed b
 have a1 := wtCSG a
 have b1 := wtCSG b
 have a2 := wtSG a
 have b2 := wtSG b
 have hn := h.eq
 rw [← d2] at e3 hm
 rw [wtFG] at fa fb e1 ya yb
 rw [wtFG] at e1
 generalize wtc n a b = c at *
 generalize wtX (padd h.ed a b) = R at *
 generalize wtC (padd h.ed a b) = C3 at *
 generalize wtS (padd h.ed a b) = S3 at *
 generalize wtX a = X at *
 generalize wtX b = X' at *
 generalize wtY a = Y at *
 generalize wtY b = Y' at *
 generalize wtC a = C at *
 generalize wtC b = C' at *
 generalize wtS a = S at *
 generalize wtS b = S' at *
 generalize wtG a = G at *
 generalize wtG b = G' at *
 refine z0u hp (z0j hp (z0j hp cs (z0j hp (z0j hp ca cb) (z0j hp fa fb))) (z0j hp hm hm)) ?_
 have l1 : C3 * (C * C' * ((2 - G) * (2 - G'))) * ((1 - D * D) * (1 - D * D)) * (R * (1 - c)) = (R * C3) * (1 - D * D) * (1 - D * D) * (C * C' * ((2 - G) * (2 - G')) - c * (C * C' * ((2 - G) * (2 - G')))) := by
  clear e1 e2 e3 d1 d2 d3 xa xb ya yb a1 b1 a2 b2 hn ca cb cs fa fb hm; grind
 have l2 : C3 * (C * C' * ((2 - G) * (2 - G'))) * ((1 - D * D) * (1 - D * D)) * (X * Y' + Y * X') = C3 * ((1 - D * D) * (1 - D * D)) * ((X * C) * (Y' * (2 - G')) * (C' * (2 - G)) + (Y * (2 - G)) * (X' * C') * (C * (2 - G'))) := by
  clear e1 e2 e3 d1 d2 d3 xa xb ya yb a1 b1 a2 b2 hn ca cb cs fa fb hm l1; grind
 rw [l1, l2, e1, e2, e3, d3, xa, xb, ya, yb]
 clear l1 l2 e1 e2 e3 d3 xa xb ya yb ca cb cs fa fb hm
 have dd : D * D = (G - 1) * (G' - 1) := by clear d1 a1 b1 a2 b2 hn; grind
 have four : (4 : Fin p) ≠ 0 := by
  rw [show (4 : Fin p) = 2 * 2 by grind]
  exact z0j hp (z5s h.ed) (z5s h.ed)
 have f2 : D * S = (G - 1) * S' := by
  refine z0u hp four ?_
  rw [show 4 * (D * S) = (4 * D) * S by grind, d1, show d * (S * S') * S = (d * (S * S)) * S' by grind, a2]
  grind
 have f3 : D * S' = (G' - 1) * S := by
  refine z0u hp four ?_
  rw [show 4 * (D * S') = (4 * D) * S' by grind, d1, show d * (S * S') * S' = (d * (S' * S')) * S by grind, b2]
  grind
 have f4 : n * (S * S' * (G * G')) = S * S' * (G * G') - 4 * D * (G * G') := by rw [hn, d1]; clear d1 d2 dd a1 b1 a2 b2 hn f2 f3; grind
 rw [f4, dd]
 clear f4 d1 d2 a2 b2 hn four
 have g1 : 4 * D * (G * G') * (S * C' + S' * C) = 4 * (G * G') * ((G - 1) * S' * C' + (G' - 1) * S * C) := by rw [← f2, ← f3]; clear a1 b1 dd f2 f3; grind
 have g2 : 2 * D * (G * G') * (S * G' * (C' * (2 - G)) + G * S' * (C * (2 - G'))) = 2 * (G * G') * ((G - 1) * S' * G' * (C' * (2 - G)) + (G' - 1) * S * G * (C * (2 - G'))) := by rw [← f2, ← f3]; clear a1 b1 dd f2 f3 g1; grind
 have g3 : (S * C' + S' * C) * (1 - (G - 1) * (G' - 1)) * (C * C' * ((2 - G) * (2 - G')) - (S * S' * (G * G') - 4 * D * (G * G')))
   = (1 - (G - 1) * (G' - 1)) * ((S * C' + S' * C) * (C * C' * ((2 - G) * (2 - G')) - S * S' * (G * G')) + 4 * D * (G * G') * (S * C' + S' * C)) := by clear a1 b1 dd f2 f3 g1 g2; grind
 have g4 : ((C * C' - S * S') * (1 + (G - 1) * (G' - 1)) + 2 * D * (G * G')) * (S * G' * (C' * (2 - G)) + G * S' * (C * (2 - G')))
   = (C * C' - S * S') * (1 + (G - 1) * (G' - 1)) * (S * G' * (C' * (2 - G)) + G * S' * (C * (2 - G'))) + 2 * D * (G * G') * (S * G' * (C' * (2 - G)) + G * S' * (C * (2 - G'))) := by clear a1 b1 dd f2 f3 g1 g2 g3; grind
 rw [g3, g4, g1, g2]
 clear g1 g2 g3 g4 dd f2 f3
 grind
theorem tw_sum_y (h : TwF p d n s) (a b : Pt p d) : wtY (padd h.ed a b) * (1 + wtc n a b) = wtY a * wtY b + wtX a * wtX b := by
 have hp := h.ed.pr
 have ca := z3r h a
 have cb := z3r h b
 have fs := z3e h.ed (padd h.ed a b)
 have fa := z3e h.ed a
 have fb := z3e h.ed b
 have hm := wtM_ne h.ed a b
 have e1 := z7z h a b
 have e2 := z16 h.ed (padd h.ed a b)
 obtain ⟨D, d1, d2, -, d3⟩ := z8m h.ed a b
 have xa := z2h h a
 have xb := z2h h b
 have ya := z16 h.ed a
 have yb := z16 h.ed b
 have a1 := wtCSG a
 have b1 := wtCSG b
 have a2 := wtSG a
 have b2 := wtSG b
 have hn := h.eq
 rw [← d2] at hm
 rw [wtFG] at fa fb fs e1 e2 ya yb
 rw [wtFG] at e1
 generalize wtc n a b = c at *
 generalize wtY (padd h.ed a b) = R at *
 generalize wtG (padd h.ed a b) = G3 at *
 generalize wtX a = X at *
 generalize wtX b = X' at *
 generalize wtY a = Y at *
 generalize wtY b = Y' at *
 generalize wtC a = C at *
 generalize wtC b = C' at *
 generalize wtS a = S at *
 generalize wtS b = S' at *
 generalize wtG a = G at *
 generalize wtG b = G' at *
 refine z0u hp (z0j hp (z0j hp fs (z0j hp (z0j hp ca cb) (z0j hp fa fb))) (z0j hp hm hm)) ?_
 have l1 : (2 - G3) * (C * C' * ((2 - G) * (2 - G'))) * ((1 - D * D) * (1 - D * D)) * (R * (1 + c)) = (R * (2 - G3)) * ((1 - D * D) * (1 - D * D)) * (C * C' * ((2 - G) * (2 - G')) + c * (C * C' * ((2 - G) * (2 - G')))) := by
  clear e1 e2 d1 d2 d3 xa xb ya yb a1 b1 a2 b2 hn ca cb fs fa fb hm; grind
 have l2 : (2 - G3) * (C * C' * ((2 - G) * (2 - G'))) * ((1 - D * D) * (1 - D * D)) * (Y * Y' + X * X') = (2 * ((1 - D * D) * (1 - D * D)) - G3 * ((1 - D * D) * (1 - D * D))) * ((Y * (2 - G)) * (Y' * (2 - G')) * (C * C') + (X * C) * (X' * C') * ((2 - G) * (2 - G'))) := by
  clear e1 e2 d1 d2 d3 xa xb ya yb a1 b1 a2 b2 hn ca cb fs fa fb hm l1; grind
 rw [l1, l2, e1, e2, d3, xa, xb, ya, yb]
 clear l1 l2 e1 e2 d3 xa xb ya yb ca cb fs fa fb hm
 have dd : D * D = (G - 1) * (G' - 1) := by clear d1 a1 b1 a2 b2 hn; grind
 have four : (4 : Fin p) ≠ 0 := by
  rw [show (4 : Fin p) = 2 * 2 by grind]
  exact z0j hp (z5s h.ed) (z5s h.ed)
 have f2 : D * S = (G - 1) * S' := by
  refine z0u hp four ?_
  rw [show 4 * (D * S) = (4 * D) * S by grind, d1, show d * (S * S') * S = (d * (S * S)) * S' by grind, a2]
  grind
 have f3 : D * S' = (G' - 1) * S := by
  refine z0u hp four ?_
  rw [show 4 * (D * S') = (4 * D) * S' by grind, d1, show d * (S * S') * S' = (d * (S' * S')) * S by grind, b2]
  grind
 have f4 : n * (S * S' * (G * G')) = S * S' * (G * G') - 4 * D * (G * G') := by rw [hn, d1]; clear d1 d2 dd a1 b1 a2 b2 hn f2 f3; grind
 rw [f4, dd]
 clear f4 d1 d2 a2 b2 hn four
 have hQ : D * (C * C' * (C * C')) = D * (G * G' * (G * G')) - (G - 1) * (S * S') * (G' * G') - (G' - 1) * (S * S') * (G * G) + D * (S * S' * (S * S')) := by
  have k1 : C * C' * (C * C') = (G * G - S * S) * (G' * G' - S' * S') := by rw [← a1, ← b1]; clear a1 b1 dd f2 f3; grind
  have k3 : D * (S * S) = (G - 1) * (S * S') := by rw [show D * (S * S) = D * S * S by grind, f2]; clear a1 b1 dd f2 f3 k1; grind
  have k4 : D * (S' * S') = (G' - 1) * (S * S') := by rw [show D * (S' * S') = D * S' * S' by grind, f3]; clear a1 b1 dd f2 f3 k1 k3; grind
  rw [k1, show D * ((G * G - S * S) * (G' * G' - S' * S')) = D * (G * G' * (G * G')) - D * (S * S) * (G' * G') - D * (S' * S') * (G * G) + D * (S * S' * (S * S')) by clear a1 b1 dd f2 f3 k1 k3 k4; grind, k3, k4]
 clear f2 f3 a1 b1
 generalize C * C' = Q at *
 generalize S * S' = V at *
 have e3 : ∀ E : Fin p, E = (G - 1) * (G' - 1) →
   (G * G' * (1 + E) + 2 * D * (Q - V)) * (Q * ((2 - G) * (2 - G')) + (V * (G * G') - 4 * D * (G * G'))) - (2 * ((1 - E) * (1 - E)) - (G * G' * (1 + E) + 2 * D * (Q - V))) * (G * G' * Q + V * ((2 - G) * (2 - G')))
   = 4 * (1 + E) * (D * (Q * Q) - (D * (G * G' * (G * G')) - (G - 1) * V * (G' * G') - (G' - 1) * V * (G * G) + D * (V * V))) + 8 * (G * G') * (E - D * D) * (Q - V) := fun E hE => by
  rw [hE]
  clear hE hQ dd
  grind
 have e4 := e3 _ rfl
 rw [hQ, dd] at e4
 clear e3 hQ dd
 have e5 : ∀ x y : Fin p, x - y = 0 → x = y := fun x y k => by grind
 refine Eq.trans ?_ ((e5 _ _ (e4.trans (by clear e4; grind))).trans ?_)
 ·clear e4 e5
  grind
 ·clear e4 e5
  grind
theorem tw_back (h : TwF p d n s) (a : Pt p d) : wtX a * wtX a + wtY a * wtY a ≠ 0 ∧ 2 - wtY a * wtY a + wtX a * wtX a ≠ 0
  ∧ (padd h.ed (padd h.ed a a) (padd h.ed a a)).x * (wtX a * wtX a + wtY a * wtY a) = 2 * (wtX a * wtY a)
  ∧ (padd h.ed (padd h.ed a a) (padd h.ed a a)).y * (2 - wtY a * wtY a + wtX a * wtX a) = wtY a * wtY a - wtX a * wtX a := by
 have hp := h.ed.pr
 have h1 := z3h h.ed a a
 have h2 := z3g h.ed a a
 have gq := z90 h.ed (padd h.ed a a)
 have fq := z3e h.ed (padd h.ed a a)
 have r1 := z3h h.ed (padd h.ed a a) (padd h.ed a a)
 have r2 := z3g h.ed (padd h.ed a a) (padd h.ed a a)
 have oq := (padd h.ed a a).on
 have oa := a.on
 have ca := z3r h a
 have fa := z3e h.ed a
 have ga := z90 h.ed a
 have xa := z2h h a
 have ya := z16 h.ed a
 have a1 := wtCSG a
 have hS : wtS a = a.x * a.y + a.x * a.y := by unfold wtS; generalize a.x = x; generalize a.y = y; grind
 have hC : wtC a = a.y * a.y - a.x * a.x := rfl
 have hG : wtG a = 1 + d * (a.x * a.x * (a.y * a.y)) := oa
 have hF : wtF a = 1 - d * (a.x * a.x * (a.y * a.y)) := by unfold wtF; rw [oa]; grind
 rw [← hG, ← hS] at h1
 rw [← hF, ← hC] at h2
 clear hS hC hG hF oa
 unfold wtG at gq
 unfold wtF at fq
 generalize (padd h.ed (padd h.ed a a) (padd h.ed a a)).x = r at *
 generalize (padd h.ed (padd h.ed a a) (padd h.ed a a)).y = t at *
 generalize (padd h.ed a a).x = u at *
 generalize (padd h.ed a a).y = v at *
 have fG : wtF a = 2 - wtG a := rfl
 generalize wtX a = X at *
 generalize wtY a = Y at *
 generalize wtC a = C at *
 generalize wtF a = F at *
 generalize wtG a = G at *
 generalize wtS a = S at *
 have q1 : 1 + d * (u * u * (v * v)) = u * u + v * v := oq.symm
 have q2 : 1 - d * (u * u * (v * v)) = 2 - (u * u + v * v) := by rw [oq]; grind
 rw [q1] at r1
 rw [q2] at r2
 clear q1 q2 oq
 have k1 : C * F * (C * F) * (X * X + Y * Y) = F * G * (F * G) * (u * u + v * v) := by
  rw [show C * F * (C * F) * (X * X + Y * Y) = (X * C) * (X * C) * (F * F) + (Y * F) * (Y * F) * (C * C) by clear h1 h2 r1 r2 xa ya a1 fG ca fa ga gq fq; grind, xa, ya, ← h1, ← h2]
  clear h1 h2 r1 r2 xa ya a1 fG ca fa ga gq fq
  grind
 have k3 : C * F * (C * F) * (Y * Y - X * X) = F * G * (F * G) * (v * v - u * u) := by
  rw [show C * F * (C * F) * (Y * Y - X * X) = (Y * F) * (Y * F) * (C * C) - (X * C) * (X * C) * (F * F) by clear h1 h2 r1 r2 xa ya a1 fG ca fa ga gq fq k1; grind, xa, ya, ← h1, ← h2]
  clear h1 h2 r1 r2 xa ya a1 fG ca fa ga gq fq k1
  grind
 have k2 : C * F * (C * F) * (2 - Y * Y + X * X) = F * G * (F * G) * (2 - (u * u + v * v)) := by
  have e1 : C * F * (C * F) * (2 - Y * Y + X * X) = 2 * (F * F) * (C * C) - C * F * (C * F) * (Y * Y - X * X) := by clear h1 h2 r1 r2 xa ya a1 fG ca fa ga gq fq k1 k3; grind
  have e2 : C * C = G * G - S * S := by rw [← a1]; clear h1 h2 r1 r2 xa ya a1 fG ca fa ga gq fq k1 k3 e1; grind
  rw [e1, k3, e2, ← h1]
  clear h1 h2 r1 r2 xa ya a1 fG ca fa ga gq fq k1 k3 e1 e2
  grind
 have k4 : C * F * (C * F) * (2 * (X * Y)) = F * G * (F * G) * (2 * (u * v)) := by
  rw [show C * F * (C * F) * (2 * (X * Y)) = 2 * ((X * C) * (Y * F) * (C * F)) by clear h1 h2 r1 r2 xa ya a1 fG ca fa ga gq fq k1 k3 k2; grind, xa, ya, ← h1, ← h2]
  clear h1 h2 r1 r2 xa ya a1 fG ca fa ga gq fq k1 k3 k2
  grind
 have fgn := z0j hp (z0j hp fa ga) (z0j hp fa ga)
 have cfn := z0j hp (z0j hp ca fa) (z0j hp ca fa)
 refine ⟨fun e => ?_, fun e => ?_, ?_, ?_⟩
 ·rw [e] at k1
  exact z0j hp fgn gq (k1.symm.trans (by grind))
 ·rw [e] at k2
  exact z0j hp fgn fq (k2.symm.trans (by grind))
 ·refine z0u hp cfn ?_
  rw [k4, show C * F * (C * F) * (r * (X * X + Y * Y)) = r * (C * F * (C * F) * (X * X + Y * Y)) by grind, k1, show r * (F * G * (F * G) * (u * u + v * v)) = F * G * (F * G) * (r * (u * u + v * v)) by grind, r1]
  grind
 ·refine z0u hp cfn ?_
  rw [k3, show C * F * (C * F) * (t * (2 - Y * Y + X * X)) = t * (C * F * (C * F) * (2 - Y * Y + X * X)) by grind, k2, show t * (F * G * (F * G) * (2 - (u * u + v * v))) = F * G * (F * G) * (t * (2 - (u * u + v * v))) by grind, r2]
theorem tw_neg (a : Pt p d) : wtX (pneg a) = -wtX a ∧ wtY (pneg a) = wtY a := by
 unfold wtX wtY wtS wtC wtG wtF
 rw [show (pneg a).x = -a.x from rfl, show (pneg a).y = a.y from rfl]
 generalize a.x = x
 generalize a.y = y
 rw [show -x * -x = x * x by grind]
 generalize inv (y * y - x * x) = i
 constructor
 ·grind
 ·rfl
theorem z5a (h : TwF p d n s) {a : Pt p d} (e : wtX a = 0) : wtY a = 1 ∧ a.x * a.y = 0 := by
 have hp := h.ed.pr
 have two := z5s h.ed
 have four : (4 : Fin p) ≠ 0 := by
  rw [show (4 : Fin p) = 2 * 2 by grind]
  exact z0j hp two two
 have h1 := z2h h a
 have h2 := wtSG a
 have h3 := z16 h.ed a
 rw [wtFG] at h3
 rw [e] at h1
 have h4 : wtS a = 0 := by rw [← h1]; grind
 have h5 : wtG a = 1 := by
  rw [h4] at h2
  rcases z0r hp (show 4 * (wtG a - 1) = 0 by rw [← h2]; grind) with k | k
  ·exact absurd k four
  ·grind
 constructor
 ·rw [h5] at h3
  rw [← h3]
  grind
 ·unfold wtS at h4
  rcases z0r hp h4 with k | k
  ·exact absurd k two
  ·exact k
theorem z6j (h : TwF p d n s) (a : Pt p d) : wtX a = 0 ↔ padd h.ed (padd h.ed a a) (padd h.ed a a) = pzero := by
 have hp := h.ed.pr
 have two := z5s h.ed
 have hb := tw_back h a
 constructor
 ·intro e
  have e1 := (z5a h e).1
  rw [e, e1] at hb
  obtain ⟨-, -, b1, b2⟩ := hb
  refine Pt.same ?_ ?_
  ·show _ = (0 : Fin p)
   generalize (padd h.ed (padd h.ed a a) (padd h.ed a a)).x = r at *
   grind
  ·show _ = (1 : Fin p)
   generalize (padd h.ed (padd h.ed a a) (padd h.ed a a)).y = r at *
   grind
 ·intro e
  rw [e] at hb
  obtain ⟨-, -, b1, -⟩ := hb
  rw [show (pzero : Pt p d).x = 0 from rfl] at b1
  rcases z0r hp (show 2 * (wtX a * wtY a) = 0 by rw [← b1]; grind) with k | k
  ·exact absurd k two
  ·rcases z0r hp k with k | k
   ·exact k
   ·have h3 := z16 h.ed a
    rw [k] at h3
    exact absurd (h3.symm.trans (by grind)) (z90 h.ed a)
theorem tw_same (h : TwF p d n s) (a b : Pt p d) : (wtX a = wtX b ∧ wtY a = wtY b) ↔
  padd h.ed (padd h.ed (padd h.ed a (pneg b)) (padd h.ed a (pneg b))) (padd h.ed (padd h.ed a (pneg b)) (padd h.ed a (pneg b))) = pzero := by
 have hp := h.ed.pr
 rw [← z6j h]
 have h1 := z8t h a (pneg b)
 rw [(tw_neg b).1, (tw_neg b).2] at h1
 constructor
 ·rintro ⟨e1, e2⟩
  rw [e1, e2] at h1
  rcases z0r hp (h1.trans (by grind)) with k | k
  ·exact k
  ·exact absurd k (tw_less h a (pneg b))
 ·intro e
  have e1 := (z5a h e).1
  have hr : a = padd h.ed b (padd h.ed a (pneg b)) := by
   rw [← z0v, z2x h.ed b a, z0v, z14, z05]
  generalize padd h.ed a (pneg b) = r at *
  have h2 := z8t h b r
  have h3 := tw_sum_y h b r
  have hc : wtc n b r = 0 := by
   unfold wtc
   rw [e]
   grind
  rw [← hr, e, e1, hc] at h2 h3
  constructor
  ·rw [show wtX a * (1 - 0) = wtX a by grind] at h2
   rw [h2]
   grind
  ·rw [show wtY a * (1 + 0) = wtY a by grind] at h3
   rw [h3]
   grind
end
def nK : K := cN pN 39082
def rW : K := ⟨53931230830471128485834955405575080614406917727690396148695844614693367092499110851330350603979079659962871539650022903565748232560454, by decide +kernel⟩
theorem nK_root : nK = -(rW * rW) := by decide +kernel
theorem rW_ne : rW ≠ 0 := by decide +kernel
theorem nK_no : ∀ u v : K, u * u = nK * (v * v) → v = 0 := fun u v e => by
 have h1 : u * u = -(rW * v * (rW * v)) := by
  rw [e, nK_root]
  generalize rW = r
  grind
 have h2 := (z20 z0y pN_c h1).2
 rcases z0r z0y h2 with h | h
 ·exact absurd h rW_ne
 ·exact h
theorem twK : TwF pN dK nK rD := ⟨edK, by decide +kernel, by decide +kernel, rD_ne, nK_no⟩
theorem ax_n : (ofZ 39082 : K) = nK := by decide +kernel
theorem y1g : (ofZ 1 : K) = 1 := by decide +kernel
theorem ax_two : (ofZ 2 : K) = 2 := by decide +kernel
theorem y1f : (ofZ 0 : K) = 0 := by decide +kernel
theorem ax_to_x (P : Pt pN dK) : P.x * P.y * ofZ 2 * inv (P.y * P.y - P.x * P.x) = wtX P := by
 rw [ax_two]
 unfold wtX wtS wtC
 generalize inv (P.y * P.y - P.x * P.x) = i
 generalize P.x = x
 generalize P.y = y
 grind
theorem ax_to_y (P : Pt pN dK) : (P.y * P.y + P.x * P.x) * inv (ofZ 2 - (P.y * P.y + P.x * P.x)) = wtY P := by
 rw [ax_two]
 unfold wtY wtG wtF
 rw [show P.y * P.y + P.x * P.x = P.x * P.x + P.y * P.y by generalize P.x = x; generalize P.y = y; grind]
abbrev four (P : Pt pN dK) : Pt pN dK := padd edK (padd edK P P) (padd edK P P)
theorem ax_both {u v : K} : (v * v + u * u = 0) ↔ (u = 0 ∧ v = 0) := by
 constructor
 ·intro h
  have h1 := z20 z0y pN_c (show v * v = -(u * u) by grind)
  exact ⟨h1.2, h1.1⟩
 ·rintro ⟨h1, h2⟩
  rw [h1, h2]
  decide +kernel
theorem ax_equal (x y u v : K) : decide ((y - v) * (y - v) + (x - u) * (x - u) = 0) = decide (x = u ∧ y = v) := by
 apply decide_eq_decide.2
 rw [ax_both]
 constructor
 ·rintro ⟨h1, h2⟩
  exact ⟨by grind, by grind⟩
 ·rintro ⟨h1, h2⟩
  exact ⟨by grind, by grind⟩
def tOn (x y : K) : Prop := y * y - x * x = 1 - nK * (x * x * (y * y))
instance (x y : K) : Decidable (tOn x y) := by unfold tOn; infer_instance
theorem ax_on (x y : K) : (y * y - x * x = ofZ 1 - x * x * y * y * ofZ 39082) = tOn x y := by
 unfold tOn
 rw [y1g, ax_n, show x * x * y * y * nK = nK * (x * x * (y * y)) by generalize nK = n; grind]
theorem z42 (P Q : Pt pN dK) : (wtX P = wtX Q ∧ wtY P = wtY Q) ↔ four (padd edK P (pneg Q)) = pzero := tw_same twK P Q
theorem z4b : wtX (pzero : Pt pN dK) = 0 := (z6j twK pzero).2 (by rw [z05, z05])
theorem z5w : wtY (pzero : Pt pN dK) = 1 := (z5a twK z4b).1
theorem ax_moved (P T : Pt pN dK) (h : wtX T = 0) : wtX (padd edK P T) = wtX P ∧ wtY (padd edK P T) = wtY P :=
 (z42 _ _).2 (by
  rw [show padd edK (padd edK P T) (pneg P) = T by rw [z2x edK P T, z0v, z14, z05]]
  exact (z6j twK T).1 h)
theorem ax_tor (T : Pt pN dK) (h : T.x * T.y = 0) : wtX T = 0 := by
 unfold wtX wtS
 rw [h]
 generalize inv (wtC T) = i
 grind
theorem z3d : wtX (z1e : Pt pN dK) = 0 := ax_tor _ (by decide +kernel)
theorem z6i : wtY (z1e : Pt pN dK) = 1 := (z5a twK z3d).1
section
variable {P : Program} {ops : Array Oper} {rest : List Oper} {o : Oper} {a : Act} {w w0 : World} {l : List (Nat × Obj)} {Q : Exit → Act → World → Prop} {t ty : TypeId} {k : IntKind} {n m : Nat}
end
end Go.Proofs.YtoeokhfhcpcjlaaGreatDoor
