/-
 Lemmas for the walks, several texts in one. No statement is proved here.
-/
import Derived.Test.YtoeokhfhcpcjlaaGreatDoorBuP
import Derived.Test.YtoeokhfhcpcjlaaGreatDoorBuK
import Derived.Test.YtoeokhfhcpcjlaaGreatDoorBuS
/-
 The addition of points of x x + y y = 1 + d x x y y, d no square: a group. Plain mathematics, no program. No statement is proved here.
-/
namespace Go.Proofs.YtoeokhfhcpcjlaaGreatDoor
section
variable {p : Nat} [NeZero p]
/-- x-part of three together, what divides left away: of the first two and the third, and of the first and the last two. -/
theorem ed_assoc_x {d x1 y1 t1 x2 y2 t2 x3 y3 t3 : Fin p} (a1 : x1 * y1 = t1) (b1 : y1 * y1 = 1 + d * t1 * t1 - x1 * x1) (a2 : x2 * y2 = t2) (b2 : y2 * y2 = 1 + d * t2 * t2 - x2 * x2) (a3 : x3 * y3 = t3) (b3 : y3 * y3 = 1 + d * t3 * t3 - x3 * x3) :
  ((x1 * y2 + y1 * x2) * (1 - d * t1 * t2) * y3 + (y1 * y2 - x1 * x2) * (1 + d * t1 * t2) * x3) * ((1 - d * t2 * t3) * (1 + d * t2 * t3) + d * t1 * ((x2 * y3 + y2 * x3) * (y2 * y3 - x2 * x3)))
  = (x1 * ((y2 * y3 - x2 * x3) * (1 + d * t2 * t3)) + y1 * ((x2 * y3 + y2 * x3) * (1 - d * t2 * t3))) * ((1 - d * t1 * t2) * (1 + d * t1 * t2) + d * ((x1 * y2 + y1 * x2) * (y1 * y2 - x1 * x2)) * t3) := by
 grind
theorem ed_assoc_y {d x1 y1 t1 x2 y2 t2 x3 y3 t3 : Fin p} (a1 : x1 * y1 = t1) (b1 : y1 * y1 = 1 + d * t1 * t1 - x1 * x1) (a2 : x2 * y2 = t2) (b2 : y2 * y2 = 1 + d * t2 * t2 - x2 * x2) (a3 : x3 * y3 = t3) (b3 : y3 * y3 = 1 + d * t3 * t3 - x3 * x3) :
  ((y1 * y2 - x1 * x2) * (1 + d * t1 * t2) * y3 - (x1 * y2 + y1 * x2) * (1 - d * t1 * t2) * x3) * ((1 - d * t2 * t3) * (1 + d * t2 * t3) - d * t1 * ((x2 * y3 + y2 * x3) * (y2 * y3 - x2 * x3)))
  = (y1 * ((y2 * y3 - x2 * x3) * (1 + d * t2 * t3)) - x1 * ((x2 * y3 + y2 * x3) * (1 - d * t2 * t3))) * ((1 - d * t1 * t2) * (1 + d * t1 * t2) - d * ((x1 * y2 + y1 * x2) * (y1 * y2 - x1 * x2)) * t3) := by
 grind
theorem fp_mul_ne (hp : prime p) {a b : Fin p} (ha : a ≠ 0) (hb : b ≠ 0) : a * b ≠ 0 := fun e => by
 rcases fp_no_zero hp e with h | h <;> contradiction
/-- Two points' sum: what divides is never 0. -/
theorem ed_den (hp : prime p) (h2 : p ≠ 2) {d : Fin p} (hd : ∀ u v : Fin p, u * u = d * (v * v) → v = 0) {x1 y1 x2 y2 e : Fin p} (he : e * e = 1)
  (o1 : x1 * x1 + y1 * y1 = 1 + d * (x1 * x1 * (y1 * y1))) (o2 : x2 * x2 + y2 * y2 = 1 + d * (x2 * x2 * (y2 * y2))) : d * (x1 * x2 * (y1 * y2)) ≠ e := by
 intro h
 have h1 : (x1 + e * y1) * (x1 + e * y1) = d * (x1 * y1 * (x2 + y2) * (x1 * y1 * (x2 + y2))) := by
  subst h
  grind
 have h3 : (x1 - e * y1) * (x1 - e * y1) = d * (x1 * y1 * (x2 - y2) * (x1 * y1 * (x2 - y2))) := by
  subst h
  grind
 have k1 := hd _ _ h1
 have k2 := hd _ _ h3
 have e0 : e ≠ 0 := fun e0 => fp_one_ne hp (by rw [← he, e0]; grind)
 have n1 : x1 * y1 ≠ 0 := fun e1 => e0 (by rw [← h]; grind)
 have n2 : x2 * y2 ≠ 0 := fun e1 => e0 (by rw [← h]; grind)
 rcases fp_no_zero hp k1 with c | c
 ·exact n1 c
 ·rcases fp_no_zero hp k2 with c' | c'
  ·exact n1 c'
  ·have hx : x2 = -x2 := by grind
   exact n2 (by rw [fp_two hp h2 hx]; grind)
end
/-- A field with d, no square. -/
structure EdF (p : Nat) [NeZero p] (d : Fin p) : Prop where
 pr : prime p
 two : p ≠ 2
 no : ∀ u v : Fin p, u * u = d * (v * v) → v = 0
/-- A point. -/
structure Pt (p : Nat) [NeZero p] (d : Fin p) where
 x : Fin p
 y : Fin p
 on : x * x + y * y = 1 + d * (x * x * (y * y))
section
variable {p : Nat} [NeZero p] {d : Fin p}
theorem Pt.same {a b : Pt p d} (hx : a.x = b.x) (hy : a.y = b.y) : a = b := by
 cases a
 cases b
 cases hx
 cases hy
 rfl
theorem EdF.plus (h : EdF p d) (a b : Pt p d) : 1 + d * (a.x * b.x * (a.y * b.y)) ≠ 0 := fun e =>
 ed_den h.pr h.two h.no (e := -1) (by grind) a.on b.on (by grind)
theorem EdF.minus (h : EdF p d) (a b : Pt p d) : 1 - d * (a.x * b.x * (a.y * b.y)) ≠ 0 := fun e =>
 ed_den h.pr h.two h.no (e := 1) (by grind) a.on b.on (by grind)
/-- The sum's parts. -/
def sx (a b : Pt p d) : Fin p := (a.x * b.y + b.x * a.y) * inv (1 + d * (a.x * b.x * (a.y * b.y)))
def sy (a b : Pt p d) : Fin p := (a.y * b.y - a.x * b.x) * inv (1 - d * (a.x * b.x * (a.y * b.y)))
theorem sx_mul (h : EdF p d) (a b : Pt p d) : sx a b * (1 + d * (a.x * b.x * (a.y * b.y))) = a.x * b.y + b.x * a.y := by
 have := inv_mul h.pr (h.plus a b)
 unfold sx
 grind
theorem sy_mul (h : EdF p d) (a b : Pt p d) : sy a b * (1 - d * (a.x * b.x * (a.y * b.y))) = a.y * b.y - a.x * b.x := by
 have := inv_mul h.pr (h.minus a b)
 unfold sy
 grind
/-- What the sum is tells itself: by what divides. -/
theorem ed_on {d x1 y1 x2 y2 x y : Fin p} (o1 : x1 * x1 + y1 * y1 = 1 + d * (x1 * x1 * (y1 * y1))) (o2 : x2 * x2 + y2 * y2 = 1 + d * (x2 * x2 * (y2 * y2)))
  (hx : x * (1 + d * (x1 * x2 * (y1 * y2))) = x1 * y2 + x2 * y1) (hy : y * (1 - d * (x1 * x2 * (y1 * y2))) = y1 * y2 - x1 * x2) :
  ((1 + d * (x1 * x2 * (y1 * y2))) * (1 - d * (x1 * x2 * (y1 * y2))) * ((1 + d * (x1 * x2 * (y1 * y2))) * (1 - d * (x1 * x2 * (y1 * y2))))) * (x * x + y * y - (1 + d * (x * x * (y * y)))) = 0 := by
 have e1 : (x1 * y2 + x2 * y1) * (x1 * y2 + x2 * y1) * ((1 - d * (x1 * x2 * (y1 * y2))) * (1 - d * (x1 * x2 * (y1 * y2)))) + (y1 * y2 - x1 * x2) * (y1 * y2 - x1 * x2) * ((1 + d * (x1 * x2 * (y1 * y2))) * (1 + d * (x1 * x2 * (y1 * y2))))
   - ((1 + d * (x1 * x2 * (y1 * y2))) * (1 - d * (x1 * x2 * (y1 * y2))) * ((1 + d * (x1 * x2 * (y1 * y2))) * (1 - d * (x1 * x2 * (y1 * y2)))) + d * ((x1 * y2 + x2 * y1) * (x1 * y2 + x2 * y1) * ((y1 * y2 - x1 * x2) * (y1 * y2 - x1 * x2)))) = 0 := by
  clear hx hy
  grind
 rw [← hx, ← hy] at e1
 generalize 1 + d * (x1 * x2 * (y1 * y2)) = G at *
 generalize 1 - d * (x1 * x2 * (y1 * y2)) = F at *
 clear o1 o2 hx hy
 grind
theorem sum_on (h : EdF p d) (a b : Pt p d) : sx a b * sx a b + sy a b * sy a b = 1 + d * (sx a b * sx a b * (sy a b * sy a b)) := by
 have h1 := ed_on a.on b.on (sx_mul h a b) (sy_mul h a b)
 have h2 := fp_mul_ne h.pr (h.plus a b) (h.minus a b)
 rcases fp_no_zero h.pr h1 with c | c
 ·exact absurd c (fp_mul_ne h.pr h2 h2)
 ·generalize sx a b = x at *
  generalize sy a b = y at *
  clear h1 h2
  grind
/-- The sum. -/
def padd (h : EdF p d) (a b : Pt p d) : Pt p d := ⟨sx a b, sy a b, sum_on h a b⟩
theorem sx_of (h : EdF p d) {a b : Pt p d} {x : Fin p} (hx : x * (1 + d * (a.x * b.x * (a.y * b.y))) = a.x * b.y + b.x * a.y) : sx a b = x := by
 have h1 := sx_mul h a b
 refine fp_cancel h.pr (h.plus a b) ?_
 rw [← hx] at h1
 grind
theorem sy_of (h : EdF p d) {a b : Pt p d} {y : Fin p} (hy : y * (1 - d * (a.x * b.x * (a.y * b.y))) = a.y * b.y - a.x * b.x) : sy a b = y := by
 have h1 := sy_mul h a b
 refine fp_cancel h.pr (h.minus a b) ?_
 rw [← hy] at h1
 grind
theorem padd_of (h : EdF p d) {a b c : Pt p d} (hx : c.x * (1 + d * (a.x * b.x * (a.y * b.y))) = a.x * b.y + b.x * a.y) (hy : c.y * (1 - d * (a.x * b.x * (a.y * b.y))) = a.y * b.y - a.x * b.x) : padd h a b = c :=
 Pt.same (sx_of h hx) (sy_of h hy)
theorem padd_x (h : EdF p d) (a b : Pt p d) : (padd h a b).x * (1 + d * (a.x * b.x * (a.y * b.y))) = a.x * b.y + b.x * a.y := sx_mul h a b
theorem padd_y (h : EdF p d) (a b : Pt p d) : (padd h a b).y * (1 - d * (a.x * b.x * (a.y * b.y))) = a.y * b.y - a.x * b.x := sy_mul h a b
theorem padd_comm (h : EdF p d) (a b : Pt p d) : padd h a b = padd h b a := by
 have h1 := padd_x h b a
 have h2 := padd_y h b a
 refine padd_of h ?_ ?_
 ·grind
 ·grind
/-- The identity. -/
def pzero : Pt p d := ⟨0, 1, by grind⟩
theorem padd_zero (h : EdF p d) (a : Pt p d) : padd h a pzero = a := by
 refine padd_of h ?_ ?_
 ·show a.x * (1 + d * (a.x * 0 * (a.y * 1))) = a.x * 1 + 0 * a.y
  grind
 ·show a.y * (1 - d * (a.x * 0 * (a.y * 1))) = a.y * 1 - a.x * 0
  grind
/-- A point turned round. -/
def pneg (a : Pt p d) : Pt p d := ⟨-a.x, a.y, by have := a.on; grind⟩
theorem padd_neg (h : EdF p d) (a : Pt p d) : padd h a (pneg a) = pzero := by
 have h1 := a.on
 refine padd_of h ?_ ?_
 ·show (0 : Fin p) * (1 + d * (a.x * -a.x * (a.y * a.y))) = a.x * a.y + -a.x * a.y
  grind
 ·show (1 : Fin p) * (1 - d * (a.x * -a.x * (a.y * a.y))) = a.y * a.y - a.x * -a.x
  grind
theorem on_b (a : Pt p d) : a.y * a.y = 1 + d * (a.x * a.y) * (a.x * a.y) - a.x * a.x := by
 have := a.on
 grind
theorem g_form (d x y u v : Fin p) : 1 + d * (x * y) * (u * v) = 1 + d * (x * u * (y * v)) := by grind
theorem f_form (d x y u v : Fin p) : 1 - d * (x * y) * (u * v) = 1 - d * (x * u * (y * v)) := by grind
theorem e_form (x y u v : Fin p) : x * v + y * u = x * v + u * y := by grind
/-- Three together, in either order. -/
theorem padd_assoc (h : EdF p d) (a b c : Pt p d) : padd h (padd h a b) c = padd h a (padd h b c) := by
 have ga := h.plus a b
 have fa := h.minus a b
 have gc := h.plus b c
 have fc := h.minus b c
 have x1 := padd_x h a b
 have y1 := padd_y h a b
 have x2 := padd_x h b c
 have y2 := padd_y h b c
 have x3 := padd_x h a (padd h b c)
 have y3 := padd_y h a (padd h b c)
 have g1 := h.plus a (padd h b c)
 have f1 := h.minus a (padd h b c)
 have ax := ed_assoc_x (d := d) (x1 := a.x) (y1 := a.y) (x2 := b.x) (y2 := b.y) (x3 := c.x) (y3 := c.y) rfl (on_b a) rfl (on_b b) rfl (on_b c)
 have ay := ed_assoc_y (d := d) (x1 := a.x) (y1 := a.y) (x2 := b.x) (y2 := b.y) (x3 := c.x) (y3 := c.y) rfl (on_b a) rfl (on_b b) rfl (on_b c)
 have G1 : 1 + d * (a.x * a.y) * (b.x * b.y) = 1 + d * (a.x * b.x * (a.y * b.y)) := g_form _ _ _ _ _
 have F1 : 1 - d * (a.x * a.y) * (b.x * b.y) = 1 - d * (a.x * b.x * (a.y * b.y)) := f_form _ _ _ _ _
 have G2 : 1 + d * (b.x * b.y) * (c.x * c.y) = 1 + d * (b.x * c.x * (b.y * c.y)) := g_form _ _ _ _ _
 have F2 : 1 - d * (b.x * b.y) * (c.x * c.y) = 1 - d * (b.x * c.x * (b.y * c.y)) := f_form _ _ _ _ _
 have E1 : a.x * b.y + a.y * b.x = a.x * b.y + b.x * a.y := e_form _ _ _ _
 have E2 : b.x * c.y + b.y * c.x = b.x * c.y + c.x * b.y := e_form _ _ _ _
 rw [G1, F1, G2, F2, E1, E2, ← x1, ← y1, ← x2, ← y2] at ax ay
 clear G1 F1 G2 F2 E1 E2 x1 y1 x2 y2
 generalize padd h b c = q at *
 refine padd_of h ?_ ?_
 ·generalize (padd h a q).x = X at *
  refine fp_cancel h.pr (fp_mul_ne h.pr (fp_mul_ne h.pr ga fa) (fp_mul_ne h.pr (fp_mul_ne h.pr gc fc) g1)) ?_
  generalize padd h a b = r at *
  generalize 1 + d * (a.x * b.x * (a.y * b.y)) = G at *
  generalize 1 - d * (a.x * b.x * (a.y * b.y)) = F at *
  generalize 1 + d * (b.x * c.x * (b.y * c.y)) = g at *
  generalize 1 - d * (b.x * c.x * (b.y * c.y)) = f at *
  clear ay y3 f1 ga fa gc fc g1
  grind
 ·generalize (padd h a q).y = Y at *
  refine fp_cancel h.pr (fp_mul_ne h.pr (fp_mul_ne h.pr ga fa) (fp_mul_ne h.pr (fp_mul_ne h.pr gc fc) f1)) ?_
  generalize padd h a b = r at *
  generalize 1 + d * (a.x * b.x * (a.y * b.y)) = G at *
  generalize 1 - d * (a.x * b.x * (a.y * b.y)) = F at *
  generalize 1 + d * (b.x * c.x * (b.y * c.y)) = g at *
  generalize 1 - d * (b.x * c.x * (b.y * c.y)) = f at *
  clear ax x3 g1 ga fa gc fc f1
  grind
/-- A point so many times. -/
def pmul (h : EdF p d) : Nat → Pt p d → Pt p d
 | 0, _ => pzero
 | n + 1, a => padd h (pmul h n a) a
theorem pmul_zero (h : EdF p d) (a : Pt p d) : pmul h 0 a = pzero := rfl
theorem pmul_succ (h : EdF p d) (n : Nat) (a : Pt p d) : pmul h (n + 1) a = padd h (pmul h n a) a := rfl
theorem pmul_add (h : EdF p d) (m : Nat) (a : Pt p d) : ∀ n, pmul h (m + n) a = padd h (pmul h m a) (pmul h n a)
 | 0 => by rw [Nat.add_zero, pmul_zero, padd_zero]
 | n + 1 => by rw [← Nat.add_assoc, pmul_succ, pmul_add h m a n, padd_assoc, ← pmul_succ]
theorem pmul_two (h : EdF p d) (n : Nat) (a : Pt p d) : pmul h (2 * n) a = padd h (pmul h n a) (pmul h n a) := by rw [Nat.two_mul, pmul_add]
/-- The point 1, 0. -/
def pquarter : Pt p d := ⟨1, 0, by grind⟩
def phalf : Pt p d := ⟨0, -1, by grind⟩
end
end Go.Proofs.YtoeokhfhcpcjlaaGreatDoor
/-
 Points as fractions: X and Y divided by Z; so many times a point, reckoned by bits. Plain mathematics, no program. No statement is proved here.
-/
namespace Go.Proofs.YtoeokhfhcpcjlaaGreatDoor
/-- X and Y divided by Z are the point. -/
structure Rp {p : Nat} [NeZero p] {d : Fin p} (X Y Z : Fin p) (P : Pt p d) : Prop where
 x : X = P.x * Z
 y : Y = P.y * Z
 z : Z ≠ 0
section
variable {p : Nat} [NeZero p] {d X1 Y1 Z1 X2 Y2 Z2 : Fin p} {P Q : Pt p d}
theorem Rp.zero (h : EdF p d) : Rp (0 : Fin p) 1 1 (pzero : Pt p d) := ⟨by show (0 : Fin p) = 0 * 1; grind, by show (1 : Fin p) = 1 * 1; grind, fp_one_ne h.pr⟩
theorem Rp.one (h : EdF p d) (P : Pt p d) : Rp P.x P.y 1 P := ⟨by grind, by grind, fp_one_ne h.pr⟩
theorem rep_sum {a b u v Z1 Z2 d x y : Fin p} (hx : x * (1 + d * (a * u * (b * v))) = a * v + u * b) (hy : y * (1 - d * (a * u * (b * v))) = b * v - a * u) :
  Z1 * Z2 * (a * Z1 * (v * Z2) + u * Z2 * (b * Z1)) = x * (Z1 * Z2 * (Z1 * Z2) + d * (a * Z1 * (v * Z2) * (u * Z2 * (b * Z1)))) ∧
  Z1 * Z2 * (b * Z1 * (v * Z2) - a * Z1 * (u * Z2)) = y * (Z1 * Z2 * (Z1 * Z2) - d * (a * Z1 * (v * Z2) * (u * Z2 * (b * Z1)))) ∧
  Z1 * Z2 * (Z1 * Z2) + d * (a * Z1 * (v * Z2) * (u * Z2 * (b * Z1))) = Z1 * Z2 * (Z1 * Z2) * (1 + d * (a * u * (b * v))) ∧
  Z1 * Z2 * (Z1 * Z2) - d * (a * Z1 * (v * Z2) * (u * Z2 * (b * Z1))) = Z1 * Z2 * (Z1 * Z2) * (1 - d * (a * u * (b * v))) := by
 refine ⟨?_, ?_, ?_, ?_⟩ <;> grind
/-- The document's sum, what divides kept apart. -/
theorem Rp.add (h : EdF p d) (r1 : Rp X1 Y1 Z1 P) (r2 : Rp X2 Y2 Z2 Q) :
  Rp (Z1 * Z2 * (X1 * Y2 + X2 * Y1) * (Z1 * Z2 * (Z1 * Z2) - d * (X1 * Y2 * (X2 * Y1)))) (Z1 * Z2 * (Y1 * Y2 - X1 * X2) * (Z1 * Z2 * (Z1 * Z2) + d * (X1 * Y2 * (X2 * Y1))))
   ((Z1 * Z2 * (Z1 * Z2) + d * (X1 * Y2 * (X2 * Y1))) * (Z1 * Z2 * (Z1 * Z2) - d * (X1 * Y2 * (X2 * Y1)))) (padd h P Q) := by
 obtain ⟨e1, e2, n1⟩ := r1
 obtain ⟨e3, e4, n2⟩ := r2
 subst e1 e2 e3 e4
 obtain ⟨f1, f2, f3, f4⟩ := rep_sum (Z1 := Z1) (Z2 := Z2) (padd_x h P Q) (padd_y h P Q)
 have nz := fp_mul_ne h.pr n1 n2
 have u1 := fp_mul_ne h.pr (fp_mul_ne h.pr nz nz) (h.plus P Q)
 have u2 := fp_mul_ne h.pr (fp_mul_ne h.pr nz nz) (h.minus P Q)
 rw [← f3] at u1
 rw [← f4] at u2
 rw [f1, f2]
 clear f1 f2 f3 f4
 generalize Z1 * Z2 * (Z1 * Z2) + d * (P.x * Z1 * (Q.y * Z2) * (Q.x * Z2 * (P.y * Z1))) = G at *
 generalize Z1 * Z2 * (Z1 * Z2) - d * (P.x * Z1 * (Q.y * Z2) * (Q.x * Z2 * (P.y * Z1))) = F at *
 refine ⟨?_, ?_, fp_mul_ne h.pr u1 u2⟩
 ·show (padd h P Q).x * G * F = _
  grind
 ·show (padd h P Q).y * F * G = _
  grind
/-- Two fractions are one point just if .. -/
theorem Rp.same (h : EdF p d) (r1 : Rp X1 Y1 Z1 P) (r2 : Rp X2 Y2 Z2 Q) : P = Q ↔ X1 * Z2 = X2 * Z1 ∧ Y1 * Z2 = Y2 * Z1 := by
 obtain ⟨e1, e2, n1⟩ := r1
 obtain ⟨e3, e4, n2⟩ := r2
 subst e1 e2 e3 e4
 constructor
 ·rintro rfl
  constructor <;> grind
 ·rintro ⟨h1, h2⟩
  have nz := fp_mul_ne h.pr n1 n2
  refine Pt.same (fp_cancel h.pr nz ?_) (fp_cancel h.pr nz ?_)
  ·clear h2
   grind
  ·clear h1
   grind
theorem Rp.affine (h : EdF p d) (r : Rp X1 Y1 Z1 P) : X1 * inv Z1 = P.x ∧ Y1 * inv Z1 = P.y := by
 have h1 := inv_mul h.pr r.z
 obtain ⟨e1, e2, n1⟩ := r
 subst e1 e2
 clear n1
 constructor <;> grind
end
section
variable {p : Nat} [NeZero p]
/-- A number as an element. -/
def cN (p : Nat) [NeZero p] (n : Nat) : Fin p := ⟨n % p, Nat.mod_lt _ (Nat.pos_of_ne_zero (NeZero.ne p))⟩
end
end Go.Proofs.YtoeokhfhcpcjlaaGreatDoor
/-
 edwards448: its d is no square, its base is a point, of order L. Plain mathematics, no program. No statement is proved here.
-/
namespace Go.Proofs.YtoeokhfhcpcjlaaGreatDoor
/-- d. -/
def dN : Nat := pN - 39081
def dK : Fin pN := cN pN dN
/-- A root of 39081. -/
def rD : Fin pN := ⟨627894490647874670780146803011075515225223784391788159207390309582568626050729514829594252134780030556161172229750791477826575600769225, by decide +kernel⟩
theorem dK_root : dK = -(rD * rD) := by decide +kernel
theorem rD_ne : rD ≠ 0 := by decide +kernel
theorem edK : EdF pN dK := ⟨prime_pN, by decide +kernel, fun u v e => by
 have h1 : u * u = -(rD * v * (rD * v)) := by
  rw [e, dK_root]
  generalize rD = r
  grind
 have h2 := (neg_no_sq prime_pN pN_c h1).2
 rcases fp_no_zero prime_pN h2 with h | h
 ·exact absurd h rD_ne
 ·exact h⟩
def bxN : Nat := 224580040295924300187604334099896036246789641632564134246125461686950415467406032909029192869357953282578032075146446173674602635247710
def byN : Nat := 298819210078481492676017930443930673437544040154080242095928241372331506189835876003536878655418784733982303233503462500531545062832660
/-- The base. -/
def pB : Pt pN dK := ⟨cN pN bxN, cN pN byN, by decide +kernel⟩
/-- Points told by a number and a quarter. -/
def spot (k q : Nat) : Pt pN dK := padd edK (pmul edK k pB) (pmul edK q pquarter)
end Go.Proofs.YtoeokhfhcpcjlaaGreatDoor
