/-
 Lemmas for the walks, several texts in one. No statement is proved here.
-/
import Derived.Test.YtoeokhfhcpcjlaaGreatDoorBuP
import Derived.Test.YtoeokhfhcpcjlaaGreatDoorBuK
import Derived.Test.YtoeokhfhcpcjlaaGreatDoorBuS
namespace Go.Proofs.YtoeokhfhcpcjlaaGreatDoor
section
variable {p : Nat} [NeZero p]
theorem ed_assoc_x {d x1 y1 t1 x2 y2 t2 x3 y3 t3 : Fin p} (a1 : x1 * y1 = t1) (b1 : y1 * y1 = 1 + d * t1 * t1 - x1 * x1) (a2 : x2 * y2 = t2) (b2 : y2 * y2 = 1 + d * t2 * t2 - x2 * x2) (a3 : x3 * y3 = t3) (b3 : y3 * y3 = 1 + d * t3 * t3 - x3 * x3) :
  ((x1 * y2 + y1 * x2) * (1 - d * t1 * t2) * y3 + (y1 * y2 - x1 * x2) * (1 + d * t1 * t2) * x3) * ((1 - d * t2 * t3) * (1 + d * t2 * t3) + d * t1 * ((x2 * y3 + y2 * x3) * (y2 * y3 - x2 * x3)))
  = (x1 * ((y2 * y3 - x2 * x3) * (1 + d * t2 * t3)) + y1 * ((x2 * y3 + y2 * x3) * (1 - d * t2 * t3))) * ((1 - d * t1 * t2) * (1 + d * t1 * t2) + d * ((x1 * y2 + y1 * x2) * (y1 * y2 - x1 * x2)) * t3) := by
 grind
theorem ed_assoc_y {d x1 y1 t1 x2 y2 t2 x3 y3 t3 : Fin p} (a1 : x1 * y1 = t1) (b1 : y1 * y1 = 1 + d * t1 * t1 - x1 * x1) (a2 : x2 * y2 = t2) (b2 : y2 * y2 = 1 + d * t2 * t2 - x2 * x2) (a3 : x3 * y3 = t3) (b3 : y3 * y3 = 1 + d * t3 * t3 - x3 * x3) :
  ((y1 * y2 - x1 * x2) * (1 + d * t1 * t2) * y3 - (x1 * y2 + y1 * x2) * (1 - d * t1 * t2) * x3) * ((1 - d * t2 * t3) * (1 + d * t2 * t3) - d * t1 * ((x2 * y3 + y2 * x3) * (y2 * y3 - x2 * x3)))
  = (y1 * ((y2 * y3 - x2 * x3) * (1 + d * t2 * t3)) - x1 * ((x2 * y3 + y2 * x3) * (1 - d * t2 * t3))) * ((1 - d * t1 * t2) * (1 + d * t1 * t2) - d * ((x1 * y2 + y1 * x2) * (y1 * y2 - x1 * x2)) * t3) := by
 grind
theorem z0j (hp : prime p) {a b : Fin p} (ha : a ≠ 0) (hb : b ≠ 0) : a * b ≠ 0 := fun e => by
 rcases z0r hp e with h | h <;> contradiction
theorem ed_den (hp : prime p) (h2 : p ≠ 2) {d : Fin p} (hd : ∀ u v : Fin p, u * u = d * (v * v) → v = 0) {x1 y1 x2 y2 e : Fin p} (he : e * e = 1)
  (o1 : x1 * x1 + y1 * y1 = 1 + d * (x1 * x1 * (y1 * y1))) (o2 : x2 * x2 + y2 * y2 = 1 + d * (x2 * x2 * (y2 * y2))) : d * (x1 * x2 * (y1 * y2)) ≠ e := by
 intro h
 have h1 : (x1 + e * y1) * (x1 + e * y1) = d * (x1 * y1 * (x2 + y2) * (x1 * y1 * (x2 + y2))) := by
  subst h
  grind
 have h3 : (x1 - e * y1) * (x1 - e * y1) = d * (x1 * y1 * (x2 - y2) * (x1 * y1 * (x2 - y2))) := by
  subst h
  grind
 have k1 := hd _ _ h1
 have k2 := hd _ _ h3
 have e0 : e ≠ 0 := fun e0 => z13 hp (by rw [← he, e0]; grind)
 have n1 : x1 * y1 ≠ 0 := fun e1 => e0 (by rw [← h]; grind)
 have n2 : x2 * y2 ≠ 0 := fun e1 => e0 (by rw [← h]; grind)
 rcases z0r hp k1 with c | c
 ·exact n1 c
 ·rcases z0r hp k2 with c' | c'
  ·exact n1 c'
  ·have hx : x2 = -x2 := by grind
   exact n2 (by rw [y06 hp h2 hx]; grind)
end
structure EdF (p : Nat) [NeZero p] (d : Fin p) : Prop where
 pr : prime p
 two : p ≠ 2
 no : ∀ u v : Fin p, u * u = d * (v * v) → v = 0
structure Pt (p : Nat) [NeZero p] (d : Fin p) where
 x : Fin p
 y : Fin p
 on : x * x + y * y = 1 + d * (x * x * (y * y))
section
variable {p : Nat} [NeZero p] {d : Fin p}
theorem Pt.same {a b : Pt p d} (hx : a.x = b.x) (hy : a.y = b.y) : a = b := by
 cases a
 cases b
 cases hx
 cases hy
 rfl
theorem EdF.plus (h : EdF p d) (a b : Pt p d) : 1 + d * (a.x * b.x * (a.y * b.y)) ≠ 0 := fun e =>
 ed_den h.pr h.two h.no (e := -1) (by grind) a.on b.on (by grind)
theorem EdF.minus (h : EdF p d) (a b : Pt p d) : 1 - d * (a.x * b.x * (a.y * b.y)) ≠ 0 := fun e =>
 ed_den h.pr h.two h.no (e := 1) (by grind) a.on b.on (by grind)
def sx (a b : Pt p d) : Fin p := (a.x * b.y + b.x * a.y) * inv (1 + d * (a.x * b.x * (a.y * b.y)))
def sy (a b : Pt p d) : Fin p := (a.y * b.y - a.x * b.x) * inv (1 - d * (a.x * b.x * (a.y * b.y)))
theorem z99 (h : EdF p d) (a b : Pt p d) : sx a b * (1 + d * (a.x * b.x * (a.y * b.y))) = a.x * b.y + b.x * a.y := by
 have := z5p h.pr (h.plus a b)
 unfold sx
 grind
theorem z98 (h : EdF p d) (a b : Pt p d) : sy a b * (1 - d * (a.x * b.x * (a.y * b.y))) = a.y * b.y - a.x * b.x := by
 have := z5p h.pr (h.minus a b)
 unfold sy
 grind
theorem ed_on {d x1 y1 x2 y2 x y : Fin p} (o1 : x1 * x1 + y1 * y1 = 1 + d * (x1 * x1 * (y1 * y1))) (o2 : x2 * x2 + y2 * y2 = 1 + d * (x2 * x2 * (y2 * y2)))
  (hx : x * (1 + d * (x1 * x2 * (y1 * y2))) = x1 * y2 + x2 * y1) (hy : y * (1 - d * (x1 * x2 * (y1 * y2))) = y1 * y2 - x1 * x2) :
  ((1 + d * (x1 * x2 * (y1 * y2))) * (1 - d * (x1 * x2 * (y1 * y2))) * ((1 + d * (x1 * x2 * (y1 * y2))) * (1 - d * (x1 * x2 * (y1 * y2))))) * (x * x + y * y - (1 + d * (x * x * (y * y)))) = 0 := by
 have e1 : (x1 * y2 + x2 * y1) * (x1 * y2 + x2 * y1) * ((1 - d * (x1 * x2 * (y1 * y2))) * (1 - d * (x1 * x2 * (y1 * y2)))) + (y1 * y2 - x1 * x2) * (y1 * y2 - x1 * x2) * ((1 + d * (x1 * x2 * (y1 * y2))) * (1 + d * (x1 * x2 * (y1 * y2))))
   - ((1 + d * (x1 * x2 * (y1 * y2))) * (1 - d * (x1 * x2 * (y1 * y2))) * ((1 + d * (x1 * x2 * (y1 * y2))) * (1 - d * (x1 * x2 * (y1 * y2)))) + d * ((x1 * y2 + x2 * y1) * (x1 * y2 + x2 * y1) * ((y1 * y2 - x1 * x2) * (y1 * y2 - x1 * x2)))) = 0 := by
  clear hx hy
  grind
 rw [← hx, ← hy] at e1
 generalize 1 + d * (x1 * x2 * (y1 * y2)) = G at *
 generalize 1 - d * (x1 * x2 * (y1 * y2)) = F at *
 clear o1 o2 hx hy
 grind
theorem sum_on (h : EdF p d) (a b : Pt p d) : sx a b * sx a b + sy a b * sy a b = 1 + d * (sx a b * sx a b * (sy a b * sy a b)) := by
 have h1 := ed_on a.on b.on (z99 h a b) (z98 h a b)
 have h2 := z0j h.pr (h.plus a b) (h.minus a b)
 rcases z0r h.pr h1 with c | c
 ·exact absurd c (z0j h.pr h2 h2)
 ·generalize sx a b = x at *
  generalize sy a b = y at *
  clear h1 h2
  grind
def padd (h : EdF p d) (a b : Pt p d) : Pt p d := ⟨sx a b, sy a b, sum_on h a b⟩
theorem sx_of (h : EdF p d) {a b : Pt p d} {x : Fin p} (hx : x * (1 + d * (a.x * b.x * (a.y * b.y))) = a.x * b.y + b.x * a.y) : sx a b = x := by
 have h1 := z99 h a b
 refine z0u h.pr (h.plus a b) ?_
 rw [← hx] at h1
 grind
theorem sy_of (h : EdF p d) {a b : Pt p d} {y : Fin p} (hy : y * (1 - d * (a.x * b.x * (a.y * b.y))) = a.y * b.y - a.x * b.x) : sy a b = y := by
 have h1 := z98 h a b
 refine z0u h.pr (h.minus a b) ?_
 rw [← hy] at h1
 grind
theorem z6q (h : EdF p d) {a b c : Pt p d} (hx : c.x * (1 + d * (a.x * b.x * (a.y * b.y))) = a.x * b.y + b.x * a.y) (hy : c.y * (1 - d * (a.x * b.x * (a.y * b.y))) = a.y * b.y - a.x * b.x) : padd h a b = c :=
 Pt.same (sx_of h hx) (sy_of h hy)
theorem z3h (h : EdF p d) (a b : Pt p d) : (padd h a b).x * (1 + d * (a.x * b.x * (a.y * b.y))) = a.x * b.y + b.x * a.y := z99 h a b
theorem z3g (h : EdF p d) (a b : Pt p d) : (padd h a b).y * (1 - d * (a.x * b.x * (a.y * b.y))) = a.y * b.y - a.x * b.x := z98 h a b
theorem z2x (h : EdF p d) (a b : Pt p d) : padd h a b = padd h b a := by
 have h1 := z3h h b a
 have h2 := z3g h b a
 refine z6q h ?_ ?_
 ·grind
 ·grind
def pzero : Pt p d := ⟨0, 1, by grind⟩
theorem z05 (h : EdF p d) (a : Pt p d) : padd h a pzero = a := by
 refine z6q h ?_ ?_
 ·show a.x * (1 + d * (a.x * 0 * (a.y * 1))) = a.x * 1 + 0 * a.y
  grind
 ·show a.y * (1 - d * (a.x * 0 * (a.y * 1))) = a.y * 1 - a.x * 0
  grind
theorem z2q (h : EdF p d) (a : Pt p d) : padd h pzero a = a := by rw [z2x, z05]
def pneg (a : Pt p d) : Pt p d := ⟨-a.x, a.y, by have := a.on; grind⟩
theorem z14 (h : EdF p d) (a : Pt p d) : padd h a (pneg a) = pzero := by
 have h1 := a.on
 refine z6q h ?_ ?_
 ·show (0 : Fin p) * (1 + d * (a.x * -a.x * (a.y * a.y))) = a.x * a.y + -a.x * a.y
  grind
 ·show (1 : Fin p) * (1 - d * (a.x * -a.x * (a.y * a.y))) = a.y * a.y - a.x * -a.x
  grind
theorem on_b (a : Pt p d) : a.y * a.y = 1 + d * (a.x * a.y) * (a.x * a.y) - a.x * a.x := by
 have := a.on
 grind
theorem g_form (d x y u v : Fin p) : 1 + d * (x * y) * (u * v) = 1 + d * (x * u * (y * v)) := by grind
theorem f_form (d x y u v : Fin p) : 1 - d * (x * y) * (u * v) = 1 - d * (x * u * (y * v)) := by grind
theorem e_form (x y u v : Fin p) : x * v + y * u = x * v + u * y := by grind
theorem z0v (h : EdF p d) (a b c : Pt p d) : padd h (padd h a b) c = padd h a (padd h b c) := by
 have ga := h.plus a b
 have fa := h.minus a b
 have gc := h.plus b c
 have fc := h.minus b c
 have x1 := z3h h a b
 have y1 := z3g h a b
 have x2 := z3h h b c
 have y2 := z3g h b c
 have x3 := z3h h a (padd h b c)
 have y3 := z3g h a (padd h b c)
 have g1 := h.plus a (padd h b c)
 have f1 := h.minus a (padd h b c)
 have ax := ed_assoc_x (d := d) (x1 := a.x) (y1 := a.y) (x2 := b.x) (y2 := b.y) (x3 := c.x) (y3 := c.y) rfl (on_b a) rfl (on_b b) rfl (on_b c)
 have ay := ed_assoc_y (d := d) (x1 := a.x) (y1 := a.y) (x2 := b.x) (y2 := b.y) (x3 := c.x) (y3 := c.y) rfl (on_b a) rfl (on_b b) rfl (on_b c)
 have G1 : 1 + d * (a.x * a.y) * (b.x * b.y) = 1 + d * (a.x * b.x * (a.y * b.y)) := g_form _ _ _ _ _
 have F1 : 1 - d * (a.x * a.y) * (b.x * b.y) = 1 - d * (a.x * b.x * (a.y * b.y)) := f_form _ _ _ _ _
 have G2 : 1 + d * (b.x * b.y) * (c.x * c.y) = 1 + d * (b.x * c.x * (b.y * c.y)) := g_form _ _ _ _ _
 have F2 : 1 - d * (b.x * b.y) * (c.x * c.y) = 1 - d * (b.x * c.x * (b.y * c.y)) := f_form _ _ _ _ _
 have E1 : a.x * b.y + a.y * b.x = a.x * b.y + b.x * a.y := e_form _ _ _ _
 have E2 : b.x * c.y + b.y * c.x = b.x * c.y + c.x * b.y := e_form _ _ _ _
 rw [G1, F1, G2, F2, E1, E2, ← x1, ← y1, ← x2, ← y2] at ax ay
 clear G1 F1 G2 F2 E1 E2 x1 y1 x2 y2
 generalize padd h b c = q at *
 refine z6q h ?_ ?_
 ·generalize (padd h a q).x = X at *
  refine z0u h.pr (z0j h.pr (z0j h.pr ga fa) (z0j h.pr (z0j h.pr gc fc) g1)) ?_
  generalize padd h a b = r at *
  generalize 1 + d * (a.x * b.x * (a.y * b.y)) = G at *
  generalize 1 - d * (a.x * b.x * (a.y * b.y)) = F at *
  generalize 1 + d * (b.x * c.x * (b.y * c.y)) = g at *
  generalize 1 - d * (b.x * c.x * (b.y * c.y)) = f at *
  clear ay y3 f1 ga fa gc fc g1
  grind
 ·generalize (padd h a q).y = Y at *
  refine z0u h.pr (z0j h.pr (z0j h.pr ga fa) (z0j h.pr (z0j h.pr gc fc) f1)) ?_
  generalize padd h a b = r at *
  generalize 1 + d * (a.x * b.x * (a.y * b.y)) = G at *
  generalize 1 - d * (a.x * b.x * (a.y * b.y)) = F at *
  generalize 1 + d * (b.x * c.x * (b.y * c.y)) = g at *
  generalize 1 - d * (b.x * c.x * (b.y * c.y)) = f at *
  clear ax x3 g1 ga fa gc fc f1
  grind
def pmul (h : EdF p d) : Nat → Pt p d → Pt p d
 | 0, _ => pzero
 | n + 1, a => padd h (pmul h n a) a
theorem z5g (h : EdF p d) (a : Pt p d) : pmul h 0 a = pzero := rfl
theorem z3x (h : EdF p d) (n : Nat) (a : Pt p d) : pmul h (n + 1) a = padd h (pmul h n a) a := rfl
theorem z83 (h : EdF p d) (a : Pt p d) : pmul h 1 a = a := z2q h a
theorem z26 (h : EdF p d) (m : Nat) (a : Pt p d) : ∀ n, pmul h (m + n) a = padd h (pmul h m a) (pmul h n a)
 | 0 => by rw [Nat.add_zero, z5g, z05]
 | n + 1 => by rw [← Nat.add_assoc, z3x, z26 h m a n, z0v, ← z3x]
theorem z3w (h : EdF p d) (n : Nat) (a : Pt p d) : pmul h (2 * n) a = padd h (pmul h n a) (pmul h n a) := by rw [Nat.two_mul, z26]
theorem z5i (h : EdF p d) (a b c e : Pt p d) : padd h (padd h a b) (padd h c e) = padd h (padd h a c) (padd h b e) := by
 rw [z0v, ← z0v h b c e, z2x h b c, z0v h c b e, ← z0v]
theorem padd_left (h : EdF p d) {a b c : Pt p d} (e : padd h a b = padd h a c) : b = c := by
 have h1 := congrArg (padd h (pneg a)) e
 rwa [← z0v, ← z0v, z2x h (pneg a) a, z14, z2q, z2q] at h1
theorem pneg_of (h : EdF p d) {a b : Pt p d} (e : padd h a b = pzero) : b = pneg a := padd_left h (e.trans (z14 h a).symm)
theorem z7c (h : EdF p d) (a b : Pt p d) : pneg (padd h a b) = padd h (pneg a) (pneg b) :=
 (pneg_of h (by rw [z5i, z14, z14, z05])).symm
def z1e : Pt p d := ⟨1, 0, by grind⟩
def phalf : Pt p d := ⟨0, -1, by grind⟩
end
structure Rp {p : Nat} [NeZero p] {d : Fin p} (X Y Z : Fin p) (P : Pt p d) : Prop where
 x : X = P.x * Z
 y : Y = P.y * Z
 z : Z ≠ 0
section
variable {p : Nat} [NeZero p] {d X1 Y1 Z1 X2 Y2 Z2 : Fin p} {P Q : Pt p d}
theorem Rp.zero (h : EdF p d) : Rp (0 : Fin p) 1 1 (pzero : Pt p d) := ⟨by show (0 : Fin p) = 0 * 1; grind, by show (1 : Fin p) = 1 * 1; grind, z13 h.pr⟩
theorem Rp.one (h : EdF p d) (P : Pt p d) : Rp P.x P.y 1 P := ⟨by grind, by grind, z13 h.pr⟩
theorem rep_sum {a b u v Z1 Z2 d x y : Fin p} (hx : x * (1 + d * (a * u * (b * v))) = a * v + u * b) (hy : y * (1 - d * (a * u * (b * v))) = b * v - a * u) :
  Z1 * Z2 * (a * Z1 * (v * Z2) + u * Z2 * (b * Z1)) = x * (Z1 * Z2 * (Z1 * Z2) + d * (a * Z1 * (v * Z2) * (u * Z2 * (b * Z1)))) ∧
  Z1 * Z2 * (b * Z1 * (v * Z2) - a * Z1 * (u * Z2)) = y * (Z1 * Z2 * (Z1 * Z2) - d * (a * Z1 * (v * Z2) * (u * Z2 * (b * Z1)))) ∧
  Z1 * Z2 * (Z1 * Z2) + d * (a * Z1 * (v * Z2) * (u * Z2 * (b * Z1))) = Z1 * Z2 * (Z1 * Z2) * (1 + d * (a * u * (b * v))) ∧
  Z1 * Z2 * (Z1 * Z2) - d * (a * Z1 * (v * Z2) * (u * Z2 * (b * Z1))) = Z1 * Z2 * (Z1 * Z2) * (1 - d * (a * u * (b * v))) := by
 refine ⟨?_, ?_, ?_, ?_⟩ <;> grind
theorem Rp.add (h : EdF p d) (r1 : Rp X1 Y1 Z1 P) (r2 : Rp X2 Y2 Z2 Q) :
  Rp (Z1 * Z2 * (X1 * Y2 + X2 * Y1) * (Z1 * Z2 * (Z1 * Z2) - d * (X1 * Y2 * (X2 * Y1)))) (Z1 * Z2 * (Y1 * Y2 - X1 * X2) * (Z1 * Z2 * (Z1 * Z2) + d * (X1 * Y2 * (X2 * Y1))))
   ((Z1 * Z2 * (Z1 * Z2) + d * (X1 * Y2 * (X2 * Y1))) * (Z1 * Z2 * (Z1 * Z2) - d * (X1 * Y2 * (X2 * Y1)))) (padd h P Q) := by
 obtain ⟨e1, e2, n1⟩ := r1
 obtain ⟨e3, e4, n2⟩ := r2
 subst e1 e2 e3 e4
 obtain ⟨f1, f2, f3, f4⟩ := rep_sum (Z1 := Z1) (Z2 := Z2) (z3h h P Q) (z3g h P Q)
 have nz := z0j h.pr n1 n2
 have u1 := z0j h.pr (z0j h.pr nz nz) (h.plus P Q)
 have u2 := z0j h.pr (z0j h.pr nz nz) (h.minus P Q)
 rw [← f3] at u1
 rw [← f4] at u2
 rw [f1, f2]
 clear f1 f2 f3 f4
 generalize Z1 * Z2 * (Z1 * Z2) + d * (P.x * Z1 * (Q.y * Z2) * (Q.x * Z2 * (P.y * Z1))) = G at *
 generalize Z1 * Z2 * (Z1 * Z2) - d * (P.x * Z1 * (Q.y * Z2) * (Q.x * Z2 * (P.y * Z1))) = F at *
 refine ⟨?_, ?_, z0j h.pr u1 u2⟩
 ·show (padd h P Q).x * G * F = _
  grind
 ·show (padd h P Q).y * F * G = _
  grind
theorem Rp.same (h : EdF p d) (r1 : Rp X1 Y1 Z1 P) (r2 : Rp X2 Y2 Z2 Q) : P = Q ↔ X1 * Z2 = X2 * Z1 ∧ Y1 * Z2 = Y2 * Z1 := by
 obtain ⟨e1, e2, n1⟩ := r1
 obtain ⟨e3, e4, n2⟩ := r2
 subst e1 e2 e3 e4
 constructor
 ·rintro rfl
  constructor <;> grind
 ·rintro ⟨h1, h2⟩
  have nz := z0j h.pr n1 n2
  refine Pt.same (z0u h.pr nz ?_) (z0u h.pr nz ?_)
  ·clear h2
   grind
  ·clear h1
   grind
theorem Rp.affine (h : EdF p d) (r : Rp X1 Y1 Z1 P) : X1 * inv Z1 = P.x ∧ Y1 * inv Z1 = P.y := by
 have h1 := z5p h.pr r.z
 obtain ⟨e1, e2, n1⟩ := r
 subst e1 e2
 clear n1
 constructor <;> grind
end
section
variable {p : Nat} [NeZero p]
def cN (p : Nat) [NeZero p] (n : Nat) : Fin p := ⟨n % p, Nat.mod_lt _ (Nat.pos_of_ne_zero (NeZero.ne p))⟩
end
def dN : Nat := pN - 39081
def dK : Fin pN := cN pN dN
def rD : Fin pN := ⟨627894490647874670780146803011075515225223784391788159207390309582568626050729514829594252134780030556161172229750791477826575600769225, by decide +kernel⟩
theorem dK_root : dK = -(rD * rD) := by decide +kernel
theorem rD_ne : rD ≠ 0 := by decide +kernel
theorem edK : EdF pN dK := ⟨z0y, by decide +kernel, fun u v e => by
 have h1 : u * u = -(rD * v * (rD * v)) := by
  rw [e, dK_root]
  generalize rD = r
  grind
 have h2 := (z20 z0y pN_c h1).2
 rcases z0r z0y h2 with h | h
 ·exact absurd h rD_ne
 ·exact h⟩
def bxN : Nat := 224580040295924300187604334099896036246789641632564134246125461686950415467406032909029192869357953282578032075146446173674602635247710
def byN : Nat := 298819210078481492676017930443930673437544040154080242095928241372331506189835876003536878655418784733982303233503462500531545062832660
def pB : Pt pN dK := ⟨cN pN bxN, cN pN byN, by decide +kernel⟩
def spot (k q : Nat) : Pt pN dK := padd edK (pmul edK k pB) (pmul edK q z1e)
end Go.Proofs.YtoeokhfhcpcjlaaGreatDoor
