/- Lemmas; no statement is proved here. -/
import Derived.Test.YtgjbonikbmgfmaaGreatDoorBuK
import Derived.Test.YtgjbonikbmgfmaaGreatDoorBuS
namespace Go.Proofs.YtgjbonikbmgfmaaGreatDoor
section
variable {p : Nat} [NeZero p]
theorem ed_assoc_x {d x1 y1 t1 x2 y2 t2 x3 y3 t3 : Fin p} (a1 : x1 * y1 = t1) (b1 : y1 * y1 = 1 + d * t1 * t1 - x1 * x1) (a2 : x2 * y2 = t2) (b2 : y2 * y2 = 1 + d * t2 * t2 - x2 * x2) (a3 : x3 * y3 = t3) (b3 : y3 * y3 = 1 + d * t3 * t3 - x3 * x3) :
  ((x1 * y2 + y1 * x2) * (1 - d * t1 * t2) * y3 + (y1 * y2 - x1 * x2) * (1 + d * t1 * t2) * x3) * ((1 - d * t2 * t3) * (1 + d * t2 * t3) + d * t1 * ((x2 * y3 + y2 * x3) * (y2 * y3 - x2 * x3)))
  = (x1 * ((y2 * y3 - x2 * x3) * (1 + d * t2 * t3)) + y1 * ((x2 * y3 + y2 * x3) * (1 - d * t2 * t3))) * ((1 - d * t1 * t2) * (1 + d * t1 * t2) + d * ((x1 * y2 + y1 * x2) * (y1 * y2 - x1 * x2)) * t3) := by
 grind
theorem ed_assoc_y {d x1 y1 t1 x2 y2 t2 x3 y3 t3 : Fin p} (a1 : x1 * y1 = t1) (b1 : y1 * y1 = 1 + d * t1 * t1 - x1 * x1) (a2 : x2 * y2 = t2) (b2 : y2 * y2 = 1 + d * t2 * t2 - x2 * x2) (a3 : x3 * y3 = t3) (b3 : y3 * y3 = 1 + d * t3 * t3 - x3 * x3) :
  ((y1 * y2 - x1 * x2) * (1 + d * t1 * t2) * y3 - (x1 * y2 + y1 * x2) * (1 - d * t1 * t2) * x3) * ((1 - d * t2 * t3) * (1 + d * t2 * t3) - d * t1 * ((x2 * y3 + y2 * x3) * (y2 * y3 - x2 * x3)))
  = (y1 * ((y2 * y3 - x2 * x3) * (1 + d * t2 * t3)) - x1 * ((x2 * y3 + y2 * x3) * (1 - d * t2 * t3))) * ((1 - d * t1 * t2) * (1 + d * t1 * t2) - d * ((x1 * y2 + y1 * x2) * (y1 * y2 - x1 * x2)) * t3) := by
 grind
theorem z0e (hp : prime p) {a b : Fin p} (ha : a ≠ 0) (hb : b ≠ 0) : a * b ≠ 0 := fun e => by
 rcases z02 hp e with h | h <;> contradiction
theorem ed_den (hp : prime p) (h2 : p ≠ 2) {d : Fin p} (hd : ∀ u v : Fin p, u * u = d * (v * v) → v = 0) {x1 y1 x2 y2 e : Fin p} (he : e * e = 1)
  (o1 : x1 * x1 + y1 * y1 = 1 + d * (x1 * x1 * (y1 * y1))) (o2 : x2 * x2 + y2 * y2 = 1 + d * (x2 * x2 * (y2 * y2))) : d * (x1 * x2 * (y1 * y2)) ≠ e := by
 intro h
 have h1 : (x1 + e * y1) * (x1 + e * y1) = d * (x1 * y1 * (x2 + y2) * (x1 * y1 * (x2 + y2))) := by
  subst h
  grind
 have h3 : (x1 - e * y1) * (x1 - e * y1) = d * (x1 * y1 * (x2 - y2) * (x1 * y1 * (x2 - y2))) := by
  subst h
  grind
 have k1 := hd _ _ h1
 have k2 := hd _ _ h3
 have e0 : e ≠ 0 := fun e0 => z06 hp (by rw [← he, e0]; grind)
 have n1 : x1 * y1 ≠ 0 := fun e1 => e0 (by rw [← h]; grind)
 have n2 : x2 * y2 ≠ 0 := fun e1 => e0 (by rw [← h]; grind)
 rcases z02 hp k1 with c | c
 ·exact n1 c
 ·rcases z02 hp k2 with c' | c'
  ·exact n1 c'
  ·have hx : x2 = -x2 := by grind
   exact n2 (by rw [y6a hp h2 hx]; grind)
end
structure EdF (p : Nat) [NeZero p] (d : Fin p) : Prop where
 pr : prime p
 two : p ≠ 2
 no : ∀ u v : Fin p, u * u = d * (v * v) → v = 0
structure Pt (p : Nat) [NeZero p] (d : Fin p) where
 x : Fin p
 y : Fin p
 on : x * x + y * y = 1 + d * (x * x * (y * y))
section
variable {p : Nat} [NeZero p] {d : Fin p}
theorem Pt.same {a b : Pt p d} (hx : a.x = b.x) (hy : a.y = b.y) : a = b := by
 cases a
 cases b
 cases hx
 cases hy
 rfl
theorem EdF.plus (h : EdF p d) (a b : Pt p d) : 1 + d * (a.x * b.x * (a.y * b.y)) ≠ 0 := fun e =>
 ed_den h.pr h.two h.no (e := -1) (by grind) a.on b.on (by grind)
theorem EdF.minus (h : EdF p d) (a b : Pt p d) : 1 - d * (a.x * b.x * (a.y * b.y)) ≠ 0 := fun e =>
 ed_den h.pr h.two h.no (e := 1) (by grind) a.on b.on (by grind)
def sx (a b : Pt p d) : Fin p := (a.x * b.y + b.x * a.y) * inv (1 + d * (a.x * b.x * (a.y * b.y)))
def sy (a b : Pt p d) : Fin p := (a.y * b.y - a.x * b.x) * inv (1 - d * (a.x * b.x * (a.y * b.y)))
theorem y7n (h : EdF p d) (a b : Pt p d) : sx a b * (1 + d * (a.x * b.x * (a.y * b.y))) = a.x * b.y + b.x * a.y := by
 have := z3n h.pr (h.plus a b)
 unfold sx
 grind
theorem y7m (h : EdF p d) (a b : Pt p d) : sy a b * (1 - d * (a.x * b.x * (a.y * b.y))) = a.y * b.y - a.x * b.x := by
 have := z3n h.pr (h.minus a b)
 unfold sy
 grind
theorem ed_on {d x1 y1 x2 y2 x y : Fin p} (o1 : x1 * x1 + y1 * y1 = 1 + d * (x1 * x1 * (y1 * y1))) (o2 : x2 * x2 + y2 * y2 = 1 + d * (x2 * x2 * (y2 * y2)))
  (hx : x * (1 + d * (x1 * x2 * (y1 * y2))) = x1 * y2 + x2 * y1) (hy : y * (1 - d * (x1 * x2 * (y1 * y2))) = y1 * y2 - x1 * x2) :
  ((1 + d * (x1 * x2 * (y1 * y2))) * (1 - d * (x1 * x2 * (y1 * y2))) * ((1 + d * (x1 * x2 * (y1 * y2))) * (1 - d * (x1 * x2 * (y1 * y2))))) * (x * x + y * y - (1 + d * (x * x * (y * y)))) = 0 := by
 have e1 : (x1 * y2 + x2 * y1) * (x1 * y2 + x2 * y1) * ((1 - d * (x1 * x2 * (y1 * y2))) * (1 - d * (x1 * x2 * (y1 * y2)))) + (y1 * y2 - x1 * x2) * (y1 * y2 - x1 * x2) * ((1 + d * (x1 * x2 * (y1 * y2))) * (1 + d * (x1 * x2 * (y1 * y2))))
   - ((1 + d * (x1 * x2 * (y1 * y2))) * (1 - d * (x1 * x2 * (y1 * y2))) * ((1 + d * (x1 * x2 * (y1 * y2))) * (1 - d * (x1 * x2 * (y1 * y2)))) + d * ((x1 * y2 + x2 * y1) * (x1 * y2 + x2 * y1) * ((y1 * y2 - x1 * x2) * (y1 * y2 - x1 * x2)))) = 0 := by
  clear hx hy
  grind
 rw [← hx, ← hy] at e1
 generalize 1 + d * (x1 * x2 * (y1 * y2)) = G at *
 generalize 1 - d * (x1 * x2 * (y1 * y2)) = F at *
 clear o1 o2 hx hy
 grind
theorem sum_on (h : EdF p d) (a b : Pt p d) : sx a b * sx a b + sy a b * sy a b = 1 + d * (sx a b * sx a b * (sy a b * sy a b)) := by
 have h1 := ed_on a.on b.on (y7n h a b) (y7m h a b)
 have h2 := z0e h.pr (h.plus a b) (h.minus a b)
 rcases z02 h.pr h1 with c | c
 ·exact absurd c (z0e h.pr h2 h2)
 ·generalize sx a b = x at *
  generalize sy a b = y at *
  clear h1 h2
  grind
def z6 (h : EdF p d) (a b : Pt p d) : Pt p d := ⟨sx a b, sy a b, sum_on h a b⟩
theorem sx_of (h : EdF p d) {a b : Pt p d} {x : Fin p} (hx : x * (1 + d * (a.x * b.x * (a.y * b.y))) = a.x * b.y + b.x * a.y) : sx a b = x := by
 have h1 := y7n h a b
 refine z0u h.pr (h.plus a b) ?_
 rw [← hx] at h1
 grind
theorem sy_of (h : EdF p d) {a b : Pt p d} {y : Fin p} (hy : y * (1 - d * (a.x * b.x * (a.y * b.y))) = a.y * b.y - a.x * b.x) : sy a b = y := by
 have h1 := y7m h a b
 refine z0u h.pr (h.minus a b) ?_
 rw [← hy] at h1
 grind
theorem y1q (h : EdF p d) {a b c : Pt p d} (hx : c.x * (1 + d * (a.x * b.x * (a.y * b.y))) = a.x * b.y + b.x * a.y) (hy : c.y * (1 - d * (a.x * b.x * (a.y * b.y))) = a.y * b.y - a.x * b.x) : z6 h a b = c :=
 Pt.same (sx_of h hx) (sy_of h hy)
theorem z7j (h : EdF p d) (a b : Pt p d) : (z6 h a b).x * (1 + d * (a.x * b.x * (a.y * b.y))) = a.x * b.y + b.x * a.y := y7n h a b
theorem z9x (h : EdF p d) (a b : Pt p d) : (z6 h a b).y * (1 - d * (a.x * b.x * (a.y * b.y))) = a.y * b.y - a.x * b.x := y7m h a b
theorem z11 (h : EdF p d) (a b : Pt p d) : z6 h a b = z6 h b a := by
 have h1 := z7j h b a
 have h2 := z9x h b a
 refine y1q h ?_ ?_
 ·grind
 ·grind
def z0v : Pt p d := ⟨0, 1, by grind⟩
theorem z0n (h : EdF p d) (a : Pt p d) : z6 h a z0v = a := by
 refine y1q h ?_ ?_
 ·show a.x * (1 + d * (a.x * 0 * (a.y * 1))) = a.x * 1 + 0 * a.y
  grind
 ·show a.y * (1 - d * (a.x * 0 * (a.y * 1))) = a.y * 1 - a.x * 0
  grind
theorem z2m (h : EdF p d) (a : Pt p d) : z6 h z0v a = a := by rw [z11, z0n]
def pneg (a : Pt p d) : Pt p d := ⟨-a.x, a.y, by have := a.on; grind⟩
theorem z2n (h : EdF p d) (a : Pt p d) : z6 h a (pneg a) = z0v := by
 have h1 := a.on
 refine y1q h ?_ ?_
 ·show (0 : Fin p) * (1 + d * (a.x * -a.x * (a.y * a.y))) = a.x * a.y + -a.x * a.y
  grind
 ·show (1 : Fin p) * (1 - d * (a.x * -a.x * (a.y * a.y))) = a.y * a.y - a.x * -a.x
  grind
theorem on_b (a : Pt p d) : a.y * a.y = 1 + d * (a.x * a.y) * (a.x * a.y) - a.x * a.x := by
 have := a.on
 grind
theorem g_form (d x y u v : Fin p) : 1 + d * (x * y) * (u * v) = 1 + d * (x * u * (y * v)) := by grind
theorem f_form (d x y u v : Fin p) : 1 - d * (x * y) * (u * v) = 1 - d * (x * u * (y * v)) := by grind
theorem e_form (x y u v : Fin p) : x * v + y * u = x * v + u * y := by grind
theorem z0r (h : EdF p d) (a b c : Pt p d) : z6 h (z6 h a b) c = z6 h a (z6 h b c) := by
 have ga := h.plus a b
 have fa := h.minus a b
 have gc := h.plus b c
 have fc := h.minus b c
 have x1 := z7j h a b
 have y1 := z9x h a b
 have x2 := z7j h b c
 have y2 := z9x h b c
 have x3 := z7j h a (z6 h b c)
 have y3 := z9x h a (z6 h b c)
 have g1 := h.plus a (z6 h b c)
 have f1 := h.minus a (z6 h b c)
 have ax := ed_assoc_x (d := d) (x1 := a.x) (y1 := a.y) (x2 := b.x) (y2 := b.y) (x3 := c.x) (y3 := c.y) rfl (on_b a) rfl (on_b b) rfl (on_b c)
 have ay := ed_assoc_y (d := d) (x1 := a.x) (y1 := a.y) (x2 := b.x) (y2 := b.y) (x3 := c.x) (y3 := c.y) rfl (on_b a) rfl (on_b b) rfl (on_b c)
 have G1 : 1 + d * (a.x * a.y) * (b.x * b.y) = 1 + d * (a.x * b.x * (a.y * b.y)) := g_form _ _ _ _ _
 have F1 : 1 - d * (a.x * a.y) * (b.x * b.y) = 1 - d * (a.x * b.x * (a.y * b.y)) := f_form _ _ _ _ _
 have G2 : 1 + d * (b.x * b.y) * (c.x * c.y) = 1 + d * (b.x * c.x * (b.y * c.y)) := g_form _ _ _ _ _
 have F2 : 1 - d * (b.x * b.y) * (c.x * c.y) = 1 - d * (b.x * c.x * (b.y * c.y)) := f_form _ _ _ _ _
 have E1 : a.x * b.y + a.y * b.x = a.x * b.y + b.x * a.y := e_form _ _ _ _
 have E2 : b.x * c.y + b.y * c.x = b.x * c.y + c.x * b.y := e_form _ _ _ _
 rw [G1, F1, G2, F2, E1, E2, ← x1, ← y1, ← x2, ← y2] at ax ay
 clear G1 F1 G2 F2 E1 E2 x1 y1 x2 y2
 generalize z6 h b c = q at *
 refine y1q h ?_ ?_
 ·generalize (z6 h a q).x = X at *
  refine z0u h.pr (z0e h.pr (z0e h.pr ga fa) (z0e h.pr (z0e h.pr gc fc) g1)) ?_
  generalize z6 h a b = r at *
  generalize 1 + d * (a.x * b.x * (a.y * b.y)) = G at *
  generalize 1 - d * (a.x * b.x * (a.y * b.y)) = F at *
  generalize 1 + d * (b.x * c.x * (b.y * c.y)) = g at *
  generalize 1 - d * (b.x * c.x * (b.y * c.y)) = f at *
  clear ay y3 f1 ga fa gc fc g1
  grind
 ·generalize (z6 h a q).y = Y at *
  refine z0u h.pr (z0e h.pr (z0e h.pr ga fa) (z0e h.pr (z0e h.pr gc fc) f1)) ?_
  generalize z6 h a b = r at *
  generalize 1 + d * (a.x * b.x * (a.y * b.y)) = G at *
  generalize 1 - d * (a.x * b.x * (a.y * b.y)) = F at *
  generalize 1 + d * (b.x * c.x * (b.y * c.y)) = g at *
  generalize 1 - d * (b.x * c.x * (b.y * c.y)) = f at *
  clear ax x3 g1 ga fa gc fc f1
  grind
def zF (h : EdF p d) : Nat → Pt p d → Pt p d
 | 0, _ => z0v
 | n + 1, a => z6 h (zF h n a) a
theorem z4r (h : EdF p d) (a : Pt p d) : zF h 0 a = z0v := rfl
theorem z1q (h : EdF p d) (n : Nat) (a : Pt p d) : zF h (n + 1) a = z6 h (zF h n a) a := rfl
theorem z3s (h : EdF p d) (a : Pt p d) : zF h 1 a = a := z2m h a
theorem z2g (h : EdF p d) (m : Nat) (a : Pt p d) : ∀ n, zF h (m + n) a = z6 h (zF h m a) (zF h n a)
 | 0 => by rw [Nat.add_zero, z4r, z0n]
 | n + 1 => by rw [← Nat.add_assoc, z1q, z2g h m a n, z0r, ← z1q]
theorem z2x (h : EdF p d) (n : Nat) (a : Pt p d) : zF h (2 * n) a = z6 h (zF h n a) (zF h n a) := by rw [Nat.two_mul, z2g]
theorem z2y (h : EdF p d) (a b c e : Pt p d) : z6 h (z6 h a b) (z6 h c e) = z6 h (z6 h a c) (z6 h b e) := by
 rw [z0r, ← z0r h b c e, z11 h b c, z0r h c b e, ← z0r]
theorem z7h (h : EdF p d) (a b : Pt p d) : ∀ n, zF h n (z6 h a b) = z6 h (zF h n a) (zF h n b)
 | 0 => by rw [z4r, z4r, z4r, z0n]
 | n + 1 => by rw [z1q, z7h h a b n, z1q, z1q, z2y]
theorem z32 (h : EdF p d) : ∀ n, zF h n (z0v : Pt p d) = z0v
 | 0 => rfl
 | n + 1 => by rw [z1q, z32 h n, z0n]
theorem z3t (h : EdF p d) (m : Nat) (a : Pt p d) : ∀ n, zF h (m * n) a = zF h n (zF h m a)
 | 0 => rfl
 | n + 1 => by rw [Nat.mul_succ, z2g, z3t h m a n, z1q]
theorem y1o (h : EdF p d) {l : Nat} {a : Pt p d} (hl : zF h l a = z0v) (n : Nat) : zF h (n % l) a = zF h n a := by
 have := z2g h (l * (n / l)) a (n % l)
 rw [Nat.div_add_mod, z3t, hl, z32, z2m] at this
 exact this.symm
theorem z5w (h : EdF p d) {a b c : Pt p d} (e : z6 h a b = z6 h a c) : b = c := by
 have h1 := congrArg (z6 h (pneg a)) e
 rwa [← z0r, ← z0r, z11 h (pneg a) a, z2n, z2m, z2m] at h1
def z08 : Pt p d := ⟨1, 0, by grind⟩
def z5n : Pt p d := ⟨0, -1, by grind⟩
theorem z3h (h : EdF p d) (a : Pt p d) : (z6 h a z08).x = a.y ∧ (z6 h a z08).y = -a.x := by
 constructor
 ·refine sx_of h ?_
  show a.y * (1 + d * (a.x * 1 * (a.y * 0))) = a.x * 0 + 1 * a.y
  grind
 ·refine sy_of h ?_
  show -a.x * (1 - d * (a.x * 1 * (a.y * 0))) = a.y * 0 - a.x * 1
  grind
theorem z7k (h : EdF p d) (a : Pt p d) : (z6 h a z5n).x = -a.x ∧ (z6 h a z5n).y = -a.y := by
 constructor
 ·refine sx_of h ?_
  show -a.x * (1 + d * (a.x * 0 * (a.y * -1))) = a.x * -1 + 0 * a.y
  grind
 ·refine sy_of h ?_
  show -a.y * (1 - d * (a.x * 0 * (a.y * -1))) = a.y * -1 - a.x * 0
  grind
theorem z36 (h : EdF p d) : z6 h (z08 : Pt p d) z08 = z5n :=
 Pt.same (z3h h _).1 (z3h h _).2
theorem z7q (h : EdF p d) : z6 h (z5n : Pt p d) z5n = z0v :=
 Pt.same ((z7k h _).1.trans (by show -(0 : Fin p) = 0; grind)) ((z7k h _).2.trans (by show - -(1 : Fin p) = 1; grind))
theorem z5t (h : EdF p d) : zF h 4 (z08 : Pt p d) = z0v := by
 rw [show 4 = 2 * 2 from rfl, z2x, z1q, z3s, z36, z7q]
end
structure Rp {p : Nat} [NeZero p] {d : Fin p} (X Y Z : Fin p) (P : Pt p d) : Prop where
 x : X = P.x * Z
 y : Y = P.y * Z
 z : Z ≠ 0
section
variable {p : Nat} [NeZero p] {d X1 Y1 Z1 X2 Y2 Z2 : Fin p} {P Q : Pt p d}
theorem Rp.zero (h : EdF p d) : Rp (0 : Fin p) 1 1 (z0v : Pt p d) := ⟨by show (0 : Fin p) = 0 * 1; grind, by show (1 : Fin p) = 1 * 1; grind, z06 h.pr⟩
theorem Rp.one (h : EdF p d) (P : Pt p d) : Rp P.x P.y 1 P := ⟨by grind, by grind, z06 h.pr⟩
theorem rep_sum {a b u v Z1 Z2 d x y : Fin p} (hx : x * (1 + d * (a * u * (b * v))) = a * v + u * b) (hy : y * (1 - d * (a * u * (b * v))) = b * v - a * u) :
  Z1 * Z2 * (a * Z1 * (v * Z2) + u * Z2 * (b * Z1)) = x * (Z1 * Z2 * (Z1 * Z2) + d * (a * Z1 * (v * Z2) * (u * Z2 * (b * Z1)))) ∧
  Z1 * Z2 * (b * Z1 * (v * Z2) - a * Z1 * (u * Z2)) = y * (Z1 * Z2 * (Z1 * Z2) - d * (a * Z1 * (v * Z2) * (u * Z2 * (b * Z1)))) ∧
  Z1 * Z2 * (Z1 * Z2) + d * (a * Z1 * (v * Z2) * (u * Z2 * (b * Z1))) = Z1 * Z2 * (Z1 * Z2) * (1 + d * (a * u * (b * v))) ∧
  Z1 * Z2 * (Z1 * Z2) - d * (a * Z1 * (v * Z2) * (u * Z2 * (b * Z1))) = Z1 * Z2 * (Z1 * Z2) * (1 - d * (a * u * (b * v))) := by
 refine ⟨?_, ?_, ?_, ?_⟩ <;> grind
theorem Rp.add (h : EdF p d) (r1 : Rp X1 Y1 Z1 P) (r2 : Rp X2 Y2 Z2 Q) :
  Rp (Z1 * Z2 * (X1 * Y2 + X2 * Y1) * (Z1 * Z2 * (Z1 * Z2) - d * (X1 * Y2 * (X2 * Y1)))) (Z1 * Z2 * (Y1 * Y2 - X1 * X2) * (Z1 * Z2 * (Z1 * Z2) + d * (X1 * Y2 * (X2 * Y1))))
   ((Z1 * Z2 * (Z1 * Z2) + d * (X1 * Y2 * (X2 * Y1))) * (Z1 * Z2 * (Z1 * Z2) - d * (X1 * Y2 * (X2 * Y1)))) (z6 h P Q) := by
 obtain ⟨e1, e2, n1⟩ := r1
 obtain ⟨e3, e4, n2⟩ := r2
 subst e1 e2 e3 e4
 obtain ⟨f1, f2, f3, f4⟩ := rep_sum (Z1 := Z1) (Z2 := Z2) (z7j h P Q) (z9x h P Q)
 have nz := z0e h.pr n1 n2
 have u1 := z0e h.pr (z0e h.pr nz nz) (h.plus P Q)
 have u2 := z0e h.pr (z0e h.pr nz nz) (h.minus P Q)
 rw [← f3] at u1
 rw [← f4] at u2
 rw [f1, f2]
 clear f1 f2 f3 f4
 generalize Z1 * Z2 * (Z1 * Z2) + d * (P.x * Z1 * (Q.y * Z2) * (Q.x * Z2 * (P.y * Z1))) = G at *
 generalize Z1 * Z2 * (Z1 * Z2) - d * (P.x * Z1 * (Q.y * Z2) * (Q.x * Z2 * (P.y * Z1))) = F at *
 refine ⟨?_, ?_, z0e h.pr u1 u2⟩
 ·show (z6 h P Q).x * G * F = _
  grind
 ·show (z6 h P Q).y * F * G = _
  grind
theorem Rp.same (h : EdF p d) (r1 : Rp X1 Y1 Z1 P) (r2 : Rp X2 Y2 Z2 Q) : P = Q ↔ X1 * Z2 = X2 * Z1 ∧ Y1 * Z2 = Y2 * Z1 := by
 obtain ⟨e1, e2, n1⟩ := r1
 obtain ⟨e3, e4, n2⟩ := r2
 subst e1 e2 e3 e4
 constructor
 ·rintro rfl
  constructor <;> grind
 ·rintro ⟨h1, h2⟩
  have nz := z0e h.pr n1 n2
  refine Pt.same (z0u h.pr nz ?_) (z0u h.pr nz ?_)
  ·clear h2
   grind
  ·clear h1
   grind
theorem Rp.affine (h : EdF p d) (r : Rp X1 Y1 Z1 P) : X1 * inv Z1 = P.x ∧ Y1 * inv Z1 = P.y := by
 have h1 := z3n h.pr r.z
 obtain ⟨e1, e2, n1⟩ := r
 subst e1 e2
 clear n1
 constructor <;> grind
end
section
variable {p : Nat} [NeZero p]
def cN (p : Nat) [NeZero p] (n : Nat) : Fin p := ⟨n % p, Nat.mod_lt _ (Nat.pos_of_ne_zero (NeZero.ne p))⟩
theorem cN_mod (n : Nat) : cN p (n % p) = cN p n := Fin.ext (Nat.mod_mod _ _)
theorem cN_mul (a b : Nat) : cN p (a * b) = cN p a * cN p b := Fin.ext (by rw [Fin.val_mul]; exact Nat.mul_mod _ _ _)
theorem cN_add (a b : Nat) : cN p (a + b) = cN p a + cN p b := Fin.ext (by rw [Fin.val_add]; exact Nat.add_mod _ _ _)
theorem y4k : cN p 0 = 0 := Fin.ext (Nat.zero_mod _)
theorem cN_self : cN p p = 0 := Fin.ext ((Nat.mod_self p).trans (show 0 = (0 : Fin p).val from rfl))
theorem cN_sub (a : Nat) : cN p (p - a % p) = -cN p a := by
 have h1 : cN p (p - a % p) + cN p (a % p) = 0 := by
  rw [← cN_add, Nat.sub_add_cancel (Nat.le_of_lt (Nat.mod_lt _ (Nat.pos_of_ne_zero (NeZero.ne p)))), cN_self]
 rw [cN_mod] at h1
 generalize cN p (p - a % p) = u at *
 generalize cN p a = v at *
 grind
def addE (p D X1 Y1 Z1 X2 Y2 Z2 : Nat) : Nat × Nat × Nat :=
 let z := Z1 * Z2 % p
 let one := z * z % p
 let a := X1 * Y2 % p
 let b := X2 * Y1 % p
 let t := D * (a * b % p) % p
 let up := (one + t) % p
 let dn := (one + (p - t % p)) % p
 (z * ((a + b) % p) % p * dn % p, z * ((Y1 * Y2 + (p - X1 * X2 % p)) % p) % p * up % p, up * dn % p)
theorem y9w {d : Fin p} (h : EdF p d) {D X1 Y1 Z1 X2 Y2 Z2 : Nat} (hD : cN p D = d) {P Q : Pt p d} (r1 : Rp (cN p X1) (cN p Y1) (cN p Z1) P) (r2 : Rp (cN p X2) (cN p Y2) (cN p Z2) Q) :
  Rp (cN p (addE p D X1 Y1 Z1 X2 Y2 Z2).1) (cN p (addE p D X1 Y1 Z1 X2 Y2 Z2).2.1) (cN p (addE p D X1 Y1 Z1 X2 Y2 Z2).2.2) (z6 h P Q) := by
 have r := Rp.add h r1 r2
 unfold addE
 simp only [cN_mod, cN_mul, cN_add, cN_sub, hD]
 rw [Fin.sub_eq_add_neg, Fin.sub_eq_add_neg] at r
 exact r
def mulE (p D bx y : Nat) : Nat → Nat → Nat × Nat × Nat
 | 0, _ => (0, 1, 1)
 | k + 1, e =>
  let r := mulE p D bx y k (e / 2)
  let s := addE p D r.1 r.2.1 r.2.2 r.1 r.2.1 r.2.2
  if e % 2 = 1 then addE p D s.1 s.2.1 s.2.2 bx y 1 else s
theorem y8p {d : Fin p} (h : EdF p d) {D bx y : Nat} (hD : cN p D = d) {P : Pt p d} (hx : cN p bx = P.x) (hy : cN p y = P.y) :
  ∀ k e, e < 2 ^ k → Rp (cN p (mulE p D bx y k e).1) (cN p (mulE p D bx y k e).2.1) (cN p (mulE p D bx y k e).2.2) (zF h e P)
 | 0, e, he => by
  obtain rfl : e = 0 := by simpa using he
  show Rp (cN p 0) (cN p 1) (cN p 1) z0v
  have h1 : cN p 1 = 1 := rfl
  rw [y4k, h1]
  exact Rp.zero h
 | k + 1, e, he => by
  have r := y8p h hD hx hy k (e / 2) (by rw [Nat.pow_succ] at he; omega)
  have s := y9w h hD r r
  rw [← z2x] at s
  unfold mulE
  by_cases h1 : e % 2 = 1
  ·simp only [h1, if_true]
   have b : Rp (cN p bx) (cN p y) (cN p 1) P := by
    rw [hx, hy]
    exact Rp.one h P
   have t := y9w h hD s b
   rw [← z1q, show 2 * (e / 2) + 1 = e by omega] at t
   exact t
  ·simp only [h1, if_false]
   rw [show 2 * (e / 2) = e by omega] at s
   exact s
end
def dN : Nat := pN - 39081
def dK : Fin pN := cN pN dN
def rD : Fin pN := ⟨627894490647874670780146803011075515225223784391788159207390309582568626050729514829594252134780030556161172229750791477826575600769225, by decide +kernel⟩
theorem dK_root : dK = -(rD * rD) := by decide +kernel
theorem y63 : rD ≠ 0 := by decide +kernel
theorem zB : EdF pN dK := ⟨z0q, by decide +kernel, fun u v e => by
 have h1 : u * u = -(rD * v * (rD * v)) := by
  rw [e, dK_root]
  generalize rD = r
  grind
 have h2 := (z4d z0q pN_c h1).2
 rcases z02 z0q h2 with h | h
 ·exact absurd h y63
 ·exact h⟩
def bxN : Nat := 224580040295924300187604334099896036246789641632564134246125461686950415467406032909029192869357953282578032075146446173674602635247710
def byN : Nat := 298819210078481492676017930443930673437544040154080242095928241372331506189835876003536878655418784733982303233503462500531545062832660
def pB : Pt pN dK := ⟨cN pN bxN, cN pN byN, by decide +kernel⟩
theorem z9z : (mulE pN dN bxN byN 446 lN).1 = 0 ∧ (mulE pN dN bxN byN 446 lN).2.1 = (mulE pN dN bxN byN 446 lN).2.2 := by decide +kernel
theorem lN_446 : ∀ e, e = 446 → lN < 2 ^ e := by
 intro e he
 have h : decide (lN < 2 ^ e) = true := by rw [he]; decide +kernel
 exact of_decide_eq_true h
theorem y5h : zF zB lN pB = z0v := by
 have r := y8p zB (D := dN) (bx := bxN) (y := byN) (P := pB) rfl rfl rfl 446 lN (lN_446 446 rfl)
 rw [z9z.1, z9z.2, y4k] at r
 have h0 : (0 : Fin pN) = (zF zB lN pB).x * _ := r.x
 have h1 := r.y
 have hz := r.z
 generalize cN pN (mulE pN dN bxN byN 446 lN).2.2 = z at *
 refine Pt.same ?_ ?_
 ·rcases z02 z0q h0.symm with h | h
  ·exact h
  ·exact absurd h hz
 ·refine z0u z0q hz ?_
  rw [show (z0v : Pt pN dK).y = 1 from rfl]
  generalize (zF zB lN pB).y = u at *
  clear h0 hz r
  grind
theorem lN_four : lN % 4 = 3 := by decide +kernel
def spot (k q : Nat) : Pt pN dK := z6 zB (zF zB k pB) (zF zB q z08)
theorem spot_l (a q : Nat) : zF zB lN (spot a q) = zF zB (3 * q) z08 := by
 unfold spot
 rw [z7h, ← z3t, Nat.mul_comm a lN, z3t, y5h, z32, z2m, ← z3t, ← y1o zB (z5t zB) (q * lN), Nat.mul_mod, lN_four, ← y1o zB (z5t zB) (3 * q)]
 congr 1
 omega
end Go.Proofs.YtgjbonikbmgfmaaGreatDoor
