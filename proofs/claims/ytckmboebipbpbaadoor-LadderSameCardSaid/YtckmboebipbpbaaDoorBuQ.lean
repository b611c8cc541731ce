/-
  Lemmas for the walks, several texts in one. No statement is proved here.
-/
import Derived.Test.YtckmboebipbpbaaDoorBuG
import Derived.Test.YtckmboebipbpbaaDoorBuH
import Derived.Test.YtckmboebipbpbaaDoorBuK
/-
  The ladder over u alone: of which points it tells. Plain mathematics, no program. No statement is proved here.
-/
namespace Go.Proofs.YtckmboebipbpbaaDoor

/-- Two fractions. -/
structure L4 (p : Nat) where
  x0 : Fin p
  z0 : Fin p
  x1 : Fin p
  z1 : Fin p
section
variable {p : Nat} [NeZero p]
/-- What a fraction becomes, doubled: above and below. -/
def ldX (x z : Fin p) : Fin p := (x + z) * (x + z) * ((x - z) * (x - z))
def ldW (x z : Fin p) : Fin p := (x + z) * (x + z) - (x - z) * (x - z)
def ldZ (c x z : Fin p) : Fin p := ldW x z * ((x + z) * (x + z) + c * ldW x z)
def ldU (x z v w : Fin p) : Fin p := (v - w) * (x + z) + (v + w) * (x - z)
def ldD (x z v w : Fin p) : Fin p := (v - w) * (x + z) - (v + w) * (x - z)
/-- A step. -/
def ldA (c u : Fin p) (s : L4 p) : L4 p :=
  ⟨ldX s.x0 s.z0, ldZ c s.x0 s.z0, ldU s.x0 s.z0 s.x1 s.z1 * ldU s.x0 s.z0 s.x1 s.z1, u * (ldD s.x0 s.z0 s.x1 s.z1 * ldD s.x0 s.z0 s.x1 s.z1)⟩
def L4.turn (s : L4 p) : L4 p := ⟨s.x1, s.z1, s.x0, s.z0⟩
/-- A step for a bit. -/
def ldB (c u : Fin p) (b : Bool) (s : L4 p) : L4 p := if b then (ldA c u s.turn).turn else ldA c u s
/-- The steps of a number's lowest t bits, from the highest on. -/
def lad (c u : Fin p) : Nat → Nat → L4 p
  | 0, _ => ⟨1, 0, u, 1⟩
  | t + 1, n => ldB c u (decide (n % 2 = 1)) (lad c u t (n / 2))
def ladR (s : L4 p) : Fin p := s.x0 * inv s.z0

theorem lad_succ (c u : Fin p) (t n : Nat) : lad c u (t + 1) n = ldB c u (decide (n % 2 = 1)) (lad c u t (n / 2)) := rfl
/-- Of u 0 nothing comes. -/
def Dead (s : L4 p) : Prop := s.z0 = 0 ∧ s.x1 * s.z1 = 0
theorem dead_step (c : Fin p) (b : Bool) {s : L4 p} (h : Dead s) : Dead (ldB c 0 b s) := by
  obtain ⟨a, e, f, g⟩ := s
  obtain ⟨h1, h2⟩ := h
  dsimp only at h1 h2
  cases b
  · refine ⟨?_, ?_⟩
    · show ldW a e * _ = 0
      rw [show ldW a e = 0 by unfold ldW; rw [h1]; grind]
      grind
    · show _ * (0 * _) = 0
      grind
  · refine ⟨?_, ?_⟩
    · show 0 * _ = 0
      grind
    · show _ * (ldW f g * _) = 0
      rw [show ldW f g = 0 by unfold ldW; grind]
      grind
theorem dead_lad (c : Fin p) : ∀ t n : Nat, Dead (lad c 0 t n)
  | 0, _ => ⟨rfl, by show (0 : Fin p) * 1 = 0; grind⟩
  | t + 1, n => dead_step c _ (dead_lad c t (n / 2))
theorem ladR_dead (h : 2 < p) {s : L4 p} (hs : Dead s) : ladR s = 0 := by
  unfold ladR
  rw [hs.1, inv_zero h]
  grind
variable {d : Fin p}
/-- A way to tell a point by a fraction, which the ladder goes over. -/
structure Mont (h : EdF p d) (c : Fin p) (X Z : Pt p d → Fin p) : Prop where
  nz : ∀ g, ¬ (X g = 0 ∧ Z g = 0)
  zero : Z pzero = 0
  dbl : ∀ g, ldX (X g) (Z g) * Z (padd h g g) = ldZ c (X g) (Z g) * X (padd h g g)
  dnz : ∀ g, ¬ (ldX (X g) (Z g) = 0 ∧ ldZ c (X g) (Z g) = 0)
  neg : ∀ g, X (pneg g) = X g ∧ Z (pneg g) = Z g
  dif : ∀ g e, ∃ q r : Fin p, q ≠ 0 ∧ r ≠ 0 ∧ r * ((X g * X e - Z g * Z e) * (X g * X e - Z g * Z e)) = q * (X (padd h g e) * X (padd h g (pneg e)))
    ∧ r * ((X g * Z e - X e * Z g) * (X g * Z e - X e * Z g)) = q * (Z (padd h g e) * Z (padd h g (pneg e)))
  low : ∀ g e, X g * Z g = 0 → X e * Z e = 0 → X (padd h g e) * Z (padd h g e) = 0
/-- The number that a point is told by. -/
def uM (X Z : Pt p d → Fin p) (g : Pt p d) : Fin p := X g * inv (Z g)
/-- Two fractions tell these two points. -/
def Rp4 (X Z : Pt p d → Fin p) (a b : Pt p d) (s : L4 p) : Prop :=
  ∃ k l : Fin p, k ≠ 0 ∧ l ≠ 0 ∧ s.x0 = k * X a ∧ s.z0 = k * Z a ∧ s.x1 = l * X b ∧ s.z1 = l * Z b
theorem Rp4.turn {X Z : Pt p d → Fin p} {a b : Pt p d} {s : L4 p} (h : Rp4 X Z a b s) : Rp4 X Z b a s.turn := by
  obtain ⟨k, l, hk, hl, h1, h2, h3, h4⟩ := h
  exact ⟨l, k, hl, hk, h3, h4, h1, h2⟩
/-- Two fractions with one value. -/
theorem prj (hp : prime p) {x z a b : Fin p} (h0 : ¬ (x = 0 ∧ z = 0)) (h1 : ¬ (a = 0 ∧ b = 0)) (e : x * b = z * a) : ∃ k : Fin p, k ≠ 0 ∧ x = k * a ∧ z = k * b := by
  by_cases ha : a = 0
  · have hb : b ≠ 0 := fun hb => h1 ⟨ha, hb⟩
    have hx : x = 0 := by
      rw [ha] at e
      rcases fp_no_zero hp (show x * b = 0 by grind) with h | h
      · exact h
      · exact absurd h hb
    have hi := inv_mul hp hb
    refine ⟨z * inv b, fun hk => h0 ⟨hx, ?_⟩, by rw [hx, ha]; grind, by grind⟩
    rcases fp_no_zero hp hk with h | h
    · exact h
    · exact absurd h (inv_ne hp hb)
  · have hi := inv_mul hp ha
    have hz : z = x * inv a * b := by
      refine fp_cancel hp ha ?_
      grind
    refine ⟨x * inv a, fun hk => ?_, by grind, hz⟩
    rcases fp_no_zero hp hk with h | h
    · exact h0 ⟨h, by rw [hz, h]; grind⟩
    · exact absurd h (inv_ne hp ha)
theorem ldX_k (k x z : Fin p) : ldX (k * x) (k * z) = k * k * (k * k) * ldX x z := by unfold ldX; grind
theorem ldZ_k (c k x z : Fin p) : ldZ c (k * x) (k * z) = k * k * (k * k) * ldZ c x z := by unfold ldZ ldW; grind
theorem ldU_k (k l x z v w : Fin p) : ldU (k * x) (k * z) (l * v) (l * w) = 2 * (k * l) * (v * x - w * z) := by unfold ldU; grind
theorem ldD_k (k l x z v w : Fin p) : ldD (k * x) (k * z) (l * v) (l * w) = 2 * (k * l) * (v * z - x * w) := by unfold ldD; grind
/-- A step of two points whose difference is told by u. -/
theorem rp4_step {h : EdF p d} {c : Fin p} {X Z : Pt p d → Fin p} (M : Mont h c X Z) {P a b : Pt p d} {u : Fin p} (hu : u ≠ 0) (hP : X P = u * Z P) (hZ : Z P ≠ 0)
    {s : L4 p} (hs : Rp4 X Z a b s) (hd : padd h b (pneg a) = P ∨ padd h a (pneg b) = P) : Rp4 X Z (padd h a a) (padd h b a) (ldA c u s) := by
  obtain ⟨k, l, hk, hl, h1, h2, h3, h4⟩ := hs
  have hp := h.pr
  have two : (2 : Fin p) ≠ 0 := fun e => fp_one_ne hp (fp_two hp h.two (show (1 : Fin p) = -1 by grind))
  -- the difference's value
  have hq : X (padd h b (pneg a)) = X P ∧ Z (padd h b (pneg a)) = Z P := by
    rcases hd with e | e
    · rw [e]; exact ⟨rfl, rfl⟩
    · have h5 : padd h b (pneg a) = pneg P := by rw [← e, pneg_padd, pneg_pneg, padd_comm]
      rw [h5]
      exact M.neg P
  obtain ⟨q, r, hq0, hr0, e1, e2⟩ := M.dif b a
  rw [hq.1, hP] at e1
  rw [hq.2] at e2
  obtain ⟨k', hk', f1, f2⟩ := prj hp (M.dnz a) (M.nz (padd h a a)) (M.dbl a)
  have kl : k * l ≠ 0 := fp_mul_ne hp hk hl
  have hsum := M.nz (padd h b a)
  have g1 : r * (ldU s.x0 s.z0 s.x1 s.z1 * ldU s.x0 s.z0 s.x1 s.z1) = 2 * (k * l) * (2 * (k * l)) * (q * (X (padd h b a) * (u * Z P))) := by
    rw [h1, h2, h3, h4, ldU_k, ← e1]
    generalize X a = xa
    generalize X b = xb
    generalize Z a = za
    generalize Z b = zb
    clear e1 e2 f1 f2 h1 h2 h3 h4 hP hq hd hsum
    grind
  have g2 : r * (u * (ldD s.x0 s.z0 s.x1 s.z1 * ldD s.x0 s.z0 s.x1 s.z1)) = 2 * (k * l) * (2 * (k * l)) * (q * (Z (padd h b a) * (u * Z P))) := by
    rw [h1, h2, h3, h4, ldD_k, show q * (Z (padd h b a) * (u * Z P)) = u * (q * (Z (padd h b a) * Z P)) by grind, ← e2]
    generalize X a = xa
    generalize X b = xb
    generalize Z a = za
    generalize Z b = zb
    clear e1 e2 f1 f2 h1 h2 h3 h4 hP hq hd hsum g1
    grind
  have hi := inv_mul hp hr0
  have ki := inv_ne hp hr0
  refine ⟨k * k * (k * k) * k', inv r * (2 * (k * l) * (2 * (k * l)) * (q * (u * Z P))), fp_mul_ne hp (fp_mul_ne hp (fp_mul_ne hp hk hk) (fp_mul_ne hp hk hk)) hk',
    fp_mul_ne hp ki (fp_mul_ne hp (fp_mul_ne hp (fp_mul_ne hp two kl) (fp_mul_ne hp two kl)) (fp_mul_ne hp hq0 (fp_mul_ne hp hu hZ))), ?_, ?_, ?_, ?_⟩
  · show ldX s.x0 s.z0 = _
    rw [h1, h2, ldX_k, f1]
    grind
  · show ldZ c s.x0 s.z0 = _
    rw [h1, h2, ldZ_k, f2]
    grind
  · refine fp_cancel hp hr0 ?_
    show r * (ldU s.x0 s.z0 s.x1 s.z1 * ldU s.x0 s.z0 s.x1 s.z1) = _
    rw [g1]
    generalize X (padd h b a) = x3
    generalize Z P = zP at *
    clear g1 g2 e1 e2 f1 f2 h1 h2 h3 h4 hP hq hd hsum
    grind
  · refine fp_cancel hp hr0 ?_
    show r * (u * (ldD s.x0 s.z0 s.x1 s.z1 * ldD s.x0 s.z0 s.x1 s.z1)) = _
    rw [g2]
    generalize Z (padd h b a) = x3
    generalize Z P = zP at *
    clear g1 g2 e1 e2 f1 f2 h1 h2 h3 h4 hP hq hd hsum
    grind
theorem rp4_lad {h : EdF p d} {c : Fin p} {X Z : Pt p d → Fin p} (M : Mont h c X Z) {P : Pt p d} {u : Fin p} (hu : u ≠ 0) (hP : X P = u * Z P) (hZ : Z P ≠ 0) :
    ∀ t n : Nat, Rp4 X Z (pmul h (n % 2 ^ t) P) (pmul h (n % 2 ^ t + 1) P) (lad c u t n)
  | 0, n => by
    have hx : X pzero ≠ 0 := fun e => M.nz pzero ⟨e, M.zero⟩
    rw [Nat.pow_zero, Nat.mod_one, pmul_zero, pmul_one]
    refine ⟨inv (X pzero), inv (Z P), inv_ne h.pr hx, inv_ne h.pr hZ, (inv_mul h.pr hx).symm, by rw [M.zero]; show (0 : Fin p) = _; grind, ?_, (inv_mul h.pr hZ).symm⟩
    show u = _
    have := inv_mul h.pr hZ
    rw [hP]
    grind
  | t + 1, n => by
    have ih := rp4_lad M hu hP hZ t (n / 2)
    have hm : n % 2 ^ (t + 1) = 2 * (n / 2 % 2 ^ t) + n % 2 := by
      rw [Nat.pow_succ, Nat.mul_comm (2 ^ t) 2, Nat.mod_mul]
      omega
    rw [hm, lad_succ]
    generalize n / 2 % 2 ^ t = m at *
    have hd : padd h (pmul h (m + 1) P) (pneg (pmul h m P)) = P := by
      rw [Nat.add_comm m 1, pmul_add, pmul_one, padd_assoc, padd_neg, padd_zero]
    rcases Nat.mod_two_eq_zero_or_one n with h0 | h0
    · rw [h0, show decide ((0 : Nat) = 1) = false from rfl]
      have := rp4_step M hu hP hZ ih (.inl hd)
      rw [← pmul_add, ← pmul_add] at this
      rw [Nat.add_zero, show 2 * m = m + m by omega, show m + m + 1 = m + 1 + m by omega]
      exact this
    · rw [h0, show decide ((1 : Nat) = 1) = true from rfl]
      have := (rp4_step M hu hP hZ ih.turn (.inr hd)).turn
      rw [← pmul_add, ← pmul_add] at this
      rw [show 2 * m + 1 = m + (m + 1) by omega, show m + (m + 1) + 1 = m + 1 + (m + 1) by omega]
      exact this
theorem ladR_rp4 (hp : prime p) {X Z : Pt p d → Fin p} {a b : Pt p d} {s : L4 p} (h : Rp4 X Z a b s) : ladR s = uM X Z a := by
  obtain ⟨k, l, hk, hl, h1, h2, h3, h4⟩ := h
  unfold ladR uM
  have := inv_mul hp hk
  rw [h1, h2, inv_prod]
  grind
theorem low_mul {h : EdF p d} {c : Fin p} {X Z : Pt p d → Fin p} (M : Mont h c X Z) {g : Pt p d} (hg : X g * Z g = 0) : ∀ n, X (pmul h n g) * Z (pmul h n g) = 0
  | 0 => by rw [pmul_zero, M.zero]; grind
  | n + 1 => by rw [pmul_succ]; exact M.low _ _ (low_mul M hg n) hg
theorem uM_zero (h2 : 2 < p) (hp : prime p) {X Z : Pt p d → Fin p} {g : Pt p d} : uM X Z g = 0 ↔ X g * Z g = 0 := by
  unfold uM
  constructor
  · intro e
    rcases fp_no_zero hp e with h | h
    · rw [h]; grind
    · by_cases hz : Z g = 0
      · rw [hz]; grind
      · exact absurd h (inv_ne hp hz)
  · intro e
    rcases fp_no_zero hp e with h | h
    · rw [h]; grind
    · rw [h, inv_zero h2]; grind
/-- THE LADDER of a number and of what a point is told by: what the point, so many times, is told by. -/
theorem lad_point {h : EdF p d} {c : Fin p} {X Z : Pt p d → Fin p} (M : Mont h c X Z) (h2 : 2 < p) (g : Pt p d) (t n : Nat) : ladR (lad c (uM X Z g) t n) = uM X Z (pmul h (n % 2 ^ t) g) := by
  by_cases h0 : uM X Z g = 0
  · rw [h0, ladR_dead h2 (dead_lad c t n)]
    exact ((uM_zero h2 h.pr).2 (low_mul M ((uM_zero h2 h.pr).1 h0) _)).symm
  · have hz : Z g ≠ 0 := fun e => h0 ((uM_zero h2 h.pr).2 (by rw [e]; grind))
    have hx : X g = uM X Z g * Z g := by
      unfold uM
      have := inv_mul h.pr hz
      grind
    exact ladR_rp4 h.pr (rp4_lad M h0 hx hz t n)
/-- A curve all of whose d is a square turned round. -/
theorem edf_neg (hp : prime p) {e : Nat} (hc : p = 4 * e + 3) {s : Fin p} (hs : s ≠ 0) (hd : d = -(s * s)) : EdF p d := ⟨hp, by omega, fun u v k => by
  have h1 : u * u = -(s * v * (s * v)) := by
    rw [k, hd]
    grind
  rcases fp_no_zero hp (neg_no_sq hp hc h1).2 with h | h
  · exact absurd h hs
  · exact h⟩
end
end Go.Proofs.YtckmboebipbpbaaDoor

/-
  Three curves whose points the ladder goes over: each u is told by one of two of them, and a point of edwards448 by the third. Plain mathematics, no program. No statement is proved here.
-/
namespace Go.Proofs.YtckmboebipbpbaaDoor

section
variable {p : Nat} [NeZero p] {d : Fin p}
theorem ed_two (h : EdF p d) : (2 : Fin p) ≠ 0 := fun e => fp_one_ne h.pr (fp_two h.pr h.two (show (1 : Fin p) = -1 by grind))
theorem ed_unit (h : EdF p d) (y : Fin p) : 1 - d * (y * y) ≠ 0 := fun e => by
  have h1 := h.no 1 y (by grind)
  exact fp_one_ne h.pr (by rw [h1] at e; grind)
theorem ed_one (h : EdF p d) : 1 - d ≠ 0 := fun e => ed_unit h 1 (by grind)
/-- The two sums' y, and the two points' own. -/
def ldQ (d y z : Fin p) : Fin p := 1 - d * (y * y + z * z) + d * (y * y * (z * z))
theorem ldQ_eq {d a b y z : Fin p} (o1 : a * a + y * y = 1 + d * (a * a * (y * y))) (o2 : b * b + z * z = 1 + d * (b * b * (z * z))) :
    (1 - d * (y * y)) * (1 - d * (z * z)) * ((1 + d * (a * b * (y * z))) * (1 - d * (a * b * (y * z)))) = (1 - d * (y * z * (y * z))) * ldQ d y z := by
  unfold ldQ
  have e1 : (1 - d * (y * y)) * (a * a) = 1 - y * y := by grind
  have e2 : (1 - d * (z * z)) * (b * b) = 1 - z * z := by grind
  have e3 : (1 - d * (y * y)) * (1 - d * (z * z)) * ((1 + d * (a * b * (y * z))) * (1 - d * (a * b * (y * z))))
      = (1 - d * (y * y)) * (1 - d * (z * z)) - d * d * (y * z * (y * z)) * (((1 - d * (y * y)) * (a * a)) * ((1 - d * (z * z)) * (b * b))) := by
    clear e1 e2 o1 o2
    grind
  rw [e3, e1, e2]
  clear e1 e2 e3 o1 o2
  grind
theorem ldQ_ne (h : EdF p d) (g e : Pt p d) : ldQ d g.y e.y ≠ 0 := fun k => by
  have h1 := ldQ_eq g.on e.on
  rw [k] at h1
  exact fp_mul_ne h.pr (fp_mul_ne h.pr (ed_unit h g.y) (ed_unit h e.y)) (fp_mul_ne h.pr (h.plus g e) (h.minus g e)) (h1.trans (by grind))
theorem padd_neg_y (h : EdF p d) (g e : Pt p d) : (padd h g (pneg e)).y * (1 + d * (g.x * e.x * (g.y * e.y))) = g.y * e.y + g.x * e.x := by
  have := padd_y h g (pneg e)
  rw [show (pneg e).x = -e.x from rfl, show (pneg e).y = e.y from rfl] at this
  grind
theorem padd_neg_x (h : EdF p d) (g e : Pt p d) : (padd h g (pneg e)).x * (1 - d * (g.x * e.x * (g.y * e.y))) = g.x * e.y - e.x * g.y := by
  have := padd_x h g (pneg e)
  rw [show (pneg e).x = -e.x from rfl, show (pneg e).y = e.y from rfl] at this
  grind
theorem dif_y (h : EdF p d) (g e : Pt p d) : (1 - d) * ((g.y + e.y) * (g.y + e.y)) = ldQ d g.y e.y * ((1 + (padd h g e).y) * (1 + (padd h g (pneg e)).y))
    ∧ (1 - d) * ((g.y - e.y) * (g.y - e.y)) = ldQ d g.y e.y * ((1 - (padd h g e).y) * (1 - (padd h g (pneg e)).y)) := by
  have h1 := padd_y h g e
  have h2 := padd_neg_y h g e
  have h3 := ldQ_eq g.on e.on
  have hu := ed_unit h (g.y * e.y)
  have hm := h.minus g e
  have hl := h.plus g e
  have o1 := g.on
  have o2 := e.on
  generalize (padd h g e).y = s at *
  generalize (padd h g (pneg e)).y = t at *
  generalize g.x = a at *
  generalize e.x = b at *
  generalize g.y = y at *
  generalize e.y = z at *
  have e1 : (1 - d * (y * y)) * (a * a) = 1 - y * y := by clear h1 h2 h3 hu hm hl o2; grind
  have e2 : (1 - d * (z * z)) * (b * b) = 1 - z * z := by clear h1 h2 h3 hu hm hl o1; grind
  clear o1 o2
  have k1 : (1 + s) * (1 - d * (a * b * (y * z))) = 1 + y * z - a * b * (1 + d * (y * z)) := by clear h2 h3 hu hm hl e1 e2; grind
  have k2 : (1 + t) * (1 + d * (a * b * (y * z))) = 1 + y * z + a * b * (1 + d * (y * z)) := by clear h1 h3 hu hm hl e1 e2; grind
  have k3 : (1 - s) * (1 - d * (a * b * (y * z))) = 1 - y * z + a * b * (1 - d * (y * z)) := by clear h2 h3 hu hm hl e1 e2; grind
  have k4 : (1 - t) * (1 + d * (a * b * (y * z))) = 1 - y * z - a * b * (1 - d * (y * z)) := by clear h1 h3 hu hm hl e1 e2; grind
  clear h1 h2
  have m1 : (1 - d * (y * y)) * (1 - d * (z * z)) * ((1 + y * z - a * b * (1 + d * (y * z))) * (1 + y * z + a * b * (1 + d * (y * z)))) = (1 - d * (y * z * (y * z))) * ((1 - d) * ((y + z) * (y + z))) := by
    have e3 : (1 - d * (y * y)) * (1 - d * (z * z)) * ((1 + y * z - a * b * (1 + d * (y * z))) * (1 + y * z + a * b * (1 + d * (y * z))))
        = (1 - d * (y * y)) * (1 - d * (z * z)) * ((1 + y * z) * (1 + y * z)) - ((1 - d * (y * y)) * (a * a)) * ((1 - d * (z * z)) * (b * b)) * ((1 + d * (y * z)) * (1 + d * (y * z))) := by
      clear e1 e2 k1 k2 k3 k4 h3 hu hm hl
      grind
    rw [e3, e1, e2]
    clear e1 e2 e3 k1 k2 k3 k4 h3 hu hm hl
    grind
  have m2 : (1 - d * (y * y)) * (1 - d * (z * z)) * ((1 - y * z + a * b * (1 - d * (y * z))) * (1 - y * z - a * b * (1 - d * (y * z)))) = (1 - d * (y * z * (y * z))) * ((1 - d) * ((y - z) * (y - z))) := by
    have e3 : (1 - d * (y * y)) * (1 - d * (z * z)) * ((1 - y * z + a * b * (1 - d * (y * z))) * (1 - y * z - a * b * (1 - d * (y * z))))
        = (1 - d * (y * y)) * (1 - d * (z * z)) * ((1 - y * z) * (1 - y * z)) - ((1 - d * (y * y)) * (a * a)) * ((1 - d * (z * z)) * (b * b)) * ((1 - d * (y * z)) * (1 - d * (y * z))) := by
      clear e1 e2 k1 k2 k3 k4 h3 hu hm hl
      grind
    rw [e3, e1, e2]
    clear e1 e2 e3 k1 k2 k3 k4 h3 hu hm hl
    grind
  rw [← k1, ← k2] at m1
  rw [← k3, ← k4] at m2
  clear k1 k2 k3 k4 e1 e2
  generalize ldQ d y z = Q at *
  generalize 1 - d * (y * z * (y * z)) = V at *
  generalize 1 + d * (a * b * (y * z)) = G at *
  generalize 1 - d * (a * b * (y * z)) = F at *
  generalize (1 - d * (y * y)) * (1 - d * (z * z)) = W at *
  constructor
  · refine fp_cancel h.pr hu ?_
    rw [← m1]
    clear m1 m2 hu hm hl
    grind
  · refine fp_cancel h.pr hu ?_
    rw [← m2]
    clear m1 m2 hu hm hl
    grind
theorem x_zero_sum (h : EdF p d) {g e : Pt p d} (hg : g.x = 0) (he : e.x = 0) : (padd h g e).x = 0 := by
  have h1 := padd_x h g e
  rw [hg, he] at h1
  rcases fp_no_zero h.pr (show (padd h g e).x * (1 + d * (0 * 0 * (g.y * e.y))) = 0 by rw [h1]; grind) with k | k
  · exact k
  · exact absurd (show (1 : Fin p) = 0 by rw [← k]; grind) (fp_one_ne h.pr)
theorem y_one (h : EdF p d) (g : Pt p d) : (1 + g.y) * (1 - g.y) = 0 ↔ g.x = 0 := by
  have h1 := g.on
  have h2 := ed_unit h g.y
  generalize g.x = a at *
  generalize g.y = y at *
  constructor
  · intro k
    have k1 : (1 - d * (y * y)) * (a * a) = 0 := by grind
    rcases fp_no_zero h.pr k1 with k2 | k2
    · exact absurd k2 h2
    · rcases fp_no_zero h.pr k2 with k3 | k3 <;> exact k3
  · intro k
    rw [k] at h1
    grind
theorem dbl_y (h : EdF p d) (g : Pt p d) : (1 + (padd h g g).y) * (1 - d * (g.x * g.x * (g.y * g.y))) = 2 * (1 - g.x * g.x) ∧ (1 - (padd h g g).y) * (1 - d * (g.x * g.x * (g.y * g.y))) = 2 * (1 - g.y * g.y) := by
  have h1 := padd_y h g g
  have h2 := g.on
  generalize (padd h g g).y = s at *
  generalize g.x = a at *
  generalize g.y = y at *
  constructor <;> grind
/-- The first: 1 + y over 1 - y. -/
theorem mont_a (h : EdF p d) {c : Fin p} (hc : d * (c + 1) = c) (hn : c + 1 ≠ 0) : Mont h c (fun g => 1 + g.y) (fun g => 1 - g.y) where
  nz := fun g ⟨h1, h2⟩ => ed_two h (by grind)
  zero := by show 1 - (1 : Fin p) = 0; grind
  dbl := fun g => by
    have h1 := dbl_y h g
    have h2 := g.on
    have h3 := h.minus g g
    show ldX (1 + g.y) (1 - g.y) * (1 - (padd h g g).y) = ldZ c (1 + g.y) (1 - g.y) * (1 + (padd h g g).y)
    generalize (padd h g g).y = s at *
    generalize g.x = a at *
    generalize g.y = y at *
    refine fp_cancel h.pr h3 ?_
    have k1 : (1 + c * (1 - y * y)) * (1 - a * a) = y * y := by
      have k2 : 1 + c * (1 - y * y) = (c + 1) * (1 - d * (y * y)) := by clear h1 h2 h3; grind
      have k3 : (1 - d * (y * y)) * (1 - a * a) = y * y - d * (y * y) := by clear h1 h3 k2 hc; grind
      rw [k2, show (c + 1) * (1 - d * (y * y)) * (1 - a * a) = (c + 1) * ((1 - d * (y * y)) * (1 - a * a)) by grind, k3]
      clear k2 k3 h1 h2 h3
      grind
    rw [show (1 - d * (a * a * (y * y))) * (ldX (1 + y) (1 - y) * (1 - s)) = ldX (1 + y) (1 - y) * ((1 - s) * (1 - d * (a * a * (y * y)))) by grind,
      show (1 - d * (a * a * (y * y))) * (ldZ c (1 + y) (1 - y) * (1 + s)) = ldZ c (1 + y) (1 - y) * ((1 + s) * (1 - d * (a * a * (y * y)))) by grind, h1.1, h1.2]
    clear h1 h2 h3 hc
    have k4 : ldX (1 + y) (1 - y) = 16 * ((1 + c * (1 - y * y)) * (1 - a * a)) := by rw [k1]; unfold ldX; grind
    have k5 : ldZ c (1 + y) (1 - y) = 16 * ((1 - y * y) * (1 + c * (1 - y * y))) := by unfold ldZ ldW; clear k1 k4; grind
    rw [k4, k5]
    grind
  dnz := fun g ⟨h1, h2⟩ => by
    have two := ed_two h
    generalize g.y = y at *
    have k1 : 2 * 2 * (2 * 2) * (y * y) = 0 := by rw [← h1]; unfold ldX; grind
    rcases fp_no_zero h.pr k1 with k | k
    · exact fp_mul_ne h.pr (fp_mul_ne h.pr two two) (fp_mul_ne h.pr two two) k
    · have k2 : y = 0 := by rcases fp_no_zero h.pr k with k | k <;> exact k
      have k3 : 2 * 2 * (2 * 2) * (c + 1) = 0 := by rw [← h2, k2]; unfold ldZ ldW; grind
      exact fp_mul_ne h.pr (fp_mul_ne h.pr (fp_mul_ne h.pr two two) (fp_mul_ne h.pr two two)) hn k3
  neg := fun _ => ⟨rfl, rfl⟩
  dif := fun g e => by
    have h1 := dif_y h g e
    have two := ed_two h
    refine ⟨2 * 2 * ldQ d g.y e.y, 1 - d, fp_mul_ne h.pr (fp_mul_ne h.pr two two) (ldQ_ne h g e), ed_one h, ?_, ?_⟩
    · have := h1.1
      clear h1
      generalize (padd h g e).y = s at *
      generalize (padd h g (pneg e)).y = t at *
      generalize ldQ d g.y e.y = q at *
      grind
    · have := h1.2
      clear h1
      generalize (padd h g e).y = s at *
      generalize (padd h g (pneg e)).y = t at *
      generalize ldQ d g.y e.y = q at *
      grind
  low := fun g e hg he => (y_one h _).2 (x_zero_sum h ((y_one h _).1 hg) ((y_one h _).1 he))
/-- The second: y + 1 over y - 1. -/
theorem mont_b (h : EdF p d) {c : Fin p} (hc : d * c = c + 1) (hn : c ≠ 0) : Mont h c (fun g => g.y + 1) (fun g => g.y - 1) where
  nz := fun g ⟨h1, h2⟩ => ed_two h (by grind)
  zero := by show (1 : Fin p) - 1 = 0; grind
  dbl := fun g => by
    have h1 := dbl_y h g
    have h2 := g.on
    have h3 := h.minus g g
    show ldX (g.y + 1) (g.y - 1) * ((padd h g g).y - 1) = ldZ c (g.y + 1) (g.y - 1) * ((padd h g g).y + 1)
    generalize (padd h g g).y = s at *
    generalize g.x = a at *
    generalize g.y = y at *
    refine fp_cancel h.pr h3 ?_
    have k1 : (y * y + c * (y * y - 1)) * (1 - a * a) = y * y := by
      have k2 : y * y + c * (y * y - 1) = -c * (1 - d * (y * y)) := by clear h1 h2 h3; grind
      have k3 : (1 - d * (y * y)) * (1 - a * a) = y * y - d * (y * y) := by clear h1 h3 k2 hc; grind
      rw [k2, show -c * (1 - d * (y * y)) * (1 - a * a) = -c * ((1 - d * (y * y)) * (1 - a * a)) by grind, k3]
      clear k2 k3 h1 h2 h3
      grind
    rw [show (1 - d * (a * a * (y * y))) * (ldX (y + 1) (y - 1) * (s - 1)) = -ldX (y + 1) (y - 1) * ((1 - s) * (1 - d * (a * a * (y * y)))) by grind,
      show (1 - d * (a * a * (y * y))) * (ldZ c (y + 1) (y - 1) * (s + 1)) = ldZ c (y + 1) (y - 1) * ((1 + s) * (1 - d * (a * a * (y * y)))) by grind, h1.1, h1.2]
    clear h1 h2 h3 hc
    have k4 : ldX (y + 1) (y - 1) = 16 * ((y * y + c * (y * y - 1)) * (1 - a * a)) := by rw [k1]; unfold ldX; grind
    have k5 : ldZ c (y + 1) (y - 1) = 16 * ((y * y - 1) * (y * y + c * (y * y - 1))) := by unfold ldZ ldW; clear k1 k4; grind
    rw [k4, k5]
    grind
  dnz := fun g ⟨h1, h2⟩ => by
    have two := ed_two h
    generalize g.y = y at *
    have k1 : 2 * 2 * (2 * 2) * (y * y) = 0 := by rw [← h1]; unfold ldX; grind
    rcases fp_no_zero h.pr k1 with k | k
    · exact fp_mul_ne h.pr (fp_mul_ne h.pr two two) (fp_mul_ne h.pr two two) k
    · have k2 : y = 0 := by rcases fp_no_zero h.pr k with k | k <;> exact k
      have k3 : 2 * 2 * (2 * 2) * c = 0 := by rw [← h2, k2]; unfold ldZ ldW; grind
      exact fp_mul_ne h.pr (fp_mul_ne h.pr (fp_mul_ne h.pr two two) (fp_mul_ne h.pr two two)) hn k3
  neg := fun _ => ⟨rfl, rfl⟩
  dif := fun g e => by
    have h1 := dif_y h g e
    have two := ed_two h
    refine ⟨2 * 2 * ldQ d g.y e.y, 1 - d, fp_mul_ne h.pr (fp_mul_ne h.pr two two) (ldQ_ne h g e), ed_one h, ?_, ?_⟩
    · have := h1.1
      clear h1
      generalize (padd h g e).y = s at *
      generalize (padd h g (pneg e)).y = t at *
      generalize ldQ d g.y e.y = q at *
      grind
    · have := h1.2
      clear h1
      generalize (padd h g e).y = s at *
      generalize (padd h g (pneg e)).y = t at *
      generalize ldQ d g.y e.y = q at *
      grind
  low := fun g e hg he => by
    have k : ∀ a : Pt p d, (a.y + 1) * (a.y - 1) = 0 ↔ (1 + a.y) * (1 - a.y) = 0 := fun a => by
      generalize a.y = y
      constructor <;> intro k <;> grind
    exact (k _).2 ((y_one h _).2 (x_zero_sum h ((y_one h _).1 ((k _).1 hg)) ((y_one h _).1 ((k _).1 he))))
theorem xy_zero (h : EdF p d) {g e : Pt p d} (hg : g.y = 0) (he : e.x = 0) : (padd h g e).y = 0 := by
  have h1 := padd_y h g e
  rw [hg, he] at h1
  rcases fp_no_zero h.pr (show (padd h g e).y * (1 - d * (g.x * 0 * (0 * e.y))) = 0 by rw [h1]; grind) with k | k
  · exact k
  · exact absurd (show (1 : Fin p) = 0 by rw [← k]; grind) (fp_one_ne h.pr)
theorem yy_zero (h : EdF p d) {g e : Pt p d} (hg : g.y = 0) (he : e.y = 0) : (padd h g e).x = 0 := by
  have h1 := padd_x h g e
  rw [hg, he] at h1
  rcases fp_no_zero h.pr (show (padd h g e).x * (1 + d * (g.x * e.x * (0 * 0))) = 0 by rw [h1]; grind) with k | k
  · exact k
  · exact absurd (show (1 : Fin p) = 0 by rw [← k]; grind) (fp_one_ne h.pr)
/-- The third: y y over x x. -/
theorem mont_c (h : EdF p d) {c : Fin p} (hc : d = -c) : Mont h c (fun g => g.y * g.y) (fun g => g.x * g.x) where
  nz := fun g ⟨h1, h2⟩ => fp_one_ne h.pr (by
    have := g.on
    rw [h1, h2] at this
    grind)
  zero := by show (0 : Fin p) * 0 = 0; grind
  dbl := fun g => by
    have h1 := padd_x h g g
    have h2 := padd_y h g g
    have h3 := g.on
    have h4 := h.plus g g
    have h5 := h.minus g g
    show ldX (g.y * g.y) (g.x * g.x) * ((padd h g g).x * (padd h g g).x) = ldZ c (g.y * g.y) (g.x * g.x) * ((padd h g g).y * (padd h g g).y)
    generalize (padd h g g).y = s at *
    generalize (padd h g g).x = r at *
    generalize g.x = a at *
    generalize g.y = y at *
    refine fp_cancel h.pr (fp_mul_ne h.pr (fp_mul_ne h.pr h4 h5) (fp_mul_ne h.pr h4 h5)) ?_
    have k1 : ldX (y * y) (a * a) = (1 + d * (a * a * (y * y))) * (1 + d * (a * a * (y * y))) * ((y * y - a * a) * (y * y - a * a)) := by
      rw [← h3]
      unfold ldX
      clear h1 h2 h3 h4 h5
      grind
    have k2 : ldZ c (y * y) (a * a) = 4 * (a * a * (y * y)) * ((1 - d * (a * a * (y * y))) * (1 - d * (a * a * (y * y)))) := by
      have k3 : ldW (y * y) (a * a) = 4 * (a * a * (y * y)) := by
        unfold ldW
        clear h1 h2 h3 h4 h5 k1
        grind
      unfold ldZ
      rw [k3, show y * y + a * a = 1 + d * (a * a * (y * y)) by rw [← h3]; grind, hc]
      clear h1 h2 h3 h4 h5 k1 k3
      grind
    rw [k1, k2]
    clear k1 k2 h3 hc
    generalize 1 + d * (a * a * (y * y)) = G at *
    generalize 1 - d * (a * a * (y * y)) = F at *
    have e1 : r * G * (r * G) = 4 * (a * a * (y * y)) := by rw [h1]; clear h1 h2 h4 h5; grind
    have e2 : s * F * (s * F) = (y * y - a * a) * (y * y - a * a) := by rw [h2]
    rw [← e1, ← e2]
    clear e1 e2 h1 h2 h4 h5
    grind
  dnz := fun g ⟨h1, h2⟩ => by
    have two := ed_two h
    have h3 := g.on
    have h4 := h.plus g g
    have h5 := h.minus g g
    generalize g.x = a at *
    generalize g.y = y at *
    have k1 : ldX (y * y) (a * a) = (1 + d * (a * a * (y * y))) * (1 + d * (a * a * (y * y))) * ((y * y - a * a) * (y * y - a * a)) := by
      rw [← h3]
      unfold ldX
      clear h1 h2 h3 h4 h5
      grind
    have k2 : ldZ c (y * y) (a * a) = 2 * 2 * (a * a * (y * y)) * ((1 - d * (a * a * (y * y))) * (1 - d * (a * a * (y * y)))) := by
      have k3 : ldW (y * y) (a * a) = 4 * (a * a * (y * y)) := by
        unfold ldW
        clear h1 h2 h3 h4 h5 k1
        grind
      unfold ldZ
      rw [k3, show y * y + a * a = 1 + d * (a * a * (y * y)) by rw [← h3]; grind, hc]
      clear h1 h2 h3 h4 h5 k1 k3
      grind
    rw [h1] at k1
    rw [h2] at k2
    have m1 : y * y = a * a := by
      rcases fp_no_zero h.pr k1.symm with k | k
      · exact absurd k (fp_mul_ne h.pr h4 h4)
      · rcases fp_no_zero h.pr k with k | k <;> grind
    have m2 : a * a = 0 := by
      rcases fp_no_zero h.pr k2.symm with k | k
      · rcases fp_no_zero h.pr k with k | k
        · exact absurd k (fp_mul_ne h.pr two two)
        · rw [m1] at k
          rcases fp_no_zero h.pr k with k | k <;> exact k
      · exact absurd k (fp_mul_ne h.pr h5 h5)
    rw [m1, m2] at h3
    exact fp_one_ne h.pr (by clear k1 k2 m1 m2 h4 h5; grind)
  neg := fun g => ⟨rfl, by show -g.x * -g.x = g.x * g.x; generalize g.x = a; grind⟩
  dif := fun g e => by
    have h1 := padd_x h g e
    have h2 := padd_y h g e
    have h3 := padd_neg_x h g e
    have h4 := padd_neg_y h g e
    have hm := h.minus g e
    have hl := h.plus g e
    refine ⟨(1 + d * (g.x * e.x * (g.y * e.y))) * (1 - d * (g.x * e.x * (g.y * e.y))) * ((1 + d * (g.x * e.x * (g.y * e.y))) * (1 - d * (g.x * e.x * (g.y * e.y)))), 1, fp_mul_ne h.pr (fp_mul_ne h.pr hl hm) (fp_mul_ne h.pr hl hm), fp_one_ne h.pr, ?_, ?_⟩
    · generalize (padd h g e).y = s at *
      generalize (padd h g (pneg e)).y = t at *
      generalize (padd h g e).x = v at *
      generalize (padd h g (pneg e)).x = w at *
      generalize g.x = a at *
      generalize e.x = b at *
      generalize g.y = y at *
      generalize e.y = z at *
      generalize 1 + d * (a * b * (y * z)) = G at *
      generalize 1 - d * (a * b * (y * z)) = F at *
      have k1 : y * y * (z * z) - a * a * (b * b) = s * F * (t * G) := by rw [h2, h4]; clear h1 h2 h3 h4 hm hl hc; grind
      rw [k1]
      clear k1 h1 h2 h3 h4 hm hl hc
      grind
    · generalize (padd h g e).y = s at *
      generalize (padd h g (pneg e)).y = t at *
      generalize (padd h g e).x = v at *
      generalize (padd h g (pneg e)).x = w at *
      generalize g.x = a at *
      generalize e.x = b at *
      generalize g.y = y at *
      generalize e.y = z at *
      generalize 1 + d * (a * b * (y * z)) = G at *
      generalize 1 - d * (a * b * (y * z)) = F at *
      have k1 : y * y * (b * b) - z * z * (a * a) = -(v * G * (w * F)) := by rw [h1, h3]; clear h1 h2 h3 h4 hm hl hc; grind
      rw [k1]
      clear k1 h1 h2 h3 h4 hm hl hc
      grind
  low := fun g e hg he => by
    have k : ∀ a : Pt p d, a.y * a.y * (a.x * a.x) = 0 → a.x = 0 ∨ a.y = 0 := fun a ha => by
      rcases fp_no_zero h.pr ha with k | k
      · rcases fp_no_zero h.pr k with k | k <;> exact .inr k
      · rcases fp_no_zero h.pr k with k | k <;> exact .inl k
    have z : (padd h g e).x = 0 ∨ (padd h g e).y = 0 := by
      rcases k g hg with k1 | k1 <;> rcases k e he with k2 | k2
      · exact .inl (x_zero_sum h k1 k2)
      · exact .inr (by rw [padd_comm]; exact xy_zero h k2 k1)
      · exact .inr (xy_zero h k1 k2)
      · exact .inl (yy_zero h k1 k2)
    rcases z with z | z
    · rw [z]; grind
    · rw [z]; grind
end
end Go.Proofs.YtckmboebipbpbaaDoor

/-
  The ladder modulo p: what a number and u come to, of which products, sums of points and noughts tell. Plain mathematics, no program. No statement is proved here.
-/
namespace Go.Proofs.YtckmboebipbpbaaDoor

/-- 39081. -/
def cK : K := cN pN 39081
/-- The root of 39081 through 39081 and 1, turned round; and what divides by it. -/
def rS : K := ⟨283934990637394436586872693809750771915352138543466705158071906995882568214686086620619067228895197487653499862581446690575414428485832, by decide +kernel⟩
def rT : K := ⟨239264084537073352121118158287471249262834791338498654099207185438855287352424668250727173838220272815250029836779435190504046968055404, by decide +kernel⟩
def dA : K := -(rS * rS)
def dB : K := -(rT * rT)
theorem rS_ne : rS ≠ 0 := by decide +kernel
theorem rT_ne : rT ≠ 0 := by decide +kernel
theorem dA_c : dA * (cK + 1) = cK := by decide +kernel
theorem dB_c : dB * cK = cK + 1 := by decide +kernel
theorem dK_c : dK = -cK := by decide +kernel
theorem cK_ne : cK ≠ 0 := by decide +kernel
theorem cK_one : cK + 1 ≠ 0 := by decide +kernel
theorem edA : EdF pN dA := edf_neg prime_pN pN_c rS_ne rfl
theorem edB : EdF pN dB := edf_neg prime_pN pN_c rT_ne rfl
theorem montA : Mont edA cK (fun g => 1 + g.y) (fun g => 1 - g.y) := mont_a edA dA_c cK_one
theorem montB : Mont edB cK (fun g => g.y + 1) (fun g => g.y - 1) := mont_b edB dB_c cK_ne
theorem montC : Mont edK cK (fun g => g.y * g.y) (fun g => g.x * g.x) := mont_c edK dK_c
/-- What a point of edwards448 is told by. -/
def uE (P : Pt pN dK) : K := uM (fun g => g.y * g.y) (fun g => g.x * g.x) P
/-- Each u but 0 is a point's, of one of two curves. -/
theorem u_told (u : K) (hu : u ≠ 0) : (∃ g : Pt pN dA, uM (fun g => 1 + g.y) (fun g => 1 - g.y) g = u) ∨ ∃ g : Pt pN dB, uM (fun g => g.y + 1) (fun g => g.y - 1) g = u := by
  have hp := prime_pN
  have two := ed_two edA
  have hs := rS_ne
  have hcs : cK = -(rS * rS) * (cK + 1) := dA_c.symm
  have hn := cK_ne
  have hn1 := cK_one
  have hA := dA_c
  have hB := dB_c
  generalize dA = da at *
  generalize dB = db at *
  generalize rS = s at *
  generalize cK = c at *
  have kk : 2 * (s * (c + 1)) ≠ 0 := fp_mul_ne hp two (fp_mul_ne hp hs hn1)
  have nosq : ∀ r : K, r * r ≠ 4 * (c * (c + 1)) := fun r hr => by
    refine kk (neg_no_sq hp pN_c (a := r) (b := 2 * (s * (c + 1))) ?_).2
    rw [hr]
    have : c * (c + 1) = -(s * s) * (c + 1) * (c + 1) := by rw [← hcs]
    rw [this]
    clear this hcs hr hA hB
    grind
  have hv : u * u + (4 * c + 2) * u + 1 ≠ 0 := fun e => nosq (u + (2 * c + 1)) (by clear hcs hA hB nosq; grind)
  obtain ⟨v, hv'⟩ : ∃ v, u * u + (4 * c + 2) * u + 1 = v := ⟨_, rfl⟩
  rw [hv'] at hv
  have hi := inv_mul hp hv
  have he : (c + 1) * (u * v) ≠ 0 := fp_mul_ne hp hn1 (fp_mul_ne hp hu hv)
  have h1 := rat_or hp pN_c he (fp_one_ne hp)
  generalize rat eC ((c + 1) * (u * v)) 1 = r at h1
  rw [show (1 : K) * (r * r) = r * r by grind] at h1
  rcases h1 with h1 | h1
  · left
    have h2 : u + 1 ≠ 0 := fun e => nosq r (by
      have hu1 : u = -1 := by clear h1 hv' hcs hA hB nosq; grind
      rw [h1, ← hv', hu1]
      clear h1 hv' hcs hA hB nosq
      grind)
    have hj := inv_mul hp h2
    have hy : (u + 1) * ((u - 1) * inv (u + 1)) = u - 1 := by clear hv' hcs hA hB nosq h1; grind
    have hx : v * (2 * r * inv v) = 2 * r := by clear hv' hcs hA hB nosq h1; grind
    generalize (u - 1) * inv (u + 1) = y at *
    generalize 2 * r * inv v = x at *
    have on : x * x + y * y = 1 + da * (x * x * (y * y)) := by
      refine fp_cancel hp (fp_mul_ne hp (fp_mul_ne hp hv hn1) (fp_mul_ne hp (fp_mul_ne hp h2 h2) hv)) ?_
      have e1 : v * x * (v * x) = 4 * ((c + 1) * (u * v)) := by rw [hx, ← h1]; clear h1 hv' hcs hA hB nosq hi hj hx hy; grind
      have e2 : (u + 1) * y * ((u + 1) * y) = (u - 1) * (u - 1) := by rw [hy]
      have l1 : v * (c + 1) * ((u + 1) * (u + 1) * v) * (x * x + y * y) = (c + 1) * ((u + 1) * (u + 1)) * (v * x * (v * x)) + (c + 1) * (v * v) * ((u + 1) * y * ((u + 1) * y)) := by
        clear h1 hv' hcs hA hB nosq hi hj hx hy e1 e2; grind
      have l2 : v * (c + 1) * ((u + 1) * (u + 1) * v) * (1 + da * (x * x * (y * y))) = (c + 1) * ((u + 1) * (u + 1)) * (v * v) + da * (c + 1) * ((v * x * (v * x)) * ((u + 1) * y * ((u + 1) * y))) := by
        clear h1 hv' hcs hA hB nosq hi hj hx hy e1 e2; grind
      rw [l1, l2, e1, e2, hA, ← hv']
      clear h1 hv' hcs hA hB nosq hi hj hx hy e1 e2 l1 l2
      grind
    refine ⟨⟨x, y, on⟩, ?_⟩
    have f1 : 1 + y = u * (1 - y) := by clear h1 hv' hcs hA hB nosq hi hj hx on; grind
    have f2 : 1 - y ≠ 0 := fun e => two (by
      have e3 : y = 1 := by clear h1 hv' hcs hA hB nosq hi hj hx on hy f1; grind
      rw [e3] at hy
      clear h1 hv' hcs hA hB nosq hi hj hx on f1 e e3
      grind)
    show (1 + y) * inv (1 - y) = u
    have f3 := inv_mul hp f2
    rw [f1]
    clear h1 hv' hcs hA hB nosq hi hj hx on hy f1
    generalize 1 - y = w at *
    grind
  · right
    have h2 : u - 1 ≠ 0 := fun e => fp_mul_ne hp two hn1 (neg_no_sq hp pN_c (a := r) (b := 2 * (c + 1)) (by
      have hu1 : u = 1 := by clear h1 hv' hcs hA hB nosq; grind
      rw [h1, ← hv', hu1]
      clear h1 hv' hcs hA hB nosq
      grind)).2
    have hj := inv_mul hp h2
    have hy : (u - 1) * ((u + 1) * inv (u - 1)) = u + 1 := by clear hv' hcs hA hB nosq h1; grind
    have hx : v * (2 * (s * r) * inv v) = 2 * (s * r) := by clear hv' hcs hA hB nosq h1; grind
    generalize (u + 1) * inv (u - 1) = y at *
    generalize 2 * (s * r) * inv v = x at *
    have on : x * x + y * y = 1 + db * (x * x * (y * y)) := by
      refine fp_cancel hp (fp_mul_ne hp (fp_mul_ne hp hv hn) (fp_mul_ne hp (fp_mul_ne hp h2 h2) hv)) ?_
      have e1 : v * x * (v * x) = 4 * (c * (u * v)) := by
        have : c * (u * v) = -(s * s) * (c + 1) * (u * v) := by rw [← hcs]
        rw [hx, this, show 2 * (s * r) * (2 * (s * r)) = 4 * (s * s * (r * r)) by grind, h1]
        clear h1 hv' hcs hA hB nosq hi hj hx hy this
        grind
      have e2 : (u - 1) * y * ((u - 1) * y) = (u + 1) * (u + 1) := by rw [hy]
      have l1 : v * c * ((u - 1) * (u - 1) * v) * (x * x + y * y) = c * ((u - 1) * (u - 1)) * (v * x * (v * x)) + c * (v * v) * ((u - 1) * y * ((u - 1) * y)) := by
        clear h1 hv' hcs hA hB nosq hi hj hx hy e1 e2; grind
      have l2 : v * c * ((u - 1) * (u - 1) * v) * (1 + db * (x * x * (y * y))) = c * ((u - 1) * (u - 1)) * (v * v) + db * c * ((v * x * (v * x)) * ((u - 1) * y * ((u - 1) * y))) := by
        clear h1 hv' hcs hA hB nosq hi hj hx hy e1 e2; grind
      rw [l1, l2, e1, e2, hB, ← hv']
      clear h1 hv' hcs hA hB nosq hi hj hx hy e1 e2 l1 l2
      grind
    refine ⟨⟨x, y, on⟩, ?_⟩
    have f1 : y + 1 = u * (y - 1) := by clear h1 hv' hcs hA hB nosq hi hj hx on; grind
    have f2 : y - 1 ≠ 0 := fun e => two (by
      have e3 : y = 1 := by clear h1 hv' hcs hA hB nosq hi hj hx on hy f1; grind
      rw [e3] at hy
      clear h1 hv' hcs hA hB nosq hi hj hx on f1 e e3
      grind)
    show (y + 1) * inv (y - 1) = u
    have f3 := inv_mul hp f2
    rw [f1]
    clear h1 hv' hcs hA hB nosq hi hj hx on hy f1
    generalize y - 1 = w at *
    grind
/-- What a number and u come to. -/
@[irreducible] def ldV (u : K) (n : Nat) : K := ladR (lad cK u n n)
/-- Some way to tell points by u's, u among them. -/
theorem u_model (u : K) : u = 0 ∨ ∃ (d : K) (h : EdF pN d) (X Z : Pt pN d → K) (g : Pt pN d), Mont h cK X Z ∧ uM X Z g = u := by
  by_cases h0 : u = 0
  · exact .inl h0
  · rcases u_told u h0 with ⟨g, hg⟩ | ⟨g, hg⟩
    · exact .inr ⟨dA, edA, _, _, g, montA, hg⟩
    · exact .inr ⟨dB, edB, _, _, g, montB, hg⟩
/-- Noughts ahead of a number turn nothing. -/
theorem lad_same (u : K) {t t' n n' : Nat} (e : n % 2 ^ t = n' % 2 ^ t') : ladR (lad cK u t n) = ladR (lad cK u t' n') := by
  rcases u_model u with h0 | ⟨d, h, X, Z, g, M, hg⟩
  · rw [h0, ladR_dead pN_two (dead_lad cK t n), ladR_dead pN_two (dead_lad cK t' n')]
  · rw [← hg, lad_point M pN_two, lad_point M pN_two, e]
theorem ldV_lad (u : K) {t n : Nat} (hn : n < 2 ^ t) : ladR (lad cK u t n) = ldV u n := by
  unfold ldV
  refine lad_same u ?_
  rw [Nat.mod_eq_of_lt hn, Nat.mod_eq_of_lt Nat.lt_two_pow_self]
theorem ldV_point {d : K} {h : EdF pN d} {X Z : Pt pN d → K} (M : Mont h cK X Z) (g : Pt pN d) (n : Nat) : ldV (uM X Z g) n = uM X Z (pmul h n g) := by
  unfold ldV
  rw [lad_point M pN_two, Nat.mod_eq_of_lt Nat.lt_two_pow_self]
theorem ldV_dead (n : Nat) : ldV 0 n = 0 := by
  unfold ldV
  exact ladR_dead pN_two (dead_lad cK n n)
theorem ldV_uE (P : Pt pN dK) (n : Nat) : ldV (uE P) n = uE (pmul edK n P) := ldV_point montC P n
theorem ldV_zero (u : K) : ldV u 0 = 0 := by
  unfold ldV
  show (1 : K) * inv 0 = 0
  rw [inv_zero pN_two]
  grind
theorem ldV_one (u : K) : ldV u 1 = u := by
  rcases u_model u with h0 | ⟨d, h, X, Z, g, M, hg⟩
  · rw [h0, ldV_dead]
  · rw [← hg, ldV_point M, pmul_one]
/-- The ladder of one number, of what that of another comes to, is their product's. -/
theorem ldV_mul (u : K) (m n : Nat) : ldV (ldV u m) n = ldV u (m * n) := by
  rcases u_model u with h0 | ⟨d, h, X, Z, g, M, hg⟩
  · rw [h0, ldV_dead, ldV_dead, ldV_dead]
  · rw [← hg, ldV_point M, ldV_point M, ldV_point M, pmul_mul]
theorem ldV_swap (u : K) (m n : Nat) : ldV (ldV u m) n = ldV (ldV u n) m := by rw [ldV_mul, ldV_mul, Nat.mul_comm]
theorem uE_eq (P : Pt pN dK) : uE P = P.y * P.y * inv (P.x * P.x) := rfl

end Go.Proofs.YtckmboebipbpbaaDoor

/-
  Two elements, and four of the reference's, as rows: parts one behind the other. No statement is proved here: lemmas for the walks.
-/
namespace Go.Proofs.YtckmboebipbpbaaDoor
open Go.RowKit

/-- Two rows of m integers, one behind the other; four. -/
def t2 (m : Nat) (f g : Nat → Int) : Nat → Int := fun i => if i < m then f i else g (i - m)
def t4 (m : Nat) (f g h k : Nat → Int) : Nat → Int := fun i => if i < m then f i else if i < 2 * m then g (i - m) else if i < 3 * m then h (i - 2 * m) else k (i - 3 * m)
theorem part2_0 {f g : Nat → Int} : Part .u64 16 (t2 8 f g) 0 8 f := ⟨by omega, AZ_congr fun i hi => by unfold t2; rw [Nat.zero_add, if_pos hi]⟩
theorem part2_1 {f g : Nat → Int} : Part .u64 16 (t2 8 f g) 8 8 g := ⟨by omega, AZ_congr fun i hi => by unfold t2; rw [if_neg (by omega), show 8 + i - 8 = i by omega]⟩
theorem part4_0 {f g h k : Nat → Int} : Part .i64 64 (t4 16 f g h k) 0 16 f := ⟨by omega, AZ_congr fun i hi => by unfold t4; rw [Nat.zero_add, if_pos hi]⟩
theorem part4_1 {f g h k : Nat → Int} : Part .i64 64 (t4 16 f g h k) 16 16 g := ⟨by omega, AZ_congr fun i hi => by unfold t4; rw [if_neg (by omega), if_pos (by omega), show 16 + i - 16 = i by omega]⟩
theorem part4_2 {f g h k : Nat → Int} : Part .i64 64 (t4 16 f g h k) 32 16 h := ⟨by omega, AZ_congr fun i hi => by unfold t4; rw [if_neg (by omega), if_neg (by omega), if_pos (by omega), show 32 + i - 2 * 16 = i by omega]⟩
theorem part4_3 {f g h k : Nat → Int} : Part .i64 64 (t4 16 f g h k) 48 16 k := ⟨by omega, AZ_congr fun i hi => by unfold t4; rw [if_neg (by omega), if_neg (by omega), if_neg (by omega), show 48 + i - 3 * 16 = i by omega]⟩
/-- Raw bytes of two elements. -/
theorem partR_0 {f : Nat → BitVec 8} : Part .u8 112 (UB f) 0 56 (UB f) := ⟨by omega, AZ_congr fun i _ => by rw [Nat.zero_add]⟩
theorem partR_1 {f : Nat → BitVec 8} : Part .u8 112 (UB f) 56 56 (UB fun i => f (56 + i)) := ⟨by omega, rfl⟩
/-- Two elements, the program's; four of the reference's. -/
abbrev E2 (v : Nat → Int) : Value := .agg (AZ .u64 16 v)
abbrev F4 (v : Nat → Int) : Value := .agg (AZ .i64 64 v)
abbrev E2v (f g : Nat → Nat) : Nat → Int := t2 8 (NZ f) (NZ g)
abbrev F4v (a b c d : K) : Nat → Int := t4 16 (dF a.val) (dF b.val) (dF c.val) (dF d.val)
/-- A state of the ladder, the reference's. -/
abbrev L4v (s : L4 pN) : Nat → Int := F4v s.x0 s.z0 s.x1 s.z1
theorem rowE2 : IsRow Tryd.prog 32 16 := ⟨⟨_, Tryd.underlying32, rfl⟩, by kernel_rfl⟩
theorem rowF4 : IsRow Tryd.prog 38 64 := ⟨⟨_, Tryd.underlying38, rfl⟩, by kernel_rfl⟩
theorem nilE2 (w : World) : (zeroValue 32).run Tryd.prog w = .ok (.agg (AZ .u64 16 fun _ => 0)) w :=
  (show AZ .u64 16 (fun _ => 0) = Array.replicate 16 (.int .u64 0) by unfold AZ; rfl) ▸ (zero_of_info (show (Tryd.prog.info? 32).map (fun i => (i.zero, i.size)) = some (some (.agg (Array.replicate 16 (.int .u64 0))), 16) by kernel_rfl)).1 w
theorem nilF4 (w : World) : (zeroValue 38).run Tryd.prog w = .ok (.agg (AZ .i64 64 fun _ => 0)) w :=
  (show AZ .i64 64 (fun _ => 0) = Array.replicate 64 (.int .i64 0) by unfold AZ; rfl) ▸ (zero_of_info (show (Tryd.prog.info? 38).map (fun i => (i.zero, i.size)) = some (some (.agg (Array.replicate 64 (.int .i64 0))), 64) by kernel_rfl)).1 w
theorem built_E2 (f g : Nat → Int) (w : World) : (Instr.build 32 #[(0, .agg (AZ .u64 8 f)), (1, .agg (AZ .u64 8 g))]).run Tryd.prog w = .ok (.agg (AZ .u64 16 (t2 8 f g))) w :=
  run_build w _ _ _ (by kernel_rfl)
theorem built_F4 (f g h k : Nat → Int) (w : World) : (Instr.build 38 #[(0, .agg (AZ .i64 16 f)), (1, .agg (AZ .i64 16 g)), (2, .agg (AZ .i64 16 h)), (3, .agg (AZ .i64 16 k))]).run Tryd.prog w = .ok (.agg (AZ .i64 64 (t4 16 f g h k))) w :=
  run_build w _ _ _ (by kernel_rfl)
theorem built_F43 (f h k : Nat → Int) (w : World) : (Instr.build 38 #[(0, .agg (AZ .i64 16 f)), (2, .agg (AZ .i64 16 h)), (3, .agg (AZ .i64 16 k))]).run Tryd.prog w = .ok (.agg (AZ .i64 64 (t4 16 f (fun _ => 0) h k))) w :=
  run_build w _ _ _ (by kernel_rfl)
theorem dF_nought : dF 0 = fun _ => 0 := by
  funext i
  unfold dF
  simp
section
variable {ops : Array Oper} {rest : List Oper} {o : Oper} {a : Act} {w : World} {Q : Exit → Act → World → Prop}
theorem lay_build_E2 (hgd : o.guard = none) {x y : Operand} (ho : o.op = .build 32 #[(0, x), (1, y)]) {f g : Nat → Int} (hx : a.eval x = .agg (AZ .u64 8 f)) (hy : a.eval y = .agg (AZ .u64 8 g))
    (k : ∀ K : Act → World → Prop, (∀ a w, wpList Tryd.prog ops Q rest a w → K a w) → K (a.put o.dst (.agg (AZ .u64 16 (t2 8 f g)))) w) : wpList Tryd.prog ops Q (o :: rest) a w :=
  wpList_plain hgd fun K hK => by
    unfold Oper.wp execOp
    simp only [ho, List.map_toArray, List.map_cons, List.map_nil, hx, hy, Sem.run_bind, built_E2, Result.andThen_ok]
    exact k K hK
theorem lay_build_F4 (hgd : o.guard = none) {x y z u : Operand} (ho : o.op = .build 38 #[(0, x), (1, y), (2, z), (3, u)]) {f g h i : Nat → Int} (hx : a.eval x = .agg (AZ .i64 16 f)) (hy : a.eval y = .agg (AZ .i64 16 g)) (hz : a.eval z = .agg (AZ .i64 16 h)) (hu : a.eval u = .agg (AZ .i64 16 i))
    (k : ∀ K : Act → World → Prop, (∀ a w, wpList Tryd.prog ops Q rest a w → K a w) → K (a.put o.dst (.agg (AZ .i64 64 (t4 16 f g h i)))) w) : wpList Tryd.prog ops Q (o :: rest) a w :=
  wpList_plain hgd fun K hK => by
    unfold Oper.wp execOp
    simp only [ho, List.map_toArray, List.map_cons, List.map_nil, hx, hy, hz, hu, Sem.run_bind, built_F4, Result.andThen_ok]
    exact k K hK








end
section
variable {md : Region.Mode} {ops : Array Oper} {Q : Exit → Act → World → Prop} {S : World → Prop} {fuel : Nat} {listed : Array Bool} {a : Act} {w : World}
/-- In a region that draws its order: two elements are put together. -/
theorem held_E2 (i : Nat) (d : Tmp) {oi : Oper} (hi : ops[i]? = some oi) (hd : oi.dst = some d) (hs : Region.noSelect ops = true) (hf : Region.free md ops listed i = true)
    (hr : (Region.ready md ops listed).contains i = true) (hw : Region.wanted oi (yielded ops a.tmps) = true) (hS : S w) {x y : Operand} (ho : oi.op = .build 32 #[(0, x), (1, y)])
    {f g : Nat → Int} (hx : a.eval x = .agg (AZ .u64 8 f)) (hy : a.eval y = .agg (AZ .u64 8 g))
    (hN : wpAnyH Tryd.prog md ops (NoPanic Q) S fuel (listed.setIfInBounds i true) (a.put (some d) (.agg (AZ .u64 16 (t2 8 f g)))) w) : wpAnyH Tryd.prog md ops (NoPanic Q) S (fuel + 1) listed a w :=
  held_value i d (.agg (AZ .u64 16 (t2 8 f g))) hi hd hs hf hr hw hS (fun w _ => by
    unfold execOp
    simp only [ho, List.map_toArray, List.map_cons, List.map_nil, hx, hy, Sem.run_bind, built_E2, Result.andThen_ok]
    rfl) hN
theorem held_F4 (i : Nat) (d : Tmp) {oi : Oper} (hi : ops[i]? = some oi) (hd : oi.dst = some d) (hs : Region.noSelect ops = true) (hf : Region.free md ops listed i = true)
    (hr : (Region.ready md ops listed).contains i = true) (hw : Region.wanted oi (yielded ops a.tmps) = true) (hS : S w) {x y z u : Operand} (ho : oi.op = .build 38 #[(0, x), (1, y), (2, z), (3, u)])
    {f g h k : Nat → Int} (hx : a.eval x = .agg (AZ .i64 16 f)) (hy : a.eval y = .agg (AZ .i64 16 g)) (hz : a.eval z = .agg (AZ .i64 16 h)) (hu : a.eval u = .agg (AZ .i64 16 k))
    (hN : wpAnyH Tryd.prog md ops (NoPanic Q) S fuel (listed.setIfInBounds i true) (a.put (some d) (.agg (AZ .i64 64 (t4 16 f g h k)))) w) : wpAnyH Tryd.prog md ops (NoPanic Q) S (fuel + 1) listed a w :=
  held_value i d (.agg (AZ .i64 64 (t4 16 f g h k))) hi hd hs hf hr hw hS (fun w _ => by
    unfold execOp
    simp only [ho, List.map_toArray, List.map_cons, List.map_nil, hx, hy, hz, hu, Sem.run_bind, built_F4, Result.andThen_ok]
    rfl) hN
theorem held_F43 {O : Fin pN} (i : Nat) (d : Tmp) (hO : O = 0) {oi : Oper} (hi : ops[i]? = some oi) (hd : oi.dst = some d) (hs : Region.noSelect ops = true) (hf : Region.free md ops listed i = true)
    (hr : (Region.ready md ops listed).contains i = true) (hw : Region.wanted oi (yielded ops a.tmps) = true) (hS : S w) {x z u : Operand} (ho : oi.op = .build 38 #[(0, x), (2, z), (3, u)])
    {f h k : Nat → Int} (hx : a.eval x = .agg (AZ .i64 16 f)) (hz : a.eval z = .agg (AZ .i64 16 h)) (hu : a.eval u = .agg (AZ .i64 16 k))
    (hN : wpAnyH Tryd.prog md ops (NoPanic Q) S fuel (listed.setIfInBounds i true) (a.put (some d) (.agg (AZ .i64 64 (t4 16 f (dF O.val) h k)))) w) : wpAnyH Tryd.prog md ops (NoPanic Q) S (fuel + 1) listed a w :=
  held_value i d (.agg (AZ .i64 64 (t4 16 f (dF O.val) h k))) hi hd hs hf hr hw hS (fun w _ => by
    unfold execOp
    subst hO
    rw [show (0 : Fin pN).val = 0 from rfl, dF_nought]
    simp only [ho, List.map_toArray, List.map_cons, List.map_nil, hx, hz, hu, Sem.run_bind, built_F43, Result.andThen_ok]
    rfl) hN
end
end Go.Proofs.YtckmboebipbpbaaDoor

/-
  Two elements as a row: one of them loaded and stored. No statement is proved here: lemmas for the walks.
-/
namespace Go.Proofs.YtckmboebipbpbaaDoor
open Go.RowKit

/-- The element 0's limbs. -/
abbrev noF : Nat → Nat := fun _ => 0
theorem st2_0 {f g h : Nat → Int} : AZ .u64 16 (layZ (t2 8 f g) 0 8 h) = AZ .u64 16 (t2 8 h g) := AZ_congr fun i _ => by
  unfold layZ t2
  by_cases hi : i < 8
  · rw [if_pos (by omega), if_pos hi, Nat.sub_zero]
  · rw [if_neg (by omega), if_neg hi, if_neg hi]
theorem st2_1 {f g h : Nat → Int} : AZ .u64 16 (layZ (t2 8 f g) 8 8 h) = AZ .u64 16 (t2 8 f h) := AZ_congr fun i hi => by
  unfold layZ t2
  by_cases h8 : i < 8
  · rw [if_neg (by omega), if_pos h8, if_pos h8]
  · rw [if_pos (by omega), if_neg h8]
theorem blk_nil2 : (Blk 32 .u64 16 fun _ => 0) = Blk 32 .u64 16 (t2 8 (NZ noF) (NZ noF)) := by
  unfold Blk
  have e : AZ .u64 16 (fun _ => (0 : Int)) = AZ .u64 16 (t2 8 (NZ noF) (NZ noF)) := AZ_congr fun i _ => by
    unfold t2
    split <;> rfl
  rw [e]
section
variable {P : Program} {o : Oper} {a : Act} {w w0 : World} {l : List (Nat × Obj)} {K : Act → World → Prop} {Q : Exit → Act → World → Prop} {t ty : TypeId} {k : IntKind} {n m : Nat}
/-- A part of a row, or a whole one, is stored, in a region that draws its order. -/
theorem own_st_p (i : Nat) (hd : o.dst = none) (hT : IsRow P ty m) (H : Ow w0 w l) {x y : Operand} (ho : o.op = .store ty x y) {g j : Nat} (hx : a.eval x = .pointer (some ⟨g, j, none⟩)) {f f0 F : Nat → Int} (hy : a.eval y = .agg (AZ k m f))
    (hi : l[i]? = some (g, Blk t k n f0)) (hj : j + m ≤ n) (hF : AZ k n (layZ f0 j m f) = AZ k n F) (h : ∀ w', Ow w0 w' (l.set i (g, Blk t k n F)) → K a w') : o.wp P a w K Q := by
  unfold Oper.wp execOp
  simp only [ho, hx, hy, Sem.run_bind, run_store_part (g := f) hT (H.row i hi) hj, Result.andThen_ok]
  have e : Blk t k n (layZ f0 j m f) = Blk t k n F := by
    unfold Blk
    rw [hF]
  have hO := H.setRow i hi (layZ f0 j m f)
  rw [e] at hO
  have hp : a.put o.dst undef = a := by
    rw [hd]
    rfl
  have h2 := h _ hO
  rw [← hp] at h2
  exact h2
theorem own_st (i : Nat) (hd : o.dst = none) (hT : IsRow P ty n) (H : Ow w0 w l) {x y : Operand} (ho : o.op = .store ty x y) {g : Nat} (hx : a.eval x = .pointer (some ⟨g, 0, none⟩)) {f f0 : Nat → Int} (hy : a.eval y = .agg (AZ k n f))
    (hi : l[i]? = some (g, Blk t k n f0)) (h : ∀ w', Ow w0 w' (l.set i (g, Blk t k n f)) → K a w') : o.wp P a w K Q :=
  own_st_p i hd hT H ho hx hy hi (by omega) (layZ_all f0 f n) h
end
theorem k_ofZ : ofZ 39081 = cK := by decide +kernel
theorem step_x0 (u x0 z0 x1 z1 : K) : (x0 + z0) * (x0 + z0) * ((x0 - z0) * (x0 - z0)) = (ldA cK u ⟨x0, z0, x1, z1⟩).x0 := rfl
theorem step_x1 (u x0 z0 x1 z1 : K) : ((x0 + z0) * (x1 - z1) + (x1 + z1) * (x0 - z0)) * ((x0 + z0) * (x1 - z1) + (x1 + z1) * (x0 - z0)) = (ldA cK u ⟨x0, z0, x1, z1⟩).x1 := by
  show _ = ldU x0 z0 x1 z1 * ldU x0 z0 x1 z1
  have e : (x0 + z0) * (x1 - z1) + (x1 + z1) * (x0 - z0) = ldU x0 z0 x1 z1 := by
    unfold ldU
    grind
  rw [e]
theorem step_z0 (u x0 z0 x1 z1 : K) : ((x0 + z0) * (x0 + z0) - (x0 - z0) * (x0 - z0)) * ((x0 + z0) * (x0 + z0) + ((x0 + z0) * (x0 + z0) - (x0 - z0) * (x0 - z0)) * ofZ 39081) = (ldA cK u ⟨x0, z0, x1, z1⟩).z0 := by
  rw [k_ofZ]
  show _ = ldZ cK x0 z0
  unfold ldZ ldW
  generalize cK = c
  grind
theorem step_z1 (u x0 z0 x1 z1 : K) : u * (((x0 + z0) * (x1 - z1) - (x1 + z1) * (x0 - z0)) * ((x0 + z0) * (x1 - z1) - (x1 + z1) * (x0 - z0))) = (ldA cK u ⟨x0, z0, x1, z1⟩).z1 := by
  show _ = u * (ldD x0 z0 x1 z1 * ldD x0 z0 x1 z1)
  have e : (x0 + z0) * (x1 - z1) - (x1 + z1) * (x0 - z0) = ldD x0 z0 x1 z1 := by
    unfold ldD
    grind
  rw [e]
end Go.Proofs.YtckmboebipbpbaaDoor

/-
  Parts of rows, in loads that a guard keeps. No statement is proved here: lemmas for the walks.
-/
namespace Go.Proofs.YtckmboebipbpbaaDoor
open Go.RowKit

section
variable {P : Program} {ops : Array Oper} {rest : List Oper} {o : Oper} {a : Act} {w w0 : World} {l : List (Nat × Obj)} {Q : Exit → Act → World → Prop} {t ty : TypeId} {k : IntKind} {n m : Nat}
theorem own_load_pg {i : Nat} (hT : IsRow P ty m) (H : Hid (Ow w0 w l)) (hw : Region.wanted o (yielded ops a.tmps) = true) {x : Operand} (ho : o.op = .load ty x) {g j : Nat} (hx : a.eval x = .pointer (some ⟨g, j, none⟩)) {f p : Nat → Int}
    (hi : l[i]? = some (g, Blk t k n f)) (hp : Part k n f j m p) (h : ∀ K : Act → World → Prop, (∀ a w, wpList P ops Q rest a w → K a w) → K (a.put o.dst (.agg (AZ k m p))) w) : wpList P ops Q (o :: rest) a w :=
  list_wanted hw fun K hK => by
    unfold Oper.wp execOp
    simp only [ho, hx, Sem.run_bind, run_load_p hT (H.out.row i hi) hp, Result.andThen_ok]
    exact h K hK
end
end Go.Proofs.YtckmboebipbpbaaDoor
