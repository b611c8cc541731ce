/- Lemmas; no statement is proved here. -/
import Derived.Test.YtgjbonikbmgfmaaGreatDoorBuG
namespace Go.Proofs.YtgjbonikbmgfmaaGreatDoor
structure L4 (p : Nat) where
 x0 : Fin p
 z0 : Fin p
 x1 : Fin p
 z1 : Fin p
section
variable {p : Nat} [NeZero p]
def ldX (x z : Fin p) : Fin p := (x + z) * (x + z) * ((x - z) * (x - z))
def ldW (x z : Fin p) : Fin p := (x + z) * (x + z) - (x - z) * (x - z)
def ldZ (c x z : Fin p) : Fin p := ldW x z * ((x + z) * (x + z) + c * ldW x z)
def ldU (x z v w : Fin p) : Fin p := (v - w) * (x + z) + (v + w) * (x - z)
def ldD (x z v w : Fin p) : Fin p := (v - w) * (x + z) - (v + w) * (x - z)
def ldA (c u : Fin p) (s : L4 p) : L4 p :=
 ⟨ldX s.x0 s.z0, ldZ c s.x0 s.z0, ldU s.x0 s.z0 s.x1 s.z1 * ldU s.x0 s.z0 s.x1 s.z1, u * (ldD s.x0 s.z0 s.x1 s.z1 * ldD s.x0 s.z0 s.x1 s.z1)⟩
def L4.turn (s : L4 p) : L4 p := ⟨s.x1, s.z1, s.x0, s.z0⟩
def ldB (c u : Fin p) (b : Bool) (s : L4 p) : L4 p := if b then (ldA c u s.turn).turn else ldA c u s
def lad (c u : Fin p) : Nat → Nat → L4 p
 | 0, _ => ⟨1, 0, u, 1⟩
 | t + 1, n => ldB c u (decide (n % 2 = 1)) (lad c u t (n / 2))
def ladR (s : L4 p) : Fin p := s.x0 * inv s.z0
variable {d : Fin p}
def Rp4 (X Z : Pt p d → Fin p) (a b : Pt p d) (s : L4 p) : Prop :=
 ∃ k l : Fin p, k ≠ 0 ∧ l ≠ 0 ∧ s.x0 = k * X a ∧ s.z0 = k * Z a ∧ s.x1 = l * X b ∧ s.z1 = l * Z b
theorem Rp4.turn {X Z : Pt p d → Fin p} {a b : Pt p d} {s : L4 p} (h : Rp4 X Z a b s) : Rp4 X Z b a s.turn := by
 obtain ⟨k, l, hk, hl, h1, h2, h3, h4⟩ := h
 exact ⟨l, k, hl, hk, h3, h4, h1, h2⟩
end
section
variable {p : Nat} [NeZero p] {d : Fin p}
theorem y6k (h : EdF p d) : (2 : Fin p) ≠ 0 := fun e => z06 h.pr (y6a h.pr h.two (show (1 : Fin p) = -1 by grind))
end
section
variable {p : Nat} [NeZero p] {d : Fin p}
structure TwF (p : Nat) [NeZero p] (d n s : Fin p) : Prop where
 ed : EdF p d
 eq : n = 1 - d
 sq : n - 1 = s * s
 ne : s ≠ 0
 no : ∀ u v : Fin p, u * u = n * (v * v) → v = 0
def wtS (a : Pt p d) : Fin p := 2 * (a.x * a.y)
def wtC (a : Pt p d) : Fin p := a.y * a.y - a.x * a.x
def wtG (a : Pt p d) : Fin p := a.x * a.x + a.y * a.y
def wtF (a : Pt p d) : Fin p := 2 - (a.x * a.x + a.y * a.y)
theorem wtFG (a : Pt p d) : wtF a = 2 - wtG a := rfl
theorem wtCSG (a : Pt p d) : wtC a * wtC a + wtS a * wtS a = wtG a * wtG a := by
 unfold wtC wtS wtG
 generalize a.x = x
 generalize a.y = y
 grind
theorem wtSG (a : Pt p d) : d * (wtS a * wtS a) = 4 * (wtG a - 1) := by
 have := a.on
 unfold wtS wtG
 generalize a.x = x at *
 generalize a.y = y at *
 grind
theorem y69 (h : EdF p d) (a : Pt p d) : wtG a ≠ 0 := by
 have := h.plus a a
 unfold wtG
 rw [a.on]
 exact this
theorem y7a (h : EdF p d) (a : Pt p d) : wtF a ≠ 0 := by
 have := h.minus a a
 unfold wtF
 rw [a.on]
 intro e
 refine this ?_
 rw [← e]
 generalize a.x = x
 generalize a.y = y
 grind
variable {n s : Fin p}
theorem wtCF (h : TwF p d n s) (a : Pt p d) : wtC a * wtC a + n * (wtS a * wtS a) = wtF a * wtF a := by
 have h1 := wtCSG a
 have h2 := wtSG a
 have h3 := wtFG a
 have h4 := h.eq
 generalize wtC a = C at *
 generalize wtS a = S at *
 generalize wtG a = G at *
 generalize wtF a = F at *
 grind
end
section
variable {p c : Nat} [NeZero p] {d n s e f : Fin p}
structure DfF (p : Nat) [NeZero p] (c : Nat) (d n s e f : Fin p) : Prop where
 tw : TwF p d n s
 c4 : p = 4 * c + 3
 c0 : c ≠ 0
 ee : e * e = -d
 ef : e * f * (e * f) = 1
def dfR (c : Nat) (v : Fin p) : Fin p := ab (zL c 1 v)
theorem y1a (h : DfF p c d n s e f) : p % 2 = 1 := by
 have := h.c4
 omega
theorem y6o (h : DfF p c d n s e f) {v w : Fin p} (hv : v = w * w) (hw : w ≠ 0) : v * (dfR c v * dfR c v) = 1 := by
 unfold dfR
 rw [y2c]
 have hp := h.tw.ed.pr
 have v0 : v ≠ 0 := by rw [hv]; exact z0e hp hw hw
 rcases y74 hp h.c4 (z06 hp) v0 with k | k
 ·exact k
 ·exfalso
  have h1 := (z4d hp h.c4 (show w * zL c 1 v * (w * zL c 1 v) = -((1 : Fin p) * 1) by
   rw [show (1 : Fin p) * 1 = 1 by grind, ← k, hv]
   generalize zL c 1 (w * w) = r
   grind)).2
  exact z06 hp h1
theorem df_f (h : DfF p c d n s e f) {W x : Fin p} (hW : W * W = e * e * (x * x)) : f * W * (f * W) = x * x := by
 have := h.ef
 have e1 : f * W * (f * W) = e * f * (e * f) * (x * x) := by
  rw [show f * W * (f * W) = f * f * (W * W) by grind, hW]
  grind
 rw [e1, this]
 grind
def dfE (c : Nat) (n e f x y : Fin p) : Fin p :=
 let z := x * y
 let u := (x + z) * (x - z)
 let r := dfR c (n * (u * (x * x)))
 let w := ab (r * u * e)
 ab (n * r * (x * (f * w - z)))
def dfV (d s : Fin p) : Fin p := (1 + s * s) * (1 + s * s) - 4 * (d * (s * s))
def dfQ (c : Nat) (d s : Fin p) : Fin p := dfR c (dfV d s * ((1 + s * s) * (1 + s * s)))
def dfW (c : Nat) (d e s : Fin p) : Fin p := ab (2 * s * dfQ c d s * ((1 + s * s) * e))
def dfX (c : Nat) (d e f s : Fin p) : Fin p := dfW c d e s * dfQ c d s * (dfV d s * f)
def dfY (c : Nat) (d s : Fin p) : Fin p := (1 - s * s) * dfQ c d s * (1 + s * s)
def dfOk (c : Nat) (d s : Fin p) : Prop := dfV d s * ((1 + s * s) * (1 + s * s)) * (dfQ c d s * dfQ c d s) = 1
theorem y15 (y : Fin p) : dfE c n e f 0 y = 0 := by
 unfold dfE
 simp only []
 rw [show ∀ q : Fin p, n * q * (0 * (f * ab (q * ((0 + 0 * y) * (0 - 0 * y)) * e) - 0 * y)) = 0 from fun q => by
  generalize f * ab (q * ((0 + 0 * y) * (0 - 0 * y)) * e) - 0 * y = v
  grind, y2b]
end
section
variable {p c : Nat} [NeZero p] {d n s e f : Fin p}
theorem df_n (h : DfF p c d n s e f) : n ≠ 0 := fun k => z06 h.tw.ed.pr (h.tw.no 0 1 (by rw [k]; grind))
theorem y4h (h : DfF p c d n s e f) : (4 : Fin p) ≠ 0 := by
 rw [show (4 : Fin p) = 2 * 2 by grind]
 exact z0e h.tw.ed.pr (y6k h.tw.ed) (y6k h.tw.ed)
theorem z99 (hp : prime p) {a b : Fin p} (h : a * a = b * b) : ∃ q : Fin p, q * q = 1 ∧ a = q * b := by
 rcases y85 hp h with k | k
 ·exact ⟨1, by grind, by rw [k]; grind⟩
 ·exact ⟨-1, by grind, by rw [k]; grind⟩
theorem df_W (h : DfF p c d n s e f) {S F : Fin p} (hF : F ≠ 0) : ∃ q : Fin p, q * q = 1 ∧ f * ab (e * (S * inv F)) * F = q * S := by
 have hp := h.tw.ed.pr
 have hi := z3n hp hF
 refine z99 hp ?_
 have h1 : ab (e * (S * inv F)) * ab (e * (S * inv F)) = e * e * (S * inv F * (S * inv F)) := by
  rw [y2c]
  generalize S * inv F = t
  grind
 have h2 := df_f h h1
 generalize ab (e * (S * inv F)) = W at *
 generalize inv F = i at *
 rw [show f * W * F * (f * W * F) = f * W * (f * W) * (F * F) by grind, h2, show S * i * (S * i) * (F * F) = S * S * (i * F * (i * F)) by grind, hi]
 grind
theorem dfE_two (h : DfF p c d n s e f) (P : Pt p d) {x y q : Fin p} (hx : x * wtG P = wtS P) (hy : y * wtF P = wtC P) (hS : wtS P ≠ 0)
  (hq : f * ab (e * (wtS P * inv (wtF P))) * wtF P = q * wtS P) :
  dfE c n e f x y * wtS P * (dfE c n e f x y * wtS P) = (q * wtG P - wtC P) * (q * wtG P - wtC P) := by
 have hp := h.tw.ed.pr
 have F0 := y7a h.tw.ed P
 have G0 := y69 h.tw.ed P
 have n0 := df_n h
 have hCF := wtCF h.tw P
 have hi := z3n hp F0
 have i0 := y80 hp F0
 generalize wtS P = S at *
 generalize wtC P = C at *
 generalize wtG P = G at *
 generalize wtF P = F at *
 generalize inv F = i at *
 have x0 : x ≠ 0 := fun k => hS (by rw [← hx, k]; grind)
 -- 1 less y y
 have h1 : 1 - y * y = n * (S * S) * (i * i) := by
  refine z0u hp (z0e hp F0 F0) ?_
  rw [show F * F * (1 - y * y) = F * F - (y * F) * (y * F) by clear hCF hi hq hx hy; grind, hy, show F * F * (n * (S * S) * (i * i)) = n * (S * S) * (i * F * (i * F)) by clear hCF hi hq hx hy; grind, hi, ← hCF]
  clear hCF hi hq hx hy
  grind
 have hu : (x + x * y) * (x - x * y) = x * x * (n * (S * S) * (i * i)) := by
  rw [← h1]
  clear h1 hCF hi hq hx hy
  grind
 have hN : n * ((x + x * y) * (x - x * y) * (x * x)) = n * (x * x) * (S * i) * (n * (x * x) * (S * i)) := by
  rw [hu]
  clear h1 hu hCF hi hq hx hy
  grind
 have w0 : n * (x * x) * (S * i) ≠ 0 := z0e hp (z0e hp n0 (z0e hp x0 x0)) (z0e hp hS i0)
 have hr := y6o h hN w0
 unfold dfE
 simp only []
 generalize dfR c (n * ((x + x * y) * (x - x * y) * (x * x))) = r at *
 rw [hN] at hr
 -- the root's part
 have hw : ab (r * ((x + x * y) * (x - x * y)) * e) = ab (e * (S * i)) := z5i hp (y1a h) (by
  rw [hu]
  rw [show r * (x * x * (n * (S * S) * (i * i))) * e * (r * (x * x * (n * (S * S) * (i * i))) * e) = e * e * (S * i * (S * i)) * (n * (x * x) * (S * i) * (n * (x * x) * (S * i)) * (r * r)) by clear hr hN hu h1 hCF hi hq hx hy; grind, hr]
  clear hr hN hu h1 hCF hi hq hx hy
  grind)
 rw [hw]
 generalize ab (e * (S * i)) = W at *
 clear hw
 -- what stands beside it
 have hv : (f * W - x * y) * F * G = S * (q * G - C) := by
  rw [show (f * W - x * y) * F * G = f * W * F * G - x * G * (y * F) by clear hr hN hu h1 hCF hi hq hx hy; grind, hq, hx, hy]
  clear hr hN hu h1 hCF hi hq hx hy
  grind
 have hrr : n * r * (x * x) * S * (n * r * (x * x) * S) = F * F := by
  have k : n * r * (x * x) * S * (n * r * (x * x) * S) = n * (x * x) * (S * i) * (n * (x * x) * (S * i)) * (r * r) * (F * F) := by
   rw [show n * (x * x) * (S * i) * (n * (x * x) * (S * i)) * (r * r) * (F * F) = n * r * (x * x) * S * (n * r * (x * x) * S) * (i * F * (i * F)) by clear hr hN hu h1 hCF hi hq hx hy hv; grind, hi]
   clear hr hN hu h1 hCF hi hq hx hy hv
   grind
  rw [k, hr]
  clear k hr hN hu h1 hCF hi hq hx hy hv
  grind
 generalize f * W - x * y = v at *
 have hsq : ab (n * r * (x * v)) * ab (n * r * (x * v)) = n * r * (x * v) * (n * r * (x * v)) := y2c _
 generalize ab (n * r * (x * v)) = t at *
 refine z0u hp (z0e hp (z0e hp hS hS) (z0e hp F0 F0)) ?_
 have l1 : S * S * (F * F) * (t * S * (t * S)) = t * t * (S * S) * (F * F) * (S * S) := by clear hsq hr hN hu h1 hCF hi hq hx hy hv hrr; grind
 have l2 : n * r * (x * v) * (n * r * (x * v)) * (S * S) * (F * F) * (x * G * (x * G)) = n * r * (x * x) * S * (n * r * (x * x) * S) * (v * F * G * (v * F * G)) := by clear hsq l1 hr hN hu h1 hCF hi hq hx hy hv hrr; grind
 rw [hx, hrr, hv] at l2
 rw [l1, hsq, l2]
 clear l1 l2 hsq hr hN hu h1 hCF hi hq hx hy hv hrr
 grind
theorem dfD_two (h : DfF p c d n s e f) (P : Pt p d) {x y q t : Fin p} (hx : x * wtG P = wtS P) (hy : y * wtF P = wtC P) (hS : wtS P ≠ 0) (hqq : q * q = 1)
  (hq : f * ab (e * (wtS P * inv (wtF P))) * wtF P = q * wtS P) (ht : t * wtS P * (t * wtS P) = (q * wtG P - wtC P) * (q * wtG P - wtC P)) :
  dfOk c d t ∧ ∃ g : Fin p, g * g = 1 ∧ dfX c d e f t = g * x ∧ dfY c d t = g * y := by
 have hp := h.tw.ed.pr
 have F0 := y7a h.tw.ed P
 have G0 := y69 h.tw.ed P
 have four := y4h h
 have two := y6k h.tw.ed
 have hCSG := wtCSG P
 have hSG := wtSG P
 have hFG := wtFG P
 have hi := z3n hp F0
 generalize wtS P = S at *
 generalize wtC P = C at *
 generalize wtG P = G at *
 generalize wtF P = F at *
 generalize inv F = i at *
 obtain ⟨A, hA⟩ : ∃ A, q * G - C = A := ⟨_, rfl⟩
 obtain ⟨B, hB⟩ : ∃ B, q * G + C = B := ⟨_, rfl⟩
 rw [hA] at ht
 have hAB : A * B = S * S := by
  rw [← hA, ← hB, show (q * G - C) * (q * G + C) = q * q * (G * G) - C * C by clear ht hq hx hy; grind, hqq, ← hCSG]
  clear ht hq hx hy hCSG hSG
  grind
 have SS0 : S * S ≠ 0 := z0e hp hS hS
 have A0 : A ≠ 0 := fun k => SS0 (by rw [← hAB, k]; grind)
 have B0 : B ≠ 0 := fun k => SS0 (by rw [← hAB, k]; grind)
 have hsum : B + A = 2 * (q * G) := by rw [← hA, ← hB]; clear ht hq hx hy hCSG hSG hAB hA hB; grind
 have hdif : B - A = 2 * C := by rw [← hA, ← hB]; clear ht hq hx hy hCSG hSG hAB hA hB; grind
 have htB : t * t * B = A := by
  refine z0u hp A0 ?_
  rw [show A * (t * t * B) = t * t * (A * B) by clear ht hq hx hy hCSG hSG hAB hA hB hsum hdif; grind, hAB, show t * t * (S * S) = t * S * (t * S) by clear ht hq hx hy hCSG hSG hAB hA hB hsum hdif; grind, ht]
 clear hA hB
 have huB : (1 + t * t) * B = 2 * (q * G) := by
  rw [← hsum, show (1 + t * t) * B = B + t * t * B by clear ht hq hx hy hCSG hSG hAB hsum hdif htB; grind, htB]
 have hvB : dfV d t * (B * B) = 4 * (F * F) := by
  unfold dfV
  rw [show ((1 + t * t) * (1 + t * t) - 4 * (d * (t * t))) * (B * B) = (1 + t * t) * B * ((1 + t * t) * B) - 4 * (d * (t * t * B * B)) by clear ht hq hx hy hCSG hSG hAB hsum hdif htB huB; grind, huB, htB, hAB, hSG, hFG,
   show 2 * (q * G) * (2 * (q * G)) = 4 * (q * q * (G * G)) by clear ht hq hx hy hCSG hSG hAB hsum hdif htB huB; grind, hqq]
  clear ht hq hx hy hCSG hSG hAB hsum hdif htB huB
  grind
 unfold dfOk dfX dfY dfW dfQ
 generalize dfV d t = v at *
 have hj := z3n hp B0
 have j0 := y80 hp B0
 generalize inv B = j at *
 have hN : v * ((1 + t * t) * (1 + t * t)) = 4 * (F * G) * (j * j) * (4 * (F * G) * (j * j)) := by
  refine z0u hp (z0e hp (z0e hp B0 B0) (z0e hp B0 B0)) ?_
  rw [show B * B * (B * B) * (v * ((1 + t * t) * (1 + t * t))) = v * (B * B) * ((1 + t * t) * B * ((1 + t * t) * B)) by clear ht hq hx hy hCSG hSG hAB hsum hdif htB huB hvB hj; grind, hvB, huB,
   show B * B * (B * B) * (4 * (F * G) * (j * j) * (4 * (F * G) * (j * j))) = 4 * (F * G) * (4 * (F * G)) * (j * B * (j * B) * (j * B * (j * B))) by clear ht hq hx hy hCSG hSG hAB hsum hdif htB huB hvB hj; grind, hj,
   show 4 * (F * F) * (2 * (q * G) * (2 * (q * G))) = 16 * (F * F) * (G * G) * (q * q) by clear ht hq hx hy hCSG hSG hAB hsum hdif htB huB hvB hj; grind, hqq]
  clear ht hq hx hy hCSG hSG hAB hsum hdif htB huB hvB hj
  grind
 have w0 : 4 * (F * G) * (j * j) ≠ 0 := z0e hp (z0e hp four (z0e hp F0 G0)) (z0e hp j0 j0)
 have hr := y6o h hN w0
 generalize dfR c (v * ((1 + t * t) * (1 + t * t))) = r at *
 refine ⟨hr, ?_⟩
 rw [hN] at hr
 obtain ⟨o, ho, hro⟩ := z99 hp (a := r * (4 * (F * G))) (b := B * B) (by
  rw [show r * (4 * (F * G)) * (r * (4 * (F * G))) = r * (4 * (F * G)) * (r * (4 * (F * G))) * (1 * 1 * (1 * 1)) by clear ht hq hx hy hCSG hSG hAB hsum hdif htB huB hvB hj hN hr; grind, ← hj,
   show r * (4 * (F * G)) * (r * (4 * (F * G))) * (j * B * (j * B) * (j * B * (j * B))) = 4 * (F * G) * (j * j) * (4 * (F * G) * (j * j)) * (r * r) * (B * B * (B * B)) by clear ht hq hx hy hCSG hSG hAB hsum hdif htB huB hvB hj hN hr; grind, hr]
  clear ht hq hx hy hCSG hSG hAB hsum hdif htB huB hvB hj hN hr
  grind)
 clear hr hN hj
 have G4 : 16 * (G * G) ≠ 0 := by
  rw [show (16 : Fin p) * (G * G) = 4 * 4 * (G * G) by clear ht hq hx hy hCSG hSG hAB hsum hdif htB huB hvB hro; grind]
  exact z0e hp (z0e hp four four) (z0e hp G0 G0)
 have hw : ab (2 * t * r * ((1 + t * t) * e)) = ab (e * (S * i)) := z5i hp (y1a h) (by
  refine z0u hp (z0e hp G4 (z0e hp F0 F0)) ?_
  rw [show 16 * (G * G) * (F * F) * (2 * t * r * ((1 + t * t) * e) * (2 * t * r * ((1 + t * t) * e))) = 4 * (e * e) * (t * t) * ((1 + t * t) * (1 + t * t)) * (r * (4 * (F * G)) * (r * (4 * (F * G)))) by clear ht hq hx hy hCSG hSG hAB hsum hdif htB huB hvB hro; grind, hro,
   show 4 * (e * e) * (t * t) * ((1 + t * t) * (1 + t * t)) * (o * (B * B) * (o * (B * B))) = 4 * (e * e) * (o * o) * (t * t * B) * B * ((1 + t * t) * B * ((1 + t * t) * B)) by clear ht hq hx hy hCSG hSG hAB hsum hdif htB huB hvB hro; grind, ho, htB, huB,
   show 4 * (e * e) * 1 * A * B * (2 * (q * G) * (2 * (q * G))) = 16 * (e * e) * (A * B) * (q * q) * (G * G) by clear ht hq hx hy hCSG hSG hAB hsum hdif htB huB hvB hro; grind, hAB, hqq,
   show 16 * (G * G) * (F * F) * (e * (S * i) * (e * (S * i))) = 16 * (e * e) * (S * S) * (G * G) * (i * F * (i * F)) by clear ht hq hx hy hCSG hSG hAB hsum hdif htB huB hvB hro; grind, hi]
  clear ht hq hx hy hCSG hSG hAB hsum hdif htB huB hvB hro
  grind)
 rw [hw]
 clear hw
 generalize ab (e * (S * i)) = W at *
 refine ⟨q * o, by rw [show q * o * (q * o) = q * q * (o * o) by clear ht hq hx hy hCSG hSG hAB hsum hdif htB huB hvB hro; grind, hqq, ho]; clear ht hq hx hy hCSG hSG hAB hsum hdif htB huB hvB hro; grind, ?_, ?_⟩
 ·refine z0u hp (z0e hp four (z0e hp (z0e hp F0 F0) G0)) ?_
  rw [show 4 * (F * F * G) * (W * r * (v * f)) = f * W * F * (r * (4 * (F * G))) * v by clear ht hq hx hy hCSG hSG hAB hsum hdif htB huB hvB hro; grind, hq, hro,
   show q * S * (o * (B * B)) * v = q * S * o * (v * (B * B)) by clear ht hq hx hy hCSG hSG hAB hsum hdif htB huB hvB hro; grind, hvB,
   show 4 * (F * F * G) * (q * o * x) = 4 * (F * F) * (q * o) * (x * G) by clear ht hq hx hy hCSG hSG hAB hsum hdif htB huB hvB hro; grind, hx]
  clear ht hq hx hy hCSG hSG hAB hsum hdif htB huB hvB hro
  grind
 ·refine z0u hp (z0e hp four (z0e hp F0 G0)) ?_
  rw [show 4 * (F * G) * ((1 - t * t) * r * (1 + t * t)) = (1 - t * t) * (1 + t * t) * (r * (4 * (F * G))) by clear ht hq hx hy hCSG hSG hAB hsum hdif htB huB hvB hro; grind, hro,
   show (1 - t * t) * (1 + t * t) * (o * (B * B)) = o * (B - t * t * B) * ((1 + t * t) * B) by clear ht hq hx hy hCSG hSG hAB hsum hdif htB huB hvB hro; grind, htB, huB, hdif,
   show 4 * (F * G) * (q * o * y) = 4 * (G * (q * o)) * (y * F) by clear ht hq hx hy hCSG hSG hAB hsum hdif htB huB hvB hro; grind, hy]
  clear ht hq hx hy hCSG hSG hAB hsum hdif htB huB hvB hro
  grind
theorem dfD_zero (h : DfF p c d n s e f) {y : Fin p} (hy : y * y = 1) : dfOk c d (0 : Fin p) ∧ ∃ g : Fin p, g * g = 1 ∧ dfX c d e f (0 : Fin p) = 0 ∧ dfY c d (0 : Fin p) = g * y := by
 have hp := h.tw.ed.pr
 have hv : dfV d (0 : Fin p) = 1 := by unfold dfV; grind
 have hu : (1 + (0 : Fin p) * 0) = 1 := by grind
 have hr := y6o h (v := (1 : Fin p)) (w := 1) (by grind) (z06 hp)
 unfold dfOk dfX dfY dfW dfQ
 rw [hv, hu, show (1 : Fin p) * (1 * 1) = 1 by grind]
 generalize dfR c (1 : Fin p) = r at *
 refine ⟨hr, r * y, ?_, ?_, ?_⟩
 ·rw [show r * y * (r * y) = r * r * (y * y) by grind, hy]
  grind
 ·rw [show 2 * 0 * r * (1 * e) = 0 by grind, y2b]
  grind
 ·rw [show r * y * y = r * (y * y) by grind, hy]
  grind
theorem df_back (h : DfF p c d n s e f) (P : Pt p d) : dfOk c d (dfE c n e f (z6 h.tw.ed P P).x (z6 h.tw.ed P P).y) ∧ ∃ g : Fin p, g * g = 1
  ∧ dfX c d e f (dfE c n e f (z6 h.tw.ed P P).x (z6 h.tw.ed P P).y) = g * (z6 h.tw.ed P P).x ∧ dfY c d (dfE c n e f (z6 h.tw.ed P P).x (z6 h.tw.ed P P).y) = g * (z6 h.tw.ed P P).y := by
 have hp := h.tw.ed.pr
 have h1 := z7j h.tw.ed P P
 have h2 := z9x h.tw.ed P P
 have oa := P.on
 have hS : wtS P = P.x * P.y + P.x * P.y := by unfold wtS; generalize P.x = x; generalize P.y = y; grind
 have hC : wtC P = P.y * P.y - P.x * P.x := rfl
 have hG : wtG P = 1 + d * (P.x * P.x * (P.y * P.y)) := oa
 have hF : wtF P = 1 - d * (P.x * P.x * (P.y * P.y)) := by unfold wtF; rw [oa]; grind
 rw [← hG, ← hS] at h1
 rw [← hF, ← hC] at h2
 clear hS hC hG hF oa
 generalize (z6 h.tw.ed P P).x = x at *
 generalize (z6 h.tw.ed P P).y = y at *
 by_cases hS : wtS P = 0
 ·have k1 := wtSG P
  have k2 := wtCSG P
  have k3 := wtFG P
  rw [hS] at k1 k2 h1
  have hg : wtG P = 1 := by
   rcases z02 hp (show 4 * (wtG P - 1) = 0 by rw [← k1]; grind) with k | k
   ·exact absurd k (y4h h)
   ·grind
  rw [hg] at k2 k3 h1
  rw [k3] at h2
  have hx : x = 0 := by rw [← h1]; grind
  have hy : y * y = 1 := by
   have : y = wtC P := by rw [← h2]; grind
   rw [this]
   grind
  rw [hx, y15]
  obtain ⟨a, g, b1, b2, b3⟩ := dfD_zero h hy
  exact ⟨a, g, b1, by rw [b2]; grind, b3⟩
 ·obtain ⟨q, hqq, hq⟩ := df_W h (S := wtS P) (y7a h.tw.ed P)
  exact dfD_two h P h1 h2 hS hqq hq (dfE_two h P h1 h2 hS hq)
end
section
variable {p c : Nat} [NeZero p] {d n s e f : Fin p}
theorem y3g (h : DfF p c d n s e f) {t : Fin p} (ok : dfOk c d t) :
  dfX c d e f t * dfX c d e f t + dfY c d t * dfY c d t = 1 + d * (dfX c d e f t * dfX c d e f t * (dfY c d t * dfY c d t))
  ∧ dfX c d e f t * dfX c d e f t * ((1 + t * t) * (1 + t * t)) = 4 * (t * t) ∧ dfV d t * (dfY c d t * dfY c d t) = (1 - t * t) * (1 - t * t) := by
 have hp := h.tw.ed.pr
 unfold dfOk at ok
 have hV : dfV d t = (1 + t * t) * (1 + t * t) - 4 * (d * (t * t)) := rfl
 unfold dfX dfY
 have hW : dfW c d e t * dfW c d e t = 4 * (t * t) * (dfQ c d t * dfQ c d t) * ((1 + t * t) * (1 + t * t)) * (e * e) := by
  unfold dfW
  rw [y2c]
  generalize dfQ c d t = r
  generalize 1 + t * t = u
  grind
 have hef := h.ef
 generalize dfW c d e t = W at *
 generalize dfQ c d t = r at *
 generalize dfV d t = v at *
 obtain ⟨u, hu⟩ : ∃ u, 1 + t * t = u := ⟨_, rfl⟩
 rw [hu] at ok hV hW ⊢
 have u0 : u ≠ 0 := fun k => z06 hp (by rw [← ok, k]; clear ok hV hW hef; grind)
 have v0 : v ≠ 0 := fun k => z06 hp (by rw [← ok, k]; clear ok hV hW hef; grind)
 have hx : W * r * (v * f) * (W * r * (v * f)) * (u * u) = 4 * (t * t) := by
  rw [show W * r * (v * f) * (W * r * (v * f)) * (u * u) = W * W * (r * r) * (v * v) * (f * f) * (u * u) by clear ok hV hW hef hu; grind, hW,
   show 4 * (t * t) * (r * r) * (u * u) * (e * e) * (r * r) * (v * v) * (f * f) * (u * u) = 4 * (t * t) * (v * (u * u) * (r * r) * (v * (u * u) * (r * r))) * (e * f * (e * f)) by clear ok hV hW hef hu; grind, ok, hef]
  clear ok hV hW hef hu
  grind
 have hy : v * ((1 - t * t) * r * u * ((1 - t * t) * r * u)) = (1 - t * t) * (1 - t * t) := by
  rw [show v * ((1 - t * t) * r * u * ((1 - t * t) * r * u)) = (1 - t * t) * (1 - t * t) * (v * (u * u) * (r * r)) by clear ok hV hW hef hu hx; grind, ok]
  clear ok hV hW hef hu hx
  grind
 refine ⟨?_, hx, hy⟩
 generalize W * r * (v * f) * (W * r * (v * f)) = X at *
 generalize (1 - t * t) * r * u * ((1 - t * t) * r * u) = Y at *
 refine z0u hp (z0e hp (z0e hp u0 u0) v0) ?_
 rw [show u * u * v * (X + Y) = X * (u * u) * v + v * Y * (u * u) by clear ok hV hW hef hu hx hy; grind, hx, hy,
  show u * u * v * (1 + d * (X * Y)) = u * u * v + d * (X * (u * u)) * (v * Y) by clear ok hV hW hef hu hx hy; grind, hx, hy, hV, ← hu]
 clear ok hV hW hef hu hx hy
 grind
theorem y9f (h : EdF p d) (P Q : Pt p d) : P.x * Q.y = P.y * Q.x ↔ ∃ g : Fin p, g * g = 1 ∧ Q.x = g * P.x ∧ Q.y = g * P.y := by
 have hp := h.pr
 constructor
 ·intro e
  have o1 := P.on
  have o2 := Q.on
  have key : Q.y * Q.y = P.y * P.y ∧ Q.x * Q.x = P.x * P.x := by
   generalize P.x = x at *
   generalize P.y = y at *
   generalize Q.x = u at *
   generalize Q.y = v at *
   by_cases y0 : y = 0
   ·subst y0
    have hx : x * x = 1 := by grind
    have hv : v = 0 := by
     rcases z02 hp (show x * v = 0 by rw [e]; grind) with k | k
     ·exfalso
      exact z06 hp (by rw [← hx, k]; grind)
     ·exact k
    subst hv
    exact ⟨rfl, by rw [hx]; grind⟩
   ·have v0 : v ≠ 0 := fun k => by
     subst k
     rcases z02 hp (show y * u = 0 by rw [← e]; grind) with k | k
     ·exact y0 k
     ·subst k
      exact z06 hp (by grind)
    -- the two squares are one, or d is a square
    have hmul : (v * v - y * y) * (d * (x * v * (x * v)) - 1) = 0 := by
     have e2 : x * x * (v * v) = y * y * (u * u) := by
      rw [show x * x * (v * v) = x * v * (x * v) by grind, e]
      grind
     have a1 : y * y * (u * u + v * v) = y * y * (1 + d * (u * u * (v * v))) := by rw [o2]
     have a2 : v * v * (x * x + y * y) = v * v * (1 + d * (x * x * (y * y))) := by rw [o1]
     have a3 : y * y * (u * u) = x * x * (v * v) := e2.symm
     clear o1 o2 e e2
     grind
    rcases z02 hp hmul with k | k
    ·have hvv : v * v = y * y := by grind
     refine ⟨hvv, ?_⟩
     have e2 : y * y * (u * u) = y * y * (x * x) := by
      rw [show y * y * (u * u) = y * u * (y * u) by grind, ← e, show x * v * (x * v) = x * x * (v * v) by grind, hvv]
      grind
     exact z0u hp (z0e hp y0 y0) e2
    ·exfalso
     have h1 : (1 : Fin p) * 1 = d * (x * v * (x * v)) := by grind
     have h2 := h.no _ _ h1
     rw [h2] at h1
     exact z06 hp (by grind)
  rcases y85 hp key.1 with k | k
  ·by_cases y0 : P.y = 0
   ·obtain ⟨g, hg, hx⟩ := z99 hp key.2
    exact ⟨g, hg, hx, by rw [k, y0]; grind⟩
   ·refine ⟨1, by grind, ?_, by rw [k]; grind⟩
    rw [k] at e
    have := z0u hp y0 (show P.y * P.x = P.y * Q.x by rw [← e]; grind)
    rw [← this]
    grind
  ·by_cases y0 : P.y = 0
   ·obtain ⟨g, hg, hx⟩ := z99 hp key.2
    exact ⟨g, hg, hx, by rw [k, y0]; grind⟩
   ·refine ⟨-1, by grind, ?_, by rw [k]; grind⟩
    rw [k] at e
    have := z0u hp y0 (show P.y * -P.x = P.y * Q.x by rw [← e]; grind)
    rw [← this]
    grind
 ·rintro ⟨g, _, h1, h2⟩
  rw [h1, h2]
  grind
end
def cK : K := cN pN 39081
@[irreducible] def ldV (u : K) (n : Nat) : K := ladR (lad cK u n n)
def nK : K := cN pN 39082
def rW : K := ⟨53931230830471128485834955405575080614406917727690396148695844614693367092499110851330350603979079659962871539650022903565748232560454, by decide +kernel⟩
theorem nK_root : nK = -(rW * rW) := by decide +kernel
theorem rW_ne : rW ≠ 0 := by decide +kernel
theorem nK_no : ∀ u v : K, u * u = nK * (v * v) → v = 0 := fun u v e => by
 have h1 : u * u = -(rW * v * (rW * v)) := by
  rw [e, nK_root]
  generalize rW = r
  grind
 have h2 := (z4d z0q pN_c h1).2
 rcases z02 z0q h2 with h | h
 ·exact absurd h rW_ne
 ·exact h
theorem twK : TwF pN dK nK rD := ⟨zB, by decide +kernel, by decide +kernel, y63, nK_no⟩
def eR : K := ab rD
def fR : K := ab (inv rD)
theorem rD_sq : rD * rD = -dK := by
 rw [← twK.sq, twK.eq]
 generalize dK = d
 grind
theorem dfK : DfF pN eC dK nK rD eR fR := ⟨twK, pN_c, eC_ne, by unfold eR; rw [y2c, rD_sq], by
 have h := z3n z0q y63
 rw [show eR * fR * (eR * fR) = eR * eR * (fR * fR) by generalize eR = e; generalize fR = f; grind]
 unfold eR fR
 rw [y2c, y2c]
 generalize rD = r at *
 generalize inv r = i at *
 rw [show r * r * (i * i) = i * r * (i * r) by grind, h]
 grind⟩
def Els2 (P Q : Pt pN dK) : Prop := Q = P ∨ Q = z6 zB P z5n
theorem y58 (P : Pt pN dK) : (z6 zB P z5n).x = -P.x := (z7k zB P).1
theorem y83 (P : Pt pN dK) : (z6 zB P z5n).y = -P.y := (z7k zB P).2
theorem y12 (P Q : Pt pN dK) : P.x * Q.y = P.y * Q.x ↔ Els2 P Q := by
 rw [y9f zB P Q]
 constructor
 ·rintro ⟨g, hg, h1, h2⟩
  rcases y85 z0q (show g * g = 1 * 1 by rw [hg]; grind) with rfl | rfl
  ·exact .inl (Pt.same (by rw [h1]; grind) (by rw [h2]; grind))
  ·exact .inr (Pt.same (by rw [h1, y58]; grind) (by rw [h2, y83]; grind))
 ·rintro (rfl | rfl)
  ·exact ⟨1, by grind, by grind, by grind⟩
  ·exact ⟨-1, by grind, by rw [y58]; grind, by rw [y83]; grind⟩
theorem Els2.rfl' (P : Pt pN dK) : Els2 P P := .inl rfl
theorem y04 (P : Pt pN dK) : z6 zB (z6 zB P z5n) z5n = P := by rw [z0r, z7q, z0n]
theorem Els2.symm {P Q : Pt pN dK} (h : Els2 P Q) : Els2 Q P := by
 rcases h with rfl | rfl
 ·exact .inl rfl
 ·exact .inr (y04 P).symm
theorem Els2.trans {P Q R : Pt pN dK} (h : Els2 P Q) (h' : Els2 Q R) : Els2 P R := by
 rcases h with rfl | rfl
 ·exact h'
 ·rcases h' with rfl | rfl
  ·exact .inr rfl
  ·exact .inl (y04 P)
theorem Els2.add {P Q P' Q' : Pt pN dK} (h : Els2 P P') (h' : Els2 Q Q') : Els2 (z6 zB P Q) (z6 zB P' Q') := by
 rcases h with h | h <;> rcases h' with h' | h' <;> rw [h, h']
 ·exact .inl rfl
 ·exact .inr (by rw [z0r])
 ·exact .inr (by rw [z0r, z11 zB z5n Q, ← z0r])
 ·exact .inl (by rw [z2y, z7q, z0n])
theorem y4z {R : Pt pN dK} (h : z6 zB R R = z0v) : Els2 z0v R := by
 have hn : R = pneg R := z5w zB (h.trans (z2n zB R).symm)
 have hx : R.x = 0 := y6a z0q (by decide) (show R.x = -R.x from congrArg Pt.x hn)
 refine (y12 _ _).1 ?_
 show (0 : K) * R.y = 1 * R.x
 rw [hx]
 grind
def encK (P : Pt pN dK) : K := dfE eC nK eR fR P.x P.y
def decK (t : K) (ok : dfOk eC dK t) : Pt pN dK := ⟨dfX eC dK eR fR t, dfY eC dK t, (y3g dfK ok).1⟩
theorem y0a (P : Pt pN dK) : ∃ ok : dfOk eC dK (encK (z6 zB P P)), Els2 (z6 zB P P) (decK (encK (z6 zB P P)) ok) := by
 obtain ⟨ok, g, hg, h1, h2⟩ := df_back dfK P
 exact ⟨ok, (y12 _ _).1 ((y9f zB _ _).2 ⟨g, hg, h1, h2⟩)⟩
end Go.Proofs.YtgjbonikbmgfmaaGreatDoor
