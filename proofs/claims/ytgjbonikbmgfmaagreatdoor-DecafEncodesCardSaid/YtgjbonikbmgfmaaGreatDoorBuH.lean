/- Lemmas; no statement is proved here. -/
import Derived.Test.YtgjbonikbmgfmaaGreatDoorBuG
import Derived.Deep.CutRange
set_option maxRecDepth 8000
set_option maxHeartbeats 3200000
namespace Go.Proofs.YtgjbonikbmgfmaaGreatDoor
open Go.RowKit
def t3 (m : Nat) (f g h : Nat → Int) : Nat → Int := fun i => if i < m then f i else if i < 2 * m then g (i - m) else h (i - 2 * m)
structure Part (k : IntKind) (n : Nat) (f : Nat → Int) (j m : Nat) (p : Nat → Int) : Prop where
 fits : j + m ≤ n
 same : AZ k m (fun i => f (j + i)) = AZ k m p
theorem z39 {f g h : Nat → Int} : Part .u64 24 (t3 8 f g h) 0 8 f := ⟨by omega, z1w fun i hi => by unfold t3; rw [Nat.zero_add, if_pos hi]⟩
theorem z37 {f g h : Nat → Int} : Part .u64 24 (t3 8 f g h) 8 8 g := ⟨by omega, z1w fun i hi => by unfold t3; rw [if_neg (by omega), if_pos (by omega), show 8 + i - 8 = i by omega]⟩
theorem z5u {f g h : Nat → Int} : Part .u64 24 (t3 8 f g h) 16 8 h := ⟨by omega, z1w fun i hi => by unfold t3; rw [if_neg (by omega), if_neg (by omega), show 16 + i - 2 * 8 = i by omega]⟩
theorem z6d {f g h : Nat → Int} : Part .i64 48 (t3 16 f g h) 0 16 f := ⟨by omega, z1w fun i hi => by unfold t3; rw [Nat.zero_add, if_pos hi]⟩
theorem z6c {f g h : Nat → Int} : Part .i64 48 (t3 16 f g h) 16 16 g := ⟨by omega, z1w fun i hi => by unfold t3; rw [if_neg (by omega), if_pos (by omega), show 16 + i - 16 = i by omega]⟩
theorem y1p {f g h : Nat → Int} : Part .i64 48 (t3 16 f g h) 32 16 h := ⟨by omega, z1w fun i hi => by unfold t3; rw [if_neg (by omega), if_neg (by omega), show 32 + i - 2 * 16 = i by omega]⟩
section
variable {P : Program} {w : World} {t ty : TypeId} {k : IntKind} {n m j : Nat} {f p : Nat → Int}
theorem y0r (hT : IsRow P ty m) {b : Nat} (hr : w.heap[b]? = some (zv t k n f)) (hp : Part k n f j m p) :
  (Instr.loadAt ty (.pointer (some ⟨b, j, none⟩))).run P w = .ok (.agg (AZ k m p)) w := by
 rw [← hp.same]
 exact z3p hT hr hp.fits
end
section
variable {P : Program} {ops : Array Oper} {rest : List Oper} {o : Oper} {a : Act} {w w0 : World} {l : List (Nat × Obj)} {Q : Exit → Act → World → Prop} {t ty : TypeId} {k : IntKind} {n m : Nat}
theorem z78 {i : Nat} (hT : IsRow P ty m) (H : Hid (Ow w0 w l)) (hgd : o.guard = none) {x : Operand} (ho : o.op = .load ty x) {g j : Nat} (hx : a.eval x = .pointer (some ⟨g, j, none⟩)) {f p : Nat → Int}
  (hi : l[i]? = some (g, zv t k n f)) (hp : Part k n f j m p) (h : ∀ K : Act → World → Prop, (∀ a w, wpList P ops Q rest a w → K a w) → K (a.put o.dst (.agg (AZ k m p))) w) : wpList P ops Q (o :: rest) a w :=
 wpList_plain hgd fun K hK => by
  unfold Oper.wp execOp
  simp only [ho, hx, Sem.run_bind, y0r hT (H.out.row i hi) hp, Result.andThen_ok]
  exact h K hK
end
section
variable {P : Program} {md : Region.Mode} {ops : Array Oper} {Q : Exit → Act → World → Prop} {S : World → Prop} {fuel : Nat} {listed : Array Bool} {a : Act} {w : World} {t ty : TypeId} {k : IntKind} {n m j : Nat}
theorem z0i (i : Nat) (d : Tmp) {oi : Oper} (hT : IsRow P ty m) (hi : ops[i]? = some oi) (hd : oi.dst = some d) (hw : Region.wanted oi (yielded ops a.tmps) = true) (hS : S w) {x : Operand} (ho : oi.op = .load ty x) {g : Nat} (hx : a.eval x = .pointer (some ⟨g, j, none⟩))
  {f p : Nat → Int} (hp : Part k n f j m p) (hrow : ∀ w, S w → w.heap[g]? = some (zv t k n f))
  (h : wpAnyH P md ops (NoPanic Q) S fuel (listed.setIfInBounds i true) (a.put (some d) (.agg (AZ k m p))) w) (hs : Region.noSelect ops = true := by kernel_rfl) (hf : Region.free md ops listed i = true := by kernel_rfl) (hr : (Region.ready md ops listed).contains i = true := by kernel_rfl) : wpAnyH P md ops (NoPanic Q) S (fuel + 1) listed a w :=
 z0h i d (.agg (AZ k m p)) hi hd (hs := hs) (hf := hf) (hr := hr) hw hS (fun w hw' => by
  unfold execOp
  simp only [ho, hx, Sem.run_bind, y0r hT (hrow w hw') hp, Result.andThen_ok]
  rfl) h
end
abbrev PO (v : Nat → Int) : Value := .agg (AZ .u64 24 v)
abbrev QO (v : Nat → Int) : Value := .agg (AZ .i64 48 v)
theorem zH : IsRow Tryz.prog 32 24 := ⟨⟨_, Tryz.underlying32, rfl⟩, by kernel_rfl⟩
theorem zD : IsRow Tryz.prog 38 48 := ⟨⟨_, Tryz.underlying38, rfl⟩, by kernel_rfl⟩
theorem z1d (w : World) : (zeroValue 32).run Tryz.prog w = .ok (.agg (AZ .u64 24 fun _ => 0)) w :=
 (show AZ .u64 24 (fun _ => 0) = Array.replicate 24 (.int .u64 0) by unfold AZ; rfl) ▸ (zero_of_info (show (Tryz.prog.info? 32).map (fun i => (i.zero, i.size)) = some (some (.agg (Array.replicate 24 (.int .u64 0))), 24) by kernel_rfl)).1 w
theorem z0w (w : World) : (zeroValue 38).run Tryz.prog w = .ok (.agg (AZ .i64 48 fun _ => 0)) w :=
 (show AZ .i64 48 (fun _ => 0) = Array.replicate 48 (.int .i64 0) by unfold AZ; rfl) ▸ (zero_of_info (show (Tryz.prog.info? 38).map (fun i => (i.zero, i.size)) = some (some (.agg (Array.replicate 48 (.int .i64 0))), 48) by kernel_rfl)).1 w
theorem y6v (f g h : Nat → Int) (w : World) : (Instr.build 32 #[(0, .agg (AZ .u64 8 f)), (1, .agg (AZ .u64 8 g)), (2, .agg (AZ .u64 8 h))]).run Tryz.prog w = .ok (.agg (AZ .u64 24 (t3 8 f g h))) w :=
 run_build w _ _ _ (by kernel_rfl)
theorem y6u (f g h : Nat → Int) (w : World) : (Instr.build 38 #[(0, .agg (AZ .i64 16 f)), (1, .agg (AZ .i64 16 g)), (2, .agg (AZ .i64 16 h))]).run Tryz.prog w = .ok (.agg (AZ .i64 48 (t3 16 f g h))) w :=
 run_build w _ _ _ (by kernel_rfl)
section
variable {ops : Array Oper} {rest : List Oper} {o : Oper} {a : Act} {w : World} {Q : Exit → Act → World → Prop}
theorem z8q (hgd : o.guard = none) {x y z : Operand} (ho : o.op = .build 32 #[(0, x), (1, y), (2, z)]) {f g h : Nat → Int} (hx : a.eval x = .agg (AZ .u64 8 f)) (hy : a.eval y = .agg (AZ .u64 8 g)) (hz : a.eval z = .agg (AZ .u64 8 h))
  (k : ∀ K : Act → World → Prop, (∀ a w, wpList Tryz.prog ops Q rest a w → K a w) → K (a.put o.dst (.agg (AZ .u64 24 (t3 8 f g h)))) w) : wpList Tryz.prog ops Q (o :: rest) a w :=
 wpList_plain hgd fun K hK => by
  unfold Oper.wp execOp
  simp only [ho, List.map_toArray, List.map_cons, List.map_nil, hx, hy, hz, Sem.run_bind, y6v, Result.andThen_ok]
  exact k K hK
theorem z2t (hgd : o.guard = none) {x y z : Operand} (ho : o.op = .build 38 #[(0, x), (1, y), (2, z)]) {f g h : Nat → Int} (hx : a.eval x = .agg (AZ .i64 16 f)) (hy : a.eval y = .agg (AZ .i64 16 g)) (hz : a.eval z = .agg (AZ .i64 16 h))
  (k : ∀ K : Act → World → Prop, (∀ a w, wpList Tryz.prog ops Q rest a w → K a w) → K (a.put o.dst (.agg (AZ .i64 48 (t3 16 f g h)))) w) : wpList Tryz.prog ops Q (o :: rest) a w :=
 wpList_plain hgd fun K hK => by
  unfold Oper.wp execOp
  simp only [ho, List.map_toArray, List.map_cons, List.map_nil, hx, hy, hz, Sem.run_bind, y6u, Result.andThen_ok]
  exact k K hK
end
section
variable {md : Region.Mode} {ops : Array Oper} {Q : Exit → Act → World → Prop} {S : World → Prop} {fuel : Nat} {listed : Array Bool} {a : Act} {w : World}
theorem y10 (i : Nat) (d : Tmp) {oi : Oper} (hi : ops[i]? = some oi) (hd : oi.dst = some d) (hw : Region.wanted oi (yielded ops a.tmps) = true) (hS : S w) {x y z : Operand} (ho : oi.op = .build 32 #[(0, x), (1, y), (2, z)])
  {f g h : Nat → Int} (hx : a.eval x = .agg (AZ .u64 8 f)) (hy : a.eval y = .agg (AZ .u64 8 g)) (hz : a.eval z = .agg (AZ .u64 8 h))
  (hN : wpAnyH Tryz.prog md ops (NoPanic Q) S fuel (listed.setIfInBounds i true) (a.put (some d) (.agg (AZ .u64 24 (t3 8 f g h)))) w) (hs : Region.noSelect ops = true := by kernel_rfl) (hf : Region.free md ops listed i = true := by kernel_rfl) (hr : (Region.ready md ops listed).contains i = true := by kernel_rfl) : wpAnyH Tryz.prog md ops (NoPanic Q) S (fuel + 1) listed a w :=
 z0h i d (.agg (AZ .u64 24 (t3 8 f g h))) hi hd (hs := hs) (hf := hf) (hr := hr) hw hS (fun w _ => by
  unfold execOp
  simp only [ho, List.map_toArray, List.map_cons, List.map_nil, hx, hy, hz, Sem.run_bind, y6v, Result.andThen_ok]
  rfl) hN
theorem z94 (i : Nat) (d : Tmp) {oi : Oper} (hi : ops[i]? = some oi) (hd : oi.dst = some d) (hw : Region.wanted oi (yielded ops a.tmps) = true) (hS : S w) {x y z : Operand} (ho : oi.op = .build 38 #[(0, x), (1, y), (2, z)])
  {f g h : Nat → Int} (hx : a.eval x = .agg (AZ .i64 16 f)) (hy : a.eval y = .agg (AZ .i64 16 g)) (hz : a.eval z = .agg (AZ .i64 16 h))
  (hN : wpAnyH Tryz.prog md ops (NoPanic Q) S fuel (listed.setIfInBounds i true) (a.put (some d) (.agg (AZ .i64 48 (t3 16 f g h)))) w) (hs : Region.noSelect ops = true := by kernel_rfl) (hf : Region.free md ops listed i = true := by kernel_rfl) (hr : (Region.ready md ops listed).contains i = true := by kernel_rfl) : wpAnyH Tryz.prog md ops (NoPanic Q) S (fuel + 1) listed a w :=
 z0h i d (.agg (AZ .i64 48 (t3 16 f g h))) hi hd (hs := hs) (hf := hf) (hr := hr) hw hS (fun w _ => by
  unfold execOp
  simp only [ho, List.map_toArray, List.map_cons, List.map_nil, hx, hy, hz, Sem.run_bind, y6u, Result.andThen_ok]
  rfl) hN
end
structure PtK (v : Nat → Int) (P : Pt pN dK) : Prop where
 is : ∃ (f g h : Nat → Nat) (X Y Z : K), v = t3 8 (NZ f) (NZ g) (NZ h) ∧ EK f X ∧ EK g Y ∧ EK h Z ∧ Rp X Y Z P
structure RfK (v : Nat → Int) (P : Pt pN dK) : Prop where
 is : ∃ X Y Z : K, v = t3 16 (dF X.val) (dF Y.val) (dF Z.val) ∧ Rp X Y Z P
theorem PtK.eq {v : Nat → Int} {P Q : Pt pN dK} (h : PtK v P) (e : P = Q) : PtK v Q := e ▸ h
theorem RfK.eq {v : Nat → Int} {P Q : Pt pN dK} (h : RfK v P) (e : P = Q) : RfK v Q := e ▸ h
theorem y3j : zC (-39081) = dK := by decide +kernel
theorem z21 : zC 0 = 0 := by decide +kernel
theorem ofZ_two : zC 2 = 1 + 1 := by decide +kernel
theorem z07 {f : Nat → Nat} {a : K} (n : Int) (w : World) (hT : Tp w) (hf : EK f a) (h1 : -9223372036854775808 ≤ n) (h2 : n ≤ 9223372036854775807) :
  Calls Tryz.prog 76 #[EV f, .int .i64 n] w fun e w' => ∃ h, e = .returned (EV h) ∧ EK h (a * zC n) ∧ Below w.heap.size w w' :=
 (times_v n w hT hf h1 h2).mono fun _ _ ⟨h, he, hv, hb⟩ => ⟨h, he, by unfold EK; rw [Fin.val_mul]; exact hv, hb⟩
theorem y1h (X1 Y1 Z1 X2 Y2 Z2 d : K) :
  ((X1 + Y1) * (X2 + Y2) - (X1 * X2 + Y1 * Y2)) * (Z1 * Z2) * (Z1 * Z2 * (Z1 * Z2) - X1 * X2 * (Y1 * Y2) * d) = Z1 * Z2 * (X1 * Y2 + X2 * Y1) * (Z1 * Z2 * (Z1 * Z2) - d * (X1 * Y2 * (X2 * Y1))) ∧
  (Y1 * Y2 - X1 * X2) * (Z1 * Z2) * (Z1 * Z2 * (Z1 * Z2) + X1 * X2 * (Y1 * Y2) * d) = Z1 * Z2 * (Y1 * Y2 - X1 * X2) * (Z1 * Z2 * (Z1 * Z2) + d * (X1 * Y2 * (X2 * Y1))) ∧
  (Z1 * Z2 * (Z1 * Z2) + X1 * X2 * (Y1 * Y2) * d) * (Z1 * Z2 * (Z1 * Z2) - X1 * X2 * (Y1 * Y2) * d) = (Z1 * Z2 * (Z1 * Z2) + d * (X1 * Y2 * (X2 * Y1))) * (Z1 * Z2 * (Z1 * Z2) - d * (X1 * Y2 * (X2 * Y1))) := by
 refine ⟨?_, ?_, ?_⟩ <;> grind
section
variable {P Q : Pt pN dK} {X1 Y1 Z1 X2 Y2 Z2 : K}
theorem Rp.sum (r1 : Rp X1 Y1 Z1 P) (r2 : Rp X2 Y2 Z2 Q) :
  Rp (((X1 + Y1) * (X2 + Y2) - (X1 * X2 + Y1 * Y2)) * (Z1 * Z2) * (Z1 * Z2 * (Z1 * Z2) - X1 * X2 * (Y1 * Y2) * dK)) ((Y1 * Y2 - X1 * X2) * (Z1 * Z2) * (Z1 * Z2 * (Z1 * Z2) + X1 * X2 * (Y1 * Y2) * dK))
   ((Z1 * Z2 * (Z1 * Z2) + X1 * X2 * (Y1 * Y2) * dK) * (Z1 * Z2 * (Z1 * Z2) - X1 * X2 * (Y1 * Y2) * dK)) (z6 zB P Q) := by
 have h := Rp.add zB r1 r2
 rw [(y1h X1 Y1 Z1 X2 Y2 Z2 dK).1, (y1h X1 Y1 Z1 X2 Y2 Z2 dK).2.1, (y1h X1 Y1 Z1 X2 Y2 Z2 dK).2.2]
 exact h
instance pt_dec : DecidableEq (Pt pN dK) := fun a b => decidable_of_iff (a.x = b.x ∧ a.y = b.y) ⟨fun h => Pt.same h.1 h.2, fun h => ⟨by rw [h], by rw [h]⟩⟩
theorem pt_on {d : K} (P : Pt pN d) : P.x * P.x + P.y * P.y = 1 + d * (P.x * P.x * (P.y * P.y)) := by
 have := P.on
 grind
theorem curve_dbl {x y d : K} (h : x * x + y * y = 1 + d * (x * x * (y * y))) (X3 Y3 : K) (hx : X3 * (1 + d * (x * x * (y * y))) = x * y + x * y) (hy : Y3 * (1 - d * (x * x * (y * y))) = y * y - x * x) (Z : K) :
  ((x * Z + y * Z) * (x * Z + y * Z) - (x * Z * (x * Z) + y * Z * (y * Z))) * (Z * Z * (1 + 1) - (x * Z * (x * Z) + y * Z * (y * Z))) = X3 * ((x * Z * (x * Z) + y * Z * (y * Z)) * (Z * Z * (1 + 1) - (x * Z * (x * Z) + y * Z * (y * Z)))) ∧
  (y * Z * (y * Z) - x * Z * (x * Z)) * (x * Z * (x * Z) + y * Z * (y * Z)) = Y3 * ((x * Z * (x * Z) + y * Z * (y * Z)) * (Z * Z * (1 + 1) - (x * Z * (x * Z) + y * Z * (y * Z)))) ∧
  (x * Z * (x * Z) + y * Z * (y * Z)) * (Z * Z * (1 + 1) - (x * Z * (x * Z) + y * Z * (y * Z))) = Z * Z * (Z * Z) * ((1 + d * (x * x * (y * y))) * (1 - d * (x * x * (y * y)))) := by
 generalize d * (x * x * (y * y)) = t at *
 have e1 : x * Z * (x * Z) + y * Z * (y * Z) = Z * Z * (1 + t) := by
  rw [← h]
  clear h hx hy
  grind
 have e2 : Z * Z * (1 + 1) - Z * Z * (1 + t) = Z * Z * (1 - t) := by
  clear h hx hy e1
  grind
 have e3 : (x * Z + y * Z) * (x * Z + y * Z) - Z * Z * (1 + t) = Z * Z * (x * y + x * y) := by
  rw [← e1]
  clear h hx hy e1 e2
  grind
 have e4 : y * Z * (y * Z) - x * Z * (x * Z) = Z * Z * (y * y - x * x) := by
  clear h hx hy e1 e2 e3
  grind
 rw [e1, e2, e3, e4, ← hx, ← hy]
 clear e1 e2 e3 e4 h hx hy
 refine ⟨?_, ?_, ?_⟩ <;> grind
theorem Rp.double (r : Rp X1 Y1 Z1 P) :
  Rp (((X1 + Y1) * (X1 + Y1) - (X1 * X1 + Y1 * Y1)) * (Z1 * Z1 * (1 + 1) - (X1 * X1 + Y1 * Y1))) ((Y1 * Y1 - X1 * X1) * (X1 * X1 + Y1 * Y1)) ((X1 * X1 + Y1 * Y1) * (Z1 * Z1 * (1 + 1) - (X1 * X1 + Y1 * Y1))) (z6 zB P P) := by
 obtain ⟨e1, e2, n1⟩ := r
 subst e1 e2
 have hc : P.x * P.x + P.y * P.y = 1 + dK * (P.x * P.x * (P.y * P.y)) := pt_on P
 have u1 : 1 + dK * (P.x * P.x * (P.y * P.y)) ≠ 0 := zB.plus P P
 have u2 : 1 - dK * (P.x * P.x * (P.y * P.y)) ≠ 0 := zB.minus P P
 have hx : (z6 zB P P).x * (1 + dK * (P.x * P.x * (P.y * P.y))) = P.x * P.y + P.x * P.y := z7j zB P P
 have hy : (z6 zB P P).y * (1 - dK * (P.x * P.x * (P.y * P.y))) = P.y * P.y - P.x * P.x := z9x zB P P
 obtain ⟨f1, f2, f3⟩ := curve_dbl hc _ _ hx hy Z1
 refine ⟨f1, f2, ?_⟩
 rw [f3]
 exact z0e z0q (z0e z0q (z0e z0q n1 n1) (z0e z0q n1 n1)) (z0e z0q u1 u2)
theorem squares_zero (a b : K) : a * a + b * b = 0 ↔ a = 0 ∧ b = 0 := by
 constructor
 ·intro h
  exact z4d z0q pN_c (a := a) (b := b) (by grind)
 ·rintro ⟨h1, h2⟩
  rw [h1, h2]
  decide +kernel
theorem Rp.equal (r1 : Rp X1 Y1 Z1 P) (r2 : Rp X2 Y2 Z2 Q) :
  (X1 * Z2 - X2 * Z1) * (X1 * Z2 - X2 * Z1) + (Y1 * Z2 - Y2 * Z1) * (Y1 * Z2 - Y2 * Z1) = 0 ↔ P = Q := by
 rw [squares_zero, Rp.same zB r1 r2]
 have e : ∀ a b : K, a - b = 0 ↔ a = b := fun a b => ⟨fun h => by grind, fun h => by rw [h]; grind⟩
 rw [e, e]
end
theorem cd_down (y : K) : dK * (y * y) - 1 ≠ 0 := fun e => by
 have h0 : y ≠ 0 := fun h => by
  have h1 : dK * (y * y) = 0 := by
   rw [h]
   generalize dK = d
   grind
  rw [h1] at e
  exact absurd e (by decide +kernel)
 have h2 : (1 : K) * 1 = dK * (y * y) := by
  generalize dK = d at e ⊢
  grind
 exact h0 (zB.no 1 y h2)
theorem cd_on (x y : K) : x * x + y * y = 1 + dK * (x * x * (y * y)) ↔ x * x * (dK * (y * y) - 1) = y * y - 1 := by
 generalize dK = d
 constructor <;> intro h <;> grind
def jn (m : Nat) (s : BitVec 8) (y : Nat) : Nat := 2 ^ (8 * m) * s.toNat + y
section
variable {m x y i : Nat} {s : BitVec 8}
theorem jn_lt {n : Nat} (h : y < 2 ^ (8 * m)) (hn : m + 1 = n) : jn m s y < 2 ^ (8 * n) := by
 subst hn
 unfold jn
 rw [pow8]
 have h1 : s.toNat + 1 ≤ 256 := s.isLt
 have := Nat.mul_le_mul_left (2 ^ (8 * m)) h1
 rw [Nat.mul_add] at this
 omega
theorem jn_low (h : i < m) : bt (jn m s y) i = bt y i := bt_low y s.toNat m i h
theorem jn_top (h : y < 2 ^ (8 * m)) : bt (jn m s y) m = s := by
 apply BitVec.eq_of_toNat_eq
 rw [z52]
 unfold jn
 rw [Nat.mul_add_div (Nat.two_pow_pos _), Nat.div_eq_of_lt h, Nat.add_zero, Nat.mod_eq_of_lt s.isLt]
theorem jn_mod (h : y < 2 ^ (8 * m)) : jn m s y % 2 ^ (8 * m) = y := by
 unfold jn
 rw [Nat.mul_add_mod, Nat.mod_eq_of_lt h]
end
def sg (x : K) : BitVec 8 := if x.val % 2 = 1 then 128 else 0
theorem sg_odd {x : K} (h : x.val % 2 = 1) : sg x = 128 := if_pos h
theorem sg_even {x : K} (h : x.val % 2 = 0) : sg x = 0 := if_neg (by omega)
theorem sg_or (x : K) : (x.val % 2 = 1 ∧ sg x = 128) ∨ (x.val % 2 = 0 ∧ sg x = 0) := by
 rcases (by omega : x.val % 2 = 1 ∨ x.val % 2 = 0) with h | h
 ·exact .inl ⟨h, sg_odd h⟩
 ·exact .inr ⟨h, sg_even h⟩
theorem y23 (y : K) : y.val < 2 ^ (8 * 56) := Nat.lt_of_lt_of_le y.isLt (by decide +kernel)
def cdN (P : Pt pN dK) : Nat := jn 56 (sg P.x) P.y.val
theorem cdN_lt (P : Pt pN dK) : cdN P < 2 ^ (8 * 57) := @jn_lt 56 _ _ 57 (y23 P.y) rfl
theorem y9l (P : Pt pN dK) {i : Nat} (h : i < 56) : bt (cdN P) i = bt P.y.val i := jn_low h
theorem y4j (P : Pt pN dK) : bt (cdN P) 56 = sg P.x := jn_top (y23 P.y)
theorem cdN_mod (P : Pt pN dK) : cdN P % 2 ^ (8 * 56) = P.y.val := @jn_mod 56 _ _ (y23 P.y)
def cdU (y : K) : K := y * y - 1
def cdV (y : K) : K := dK * (y * y) - 1
theorem cdV_ne (y : K) : cdV y ≠ 0 := cd_down y
theorem cd_eq (P : Pt pN dK) : P.x * P.x * cdV P.y = cdU P.y := (cd_on P.x P.y).1 P.on
def cdQ (y : K) : K := zL eC (cdU y) (cdV y)
def cdIs (y : K) : Bool := decide (cdV y * (cdQ y * cdQ y) = cdU y)
def cdX (y : K) (n : Int) : K := if n % 2 = 0 then ab (cdQ y) else -ab (cdQ y)
theorem y9k (P : Pt pN dK) : cdV P.y * (cdQ P.y * cdQ P.y) = cdU P.y := by
 have he := cd_eq P
 have hv := cdV_ne P.y
 unfold cdQ
 generalize cdV P.y = v at *
 generalize cdU P.y = u at *
 generalize P.x = x at *
 by_cases hu : u = 0
 ·rw [hu, z7f]
  clear he
  grind
 ·rcases y74 z0q pN_c hu hv with h | h
  ·exact h
  ·exfalso
   rw [← he] at h
   generalize zL eC (x * x * v) v = q at *
   have h2 : q * q = -(x * x) := z0u z0q hv (by rw [h]; clear h he hu; grind)
   have h3 := (z4d z0q pN_c h2).2
   rw [h3] at he
   refine hu ?_
   rw [← he]
   clear h h2 he hu
   grind
theorem cdIs_on (P : Pt pN dK) : cdIs P.y = true := decide_eq_true (y9k P)
theorem cdQ_sq (P : Pt pN dK) : cdQ P.y * cdQ P.y = P.x * P.x := by
 refine z0u z0q (cdV_ne P.y) ?_
 rw [y9k P, ← cd_eq P, Fin.mul_comm]
theorem cdQ_ab (P : Pt pN dK) : ab (cdQ P.y) = ab P.x := z5i z0q y5g (cdQ_sq P)
theorem neg_negK (x : K) : - -x = x := by grind
theorem ab_odd {x : K} (h : x.val % 2 = 1) : ab x = -x := if_pos h
def sh7 (s : BitVec 8) : Int := ((s.toNat / 128 : Nat) : Int)
theorem sh7_128 : sh7 128 = 1 := by decide
theorem sh7_0 : sh7 0 = 0 := by decide
theorem cdX_on (P : Pt pN dK) : cdX P.y (sh7 (sg P.x)) = P.x := by
 unfold cdX
 rw [cdQ_ab]
 rcases sg_or P.x with ⟨h1, h2⟩ | ⟨h1, h2⟩
 ·rw [h2, sh7_128, if_neg (by decide), ab_odd h1, neg_negK]
 ·rw [h2, sh7_0, if_pos (by decide), ab_id h1]
section
variable {fn : Func} {p q r s : Tmp} {t : TypeId} {w w0 : World} {l : List (Nat × Obj)} {k : IntKind} {n : Nat} {P : Program}
theorem own_result4 (i1 i2 i3 i4 : Nat) (hT : IsRow P t n) (h : fn.results = #[.cell p t, .cell q t, .cell r t, .cell s t]) (tmps : Array Value) {g1 g2 g3 g4 : Nat} {t1 t2 t3 t4 : TypeId} {f1 f2 f3 f4 : Nat → Int}
  (H : Hid (Ow w0 w l)) (e1 : l[i1]? = some (g1, zv t1 k n f1)) (e2 : l[i2]? = some (g2, zv t2 k n f2)) (e3 : l[i3]? = some (g3, zv t3 k n f3)) (e4 : l[i4]? = some (g4, zv t4 k n f4))
  (hp : tmps.getD p undef = .pointer (some ⟨g1, 0, none⟩)) (hq : tmps.getD q undef = .pointer (some ⟨g2, 0, none⟩)) (hr : tmps.getD r undef = .pointer (some ⟨g3, 0, none⟩)) (hs : tmps.getD s undef = .pointer (some ⟨g4, 0, none⟩)) :
  (results fn tmps).run P w = .ok (.tuple #[.agg (AZ k n f1), .agg (AZ k n f2), .agg (AZ k n f3), .agg (AZ k n f4)]) w := by
 obtain ⟨d, hd, hd'⟩ := hT.under
 have r1 : w.heap[g1]? = some (.cells (AZ k n f1) t1) := H.out.row i1 e1
 have r2 : w.heap[g2]? = some (.cells (AZ k n f2) t2) := H.out.row i2 e2
 have r3 : w.heap[g3]? = some (.cells (AZ k n f3) t3) := H.out.row i3 e3
 have r4 : w.heap[g4]? = some (.cells (AZ k n f4) t4) := H.out.row i4 e4
 have hp' : tmps[p]?.getD undef = .pointer (some ⟨g1, 0, none⟩) := by simpa using hp
 have hq' : tmps[q]?.getD undef = .pointer (some ⟨g2, 0, none⟩) := by simpa using hq
 have hr' : tmps[r]?.getD undef = .pointer (some ⟨g3, 0, none⟩) := by simpa using hr
 have hs' : tmps[s]?.getD undef = .pointer (some ⟨g4, 0, none⟩) := by simpa using hs
 have L : ∀ (g : Nat) (tb : TypeId) (f : Nat → Int), w.heap[g]? = some (.cells (AZ k n f) tb) → _ := fun g tb f hf => run_loadVar_row w g tb t _ (0, 0) d hf hd (by cases d <;> simp_all) (by rw [z0j]; exact hT.size)
 simp [results, h, hp', hq', hr', hs', asAddr, L _ _ _ r1, L _ _ _ r2, L _ _ _ r3, L _ _ _ r4]
theorem z6z (i1 i2 : Nat) (hT : IsRow P t n) (h : fn.results = #[.cell p t, .cell q t]) (tmps : Array Value) {g1 g2 : Nat} {t1 t2 : TypeId} {f1 f2 : Nat → Int}
  (H : Hid (Ow w0 w l)) (e1 : l[i1]? = some (g1, zv t1 k n f1)) (e2 : l[i2]? = some (g2, zv t2 k n f2))
  (hp : tmps.getD p undef = .pointer (some ⟨g1, 0, none⟩)) (hq : tmps.getD q undef = .pointer (some ⟨g2, 0, none⟩)) :
  (results fn tmps).run P w = .ok (.tuple #[.agg (AZ k n f1), .agg (AZ k n f2)]) w := by
 obtain ⟨d, hd, hd'⟩ := hT.under
 have r1 : w.heap[g1]? = some (.cells (AZ k n f1) t1) := H.out.row i1 e1
 have r2 : w.heap[g2]? = some (.cells (AZ k n f2) t2) := H.out.row i2 e2
 have hp' : tmps[p]?.getD undef = .pointer (some ⟨g1, 0, none⟩) := by simpa using hp
 have hq' : tmps[q]?.getD undef = .pointer (some ⟨g2, 0, none⟩) := by simpa using hq
 have L : ∀ (g : Nat) (tb : TypeId) (f : Nat → Int), w.heap[g]? = some (.cells (AZ k n f) tb) → _ := fun g tb f hf => run_loadVar_row w g tb t _ (0, 0) d hf hd (by cases d <;> simp_all) (by rw [z0j]; exact hT.size)
 simp [results, h, hp', hq', asAddr, L _ _ _ r1, L _ _ _ r2]
end
theorem z42 {f g : Nat → Nat} {a b : K} (w : World) (hT : Tp w) (hf : EK f a) (hg : EK g b) :
  Calls Tryz.prog 111 #[EV f, EV g] w fun e w' => ∃ h, e = .returned (EV h) ∧ EK h (a * b * dK) ∧ Below w.heap.size w w' := by
 have HF := za hf
 have HG := za hg
 clear hf hg
 have HT := za hT
 clear hT
 have H := za (Ow.start w)
 go_enter Tryz.func111, Tryz.ntmps111
 go_wp2_with (first
  | ((with_reducible apply zw H); (case hgd | ho | hx => exact rfl); clear H; intro _ _ H _ _; go_simp)
  | ((with_reducible apply ze z9 H); (case hgd | ho => exact rfl); clear H; intro _ _ H _ _; go_simp)
  | ((with_reducible apply zr zt H); (case hgd | ho | hx => exact rfl); (case hi => repeat first|exact z5|apply z8); intro _ _; go_simp)
  | ((fail_if_success have := V1); (with_reducible refine (z16 _ HF.out HG.out).mono ?_); rintro e wc ⟨k1, rfl, hv, hb⟩; replace H := zd H hb; clear hb; have V1 := za hv; clear hv)
  | ((fail_if_success have := V2); (with_reducible refine (z07 (-39081) _ (HT.out.below H.out.bel) V1.out (by omega) (by omega)).mono ?_); rintro e wc ⟨k2, rfl, hv, hb⟩; replace H := zd H hb; clear hb; have V2 := za hv; clear hv)
  | ((with_reducible apply zj zt H); (case hgd | ho | hx | hy => exact rfl); (case hi => repeat first|exact z5|apply z8); clear H; intro ws H _ _; simp only [qb] at H; go_simp))
 exact bodyPost_ret (zy 0 zt rfl _ H rfl rfl) rfl ⟨k2, rfl, by have := V2.out; rwa [y3j] at this, H.out.bel⟩
theorem dbl_k {f g : Nat → Nat} {a : K} (w : World) (hf : EK f a) :
  Calls Tryz.prog 147 #[EV f, EV g] w fun e w' => ∃ h, e = .returned (EV h) ∧ EK h (a * a) ∧ Below w.heap.size w w' := by
 have HF := za hf
 clear hf
 have H := za (Ow.start w)
 go_enter Tryz.func147, Tryz.ntmps147
 go_wp2_with (first
  | ((with_reducible apply zw H); (case hgd | ho | hx => exact rfl); clear H; intro _ _ H _ _; go_simp)
  | ((with_reducible apply ze z9 H); (case hgd | ho => exact rfl); clear H; intro _ _ H _ _; go_simp)
  | ((with_reducible apply zr zt H); (case hgd | ho | hx => exact rfl); (case hi => repeat first|exact z5|apply z8); intro _ _; go_simp)
  | ((fail_if_success have := V1); (with_reducible refine (z0f _ HF.out).mono ?_); rintro e wc ⟨k1, rfl, hv, hb⟩; replace H := zd H hb; clear hb; have V1 := za hv; clear hv)
  | ((with_reducible apply zj zt H); (case hgd | ho | hx | hy => exact rfl); (case hi => repeat first|exact z5|apply z8); clear H; intro ws H _ _; simp only [qb] at H; go_simp))
 exact bodyPost_ret (zy 0 zt rfl _ H rfl rfl) rfl ⟨k1, rfl, V1.out, H.out.bel⟩
theorem y36 {f g : Nat → Nat} {a b : K} (n : Int) (w : World) (hf : EK f a) (hg : EK g b) :
  Calls Tryz.prog 150 #[.int .i64 n, EV f, EV g] w fun e w' => ∃ h, e = .returned (EV h) ∧ EK h (if n % 2 = 0 then a else b) ∧ Below w.heap.size w w' := by
 obtain ⟨r, hr⟩ : ∃ r, (if n % 2 = 0 then a else b) = r := ⟨_, rfl⟩
 have HR : Hid (EK (y37 n f g) r) := za (by rw [← hr]; exact y8b hf hg)
 rw [hr]
 clear hr
 have HF := za hf
 have HG := za hg
 clear hf hg
 have H := za (Ow.start w)
 go_enter Tryz.func150, Tryz.ntmps150
 go_wp2_with (first
  | ((with_reducible apply zw H); (case hgd | ho | hx => exact rfl); clear H; intro _ _ H _ _; go_simp)
  | ((with_reducible apply ze z9 H); (case hgd | ho => exact rfl); clear H; intro _ _ H _ _; go_simp)
  | ((with_reducible apply zr zt H); (case hgd | ho | hx => exact rfl); (case hi => repeat first|exact z5|apply z8); intro _ _; go_simp)
  | ((with_reducible refine (z56 _ _ _ _ HF.out.lim HG.out.lim).mono ?_); rintro e wc ⟨rfl, hb⟩; replace H := zd H hb; clear hb)
  | ((with_reducible apply zj zt H); (case hgd | ho | hx | hy => exact rfl); (case hi => repeat first|exact z5|apply z8); clear H; intro ws H _ _; simp only [qb] at H; go_simp))
 exact bodyPost_ret (zy 0 zt rfl _ H rfl rfl) rfl ⟨_, rfl, HR.out, H.out.bel⟩
theorem y5e {f1 f2 f3 f4 : Nat → Nat} {a b u v : K} (w : World) (h1 : EK f1 a) (h2 : EK f2 b) (h3 : EK f3 u) (h4 : EK f4 v) :
  Calls Tryz.prog 112 #[EV f1, EV f2, EV f3, EV f4] w fun e w' => ∃ x y z, e = .returned (PO (t3 8 (NZ x) (NZ y) (NZ z))) ∧ EK x (a * v) ∧ EK y (u * b) ∧ EK z (b * v) ∧ Below w.heap.size w w' := by
 have H1 := za h1
 have H2 := za h2
 have H3 := za h3
 have H4 := za h4
 clear h1 h2 h3 h4
 have H := za (Ow.start w)
 go_enter Tryz.func112, Tryz.ntmps112
 go_wp2_with (first
  | ((fail_if_success have := g1); (with_reducible apply zw H); (case hgd | ho | hx => exact rfl); clear H; intro w1 g1 H _ _; go_simp)
  | ((fail_if_success have := g2); (with_reducible apply zw H); (case hgd | ho | hx => exact rfl); clear H; intro w2 g2 H _ _; go_simp)
  | ((fail_if_success have := g3); (with_reducible apply zw H); (case hgd | ho | hx => exact rfl); clear H; intro w3 g3 H _ _; go_simp)
  | ((fail_if_success have := g4); (with_reducible apply zw H); (case hgd | ho | hx => exact rfl); clear H; intro w4 g4 H _ _; go_simp)
  | ((fail_if_success have := g8); (with_reducible apply ze z1d H); (case hgd | ho => exact rfl); clear H; intro w8 g8 H _ _; go_simp))
 refine wp_region_noPanic ?_
 refine wp_region_held_drew (S := fun W => W.heap[g1]? = some (zv 30 .u64 8 (NZ f1)) ∧ W.heap[g4]? = some (zv 30 .u64 8 (NZ f4)) ∧ W.heap[g3]? = some (zv 30 .u64 8 (NZ f3)) ∧ W.heap[g2]? = some (zv 30 .u64 8 (NZ f2))) (by kernel_rfl) (⟨H.out.drew.row 4 rfl, H.out.drew.row 1 rfl, H.out.drew.row 2 rfl, H.out.drew.row 3 rfl⟩) (fun hH => ?_)
 replace H := za H.out.drew
 generalize World.drew _ = w8 at *
 refine zk 0 9 zt rfl rfl rfl hH rfl rfl (fun _ h => h.1) ?_
 refine zk 1 10 zt rfl rfl rfl hH rfl rfl (fun _ h => h.2.1) ?_
 refine zk 3 12 zt rfl rfl rfl hH rfl rfl (fun _ h => h.2.2.1) ?_
 try simp only [Act.put, qa, qb, qc]
 refine zk 4 13 zt rfl rfl rfl hH rfl rfl (fun _ h => h.2.2.2) ?_
 refine zk 6 15 zt rfl rfl rfl hH rfl rfl (fun _ h => h.2.2.2) ?_
 refine zk 7 16 zt rfl rfl rfl hH rfl rfl (fun _ h => h.2.1) ?_
 try simp only [Act.put, qa, qb, qc]
 refine zn 2 rfl fun K hK => ?_
 go_simp
 refine (z16 _ H1.out H4.out).mono ?_
 rintro e wc ⟨h11, rfl, hv, hb⟩
 replace H := zd H hb
 have HV11 := za hv
 refine zc hK ⟨zb H 4, zb H 1, zb H 2, zb H 3⟩ fun hH => zn 5 rfl fun K hK => ?_
 go_simp
 refine (z16 _ H3.out H2.out).mono ?_
 rintro e wc ⟨h14, rfl, hv, hb⟩
 replace H := zd H hb
 have HV14 := za hv
 refine zc hK ⟨zb H 4, zb H 1, zb H 2, zb H 3⟩ fun hH => zn 8 rfl fun K hK => ?_
 go_simp
 refine (z16 _ H2.out H4.out).mono ?_
 rintro e wc ⟨h17, rfl, hv, hb⟩
 replace H := zd H hb
 have HV17 := za hv
 refine zc hK ⟨zb H 4, zb H 1, zb H 2, zb H 3⟩ fun hH => ?_
 try simp only [Act.put, qa, qb, qc]
 refine y10 9 18 rfl rfl rfl hH rfl rfl rfl rfl ?_
 refine zn 10 rfl fun K hK => ?_
 refine zl 0 zH H.out rfl rfl rfl rfl ?_
 intro ws HS
 simp only [qb] at HS
 replace H := za HS
 refine zc hK ⟨zb H 4, zb H 1, zb H 2, zb H 3⟩ fun hH => ?_
 try simp only [Act.put, qa]
 refine zm ?_
 go_wp2_with fail
 exact bodyPost_ret (zy 0 zH rfl _ H rfl rfl) rfl ⟨_, _, _, rfl, HV11.out, HV14.out, HV17.out, H.out.bel⟩
end Go.Proofs.YtgjbonikbmgfmaaGreatDoor
