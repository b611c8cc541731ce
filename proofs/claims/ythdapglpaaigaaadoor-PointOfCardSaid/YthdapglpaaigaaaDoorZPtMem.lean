/-
  Points, the program's and the reference's, as rows: three parts one behind the other. No statement is proved here: lemmas for the walks.
-/
import Derived.Test.YthdapglpaaigaaaDoorBuK
import Derived.Test.YthdapglpaaigaaaDoorBuG
namespace Go.Proofs.YthdapglpaaigaaaDoor
open Go.RowKit

/-- Three rows of m integers, one behind the other. -/
def t3 (m : Nat) (f g h : Nat → Int) : Nat → Int := fun i => if i < m then f i else if i < 2 * m then g (i - m) else h (i - 2 * m)
/-- m cells of a row of n, from j on, are these. -/
structure Part (k : IntKind) (n : Nat) (f : Nat → Int) (j m : Nat) (p : Nat → Int) : Prop where
  fits : j + m ≤ n
  same : AZ k m (fun i => f (j + i)) = AZ k m p
theorem part_x8 {f g h : Nat → Int} : Part .u64 24 (t3 8 f g h) 0 8 f := ⟨by omega, AZ_congr fun i hi => by unfold t3; rw [Nat.zero_add, if_pos hi]⟩
theorem part_y8 {f g h : Nat → Int} : Part .u64 24 (t3 8 f g h) 8 8 g := ⟨by omega, AZ_congr fun i hi => by unfold t3; rw [if_neg (by omega), if_pos (by omega), show 8 + i - 8 = i by omega]⟩
theorem part_z8 {f g h : Nat → Int} : Part .u64 24 (t3 8 f g h) 16 8 h := ⟨by omega, AZ_congr fun i hi => by unfold t3; rw [if_neg (by omega), if_neg (by omega), show 16 + i - 2 * 8 = i by omega]⟩
theorem part_x16 {f g h : Nat → Int} : Part .i64 48 (t3 16 f g h) 0 16 f := ⟨by omega, AZ_congr fun i hi => by unfold t3; rw [Nat.zero_add, if_pos hi]⟩
theorem part_y16 {f g h : Nat → Int} : Part .i64 48 (t3 16 f g h) 16 16 g := ⟨by omega, AZ_congr fun i hi => by unfold t3; rw [if_neg (by omega), if_pos (by omega), show 16 + i - 16 = i by omega]⟩
theorem part_z16 {f g h : Nat → Int} : Part .i64 48 (t3 16 f g h) 32 16 h := ⟨by omega, AZ_congr fun i hi => by unfold t3; rw [if_neg (by omega), if_neg (by omega), show 32 + i - 2 * 16 = i by omega]⟩
section
variable {P : Program} {w : World} {t ty : TypeId} {k : IntKind} {n m j : Nat} {f p : Nat → Int}
theorem run_load_p (hT : IsRow P ty m) {b : Nat} (hr : w.heap[b]? = some (Blk t k n f)) (hp : Part k n f j m p) :
    (Instr.loadAt ty (.pointer (some ⟨b, j, none⟩))).run P w = .ok (.agg (AZ k m p)) w := by
  rw [← hp.same]
  exact run_load_part hT hr hp.fits
end
section
variable {P : Program} {ops : Array Oper} {rest : List Oper} {o : Oper} {a : Act} {w w0 : World} {l : List (Nat × Obj)} {Q : Exit → Act → World → Prop} {t ty : TypeId} {k : IntKind} {n m : Nat}
theorem own_load_p {i : Nat} (hT : IsRow P ty m) (H : Hid (Ow w0 w l)) (hgd : o.guard = none) {x : Operand} (ho : o.op = .load ty x) {g j : Nat} (hx : a.eval x = .pointer (some ⟨g, j, none⟩)) {f p : Nat → Int}
    (hi : l[i]? = some (g, Blk t k n f)) (hp : Part k n f j m p) (h : ∀ K : Act → World → Prop, (∀ a w, wpList P ops Q rest a w → K a w) → K (a.put o.dst (.agg (AZ k m p))) w) : wpList P ops Q (o :: rest) a w :=
  wpList_plain hgd fun K hK => by
    unfold Oper.wp execOp
    simp only [ho, hx, Sem.run_bind, run_load_p hT (H.out.row i hi) hp, Result.andThen_ok]
    exact h K hK
end
section
variable {P : Program} {md : Region.Mode} {ops : Array Oper} {Q : Exit → Act → World → Prop} {S : World → Prop} {fuel : Nat} {listed : Array Bool} {a : Act} {w : World} {t ty : TypeId} {k : IntKind} {n m j : Nat}
/-- In a region that draws its order: a load of a part of a row is taken first. -/
theorem held_part (i : Nat) (d : Tmp) {oi : Oper} (hT : IsRow P ty m) (hi : ops[i]? = some oi) (hd : oi.dst = some d) (hs : Region.noSelect ops = true) (hf : Region.free md ops listed i = true)
    (hr : (Region.ready md ops listed).contains i = true) (hw : Region.wanted oi (yielded ops a.tmps) = true) (hS : S w) {x : Operand} (ho : oi.op = .load ty x) {g : Nat} (hx : a.eval x = .pointer (some ⟨g, j, none⟩))
    {f p : Nat → Int} (hp : Part k n f j m p) (hrow : ∀ w, S w → w.heap[g]? = some (Blk t k n f))
    (h : wpAnyH P md ops (NoPanic Q) S fuel (listed.setIfInBounds i true) (a.put (some d) (.agg (AZ k m p))) w) : wpAnyH P md ops (NoPanic Q) S (fuel + 1) listed a w :=
  held_value i d (.agg (AZ k m p)) hi hd hs hf hr hw hS (fun w hw' => by
    unfold execOp
    simp only [ho, hx, Sem.run_bind, run_load_p hT (hrow w hw') hp, Result.andThen_ok]
    rfl) h
end
/-- A point's value, the program's and the reference's. -/
abbrev PO (v : Nat → Int) : Value := .agg (AZ .u64 24 v)
abbrev QO (v : Nat → Int) : Value := .agg (AZ .i64 48 v)
theorem rowPt : IsRow Tryd.prog 34 24 := ⟨⟨_, Tryd.underlying34, rfl⟩, by kernel_rfl⟩
theorem rowQt : IsRow Tryd.prog 52 48 := ⟨⟨_, Tryd.underlying52, rfl⟩, by kernel_rfl⟩
theorem nilPt (w : World) : (zeroValue 34).run Tryd.prog w = .ok (.agg (AZ .u64 24 fun _ => 0)) w :=
  (show AZ .u64 24 (fun _ => 0) = Array.replicate 24 (.int .u64 0) by unfold AZ; rfl) ▸ (zero_of_info (show (Tryd.prog.info? 34).map (fun i => (i.zero, i.size)) = some (some (.agg (Array.replicate 24 (.int .u64 0))), 24) by kernel_rfl)).1 w
theorem nilQt (w : World) : (zeroValue 52).run Tryd.prog w = .ok (.agg (AZ .i64 48 fun _ => 0)) w :=
  (show AZ .i64 48 (fun _ => 0) = Array.replicate 48 (.int .i64 0) by unfold AZ; rfl) ▸ (zero_of_info (show (Tryd.prog.info? 52).map (fun i => (i.zero, i.size)) = some (some (.agg (Array.replicate 48 (.int .i64 0))), 48) by kernel_rfl)).1 w
theorem built_pt (f g h : Nat → Int) (w : World) : (Instr.build 34 #[(0, .agg (AZ .u64 8 f)), (1, .agg (AZ .u64 8 g)), (2, .agg (AZ .u64 8 h))]).run Tryd.prog w = .ok (.agg (AZ .u64 24 (t3 8 f g h))) w :=
  run_build w _ _ _ (by kernel_rfl)
theorem built_pt0 (w : World) : (Instr.build 34 #[]).run Tryd.prog w = .ok (.agg (AZ .u64 24 fun _ => 0)) w :=
  run_build w _ _ _ (by kernel_rfl)
theorem built_qt (f g h : Nat → Int) (w : World) : (Instr.build 52 #[(0, .agg (AZ .i64 16 f)), (1, .agg (AZ .i64 16 g)), (2, .agg (AZ .i64 16 h))]).run Tryd.prog w = .ok (.agg (AZ .i64 48 (t3 16 f g h))) w :=
  run_build w _ _ _ (by kernel_rfl)
section
variable {ops : Array Oper} {rest : List Oper} {o : Oper} {a : Act} {w : World} {Q : Exit → Act → World → Prop}
theorem lay_build_pt (hgd : o.guard = none) {x y z : Operand} (ho : o.op = .build 34 #[(0, x), (1, y), (2, z)]) {f g h : Nat → Int} (hx : a.eval x = .agg (AZ .u64 8 f)) (hy : a.eval y = .agg (AZ .u64 8 g)) (hz : a.eval z = .agg (AZ .u64 8 h))
    (k : ∀ K : Act → World → Prop, (∀ a w, wpList Tryd.prog ops Q rest a w → K a w) → K (a.put o.dst (.agg (AZ .u64 24 (t3 8 f g h)))) w) : wpList Tryd.prog ops Q (o :: rest) a w :=
  wpList_plain hgd fun K hK => by
    unfold Oper.wp execOp
    simp only [ho, List.map_toArray, List.map_cons, List.map_nil, hx, hy, hz, Sem.run_bind, built_pt, Result.andThen_ok]
    exact k K hK
theorem lay_build_pt0 (hgd : o.guard = none) (ho : o.op = .build 34 #[])
    (k : ∀ K : Act → World → Prop, (∀ a w, wpList Tryd.prog ops Q rest a w → K a w) → K (a.put o.dst (.agg (AZ .u64 24 fun _ => 0))) w) : wpList Tryd.prog ops Q (o :: rest) a w :=
  wpList_plain hgd fun K hK => by
    unfold Oper.wp execOp
    simp only [ho, Array.map_empty, Sem.run_bind, built_pt0, Result.andThen_ok]
    exact k K hK
theorem lay_build_qt (hgd : o.guard = none) {x y z : Operand} (ho : o.op = .build 52 #[(0, x), (1, y), (2, z)]) {f g h : Nat → Int} (hx : a.eval x = .agg (AZ .i64 16 f)) (hy : a.eval y = .agg (AZ .i64 16 g)) (hz : a.eval z = .agg (AZ .i64 16 h))
    (k : ∀ K : Act → World → Prop, (∀ a w, wpList Tryd.prog ops Q rest a w → K a w) → K (a.put o.dst (.agg (AZ .i64 48 (t3 16 f g h)))) w) : wpList Tryd.prog ops Q (o :: rest) a w :=
  wpList_plain hgd fun K hK => by
    unfold Oper.wp execOp
    simp only [ho, List.map_toArray, List.map_cons, List.map_nil, hx, hy, hz, Sem.run_bind, built_qt, Result.andThen_ok]
    exact k K hK
end
section
variable {md : Region.Mode} {ops : Array Oper} {Q : Exit → Act → World → Prop} {S : World → Prop} {fuel : Nat} {listed : Array Bool} {a : Act} {w : World}
/-- In a region that draws its order: a point is put together. -/
theorem held_pt (i : Nat) (d : Tmp) {oi : Oper} (hi : ops[i]? = some oi) (hd : oi.dst = some d) (hs : Region.noSelect ops = true) (hf : Region.free md ops listed i = true)
    (hr : (Region.ready md ops listed).contains i = true) (hw : Region.wanted oi (yielded ops a.tmps) = true) (hS : S w) {x y z : Operand} (ho : oi.op = .build 34 #[(0, x), (1, y), (2, z)])
    {f g h : Nat → Int} (hx : a.eval x = .agg (AZ .u64 8 f)) (hy : a.eval y = .agg (AZ .u64 8 g)) (hz : a.eval z = .agg (AZ .u64 8 h))
    (hN : wpAnyH Tryd.prog md ops (NoPanic Q) S fuel (listed.setIfInBounds i true) (a.put (some d) (.agg (AZ .u64 24 (t3 8 f g h)))) w) : wpAnyH Tryd.prog md ops (NoPanic Q) S (fuel + 1) listed a w :=
  held_value i d (.agg (AZ .u64 24 (t3 8 f g h))) hi hd hs hf hr hw hS (fun w _ => by
    unfold execOp
    simp only [ho, List.map_toArray, List.map_cons, List.map_nil, hx, hy, hz, Sem.run_bind, built_pt, Result.andThen_ok]
    rfl) hN
theorem held_qt (i : Nat) (d : Tmp) {oi : Oper} (hi : ops[i]? = some oi) (hd : oi.dst = some d) (hs : Region.noSelect ops = true) (hf : Region.free md ops listed i = true)
    (hr : (Region.ready md ops listed).contains i = true) (hw : Region.wanted oi (yielded ops a.tmps) = true) (hS : S w) {x y z : Operand} (ho : oi.op = .build 52 #[(0, x), (1, y), (2, z)])
    {f g h : Nat → Int} (hx : a.eval x = .agg (AZ .i64 16 f)) (hy : a.eval y = .agg (AZ .i64 16 g)) (hz : a.eval z = .agg (AZ .i64 16 h))
    (hN : wpAnyH Tryd.prog md ops (NoPanic Q) S fuel (listed.setIfInBounds i true) (a.put (some d) (.agg (AZ .i64 48 (t3 16 f g h)))) w) : wpAnyH Tryd.prog md ops (NoPanic Q) S (fuel + 1) listed a w :=
  held_value i d (.agg (AZ .i64 48 (t3 16 f g h))) hi hd hs hf hr hw hS (fun w _ => by
    unfold execOp
    simp only [ho, List.map_toArray, List.map_cons, List.map_nil, hx, hy, hz, Sem.run_bind, built_qt, Result.andThen_ok]
    rfl) hN
end
/-- These cells are this point. -/
structure PtK (v : Nat → Int) (P : Pt pN dK) : Prop where
  is : ∃ (f g h : Nat → Nat) (X Y Z : K), v = t3 8 (NZ f) (NZ g) (NZ h) ∧ EK f X ∧ EK g Y ∧ EK h Z ∧ Rp X Y Z P
/-- The reference's. -/
structure RfK (v : Nat → Int) (P : Pt pN dK) : Prop where
  is : ∃ X Y Z : K, v = t3 16 (dF X.val) (dF Y.val) (dF Z.val) ∧ Rp X Y Z P
theorem PtK.eq {v : Nat → Int} {P Q : Pt pN dK} (h : PtK v P) (e : P = Q) : PtK v Q := e ▸ h
theorem RfK.eq {v : Nat → Int} {P Q : Pt pN dK} (h : RfK v P) (e : P = Q) : RfK v Q := e ▸ h
theorem dK_ofZ : ofZ (-39081) = dK := by decide +kernel
theorem ofZ_zero : ofZ 0 = 0 := by decide +kernel
theorem ofZ_two : ofZ 2 = 1 + 1 := by decide +kernel
theorem times_k {f : Nat → Nat} {a : K} (n : Int) (w : World) (hT : Tp w) (hf : EK f a) (h1 : -9223372036854775808 ≤ n) (h2 : n ≤ 9223372036854775807) :
    Calls Tryd.prog 61 #[EV f, .int .i64 n] w fun e w' => ∃ h, e = .returned (EV h) ∧ EK h (a * ofZ n) ∧ Below w.heap.size w w' :=
  (times_v n w hT hf h1 h2).mono fun _ _ ⟨h, he, hv, hb⟩ => ⟨h, he, by unfold EK; rw [Fin.val_mul]; exact hv, hb⟩
end Go.Proofs.YthdapglpaaigaaaDoor
