/- Lemmas; no statement is proved here. -/
import Derived.Test.YtgjbonikbmgfmaaGreatDoorBuI
import Derived.Test.YtgjbonikbmgfmaaGreatDoorBuQ
import Derived.Test.YtgjbonikbmgfmaaGreatDoorBuU
import Derived.Test.YtgjbonikbmgfmaaGreatDoorBuX
set_option maxRecDepth 8000
set_option maxHeartbeats 3200000
namespace Go.Proofs.YtgjbonikbmgfmaaGreatDoor
open Go.RowKit
def ics (F : Nat → Int) (s : Value) : Nat → Value := fun j => if j < 24 then .int .u64 (F j) else s
theorem ics_slot (F : Nat → Int) (s : Value) : ics F s 24 = s := if_neg (by omega)
theorem ics_ints (F : Nat → Int) (s : Value) : (AV 24 fun j => ics F s (0 + j)) = AZ .u64 24 F := by
 rw [AV_int]
 refine z6n fun j hj => ?_
 unfold ics
 rw [Nat.zero_add, if_pos hj]
abbrev DO (F : Nat → Value) : Value := .agg (AV 25 F)
structure DeK (F : Nat → Value) (P : Pt pN dK) : Prop where
 is : ∃ v b, F = ics v (.bool b) ∧ (b = true → PtK v P) ∧ (b = false → P = z0v)
theorem DeK.one {F : Nat → Value} {P : Pt pN dK} (h : DeK F P) : ∀ j, j < 25 → (F j).oneCell' = true := by
 obtain ⟨v, b, rfl, _⟩ := h.is
 intro j _
 unfold ics
 split <;> rfl
theorem DeK.eq {F : Nat → Value} {P Q : Pt pN dK} (h : DeK F P) (e : P = Q) : DeK F Q := e ▸ h
theorem DeK.held {v : Nat → Int} {P : Pt pN dK} (h : PtK v P) : DeK (ics v (.bool true)) P := ⟨v, true, rfl, fun _ => h, (fun e => by cases e)⟩
theorem DeK.none (v : Nat → Int) : DeK (ics v (.bool false)) z0v := ⟨v, false, rfl, (fun e => by cases e), fun _ => rfl⟩
theorem z2w : IsRow Tryz.prog 34 25 := ⟨⟨_, Tryz.underlying34, rfl⟩, by kernel_rfl⟩
theorem y7s : (Tryz.prog.info? 34).map (·.size) = some 25 := z2w.size
theorem z26 (F : Nat → Value) : (AV 25 F).size = 25 := z1l _ _
theorem nil_ics : Array.replicate 24 (.int .u64 0) ++ #[.bool false] = AV 25 (ics (fun _ => 0) (.bool false)) := by
 apply Array.ext_getElem?
 intro j
 by_cases hj : j < 25
 ·rw [z29 _ _ _ hj]
  unfold ics
  by_cases h : j < 24
  ·rw [if_pos h, Array.getElem?_append_left (by simpa using h), Array.getElem?_replicate, if_pos h]
  ·obtain rfl : j = 24 := by omega
   rw [if_neg h, Array.getElem?_append_right (by simp)]
   rfl
 ·rw [Array.getElem?_eq_none (by simp; omega), Array.getElem?_eq_none (by rw [z1l]; omega)]
theorem zI (w : World) : (zeroValue 34).run Tryz.prog w = .ok (DO (ics (fun _ => 0) (.bool false))) w := by
 have h := (zero_of_info (show (Tryz.prog.info? 34).map (fun i => (i.zero, i.size)) = some (some (.agg (Array.replicate 24 (.int .u64 0) ++ #[.bool false])), 25) by kernel_rfl)).1 w
 rw [nil_ics] at h
 exact h
theorem built_De (v : Nat → Int) (b : Bool) (w : World) : (Instr.build 34 #[(0, .agg (AZ .u64 24 v)), (1, .bool b)]).run Tryz.prog w = .ok (DO (ics v (.bool b))) w :=
 run_build w _ _ _ (by kernel_rfl)
theorem built_De0 (w : World) : (Instr.build 34 #[]).run Tryz.prog w = .ok (DO (ics (fun _ => 0) (.bool false))) w :=
 run_build w _ _ _ (by kernel_rfl)
section
variable {ops : Array Oper} {rest : List Oper} {o : Oper} {a : Act} {w : World} {Q : Exit → Act → World → Prop}
theorem lay_build_De (hgd : o.guard = none) {x y : Operand} (ho : o.op = .build 34 #[(0, x), (1, y)]) {v : Nat → Int} {b : Bool} (hx : a.eval x = .agg (AZ .u64 24 v)) (hy : a.eval y = .bool b)
  (k : ∀ K : Act → World → Prop, (∀ a w, wpList Tryz.prog ops Q rest a w → K a w) → K (a.put o.dst (DO (ics v (.bool b)))) w) : wpList Tryz.prog ops Q (o :: rest) a w :=
 wpList_plain hgd fun K hK => by
  unfold Oper.wp execOp
  simp only [ho, List.map_toArray, List.map_cons, List.map_nil, hx, hy, Sem.run_bind, built_De, Result.andThen_ok]
  exact k K hK
theorem z2j (hgd : o.guard = none) (ho : o.op = .build 34 #[])
  (k : ∀ K : Act → World → Prop, (∀ a w, wpList Tryz.prog ops Q rest a w → K a w) → K (a.put o.dst (DO (ics (fun _ => 0) (.bool false)))) w) : wpList Tryz.prog ops Q (o :: rest) a w :=
 wpList_plain hgd fun K hK => by
  unfold Oper.wp execOp
  simp only [ho, Array.map_empty, Sem.run_bind, built_De0, Result.andThen_ok]
  exact k K hK
end
section
variable {md : Region.Mode} {ops : Array Oper} {Q : Exit → Act → World → Prop} {S : World → Prop} {fuel : Nat} {listed : Array Bool} {a : Act} {w : World} {t : TypeId}
theorem zE (i : Nat) (d : Tmp) {oi : Oper} (hi : ops[i]? = some oi) (hd : oi.dst = some d) (hw : Region.wanted oi (yielded ops a.tmps) = true) (hS : S w) {x : Operand} (ho : oi.op = .load 34 x) {g : Nat} (hx : a.eval x = .pointer (some ⟨g, 0, none⟩))
  {F : Nat → Value} (hrow : ∀ w, S w → w.heap[g]? = some (Cs t (AV 25 F)))
  (h : wpAnyH Tryz.prog md ops (NoPanic Q) S fuel (listed.setIfInBounds i true) (a.put (some d) (DO F)) w) (hs : Region.noSelect ops = true := by kernel_rfl) (hf : Region.free md ops listed i = true := by kernel_rfl) (hr : (Region.ready md ops listed).contains i = true := by kernel_rfl) : wpAnyH Tryz.prog md ops (NoPanic Q) S (fuel + 1) listed a w :=
 z0h i d (DO F) hi hd (hs := hs) (hf := hf) (hr := hr) hw hS (fun w hw' => by
  unfold execOp
  simp only [ho, hx, Sem.run_bind, z5s z2w (z26 F) (hrow w hw'), Result.andThen_ok]
  rfl) h
end
section
variable {o : Oper} {a : Act} {w w0 : World} {l : List (Nat × Obj)} {K : Act → World → Prop} {Q : Exit → Act → World → Prop} {t : TypeId}
theorem z4g {c : Prop} [Decidable c] {p q : Prop} (hc : c) (h : p) : if c then p else q := by rw [if_pos hc]; exact h
theorem z2o (i : Nat) (hd : o.dst = none) (H : Ow w0 w l) {x y : Operand} (ho : o.op = .store 34 x y) {b : Nat} (hx : a.eval x = .pointer (some ⟨b, 0, none⟩)) {F G : Nat → Value} (hy : a.eval y = DO F)
  (hi : l[i]? = some (b, Cs t (AV 25 G))) {P : Pt pN dK} (h1 : DeK F P)
  (h : ∀ w', Ow w0 w' (l.set i (b, Cs t (AV 25 F))) → K a w') : o.wp Tryz.prog a w K Q :=
 z4s i hd y7s H ho hx hy hi (by omega) rfl h1.one (z13 G F) fun w' h' _ => h w' h'
end
section
variable {ops : Array Oper} {rest : List Oper} {o : Oper} {a : Act} {w w0 : World} {l : List (Nat × Obj)} {Q : Exit → Act → World → Prop} {t : TypeId}
theorem z0a {i : Nat} (H : Hid (Ow w0 w l)) (hgd : o.guard = none) {x y : Operand} (ho : o.op = .store 34 x y) {b : Nat} (hx : a.eval x = .pointer (some ⟨b, 0, none⟩)) {F G : Nat → Value} (hy : a.eval y = DO F)
  (hi : l[i]? = some (b, Cs t (AV 25 G))) {P : Pt pN dK} (h1 : DeK F P)
  (h : ∀ w', Hid (Ow w0 w' (l.set i (b, Cs t (AV 25 F)))) → ∀ K : Act → World → Prop, (∀ a w, wpList Tryz.prog ops Q rest a w → K a w) → K (a.put o.dst undef) w') : wpList Tryz.prog ops Q (o :: rest) a w :=
 z4b y7s H hgd ho hx hy hi (by omega) rfl h1.one (z13 G F) fun w' h' _ K hK => h w' h' K hK
theorem z1i {i : Nat} (H : Hid (Ow w0 w l)) (hgd : o.guard = none) {x : Operand} (ho : o.op = .load 34 x) {b : Nat} (hx : a.eval x = .pointer (some ⟨b, 0, none⟩)) {F : Nat → Value}
  (hi : l[i]? = some (b, Cs t (AV 25 F))) (h : ∀ K : Act → World → Prop, (∀ a w, wpList Tryz.prog ops Q rest a w → K a w) → K (a.put o.dst (DO F)) w) : wpList Tryz.prog ops Q (o :: rest) a w :=
 z0t z2w (z26 F) H hgd ho hx hi h
end
section
variable {P : Program} {w w0 : World} {l : List (Nat × Obj)} {t t' t1 t2 t3 t4 : TypeId} {k k' : IntKind} {n n' n1 n2 n3 n4 : Nat}
theorem z1x (i : Nat) (hT : IsRow P t n) {C : Array Value} (hC : C.size = n) {fn : Func} {p q : Tmp} (h : fn.results = #[.cell p t, .tmp q]) (tmps : Array Value) {g : Nat} {tb : TypeId} {v : Value}
  (H : Hid (Ow w0 w l)) (hi : l[i]? = some (g, Cs tb C)) (hp : tmps.getD p undef = .pointer (some ⟨g, 0, none⟩)) (hq : tmps.getD q undef = v) : (results fn tmps).run P w = .ok (.tuple #[.agg C, v]) w := by
 obtain ⟨d, hd, hd'⟩ := hT.under
 have hr : w.heap[g]? = some (.cells C tb) := H.out.row i hi
 have hp' : tmps[p]?.getD undef = .pointer (some ⟨g, 0, none⟩) := by simpa using hp
 have hq' : tmps[q]?.getD undef = v := by simpa using hq
 simp [results, h, hp', hq', asAddr, run_loadVar_row w g tb t _ (0, 0) d hr hd (by cases d <;> simp_all) (by rw [hC]; exact hT.size)]
theorem z6s (i j : Nat) (hT : IsRow P t n) (hT' : IsRow P t' n') {C : Array Value} (hC : C.size = n) {fn : Func} {p q s : Tmp} (h : fn.results = #[.cell p t, .cell q t', .tmp s]) (tmps : Array Value) {g g' : Nat} {tb tb' : TypeId} {f' : Nat → Int} {v : Value}
  (H : Hid (Ow w0 w l)) (hi : l[i]? = some (g, Cs tb C)) (hj : l[j]? = some (g', zv tb' k' n' f')) (hp : tmps.getD p undef = .pointer (some ⟨g, 0, none⟩)) (hq : tmps.getD q undef = .pointer (some ⟨g', 0, none⟩)) (hv : tmps.getD s undef = v) :
  (results fn tmps).run P w = .ok (.tuple #[.agg C, .agg (AZ k' n' f'), v]) w := by
 obtain ⟨d, hd, hd'⟩ := hT.under
 obtain ⟨e, he, he'⟩ := hT'.under
 have hr : w.heap[g]? = some (.cells C tb) := H.out.row i hi
 have hr' : w.heap[g']? = some (.cells (AZ k' n' f') tb') := H.out.row j hj
 have hp' : tmps[p]?.getD undef = .pointer (some ⟨g, 0, none⟩) := by simpa using hp
 have hq' : tmps[q]?.getD undef = .pointer (some ⟨g', 0, none⟩) := by simpa using hq
 have hv' : tmps[s]?.getD undef = v := by simpa using hv
 simp [results, h, hp', hq', hv', asAddr, run_loadVar_row w g tb t _ (0, 0) d hr hd (by cases d <;> simp_all) (by rw [hC]; exact hT.size), run_loadVar_row w g' tb' t' _ (0, 0) e hr' he (by cases e <;> simp_all) (by rw [z0j]; exact hT'.size)]
theorem z5k (i1 i2 i3 i4 : Nat) (hT : IsRow P t n) (hT' : IsRow P t' n') {C D : Array Value} (hC : C.size = n) (hD : D.size = n) {fn : Func} {p1 p2 p3 p4 s : Tmp} (h : fn.results = #[.cell p1 t, .cell p2 t, .cell p3 t', .cell p4 t', .tmp s]) (tmps : Array Value)
  {g1 g2 g3 g4 : Nat} {f3 f4 : Nat → Int} {v : Value} (H : Hid (Ow w0 w l)) (h1 : l[i1]? = some (g1, Cs t1 C)) (h2 : l[i2]? = some (g2, Cs t2 D)) (h3 : l[i3]? = some (g3, zv t3 k' n' f3)) (h4 : l[i4]? = some (g4, zv t4 k' n' f4))
  (e1 : tmps.getD p1 undef = .pointer (some ⟨g1, 0, none⟩)) (e2 : tmps.getD p2 undef = .pointer (some ⟨g2, 0, none⟩)) (e3 : tmps.getD p3 undef = .pointer (some ⟨g3, 0, none⟩)) (e4 : tmps.getD p4 undef = .pointer (some ⟨g4, 0, none⟩)) (hv : tmps.getD s undef = v) :
  (results fn tmps).run P w = .ok (.tuple #[.agg C, .agg D, .agg (AZ k' n' f3), .agg (AZ k' n' f4), v]) w := by
 obtain ⟨d, hd, hd'⟩ := hT.under
 obtain ⟨e, he, he'⟩ := hT'.under
 have r1 : w.heap[g1]? = some (.cells C t1) := H.out.row i1 h1
 have r2 : w.heap[g2]? = some (.cells D t2) := H.out.row i2 h2
 have r3 : w.heap[g3]? = some (.cells (AZ k' n' f3) t3) := H.out.row i3 h3
 have r4 : w.heap[g4]? = some (.cells (AZ k' n' f4) t4) := H.out.row i4 h4
 have q1 : tmps[p1]?.getD undef = .pointer (some ⟨g1, 0, none⟩) := by simpa using e1
 have q2 : tmps[p2]?.getD undef = .pointer (some ⟨g2, 0, none⟩) := by simpa using e2
 have q3 : tmps[p3]?.getD undef = .pointer (some ⟨g3, 0, none⟩) := by simpa using e3
 have q4 : tmps[p4]?.getD undef = .pointer (some ⟨g4, 0, none⟩) := by simpa using e4
 have hv' : tmps[s]?.getD undef = v := by simpa using hv
 simp [results, h, q1, q2, q3, q4, hv', asAddr, run_loadVar_row w g1 t1 t _ (0, 0) d r1 hd (by cases d <;> simp_all) (by rw [hC]; exact hT.size), run_loadVar_row w g2 t2 t _ (0, 0) d r2 hd (by cases d <;> simp_all) (by rw [hD]; exact hT.size),
  run_loadVar_row w g3 t3 t' _ (0, 0) e r3 he (by cases e <;> simp_all) (by rw [z0j]; exact hT'.size), run_loadVar_row w g4 t4 t' _ (0, 0) e r4 he (by cases e <;> simp_all) (by rw [z0j]; exact hT'.size)]
end
theorem z3o : (zC 1 : K) = 1 := by decide +kernel
theorem y9e : (zC 2 : K) = 2 := by decide +kernel
theorem df_nn : (zC 39082 : K) = nK := by decide +kernel
theorem df_dd : (zC 39081 : K) = rD * rD := by
 rw [rD_sq]
 decide +kernel
theorem df_81 : (zC 39081 : K) = -dK := df_dd.trans rD_sq
theorem y9d (x y r w : K) (hr : r = ab (zL eC (zC 1) (zC 39082 * ((x + x * y) * (x - x * y) * (x * x))))) (hw : w = ab (r * ((x + x * y) * (x - x * y) * eR))) :
  ab (zC 39082 * (r * (x * (fR * w - x * y)))) = dfE eC nK eR fR x y := by
 rw [z3o, df_nn] at hr
 rw [df_nn]
 unfold dfE dfR
 simp only []
 rw [← hr]
 have e1 : r * ((x + x * y) * (x - x * y)) * eR = r * ((x + x * y) * (x - x * y) * eR) := by
  generalize eR = e
  grind
 rw [e1, ← hw]
 generalize nK = n
 generalize fR * w - x * y = v
 rw [show n * (r * (x * v)) = n * r * (x * v) by grind]
theorem els_x' {E : Pt pN dK} (h : Els2 z0v E) : E.x = 0 := by
 rcases h with rfl | rfl
 ·rfl
 ·rw [y58]
  show -(0 : K) = 0
  decide +kernel
def oN : Nat := 315019913931389607337177038330951043522456072897266928557328499619017160722351061360252776265186336876723201881398623946864393857820716
theorem oN_is : cN pN oN = fR := by
 unfold fR
 refine y9x z0q y5g ?_ (by decide +kernel)
 have h := z3n z0q y63
 have h1 : cN pN oN * cN pN oN * (rD * rD) = 1 := by decide +kernel
 refine z0u z0q (a := rD * rD) (z0e z0q y63 y63) ?_
 generalize inv rD = i at *
 generalize rD = r at *
 generalize cN pN oN = o at *
 grind
theorem y09 (q : K) : ab (fR * q * zC 39081) = ab (q * eR) := by
 refine z5i z0q y5g ?_
 have h1 := dfK.ee
 have h2 := dfK.ef
 rw [df_81]
 generalize eR = e at *
 generalize fR = f at *
 generalize dK = d at *
 grind
theorem dfg_v (s : K) : (zC 1 + s * s) * (zC 1 + s * s) - s * s * zC (-156324) = dfV dK s := by
 unfold dfV
 rw [z3o, show (zC (-156324) : K) = 4 * dK by decide +kernel]
 generalize dK = d
 grind
theorem dfg_n (s : K) : ((zC 1 + s * s) * (zC 1 + s * s) - s * s * zC (-156324)) * (zC 1 + s * s) * (zC 1 + s * s) = dfV dK s * ((1 + s * s) * (1 + s * s)) := by
 rw [dfg_v, z3o]
 generalize dfV dK s = v
 grind
theorem dfg_ok (s : K) : (((zC 1 + s * s) * (zC 1 + s * s) - s * s * zC (-156324)) * (zC 1 + s * s) * (zC 1 + s * s) * (zL eC (zC 1) (((zC 1 + s * s) * (zC 1 + s * s) - s * s * zC (-156324)) * (zC 1 + s * s) * (zC 1 + s * s)) * zL eC (zC 1) (((zC 1 + s * s) * (zC 1 + s * s) - s * s * zC (-156324)) * (zC 1 + s * s) * (zC 1 + s * s))) = zC 1) = dfOk eC dK s := by
 rw [dfg_n, z3o]
 unfold dfOk dfQ dfR
 rw [y2c]
theorem dfg_q (s : K) : ab (zL eC (zC 1) (((zC 1 + s * s) * (zC 1 + s * s) - s * s * zC (-156324)) * (zC 1 + s * s) * (zC 1 + s * s))) = dfQ eC dK s := by
 rw [dfg_n, z3o]
 rfl
theorem dfg_w (s r : K) (h : dfQ eC dK s = r) : ab (fR * (s * zC 2) * r * (zC 1 + s * s) * zC 39081) = dfW eC dK eR s := by
 rw [show fR * (s * zC 2) * r * (zC 1 + s * s) = fR * (s * zC 2 * r * (zC 1 + s * s)) by generalize fR = f; grind, y09]
 unfold dfW
 rw [h, y9e, z3o]
 generalize eR = e
 rw [show s * 2 * r * (1 + s * s) * e = 2 * s * r * ((1 + s * s) * e) by grind]
theorem dfg_x (s r w : K) (h : dfQ eC dK s = r) (hw : dfW eC dK eR s = w) : w * r * ((zC 1 + s * s) * (zC 1 + s * s) - s * s * zC (-156324)) * fR = dfX eC dK eR fR s := by
 unfold dfX
 rw [h, hw, dfg_v]
 generalize dfV dK s = v
 generalize fR = f
 grind
theorem dfg_y (s r : K) (h : dfQ eC dK s = r) : (zC 1 - s * s) * r * (zC 1 + s * s) = dfY eC dK s := by
 unfold dfY
 rw [h, z3o]
theorem dfg_enc_xy (x y r w : K) (hr : r = ab (zL eC (zC 1) ((x + x * y) * (x - x * y) * x * x * zC 39082))) (hw : w = ab (fR * r * ((x + x * y) * (x - x * y)) * zC 39081)) :
  ab (r * x * (fR * w - x * y) * zC 39082) = dfE eC nK eR fR x y := by
 have hr2 : r = ab (zL eC (zC 1) (zC 39082 * ((x + x * y) * (x - x * y) * (x * x)))) := by
  rw [hr]
  generalize (zC 39082 : K) = n
  rw [show (x + x * y) * (x - x * y) * x * x * n = n * ((x + x * y) * (x - x * y) * (x * x)) by grind]
 have hw2 : w = ab (r * ((x + x * y) * (x - x * y) * eR)) := by
  rw [hw, show fR * r * ((x + x * y) * (x - x * y)) = fR * (r * ((x + x * y) * (x - x * y))) by generalize fR = f; grind, y09]
  generalize eR = e
  rw [show r * ((x + x * y) * (x - x * y)) * e = r * ((x + x * y) * (x - x * y) * e) by grind]
 rw [← y9d x y r w hr2 hw2]
 generalize (zC 39082 : K) = n
 generalize fR * w - x * y = v
 rw [show r * x * v * n = n * (r * (x * v)) by grind]
theorem dfg_enc (P : Pt pN dK) (r w : K) (hr : r = ab (zL eC (zC 1) ((P.x + P.x * P.y) * (P.x - P.x * P.y) * P.x * P.x * zC 39082))) (hw : w = ab (fR * r * ((P.x + P.x * P.y) * (P.x - P.x * P.y)) * zC 39081)) :
  ab (r * P.x * (fR * w - P.x * P.y) * zC 39082) = encK P := dfg_enc_xy P.x P.y r w hr hw
theorem y88 (P Q : Pt pN dK) : z6 zB P P = z6 zB Q Q ↔ Els2 P Q := by
 constructor
 ·intro h
  obtain ⟨R, hR⟩ : ∃ R, z6 zB P (pneg Q) = R := ⟨_, rfl⟩
  have hP : P = z6 zB Q R := by rw [← hR, ← z0r, z11 zB Q P, z0r, z2n, z0n]
  have h2 : z6 zB R R = z0v := by
   refine z5w zB (a := z6 zB Q Q) ?_
   rw [z0n, z2y, ← hP]
   exact h
  have h3 := (Els2.rfl' Q).add (y4z h2)
  rw [z0n, ← hP] at h3
  exact h3.symm
 ·rintro (rfl | rfl)
  ·rfl
  ·rw [z2y, z7q, z0n]
theorem z5e {P Q : Pt pN dK} {b : Bool} (h : b = true ↔ Els2 P Q) : decide (z6 zB P P = z6 zB Q Q) = b := by
 cases b with
 | true => exact decide_eq_true ((y88 P Q).2 (h.1 rfl))
 | false => exact decide_eq_false fun e => Bool.noConfusion (h.2 ((y88 P Q).1 e))
structure Els (w : World) (B q o n : Nat) (E : Nat → Nat → Nat) (x : Nat → K) : Prop where
 lt : q < B
 has : ∀ i, i < n → ∀ j, j < 8 → w.cell? ⟨q, o + i * 8 + j, none⟩ = some (.int .u64 (NZ (E i) j))
 is : ∀ i, i < n → EK (E i) (x i)
theorem Els.call {w w' : World} {q o n : Nat} {E : Nat → Nat → Nat} {x : Nat → K} (h : Els w w.heap.size q o n E x) (hb : Below w.heap.size w w') : Els w' w'.heap.size q o n E x :=
 ⟨Nat.lt_of_lt_of_le h.lt hb.size, fun i hi j hj => (hb.cell (p := ⟨q, o + i * 8 + j, none⟩) h.lt).trans (h.has i hi j hj), h.is⟩
def y33 (a : K) (x : Nat → K) : Nat → K
 | 0 => a
 | n + 1 => y33 a x n * x n
theorem prodK_2 (a u y : K) : y33 a (fun k => if k = 0 then u else y) 2 = a * u * y := rfl
theorem prodK_3 (a u y v : K) : y33 a (fun k => if k = 0 then u else if k = 1 then y else v) 3 = a * u * y * v := rfl
def G2 (f g : Nat → Int) : Nat → Nat → Int := fun i => if i = 0 then f else g
def G3 (f g h : Nat → Int) : Nat → Nat → Int := fun i => if i = 0 then f else if i = 1 then g else h
def Fl2 (f g : Nat → Int) : Obj := .cells (z41 .u64 8 2 (G2 f g)).toArray 30
def Fl3 (f g h : Nat → Int) : Obj := .cells (z41 .u64 8 3 (G3 f g h)).toArray 30
theorem y86 {w : World} {q : Nat} {f g : Nat → Nat} {a b : K} (hr : w.heap[q]? = some (Fl2 (NZ f) (NZ g))) (hf : EK f a) (hg : EK g b) : Els w w.heap.size q 0 2 (fun k => if k = 0 then f else g) (fun k => if k = 0 then a else b) :=
 ⟨z01 hr, fun k hk j hj => by
  rw [Nat.zero_add, cell_of_row _ _ _ _ _ _ (show w.heap[q]? = some (.cells (z41 .u64 8 2 (G2 (NZ f) (NZ g))).toArray 30) from hr), List.getElem?_toArray, z40 .u64 8 _ j hj 2 k hk]
  rcases (by omega : k = 0 ∨ k = 1) with rfl | rfl <;> rfl, fun k hk => by
  rcases (by omega : k = 0 ∨ k = 1) with rfl | rfl
  ·exact hf
  ·exact hg⟩
theorem y3e {w : World} {q : Nat} {f g h : Nat → Nat} {a b c : K} (hr : w.heap[q]? = some (Fl3 (NZ f) (NZ g) (NZ h))) (hf : EK f a) (hg : EK g b) (hh : EK h c) : Els w w.heap.size q 0 3 (fun k => if k = 0 then f else if k = 1 then g else h) (fun k => if k = 0 then a else if k = 1 then b else c) :=
 ⟨z01 hr, fun k hk j hj => by
  rw [Nat.zero_add, cell_of_row _ _ _ _ _ _ (show w.heap[q]? = some (.cells (z41 .u64 8 3 (G3 (NZ f) (NZ g) (NZ h))).toArray 30) from hr), List.getElem?_toArray, z40 .u64 8 _ j hj 3 k hk]
  rcases (by omega : k = 0 ∨ k = 1 ∨ k = 2) with rfl | rfl | rfl <;> rfl, fun k hk => by
  rcases (by omega : k = 0 ∨ k = 1 ∨ k = 2) with rfl | rfl | rfl
  ·exact hf
  ·exact hg
  ·exact hh⟩
section
variable {ops : Array Oper} {rest : List Oper} {o : Oper} {a : Act} {w w0 : World} {l : List (Nat × Obj)} {Q : Exit → Act → World → Prop} {K : Act → World → Prop}
theorem z0l (dd : Tmp) (hd : o.dst = some dd) (H : Ow w0 w l) {x y : Operand} (ho : o.op = .buildSlice 176 2 #[(0, x), (1, y)]) {f g : Nat → Int} (hx : a.eval x = .agg (AZ .u64 8 f)) (hy : a.eval y = .agg (AZ .u64 8 g))
  (k : ∀ w' q, Ow w0 w' ((q, Fl2 f g) :: l) → Below w.heap.size w w' → K (a.put (some dd) (.slice (some ⟨q, 0, none⟩) 2 2)) w') : o.wp Tryz.prog a w K Q := by
 have hr := z7y (P := Tryz.prog) (w := w) (k := .u64) Tryz.underlying176 infoE (by omega) 2 (by omega) (by omega) (G2 f g) #[(0, .agg (AZ .u64 8 f)), (1, .agg (AZ .u64 8 g))] rfl
 unfold Oper.wp execOp
 simp only [ho, List.map_toArray, List.map_cons, List.map_nil, hx, hy, Sem.run_bind, hr, Result.andThen_ok]
 rw [← hd] at k
 exact k _ _ (H.alloc _) (z1z _ _)
theorem own_build2E (H : Hid (Ow w0 w l)) (hgd : o.guard = none) {x y : Operand} (ho : o.op = .buildSlice 176 2 #[(0, x), (1, y)]) {f g : Nat → Int} (hx : a.eval x = .agg (AZ .u64 8 f)) (hy : a.eval y = .agg (AZ .u64 8 g))
  (k : ∀ w' q, Hid (Ow w0 w' ((q, Fl2 f g) :: l)) → ∀ K : Act → World → Prop, (∀ a w, wpList Tryz.prog ops Q rest a w → K a w) → K (a.put o.dst (.slice (some ⟨q, 0, none⟩) 2 2)) w') : wpList Tryz.prog ops Q (o :: rest) a w :=
 wpList_plain hgd fun K hK => by
  have hr := z7y (P := Tryz.prog) (w := w) (k := .u64) Tryz.underlying176 infoE (by omega) 2 (by omega) (by omega) (G2 f g) #[(0, .agg (AZ .u64 8 f)), (1, .agg (AZ .u64 8 g))] rfl
  unfold Oper.wp execOp
  simp only [ho, List.map_toArray, List.map_cons, List.map_nil, hx, hy, Sem.run_bind, hr, Result.andThen_ok]
  exact k _ _ (za (H.out.alloc _)) K hK
theorem z18 (dd : Tmp) (hd : o.dst = some dd) (H : Ow w0 w l) {x y z : Operand} (ho : o.op = .buildSlice 176 3 #[(0, x), (1, y), (2, z)]) {f g h : Nat → Int} (hx : a.eval x = .agg (AZ .u64 8 f)) (hy : a.eval y = .agg (AZ .u64 8 g)) (hz : a.eval z = .agg (AZ .u64 8 h))
  (k : ∀ w' q, Ow w0 w' ((q, Fl3 f g h) :: l) → Below w.heap.size w w' → K (a.put (some dd) (.slice (some ⟨q, 0, none⟩) 3 3)) w') : o.wp Tryz.prog a w K Q := by
 have hr := z7y (P := Tryz.prog) (w := w) (k := .u64) Tryz.underlying176 infoE (by omega) 3 (by omega) (by omega) (G3 f g h) #[(0, .agg (AZ .u64 8 f)), (1, .agg (AZ .u64 8 g)), (2, .agg (AZ .u64 8 h))] rfl
 unfold Oper.wp execOp
 simp only [ho, List.map_toArray, List.map_cons, List.map_nil, hx, hy, hz, Sem.run_bind, hr, Result.andThen_ok]
 rw [← hd] at k
 exact k _ _ (H.alloc _) (z1z _ _)
end
theorem z6x {f : Nat → Nat} {a : K} {q o n c : Nat} {E : Nat → Nat → Nat} {x : Nat → K} (w : World) (hf : EK f a) (hE : Els w w.heap.size q o n E x) (hn : n ≤ 1000) :
  Calls Tryz.prog 77 #[EV f, .slice (some ⟨q, o, none⟩) n c] w fun e w' => ∃ r, e = .returned (EV r) ∧ EK r (y33 a x n) ∧ Below w.heap.size w w' := by
 have HE := za hE
 have V0 : Hid (EK f (y33 a x 0)) := za hf
 clear hE hf
 have H := za (Ow.start w)
 go_enter Tryz.func77, Tryz.ntmps77
 go_wp2_with (first
  | ((fail_if_success have := g2); (with_reducible apply zw H); (case hgd | ho | hx => exact rfl); clear H; intro w2 g2 H _ _; go_simp)
  | ((fail_if_success have := g4); (with_reducible apply ze z9 H); (case hgd | ho => exact rfl); clear H; intro w4 g4 H _ _; go_simp))
 go_loopg [9] n (fun gk v9 wr => ∃ (k : Nat) (r : Nat → Nat), k + gk = n ∧ v9 = .int .i64 (k : Int) ∧ EK r (y33 a x k) ∧ Ow w wr [(g4, zv 30 .u64 8 fun _ => 0), (g2, zv 30 .u64 8 (NZ r))])
 case atStart => exact ⟨0, f, by omega, rfl, V0.out, H.out⟩
 case round =>
  clear H V0
  obtain ⟨k, r, hk, rfl, hr, HR⟩ := hrel
  have V := za hr
  have H := za HR
  clear hr HR
  cases gk with
  | zero =>
   obtain rfl : k = n := by omega
   have hid : decide ((k : Int) < (k : Int)) = false := by simp
   have hid' : decide (k < k) = false := by simp
   clear hk hn
   go_wp2_with (first
    | ((with_reducible apply zr zt H); (case hgd | ho | hx => exact rfl); (case hi => repeat first|exact z5|apply z8); intro _ _; go_simp)
    | ((with_reducible apply zj zt H); (case hgd | ho | hx | hy => exact rfl); (case hi => repeat first|exact z5|apply z8); clear H; intro ws H _ _; simp only [qb] at H; go_simp))
   exact bodyPost_ret (zy 0 zt rfl _ H rfl rfl) rfl ⟨_, rfl, V.out, H.out.bel⟩
  | succ gk9 =>
   have hlt : k < n := by omega
   have hid : decide ((k : Int) < (n : Int)) = true := by simp; omega
   have hid' : decide (k < n) = true := by simpa using hlt
   have kn : (k : Int) < (n : Int) := by omega
   have n1000 : (n : Int) ≤ 1000 := by omega
   have HK := za hk
   have HX := za (HE.out.is k hlt)
   have HC : Hid (∀ W, Below w.heap.size w W → ∀ j, j < 8 → W.cell? ⟨q, o + k * 8 + j, none⟩ = some (.int .u64 (NZ (E k) j))) := za fun W hW j hj => (hW.cell (p := ⟨q, o + k * 8 + j, none⟩) HE.out.lt).trans (HE.out.has k hlt j hj)
   clear hk hlt hn HE
   go_wp2_with (first
    | ((fail_if_success have := mk1); (with_reducible apply y8z zt); (case hgd | ho | hx => exact rfl); (case hc => exact HC.out _ H.out.bel); have mk1 := trivial; intro _ _; go_simp)
    | ((with_reducible apply ze z9 H); (case hgd | ho => exact rfl); clear H; intro _ _ H _ _; go_simp)
    | ((with_reducible apply zr zt H); (case hgd | ho | hx => exact rfl); (case hi => repeat first|exact z5|apply z8); intro _ _; go_simp)
    | ((fail_if_success have := V2); (with_reducible refine (z16 _ V.out HX.out).mono ?_); rintro e wc ⟨h2, rfl, hv, hb⟩; replace H := zd H hb; clear hb; have V2 := za hv; clear hv)
    | ((with_reducible apply zj zt H); (case hgd | ho | hx | hy => exact rfl); (case hi => repeat first|exact z5|apply z8); clear H; intro ws H _ _; simp only [qb, qc] at H; go_simp))
   go_roundg gk9
   case rel => exact ⟨k + 1, h2, by (have := HK.out; omega), by go_num, V2.out, H.out.pop⟩
   case measure => omega
theorem z0x {f g h : Nat → Nat} {x u y : K} {q c : Nat} (w : World) (hf : EK f x) (hr : w.heap[q]? = some (Fl2 (NZ g) (NZ h))) (hg : EK g u) (hh : EK h y) :
  Calls Tryz.prog 77 #[EV f, .slice (some ⟨q, 0, none⟩) 2 c] w fun e w' => ∃ r, e = .returned (EV r) ∧ EK r (x * u * y) ∧ Below w.heap.size w w' := z6x w hf (y86 hr hg hh) (by omega)
theorem z43 {f g h i : Nat → Nat} {x u y v : K} {q c : Nat} (w : World) (hf : EK f x) (hr : w.heap[q]? = some (Fl3 (NZ g) (NZ h) (NZ i))) (hg : EK g u) (hh : EK h y) (hi : EK i v) :
  Calls Tryz.prog 77 #[EV f, .slice (some ⟨q, 0, none⟩) 3 c] w fun e w' => ∃ r, e = .returned (EV r) ∧ EK r (x * u * y * v) ∧ Below w.heap.size w w' := z6x w hf (y3e hr hg hh hi) (by omega)
theorem rowB56 : IsRow Tryz.prog 177 56 := ⟨⟨_, Tryz.underlying177, rfl⟩, by kernel_rfl⟩
theorem nilB56d (w : World) : (zeroValue 177).run Tryz.prog w = .ok (.agg (AZ .u8 56 fun _ => 0)) w :=
 (show AZ .u8 56 (fun _ => 0) = Array.replicate 56 (.int .u8 0) by unfold AZ; rfl) ▸ (zero_of_info (show (Tryz.prog.info? 177).map (fun i => (i.zero, i.size)) = some (some (.agg (Array.replicate 56 (.int .u8 0))), 56) by kernel_rfl)).1 w
theorem built_oN (w : World) : (Instr.build 177 #[(0, .int .u8 44), (1, .int .u8 104), (2, .int .u8 120), (3, .int .u8 184), (4, .int .u8 94), (5, .int .u8 187), (6, .int .u8 175), (7, .int .u8 83), (8, .int .u8 243), (9, .int .u8 148), (10, .int .u8 158), (11, .int .u8 241), (12, .int .u8 121), (13, .int .u8 36), (14, .int .u8 187), (15, .int .u8 239), (16, .int .u8 21), (17, .int .u8 186), (18, .int .u8 31), (19, .int .u8 194), (20, .int .u8 226), (21, .int .u8 126), (22, .int .u8 112), (23, .int .u8 190), (24, .int .u8 26), (25, .int .u8 82), (26, .int .u8 166), (27, .int .u8 40), (28, .int .u8 241), (29, .int .u8 86), (30, .int .u8 186), (31, .int .u8 214), (32, .int .u8 167), (33, .int .u8 39), (34, .int .u8 91), (35, .int .u8 58), (36, .int .u8 12), (37, .int .u8 149), (38, .int .u8 144), (39, .int .u8 90), (40, .int .u8 7), (41, .int .u8 200), (42, .int .u8 202), (43, .int .u8 11), (44, .int .u8 90), (45, .int .u8 227), (46, .int .u8 43), (47, .int .u8 144), (48, .int .u8 87), (49, .int .u8 192), (50, .int .u8 34), (51, .int .u8 226), (52, .int .u8 82), (53, .int .u8 6), (54, .int .u8 244), (55, .int .u8 110)]).run Tryz.prog w = .ok (.agg (AZ .u8 56 (UB (bt oN)))) w :=
 run_build w _ _ _ (by kernel_rfl)
section
variable {ops : Array Oper} {rest : List Oper} {o : Oper} {a : Act} {w : World} {Q : Exit → Act → World → Prop}
theorem lay_oN (hgd : o.guard = none) (ho : o.op = .build 177 #[(0, .const (.int .u8 44)), (1, .const (.int .u8 104)), (2, .const (.int .u8 120)), (3, .const (.int .u8 184)), (4, .const (.int .u8 94)), (5, .const (.int .u8 187)), (6, .const (.int .u8 175)), (7, .const (.int .u8 83)), (8, .const (.int .u8 243)), (9, .const (.int .u8 148)), (10, .const (.int .u8 158)), (11, .const (.int .u8 241)), (12, .const (.int .u8 121)), (13, .const (.int .u8 36)), (14, .const (.int .u8 187)), (15, .const (.int .u8 239)), (16, .const (.int .u8 21)), (17, .const (.int .u8 186)), (18, .const (.int .u8 31)), (19, .const (.int .u8 194)), (20, .const (.int .u8 226)), (21, .const (.int .u8 126)), (22, .const (.int .u8 112)), (23, .const (.int .u8 190)), (24, .const (.int .u8 26)), (25, .const (.int .u8 82)), (26, .const (.int .u8 166)), (27, .const (.int .u8 40)), (28, .const (.int .u8 241)), (29, .const (.int .u8 86)), (30, .const (.int .u8 186)), (31, .const (.int .u8 214)), (32, .const (.int .u8 167)), (33, .const (.int .u8 39)), (34, .const (.int .u8 91)), (35, .const (.int .u8 58)), (36, .const (.int .u8 12)), (37, .const (.int .u8 149)), (38, .const (.int .u8 144)), (39, .const (.int .u8 90)), (40, .const (.int .u8 7)), (41, .const (.int .u8 200)), (42, .const (.int .u8 202)), (43, .const (.int .u8 11)), (44, .const (.int .u8 90)), (45, .const (.int .u8 227)), (46, .const (.int .u8 43)), (47, .const (.int .u8 144)), (48, .const (.int .u8 87)), (49, .const (.int .u8 192)), (50, .const (.int .u8 34)), (51, .const (.int .u8 226)), (52, .const (.int .u8 82)), (53, .const (.int .u8 6)), (54, .const (.int .u8 244)), (55, .const (.int .u8 110))])
  (k : ∀ K : Act → World → Prop, (∀ a w, wpList Tryz.prog ops Q rest a w → K a w) → K (a.put o.dst (.agg (AZ .u8 56 (UB (bt oN))))) w) : wpList Tryz.prog ops Q (o :: rest) a w :=
 wpList_plain hgd fun K hK => by
  unfold Oper.wp execOp
  simp only [ho, List.map_toArray, List.map_cons, List.map_nil, Act.eval, Sem.run_bind, built_oN, Result.andThen_ok]
  exact k K hK
end
theorem nB_oN : nB (bt oN) 56 = oN := by
 rw [y2y]
 exact Nat.mod_eq_of_lt (by decide +kernel)
theorem oN_near (w : World) (a : Option Addr) (c : Nat) (hs : Sl w w.heap.size a 56 c (bt oN)) :
  Calls Tryz.prog 58 #[.slice a 56 c] w fun e w' => ∃ g, e = .returned (.tuple #[EV g, .int .i64 0]) ∧ EK g fR ∧ Below w.heap.size w w' :=
 (z5g a c (bt oN) w hs (by rw [nB_oN]; decide +kernel)).mono fun e w' ⟨he, hb⟩ => ⟨_, he, by
  have h := of_v (bt oN)
  rw [nB_oN] at h
  rw [← oN_is]
  exact h, hb⟩
theorem z2s (w : World) : Calls Tryz.prog 78 #[] w fun e w' => ∃ h, e = .returned (EV h) ∧ EK h fR ∧ Below w.heap.size w w' := by
 have H := za (Ow.start w)
 go_enter Tryz.func78, Tryz.ntmps78
 go_wp2_with (first
  | ((with_reducible apply ze z9 H); (case hgd | ho => exact rfl); clear H; intro _ _ H _ _; go_simp)
  | ((with_reducible apply ze nilB56d H); (case hgd | ho => exact rfl); clear H; intro _ _ H _ _; go_simp)
  | ((with_reducible apply lay_oN); (case hgd | ho => exact rfl); intro _ _; go_simp)
  | ((with_reducible apply zj rowB56 H); (case hgd | ho | hx | hy => exact rfl); (case hi => repeat first|exact z5|apply z8); clear H; intro ws H _ _; simp only [qb] at H; go_simp)
  | ((fail_if_success have := V1); (with_reducible refine (oN_near _ _ _ (rawSl (H.out.row 0 rfl))).mono ?_); rintro e wc ⟨h1, rfl, hv, hb⟩; replace H := zd H hb; clear hb; have V1 := za hv; clear hv)
  | ((with_reducible apply zj zt H); (case hgd | ho | hx | hy => exact rfl); (case hi => repeat first|exact z5|apply z8); clear H; intro ws H _ _; simp only [qb, qc] at H; go_simp)
  | ((with_reducible apply zr zt H); (case hgd | ho | hx => exact rfl); (case hi => repeat first|exact z5|apply z8); intro _ _; go_simp))
 exact bodyPost_ret (zy 2 zt rfl _ H rfl rfl) rfl ⟨_, rfl, V1.out, H.out.bel⟩
theorem y0u {q n c : Nat} {E : Nat → Nat → Nat} {x : Nat → K} (w : World) (hT : Tp w) (hE : Els w w.heap.size q 0 n E x) (hn : n ≤ 1000) :
  Calls Tryz.prog 79 #[.slice (some ⟨q, 0, none⟩) n c] w fun e w' => ∃ h, e = .returned (EV h) ∧ EK h (ab (y33 fR x n * zC (39081))) ∧ Below w.heap.size w w' := by
 have HE := za hE
 have HN := za hn
 clear hE hn
 have HT := za hT
 clear hT
 have H := za (Ow.start w)
 go_enter Tryz.func79, Tryz.ntmps79
 go_wp2_with (first
  | ((with_reducible apply ze z9 H); (case hgd | ho => exact rfl); clear H; intro _ _ H _ _; go_simp)
  | ((fail_if_success have := V1); (with_reducible refine (z2s _).mono ?_); rintro e wc ⟨h1, rfl, hv, hb⟩; replace H := zd H hb; clear hb; have V1 := za hv; clear hv)
  | ((fail_if_success have := V2); (with_reducible refine (z6x _ V1.out (HE.out.call H.out.bel) HN.out).mono ?_); rintro e wc ⟨h2, rfl, hv, hb⟩; replace H := zd H hb; clear hb; have V2 := za hv; clear hv)
  | ((fail_if_success have := V3); (with_reducible refine (z07 (39081) _ (HT.out.below H.out.bel) V2.out (by omega) (by omega)).mono ?_); rintro e wc ⟨h3, rfl, hv, hb⟩; replace H := zd H hb; clear hb; have V3 := za hv; clear hv)
  | ((fail_if_success have := V4); (with_reducible refine (y68 _ (HT.out.below H.out.bel) V3.out).mono ?_); rintro e wc ⟨h4, rfl, hv, hb⟩; replace H := zd H hb; clear hb; have V4 := za hv; clear hv)
  | ((with_reducible apply zj zt H); (case hgd | ho | hx | hy => exact rfl); (case hi => repeat first|exact z5|apply z8); clear H; intro ws H _ _; simp only [qb] at H; go_simp))
 exact bodyPost_ret (zy 0 zt rfl _ H rfl rfl) rfl ⟨_, rfl, V4.out, H.out.bel⟩
theorem rooted14_2 {g h : Nat → Nat} {u y : K} {q c : Nat} (w : World) (hT : Tp w) (hr : w.heap[q]? = some (Fl2 (NZ g) (NZ h))) (hg : EK g u) (hh : EK h y) :
  Calls Tryz.prog 79 #[.slice (some ⟨q, 0, none⟩) 2 c] w fun e w' => ∃ r, e = .returned (EV r) ∧ EK r (ab (fR * u * y * zC (39081))) ∧ Below w.heap.size w w' := by
 have h := y0u (c := c) w hT (y86 hr hg hh) (by omega)
 rw [prodK_2] at h
 exact h
theorem z57 {g h i : Nat → Nat} {u y v : K} {q c : Nat} (w : World) (hT : Tp w) (hr : w.heap[q]? = some (Fl3 (NZ g) (NZ h) (NZ i))) (hg : EK g u) (hh : EK h y) (hi : EK i v) :
  Calls Tryz.prog 79 #[.slice (some ⟨q, 0, none⟩) 3 c] w fun e w' => ∃ r, e = .returned (EV r) ∧ EK r (ab (fR * u * y * v * zC (39081))) ∧ Below w.heap.size w w' := by
 have h := y0u (c := c) w hT (y3e hr hg hh hi) (by omega)
 rw [prodK_3] at h
 exact h
theorem z1k {f g : Nat → Nat} {u v r : K} {b : Bool} (hr : ab (zL eC u v) = r) (h : decide (v * (zL eC u v * zL eC u v) = u) = b) (w : World) (hT : Tp w) (hf : EK f u) (hg : EK g v) :
  Calls Tryz.prog 74 #[EV f, EV g] w fun e w' => ∃ h, e = .returned (.tuple #[EV h, .bool b]) ∧ EK h r ∧ Below w.heap.size w w' := h ▸ hr ▸ z9u w hT hf hg
theorem z9o {w : World} {g : Nat} {D : Array Value} {t : TypeId} (h : w.heap[g]? = some (.cells D t)) : w.setRow g D = w := by
 have e : (w.setRow g D).heap = w.heap := by
  apply Array.ext_getElem?
  intro i
  by_cases hi : i = g
  ·subst hi
   rw [setRow_heap w i D D t (0, 0) h, h]
  ·exact setRow_other w g i D hi
 obtain ⟨heap, tape, drawn, os, output⟩ := w
 unfold World.setRow at *
 simp only at e ⊢
 rw [e]
section
variable {P : Program} {md : Region.Mode} {ops : Array Oper} {Q : Exit → Act → World → Prop} {S : World → Prop} {a : Act}
theorem z1u {f : Nat} : ∀ (m : Nat) (L : List Nat) (listed : Array Bool), L.length = m → L.Nodup → (∀ j ∈ L, j ∈ Region.ready md ops listed) →
  (∀ j o, ops[j]? = some o → listed.getD j true = false → j ∉ L → ∀ i ∈ L, ∃ e ∈ o.after, Region.binds md e = true ∧ e.on = i) →
  (∀ j ∈ L, ∀ (K : Act → World → Prop) (w : World), S w → K a w → wpOp P ops Q j K a w) → ∀ w, S w →
  wpAnyH P md ops Q S f (L.foldl (fun l i => l.setIfInBounds i true) listed) a w → wpAnyH P md ops Q S (f + m) listed a w
 | 0, L, listed, hm, _, _, _, _, w, _, hQ => by
  rw [List.eq_nil_of_length_eq_zero hm] at hQ
  exact hQ
 | m + 1, L, listed, hm, hD, hL, hR, hN, w, hS, hQ => by
  obtain ⟨i, hi⟩ : ∃ i, i ∈ L := by
   cases L with
   | nil => cases hm
   | cons i _ => exact ⟨i, .head _⟩
  refine ⟨fun h => ?_, fun j hj => ?_⟩
  ·have h1 := hL i hi
   rw [h] at h1
   cases h1
  ·have hj0 := mem_ready.1 hj
   have hjL : j ∈ L := by
    by_cases h : j ∈ L
    ·exact h
    ·exfalso
     obtain ⟨h1, o, ho, ha⟩ := hj0
     obtain ⟨e, he, hb, hon⟩ := hR j o ho h1 h i hi
     have h2 := ha e he hb
     have h3 := (mem_ready.1 (hL i hi)).1
     rw [hon] at h2
     rw [Array.getD_eq_getD_getElem?] at h2 h3
     cases hx : listed[i]? with
     | none => simp [hx] at h2
     | some v => simp [hx] at h2 h3; rw [h3] at h2; cases h2
   refine hN j hjL _ w hS ⟨hS, ?_⟩
   refine z1u m (L.erase j) (listed.setIfInBounds j true) ?_ (hD.erase j) (fun k hk => ?_) (fun k o ho hk hkL i hi => ?_) (fun k hk => hN k (List.mem_of_mem_erase hk)) w hS ?_
   ·rw [List.length_erase_of_mem hjL]
    omega
   ·have h := (hD.mem_erase_iff).1 hk
    exact ready_mono (hL k h.2) h.1
   ·by_cases hjk : j = k
    ·subst hjk
     exfalso
     rw [Array.getD_eq_getD_getElem?, Array.getElem?_setIfInBounds] at hk
     simp at hk
     split at hk <;> simp at hk
    ·rw [getD_set_ne true hjk] at hk
     exact hR k o ho hk (fun h => hkL ((List.mem_erase_of_ne (Ne.symm hjk)).2 h)) i (List.mem_of_mem_erase hi)
   ·have e := (List.perm_cons_erase hjL).foldl_eq' (f := fun (l : Array Bool) (i : Nat) => l.setIfInBounds i true) (fun x _ y _ z => by
     by_cases h : x = y
     ·subst h; rfl
     ·exact Array.setIfInBounds_comm _ _ h) listed
    rw [e] at hQ
    exact hQ
theorem z4h {L : List Nat} {listed : Array Bool} (h : ((List.range ops.size).all fun j => listed.getD j true || L.contains j || L.all fun i => (ops[j]?.map fun o => o.after.any fun e => Region.binds md e && e.on == i).getD true) = true) :
  ∀ j o, ops[j]? = some o → listed.getD j true = false → j ∉ L → ∀ i ∈ L, ∃ e ∈ o.after, Region.binds md e = true ∧ e.on = i := fun j o ho hj hjL i hi => by
 have hlt : j < ops.size := by
  rcases Nat.lt_or_ge j ops.size with h' | h'
  ·exact h'
  ·rw [Array.getElem?_eq_none h'] at ho; cases ho
 have h1 := List.all_eq_true.1 h j (List.mem_range.2 hlt)
 rw [hj, ho] at h1
 simp [hjL] at h1
 obtain ⟨q, hq, h2⟩ := h1 i hi
 exact ⟨o.after[q], Array.getElem_mem hq, h2⟩
theorem y82 {j : Nat} {oj : Oper} {K : Act → World → Prop} {w : World} (hj : ops[j]? = some oj) (hd : oj.dst = none) (hw : Region.wanted oj (yielded ops a.tmps) = true) (he : (execOp a.eval oj).run P w = .ok .skip w) (h : K a w) : wpOp P ops Q j K a w := by
 unfold wpOp
 simp only [hj, hw, if_true, Oper.wp, he, Oper.upon]
 refine .inl ?_
 rw [hd]
 exact h
variable {t ty : TypeId} {k : IntKind} {n : Nat}
theorem z9d (j : Nat) {oj : Oper} (hT : IsRow P ty n) (hj : ops[j]? = some oj) (hd : oj.dst = none) (hw : Region.wanted oj (yielded ops a.tmps) = true) {x y : Operand} (ho : oj.op = .store ty x y) {g : Nat} (hx : a.eval x = .pointer (some ⟨g, 0, none⟩)) {f : Nat → Int} (hy : a.eval y = .agg (AZ k n f))
  (hrow : ∀ w, S w → w.heap[g]? = some (zv t k n f)) (K : Act → World → Prop) (w : World) (hS : S w) (h : K a w) : wpOp P ops Q j K a w :=
 y82 hj hd hw (by
  have e := z1m (o := 0) (g := f) hT (hrow w hS) (by omega)
  rw [z6j, z9o (hrow w hS)] at e
  unfold execOp
  simp only [ho, hx, hy, Sem.run_bind, e, Result.andThen_ok]
  rfl) h
end
section
variable {ops : Array Oper} {Q : Exit → Act → World → Prop} {S : World → Prop} {a : Act} {t : TypeId}
theorem z9e (j : Nat) {oj : Oper} (hj : ops[j]? = some oj) (hd : oj.dst = none) (hw : Region.wanted oj (yielded ops a.tmps) = true) {x y : Operand} (ho : oj.op = .store 34 x y) {g : Nat} (hx : a.eval x = .pointer (some ⟨g, 0, none⟩)) {F : Nat → Value} (hy : a.eval y = DO F)
  (hrow : ∀ w, S w → w.heap[g]? = some (Cs t (AV 25 F))) {R : Pt pN dK} (h1 : DeK F R) (K : Act → World → Prop) (w : World) (hS : S w) (h : K a w) : wpOp Tryz.prog ops Q j K a w :=
 y82 hj hd hw (by
  have e := z5q (P := Tryz.prog) (o := 0) (v := DO F) y7s (hrow w hS) (by omega) rfl h1.one
  rw [z13, z9o (hrow w hS)] at e
  unfold execOp
  simp only [ho, hx, hy, Sem.run_bind, e, Result.andThen_ok]
  rfl) h
end
theorem z4p : IsRow Tryz.prog 58 4 := ⟨⟨_, Tryz.underlying58, rfl⟩, by kernel_rfl⟩
end Go.Proofs.YtgjbonikbmgfmaaGreatDoor
