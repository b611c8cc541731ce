/-
 Lemmas for the walks, several texts in one. No statement is proved here.
-/
import Derived.Test.YtoeokhfhcpcjlaaGreatDoorBuQ
import Derived.Test.YtoeokhfhcpcjlaaGreatDoorBuI
import Derived.Test.YtoeokhfhcpcjlaaGreatDoorBuB
import Derived.Deep.CutRange
/-
 The program's x and y as a row: parts one behind the other. No statement is proved here: lemmas for the walks.
-/
namespace Go.Proofs.YtoeokhfhcpcjlaaGreatDoor
open Go.RowKit
/-- Two elements, the program's. -/
abbrev TO (v : Nat → Int) : Value := .agg (AZ .u64 16 v)
theorem rowTO : IsRow Tryz.prog 46 16 := ⟨⟨_, Tryz.underlying46, rfl⟩, by kernel_rfl⟩
theorem nilTO (w : World) : (zeroValue 46).run Tryz.prog w = .ok (.agg (AZ .u64 16 fun _ => 0)) w :=
 (show AZ .u64 16 (fun _ => 0) = Array.replicate 16 (.int .u64 0) by unfold AZ; rfl) ▸ (zero_of_info (show (Tryz.prog.info? 46).map (fun i => (i.zero, i.size)) = some (some (.agg (Array.replicate 16 (.int .u64 0))), 16) by kernel_rfl)).1 w
theorem built_TO (f g : Nat → Int) (w : World) : (Instr.build 46 #[(0, .agg (AZ .u64 8 f)), (1, .agg (AZ .u64 8 g))]).run Tryz.prog w = .ok (.agg (AZ .u64 16 (t2 8 f g))) w :=
 run_build w _ _ _ (by kernel_rfl)
theorem built_TO0 (w : World) : (Instr.build 46 #[]).run Tryz.prog w = .ok (.agg (AZ .u64 16 fun _ => 0)) w :=
 run_build w _ _ _ (by kernel_rfl)
section
variable {ops : Array Oper} {rest : List Oper} {o : Oper} {a : Act} {w : World} {Q : Exit → Act → World → Prop}
theorem lay_build_TO (hgd : o.guard = none) {x y : Operand} (ho : o.op = .build 46 #[(0, x), (1, y)]) {f g : Nat → Int} (hx : a.eval x = .agg (AZ .u64 8 f)) (hy : a.eval y = .agg (AZ .u64 8 g))
  (k : ∀ K : Act → World → Prop, (∀ a w, wpList Tryz.prog ops Q rest a w → K a w) → K (a.put o.dst (.agg (AZ .u64 16 (t2 8 f g)))) w) : wpList Tryz.prog ops Q (o :: rest) a w :=
 wpList_plain hgd fun K hK => by
  unfold Oper.wp execOp
  simp only [ho, List.map_toArray, List.map_cons, List.map_nil, hx, hy, Sem.run_bind, built_TO, Result.andThen_ok]
  exact k K hK
theorem lay_build_TO0 (hgd : o.guard = none) (ho : o.op = .build 46 #[])
  (k : ∀ K : Act → World → Prop, (∀ a w, wpList Tryz.prog ops Q rest a w → K a w) → K (a.put o.dst (.agg (AZ .u64 16 fun _ => 0))) w) : wpList Tryz.prog ops Q (o :: rest) a w :=
 wpList_plain hgd fun K hK => by
  unfold Oper.wp execOp
  simp only [ho, List.map_toArray, List.map_nil, Sem.run_bind, built_TO0, Result.andThen_ok]
  exact k K hK
end
section
variable {md : Region.Mode} {ops : Array Oper} {Q : Exit → Act → World → Prop} {S : World → Prop} {fuel : Nat} {listed : Array Bool} {a : Act} {w : World}
/-- In a region that draws its order: two elements are put together. -/
theorem held_TO (i : Nat) (d : Tmp) {oi : Oper} (hi : ops[i]? = some oi) (hd : oi.dst = some d) (hs : Region.noSelect ops = true) (hf : Region.free md ops listed i = true)
  (hr : (Region.ready md ops listed).contains i = true) (hw : Region.wanted oi (yielded ops a.tmps) = true) (hS : S w) {x y : Operand} (ho : oi.op = .build 46 #[(0, x), (1, y)])
  {f g : Nat → Int} (hx : a.eval x = .agg (AZ .u64 8 f)) (hy : a.eval y = .agg (AZ .u64 8 g))
  (hN : wpAnyH Tryz.prog md ops (NoPanic Q) S fuel (listed.setIfInBounds i true) (a.put (some d) (.agg (AZ .u64 16 (t2 8 f g)))) w) : wpAnyH Tryz.prog md ops (NoPanic Q) S (fuel + 1) listed a w :=
 held_value i d (.agg (AZ .u64 16 (t2 8 f g))) hi hd hs hf hr hw hS (fun w _ => by
  unfold execOp
  simp only [ho, List.map_toArray, List.map_cons, List.map_nil, hx, hy, Sem.run_bind, built_TO, Result.andThen_ok]
  rfl) hN
end
section
variable {ops : Array Oper} {rest : List Oper} {o : Oper} {a : Act} {w w0 : World} {l : List (Nat × Obj)} {Q : Exit → Act → World → Prop} {K : Act → World → Prop}
/-- A slice of one element is made, in a region that draws its order. -/
theorem own_wp_build1E (dd : Tmp) (hd : o.dst = some dd) (H : Ow w0 w l) {x : Operand} (ho : o.op = .buildSlice 133 1 #[(0, x)]) {f : Nat → Int} (hx : a.eval x = .agg (AZ .u64 8 f))
  (h : ∀ w' g, Ow w0 w' ((g, Blk 29 .u64 8 f) :: l) → Below w.heap.size w w' → K (a.put (some dd) (.slice (some ⟨g, 0, none⟩) 1 1)) w') : o.wp Tryz.prog a w K Q := by
 unfold Oper.wp execOp
 simp only [ho, List.map_toArray, List.map_cons, List.map_nil, hx, Sem.run_bind, run_build1 (P := Tryz.prog) (w := w) (k := .u64) Tryz.underlying133 infoE (by omega) (by omega) f, Result.andThen_ok]
 rw [← hd] at h
 exact h _ _ (H.alloc _) (below_alloc _ _)
/-- Three elements, one behind the other. -/
def G3 (f g h : Nat → Int) : Nat → Nat → Int := fun i => if i = 0 then f else if i = 1 then g else h
/-- A slice of three. -/
theorem own_build3E (H : Hid (Ow w0 w l)) (hgd : o.guard = none) {x y z : Operand} (ho : o.op = .buildSlice 133 3 #[(0, x), (1, y), (2, z)]) {f g h : Nat → Int} (hx : a.eval x = .agg (AZ .u64 8 f)) (hy : a.eval y = .agg (AZ .u64 8 g)) (hz : a.eval z = .agg (AZ .u64 8 h))
  (k : ∀ w' q, Hid (Ow w0 w' ((q, .cells (flatR .u64 8 3 (G3 f g h)).toArray 29) :: l)) → ∀ K : Act → World → Prop, (∀ a w, wpList Tryz.prog ops Q rest a w → K a w) → K (a.put o.dst (.slice (some ⟨q, 0, none⟩) 3 3)) w') : wpList Tryz.prog ops Q (o :: rest) a w :=
 wpList_plain hgd fun K hK => by
  unfold Oper.wp execOp
  have hr := run_buildR (P := Tryz.prog) (w := w) (k := .u64) Tryz.underlying133 infoE (by omega) 3 (by omega) (by omega) (G3 f g h) #[(0, .agg (AZ .u64 8 f)), (1, .agg (AZ .u64 8 g)), (2, .agg (AZ .u64 8 h))] rfl
  simp only [ho, List.map_toArray, List.map_cons, List.map_nil, hx, hy, hz, Sem.run_bind, hr, Result.andThen_ok]
  exact k _ _ (Lib.hid (H.out.alloc _)) K hK
end
/-- These cells are this x and this y. -/
structure TwX (v : Nat → Int) (X Y : K) : Prop where
 is : ∃ f g : Nat → Nat, v = t2 8 (NZ f) (NZ g) ∧ EK f X ∧ EK g Y
/-- These cells are where this point goes. -/
abbrev TwK (v : Nat → Int) (P : Pt pN dK) : Prop := TwX v (wtX P) (wtY P)
theorem TwX.mk2 {f g : Nat → Nat} {X Y : K} (h1 : EK f X) (h2 : EK g Y) : TwX (t2 8 (NZ f) (NZ g)) X Y := ⟨f, g, rfl, h1, h2⟩
theorem TwX.eq {v : Nat → Int} {X Y X' Y' : K} (h : TwX v X Y) (e1 : X = X') (e2 : Y = Y') : TwX v X' Y' := e1 ▸ e2 ▸ h
end Go.Proofs.YtoeokhfhcpcjlaaGreatDoor
/-
 The contracts of twist's product and ratio. No statement is proved here: lemmas for the walks.
-/
namespace Go.Proofs.YtoeokhfhcpcjlaaGreatDoor
open Go.RowKit
/-- Rows of an element each, at a place of a block. -/
structure Els (w : World) (B q o n : Nat) (E : Nat → Nat → Nat) (x : Nat → K) : Prop where
 lt : q < B
 has : ∀ i, i < n → ∀ j, j < 8 → w.cell? ⟨q, o + i * 8 + j, none⟩ = some (.int .u64 (NZ (E i) j))
 is : ∀ i, i < n → EK (E i) (x i)
/-- An element times some. -/
def prodK (a : K) (x : Nat → K) : Nat → K
 | 0 => a
 | n + 1 => prodK a x n * x n
set_option maxRecDepth 8000 in
set_option maxHeartbeats 3200000 in
theorem product_k {f : Nat → Nat} {a : K} {q o n c : Nat} {E : Nat → Nat → Nat} {x : Nat → K} (w : World) (hf : EK f a) (hE : Els w w.heap.size q o n E x) (hn : n ≤ 1000) :
  Calls Tryz.prog 62 #[EV f, .slice (some ⟨q, o, none⟩) n c] w fun e w' => ∃ r, e = .returned (EV r) ∧ EK r (prodK a x n) ∧ Below w.heap.size w w' := by
 have HE := Lib.hid hE
 have V0 : Hid (EK f (prodK a x 0)) := Lib.hid hf
 clear hE hf
 have H := Lib.hid (Ow.start w)
 go_enter Tryz.func62, Tryz.ntmps62
 go_wp2_with (first
  | ((fail_if_success have := g2); (with_reducible apply own_box H); (case hgd | ho | hx => exact rfl); intro w2 g2 H' _ _; replace H := H'; clear H'; go_simp)
  | ((fail_if_success have := g4); (with_reducible apply own_alloc nilE H); (case hgd | ho => exact rfl); intro w4 g4 H' _ _; replace H := H'; clear H'; go_simp))
 go_loopg [9] n (fun gk v9 wr => ∃ (k : Nat) (r : Nat → Nat), k + gk = n ∧ v9 = .int .i64 (k : Int) ∧ EK r (prodK a x k) ∧ Ow w wr [(g4, Blk 29 .u64 8 fun _ => 0), (g2, Blk 29 .u64 8 (NZ r))])
 case atStart => exact ⟨0, f, by omega, rfl, V0.out, H.out⟩
 case round =>
  clear H V0
  obtain ⟨k, r, hk, rfl, hr, HR⟩ := hrel
  have V := Lib.hid hr
  have H := Lib.hid HR
  clear hr HR
  cases gk with
  | zero =>
   obtain rfl : k = n := by omega
   have hid : decide ((k : Int) < (k : Int)) = false := by simp
   have hid' : decide (k < k) = false := by simp
   clear hk hn
   go_wp2_with (first
    | ((with_reducible apply own_load rowE H); (case hgd | ho | hx => exact rfl); (case hi => first|exact at0|exact at1|exact at2|exact at3|exact at4|exact at5|exact at6|exact at7|exact at8|exact at9); intro _ _; go_simp)
    | ((with_reducible apply own_store rowE H); (case hgd | ho | hx | hy => exact rfl); (case hi => first|exact at0|exact at1|exact at2|exact at3|exact at4|exact at5|exact at6|exact at7|exact at8|exact at9); intro ws H' _ _; replace H := H'; clear H'; simp only [List.set_cons_zero] at H; go_simp))
   exact bodyPost_ret (own_result 0 rowE rfl _ H rfl rfl) rfl ⟨_, rfl, V.out, H.out.bel⟩
  | succ gk9 =>
   have hlt : k < n := by omega
   have hid : decide ((k : Int) < (n : Int)) = true := by simp; omega
   have hid' : decide (k < n) = true := by simpa using hlt
   have kn : (k : Int) < (n : Int) := by omega
   have n1000 : (n : Int) ≤ 1000 := by omega
   have HK := Lib.hid hk
   have HX := Lib.hid (HE.out.is k hlt)
   have HC : Hid (∀ W, Below w.heap.size w W → ∀ j, j < 8 → W.cell? ⟨q, o + k * 8 + j, none⟩ = some (.int .u64 (NZ (E k) j))) := Lib.hid fun W hW j hj => (hW.cell (p := ⟨q, o + k * 8 + j, none⟩) HE.out.lt).trans (HE.out.has k hlt j hj)
   clear hk hlt hn HE
   go_wp2_with (first
    | ((fail_if_success have := mk1); (with_reducible apply lay_one rowE); (case hgd | ho | hx => exact rfl); (case hc => exact HC.out _ H.out.bel); have mk1 := trivial; intro _ _; go_simp)
    | ((fail_if_success have := g6); (fail_if_success have := g6); (with_reducible apply own_alloc nilE H); (case hgd | ho => exact rfl); intro w6 g6 H' _ _; replace H := H'; clear H'; go_simp)
    | ((with_reducible apply own_load rowE H); (case hgd | ho | hx => exact rfl); (case hi => first|exact at0|exact at1|exact at2|exact at3|exact at4|exact at5|exact at6|exact at7|exact at8|exact at9); intro _ _; go_simp)
    | ((fail_if_success have := V2); (with_reducible refine (mul_k _ V.out HX.out).mono ?_); rintro e wc ⟨h2, rfl, hv, hb⟩; replace H := Lib.hid (H.out.call hb); clear hb; have V2 := Lib.hid hv; clear hv)
    | ((with_reducible apply own_store rowE H); (case hgd | ho | hx | hy => exact rfl); (case hi => first|exact at0|exact at1|exact at2|exact at3|exact at4|exact at5|exact at6|exact at7|exact at8|exact at9); intro ws H' _ _; replace H := H'; clear H'; simp only [List.set_cons_zero, List.set_cons_succ] at H; go_simp))
   go_roundg gk9
   case rel => exact ⟨k + 1, h2, by (have := HK.out; omega), by go_num, V2.out, H.out.pop⟩
   case measure => omega
theorem els_one {w : World} {q : Nat} {g : Nat → Nat} {b : K} (h : w.heap[q]? = some (Blk 29 .u64 8 (NZ g))) (hg : EK g b) : Els w w.heap.size q 0 1 (fun _ => g) (fun _ => b) :=
 ⟨lt_row h, fun i hi j hj => by
  obtain rfl : i = 0 := by omega
  rw [Nat.zero_mul, Nat.zero_add, cell_of_row _ _ _ _ _ _ h]
  exact AZ_get _ _ _ _ hj, fun _ _ => hg⟩
/-- One times another one. -/
theorem product_1 {f g : Nat → Nat} {a b : K} {q c : Nat} (w : World) (hf : EK f a) (h : w.heap[q]? = some (Blk 29 .u64 8 (NZ g))) (hg : EK g b) :
  Calls Tryz.prog 62 #[EV f, .slice (some ⟨q, 0, none⟩) 1 c] w fun e w' => ∃ r, e = .returned (EV r) ∧ EK r (a * b) ∧ Below w.heap.size w w' := product_k w hf (els_one h hg) (by omega)
/-- One times three. -/
theorem product_3 {f g h i : Nat → Nat} {x u y v : K} {q c : Nat} (w : World) (hf : EK f x) (hr : w.heap[q]? = some (.cells (flatR .u64 8 3 (G3 (NZ g) (NZ h) (NZ i))).toArray 29)) (hg : EK g u) (hh : EK h y) (hi : EK i v) :
  Calls Tryz.prog 62 #[EV f, .slice (some ⟨q, 0, none⟩) 3 c] w fun e w' => ∃ r, e = .returned (EV r) ∧ EK r (x * u * y * v) ∧ Below w.heap.size w w' :=
 product_k (E := fun k => if k = 0 then g else if k = 1 then h else i) (x := fun k => if k = 0 then u else if k = 1 then y else v) (o := 0) w hf ⟨lt_row hr, fun k hk j hj => by
  rw [Nat.zero_add, cell_of_row _ _ _ _ _ _ hr, List.getElem?_toArray, flatR_get .u64 8 _ j hj 3 k hk]
  rcases (by omega : k = 0 ∨ k = 1 ∨ k = 2) with rfl | rfl | rfl <;> rfl, fun k hk => by
  rcases (by omega : k = 0 ∨ k = 1 ∨ k = 2) with rfl | rfl | rfl
  ·exact hg
  ·exact hh
  ·exact hi⟩ (by omega)
set_option maxRecDepth 8000 in
set_option maxHeartbeats 3200000 in
theorem ratio13_k {f g : Nat → Nat} {a b : K} (w : World) (hf : EK f a) (hg : EK g b) :
  Calls Tryz.prog 63 #[EV f, EV g] w fun e w' => ∃ r, e = .returned (EV r) ∧ EK r (a * inv b) ∧ Below w.heap.size w w' := by
 have EA := Lib.hid hf
 have EB := Lib.hid hg
 clear hf hg
 have H := Lib.hid (Ow.start w)
 go_enter Tryz.func63, Tryz.ntmps63
 go_wp2_with (first
  | ((fail_if_success have := g2); (with_reducible apply own_box H); (case hgd | ho | hx => exact rfl); intro w2 g2 H' _ _; replace H := H'; clear H'; go_simp)
  | ((fail_if_success have := g3); (fail_if_success have := g3); (with_reducible apply own_box H); (case hgd | ho | hx => exact rfl); intro w3 g3 H' _ _; replace H := H'; clear H'; go_simp)
  | ((fail_if_success have := g4); (with_reducible apply own_alloc nilE H); (case hgd | ho => exact rfl); intro w4 g4 H' _ _; replace H := H'; clear H'; go_simp))
 refine wp_region_noPanic ?_
 refine wp_region_held_drew (S := fun W => W.heap[g2]? = some (Blk 29 .u64 8 (NZ f)) ∧ W.heap[g3]? = some (Blk 29 .u64 8 (NZ g))) (by kernel_rfl) (⟨H.out.drew.row 2 rfl, H.out.drew.row 1 rfl⟩) (fun hH => ?_)
 replace H := Lib.hid H.out.drew
 generalize World.drew _ = w8 at *
 refine held_row 0 5 rowE rfl rfl (by kernel_rfl) (by kernel_rfl) (by kernel_rfl) rfl hH rfl rfl (fun _ h => h.1) ?_
 try simp only [Act.put, List.setIfInBounds_toArray, List.set_cons_zero, List.set_cons_succ]
 refine held_row 1 6 rowE rfl rfl (by kernel_rfl) (by kernel_rfl) (by kernel_rfl) rfl hH rfl rfl (fun _ h => h.2) ?_
 try simp only [Act.put, List.setIfInBounds_toArray, List.set_cons_zero, List.set_cons_succ]
 refine wpAnyH_ready (rs := [2]) (by kernel_rfl) (by simp) ?_
 refine AllReadyH.cons (o := _) rfl (fun K hK => ?_) AllReadyH.nil
 go_simp
 refine (inverse_k _ EB.out).mono ?_
 rintro e wc ⟨h7, rfl, hv, hb⟩
 replace H := Lib.hid (H.out.call hb)
 have HV7 := Lib.hid hv
 refine hK.out _ _ (⟨H.out.row 2 rfl, H.out.row 1 rfl⟩) (fun hN => ?_)
 clear hK K hH hb hv
 have hH := hN
 clear hN
 try simp only [Act.put, List.setIfInBounds_toArray, List.set_cons_zero, List.set_cons_succ]
 refine wpAnyH_ready (rs := [3]) (by kernel_rfl) (by simp) ?_
 refine AllReadyH.cons (o := _) rfl (fun K hK => ?_) AllReadyH.nil
 go_simp
 refine (mul_k _ EA.out HV7.out).mono ?_
 rintro e wc ⟨h8, rfl, hv, hb⟩
 replace H := Lib.hid (H.out.call hb)
 have HV8 := Lib.hid hv
 refine hK.out _ _ (⟨H.out.row 2 rfl, H.out.row 1 rfl⟩) (fun hN => ?_)
 clear hK K hH hb hv
 have hH := hN
 clear hN
 try simp only [Act.put, List.setIfInBounds_toArray, List.set_cons_zero, List.set_cons_succ]
 refine wpAnyH_ready (rs := [4]) (by kernel_rfl) (by simp) ?_
 refine AllReadyH.cons (o := _) rfl (fun K hK => ?_) AllReadyH.nil
 refine own_st 0 rfl rowE H.out rfl rfl rfl rfl ?_
 intro ws HS
 simp only [List.set_cons_zero] at HS
 replace H := Lib.hid HS
 refine hK.out _ _ (⟨H.out.row 2 rfl, H.out.row 1 rfl⟩) (fun hN => ?_)
 clear hK K HS hH
 have hH := hN
 clear hN
 try simp only [List.setIfInBounds_toArray]
 try simp only [Act.put]
 refine wpAnyH_done (by kernel_rfl) ?_ _
 refine NoPanic.normal ?_
 clear hH
 go_wp2_with fail
 exact bodyPost_ret (own_result 0 rowE rfl _ H rfl rfl) rfl ⟨_, rfl, HV8.out, H.out.bel⟩
end Go.Proofs.YtoeokhfhcpcjlaaGreatDoor
/-
 The contracts of twist's squares, bent and cross. No statement is proved here: lemmas for the walks.
-/
namespace Go.Proofs.YtoeokhfhcpcjlaaGreatDoor
open Go.RowKit
set_option maxRecDepth 8000 in
set_option maxHeartbeats 3200000 in
theorem squares13_k {f g : Nat → Nat} {a b : K} (w : World) (hT : Tp w) (hf : EK f a) (hg : EK g b) :
  Calls Tryz.prog 50 #[EV f, EV g] w fun e w' => ∃ r s, e = .returned (.tuple #[EV r, EV s]) ∧ EK r (b * b + a * a) ∧ EK s (b * b - a * a) ∧ Below w.heap.size w w' := by
 have HT := Lib.hid hT
 clear hT
 have EA := Lib.hid hf
 have EB := Lib.hid hg
 clear hf hg
 have H := Lib.hid (Ow.start w)
 go_enter Tryz.func50, Tryz.ntmps50
 go_wp2_with (first
  | ((fail_if_success have := g2); (with_reducible apply own_box H); (case hgd | ho | hx => exact rfl); intro w2 g2 H' _ _; replace H := H'; clear H'; go_simp)
  | ((fail_if_success have := g3); (fail_if_success have := g3); (with_reducible apply own_box H); (case hgd | ho | hx => exact rfl); intro w3 g3 H' _ _; replace H := H'; clear H'; go_simp)
  | ((fail_if_success have := g4); (with_reducible apply own_alloc nilE H); (case hgd | ho => exact rfl); intro w4 g4 H' _ _; replace H := H'; clear H'; go_simp)
  | ((fail_if_success have := g5); (fail_if_success have := g5); (with_reducible apply own_alloc nilE H); (case hgd | ho => exact rfl); intro w5 g5 H' _ _; replace H := H'; clear H'; go_simp))
 go_cut [6, 7] from 8 to 11 (fun v6 v7 wx => ∃ g6 g7 h9 h11, v6 = .pointer (some ⟨g6, 0, none⟩) ∧ v7 = .pointer (some ⟨g7, 0, none⟩) ∧ EK h9 (a * a) ∧ EK h11 (b * b) ∧ Ow w wx [(g6, Blk 29 .u64 8 (NZ h9)), (g7, Blk 29 .u64 8 (NZ h11)), (g5, Blk 29 .u64 8 fun _ => 0), (g4, Blk 29 .u64 8 fun _ => 0), (g3, Blk 29 .u64 8 (NZ g)), (g2, Blk 29 .u64 8 (NZ f))])
 case first =>
  go_wp2_with fail
  refine wp_region_noPanic ?_
  refine wp_region_held_drew (S := fun W => W.heap[g2]? = some (Blk 29 .u64 8 (NZ f)) ∧ W.heap[g3]? = some (Blk 29 .u64 8 (NZ g))) (by kernel_rfl) (⟨H.out.drew.row 3 rfl, H.out.drew.row 2 rfl⟩) (fun hH => ?_)
  replace H := Lib.hid H.out.drew
  generalize World.drew _ = w8 at *
  refine held_row 0 8 rowE rfl rfl (by kernel_rfl) (by kernel_rfl) (by kernel_rfl) rfl hH rfl rfl (fun _ h => h.1) ?_
  try simp only [Act.put, List.setIfInBounds_toArray, List.set_cons_zero, List.set_cons_succ]
  refine held_row 2 10 rowE rfl rfl (by kernel_rfl) (by kernel_rfl) (by kernel_rfl) rfl hH rfl rfl (fun _ h => h.2) ?_
  try simp only [Act.put, List.setIfInBounds_toArray, List.set_cons_zero, List.set_cons_succ]
  refine wpAnyH_ready (rs := [1, 4, 5]) (by kernel_rfl) (by simp) ?_
  refine AllReadyH.cons (o := _) rfl (fun K hK => ?_) (AllReadyH.cons (o := _) rfl (fun K hK => ?_) (AllReadyH.cons (o := _) rfl (fun K hK => ?_) AllReadyH.nil))
  ·skip
   go_simp
   refine (square_k _ EA.out).mono ?_
   rintro e wc ⟨h9, rfl, hv, hb⟩
   replace H := Lib.hid (H.out.call hb)
   have HV9 := Lib.hid hv
   refine hK.out _ _ (⟨H.out.row 3 rfl, H.out.row 2 rfl⟩) (fun hN => ?_)
   clear hK K hH hb hv
   have hH := hN
   clear hN
   try simp only [Act.put, List.setIfInBounds_toArray, List.set_cons_zero, List.set_cons_succ]
   refine wpAnyH_ready (rs := [3, 4, 5]) (by kernel_rfl) (by simp) ?_
   refine AllReadyH.cons (o := _) rfl (fun K hK => ?_) (AllReadyH.cons (o := _) rfl (fun K hK => ?_) (AllReadyH.cons (o := _) rfl (fun K hK => ?_) AllReadyH.nil))
   ·skip
    go_simp
    refine (square_k _ EB.out).mono ?_
    rintro e wc ⟨h11, rfl, hv, hb⟩
    replace H := Lib.hid (H.out.call hb)
    have HV11 := Lib.hid hv
    refine hK.out _ _ (⟨H.out.row 3 rfl, H.out.row 2 rfl⟩) (fun hN => ?_)
    clear hK K hH hb hv
    have hH := hN
    clear hN
    try simp only [Act.put, List.setIfInBounds_toArray, List.set_cons_zero, List.set_cons_succ]
    refine wpAnyH_ready (rs := [4, 5]) (by kernel_rfl) (by simp) ?_
    refine AllReadyH.cons (o := _) rfl (fun K hK => ?_) (AllReadyH.cons (o := _) rfl (fun K hK => ?_) AllReadyH.nil)
    ·skip
     refine own_wp_allocB 6 rfl nilE H.out rfl ?_
     intro w6 g6 H3 hb
     replace H := Lib.hid H3
     refine hK.out _ _ (⟨H.out.row 4 rfl, H.out.row 3 rfl⟩) (fun hN => ?_)
     clear hK K hH H3 hb
     have hH := hN
     clear hN
     try simp only [Act.put, List.setIfInBounds_toArray, List.set_cons_zero, List.set_cons_succ]
     refine wpAnyH_ready (rs := [5]) (by kernel_rfl) (by simp) ?_
     refine AllReadyH.cons (o := _) rfl (fun K hK => ?_) AllReadyH.nil
     refine own_wp_allocB 7 rfl nilE H.out rfl ?_
     intro w7 g7 H3 hb
     replace H := Lib.hid H3
     refine hK.out _ _ (⟨H.out.row 5 rfl, H.out.row 4 rfl⟩) (fun hN => ?_)
     clear hK K hH H3 hb
     have hH := hN
     clear hN
     try simp only [Act.put, List.setIfInBounds_toArray, List.set_cons_zero, List.set_cons_succ]
     refine wpAnyH_ready (rs := [6]) (by kernel_rfl) (by simp) ?_
     refine AllReadyH.cons (o := _) rfl (fun K hK => ?_) AllReadyH.nil
     refine own_st 1 rfl rowE H.out rfl rfl rfl rfl ?_
     intro ws HS
     simp only [List.set_cons_zero, List.set_cons_succ] at HS
     replace H := Lib.hid HS
     refine hK.out _ _ (⟨H.out.row 5 rfl, H.out.row 4 rfl⟩) (fun hN => ?_)
     clear hK K HS hH
     have hH := hN
     clear hN
     try simp only [List.setIfInBounds_toArray]
     refine wpAnyH_ready (rs := [7]) (by kernel_rfl) (by simp) ?_
     refine AllReadyH.cons (o := _) rfl (fun K hK => ?_) AllReadyH.nil
     refine own_st 0 rfl rowE H.out rfl rfl rfl rfl ?_
     intro ws HS
     simp only [List.set_cons_zero] at HS
     replace H := Lib.hid HS
     refine hK.out _ _ (⟨H.out.row 5 rfl, H.out.row 4 rfl⟩) (fun hN => ?_)
     clear hK K HS hH
     have hH := hN
     clear hN
     try simp only [List.setIfInBounds_toArray]
     try simp only [Act.put]
     refine wpAnyH_done (by kernel_rfl) ?_ _
     refine NoPanic.normal ?_
     clear hH
     replace H := Lib.hid (H.out.front (x := (g6, Blk 29 .u64 8 (NZ h9))) 1 rfl)
     go_wp2_with fail
     go_meet
     exact ⟨g6, g7, h9, h11, rfl, rfl, HV9.out, HV11.out, H.out⟩
    ·skip
     refine own_wp_allocB 7 rfl nilE H.out rfl ?_
     intro w7 g7 H3 hb
     replace H := Lib.hid H3
     refine hK.out _ _ (⟨H.out.row 4 rfl, H.out.row 3 rfl⟩) (fun hN => ?_)
     clear hK K hH H3 hb
     have hH := hN
     clear hN
     try simp only [Act.put, List.setIfInBounds_toArray, List.set_cons_zero, List.set_cons_succ]
     refine wpAnyH_ready (rs := [4]) (by kernel_rfl) (by simp) ?_
     refine AllReadyH.cons (o := _) rfl (fun K hK => ?_) AllReadyH.nil
     refine own_wp_allocB 6 rfl nilE H.out rfl ?_
     intro w6 g6 H3 hb
     replace H := Lib.hid H3
     refine hK.out _ _ (⟨H.out.row 5 rfl, H.out.row 4 rfl⟩) (fun hN => ?_)
     clear hK K hH H3 hb
     have hH := hN
     clear hN
     try simp only [Act.put, List.setIfInBounds_toArray, List.set_cons_zero, List.set_cons_succ]
     refine wpAnyH_ready (rs := [6]) (by kernel_rfl) (by simp) ?_
     refine AllReadyH.cons (o := _) rfl (fun K hK => ?_) AllReadyH.nil
     refine own_st 0 rfl rowE H.out rfl rfl rfl rfl ?_
     intro ws HS
     simp only [List.set_cons_zero] at HS
     replace H := Lib.hid HS
     refine hK.out _ _ (⟨H.out.row 5 rfl, H.out.row 4 rfl⟩) (fun hN => ?_)
     clear hK K HS hH
     have hH := hN
     clear hN
     try simp only [List.setIfInBounds_toArray]
     refine wpAnyH_ready (rs := [7]) (by kernel_rfl) (by simp) ?_
     refine AllReadyH.cons (o := _) rfl (fun K hK => ?_) AllReadyH.nil
     refine own_st 1 rfl rowE H.out rfl rfl rfl rfl ?_
     intro ws HS
     simp only [List.set_cons_zero, List.set_cons_succ] at HS
     replace H := Lib.hid HS
     refine hK.out _ _ (⟨H.out.row 5 rfl, H.out.row 4 rfl⟩) (fun hN => ?_)
     clear hK K HS hH
     have hH := hN
     clear hN
     try simp only [List.setIfInBounds_toArray]
     try simp only [Act.put]
     refine wpAnyH_done (by kernel_rfl) ?_ _
     refine NoPanic.normal ?_
     clear hH
     replace H := Lib.hid (H.out.front (x := (g7, Blk 29 .u64 8 (NZ h11))) 1 rfl)
     replace H := Lib.hid (H.out.front (x := (g6, Blk 29 .u64 8 (NZ h9))) 1 rfl)
     go_wp2_with fail
     go_meet
     exact ⟨g6, g7, h9, h11, rfl, rfl, HV9.out, HV11.out, H.out⟩
   ·skip
    refine own_wp_allocB 6 rfl nilE H.out rfl ?_
    intro w6 g6 H3 hb
    replace H := Lib.hid H3
    refine hK.out _ _ (⟨H.out.row 4 rfl, H.out.row 3 rfl⟩) (fun hN => ?_)
    clear hK K hH H3 hb
    have hH := hN
    clear hN
    try simp only [Act.put, List.setIfInBounds_toArray, List.set_cons_zero, List.set_cons_succ]
    refine wpAnyH_ready (rs := [3, 5]) (by kernel_rfl) (by simp) ?_
    refine AllReadyH.cons (o := _) rfl (fun K hK => ?_) (AllReadyH.cons (o := _) rfl (fun K hK => ?_) AllReadyH.nil)
    ·skip
     go_simp
     refine (square_k _ EB.out).mono ?_
     rintro e wc ⟨h11, rfl, hv, hb⟩
     replace H := Lib.hid (H.out.call hb)
     have HV11 := Lib.hid hv
     refine hK.out _ _ (⟨H.out.row 4 rfl, H.out.row 3 rfl⟩) (fun hN => ?_)
     clear hK K hH hb hv
     have hH := hN
     clear hN
     try simp only [Act.put, List.setIfInBounds_toArray, List.set_cons_zero, List.set_cons_succ]
     refine wpAnyH_ready (rs := [5]) (by kernel_rfl) (by simp) ?_
     refine AllReadyH.cons (o := _) rfl (fun K hK => ?_) AllReadyH.nil
     refine own_wp_allocB 7 rfl nilE H.out rfl ?_
     intro w7 g7 H3 hb
     replace H := Lib.hid H3
     refine hK.out _ _ (⟨H.out.row 5 rfl, H.out.row 4 rfl⟩) (fun hN => ?_)
     clear hK K hH H3 hb
     have hH := hN
     clear hN
     try simp only [Act.put, List.setIfInBounds_toArray, List.set_cons_zero, List.set_cons_succ]
     refine wpAnyH_ready (rs := [6]) (by kernel_rfl) (by simp) ?_
     refine AllReadyH.cons (o := _) rfl (fun K hK => ?_) AllReadyH.nil
     refine own_st 1 rfl rowE H.out rfl rfl rfl rfl ?_
     intro ws HS
     simp only [List.set_cons_zero, List.set_cons_succ] at HS
     replace H := Lib.hid HS
     refine hK.out _ _ (⟨H.out.row 5 rfl, H.out.row 4 rfl⟩) (fun hN => ?_)
     clear hK K HS hH
     have hH := hN
     clear hN
     try simp only [List.setIfInBounds_toArray]
     refine wpAnyH_ready (rs := [7]) (by kernel_rfl) (by simp) ?_
     refine AllReadyH.cons (o := _) rfl (fun K hK => ?_) AllReadyH.nil
     refine own_st 0 rfl rowE H.out rfl rfl rfl rfl ?_
     intro ws HS
     simp only [List.set_cons_zero] at HS
     replace H := Lib.hid HS
     refine hK.out _ _ (⟨H.out.row 5 rfl, H.out.row 4 rfl⟩) (fun hN => ?_)
     clear hK K HS hH
     have hH := hN
     clear hN
     try simp only [List.setIfInBounds_toArray]
     try simp only [Act.put]
     refine wpAnyH_done (by kernel_rfl) ?_ _
     refine NoPanic.normal ?_
     clear hH
     replace H := Lib.hid (H.out.front (x := (g6, Blk 29 .u64 8 (NZ h9))) 1 rfl)
     go_wp2_with fail
     go_meet
     exact ⟨g6, g7, h9, h11, rfl, rfl, HV9.out, HV11.out, H.out⟩
    ·skip
     refine own_wp_allocB 7 rfl nilE H.out rfl ?_
     intro w7 g7 H3 hb
     replace H := Lib.hid H3
     refine hK.out _ _ (⟨H.out.row 5 rfl, H.out.row 4 rfl⟩) (fun hN => ?_)
     clear hK K hH H3 hb
     have hH := hN
     clear hN
     try simp only [Act.put, List.setIfInBounds_toArray, List.set_cons_zero, List.set_cons_succ]
     refine wpAnyH_ready (rs := [3]) (by kernel_rfl) (by simp) ?_
     refine AllReadyH.cons (o := _) rfl (fun K hK => ?_) AllReadyH.nil
     go_simp
     refine (square_k _ EB.out).mono ?_
     rintro e wc ⟨h11, rfl, hv, hb⟩
     replace H := Lib.hid (H.out.call hb)
     have HV11 := Lib.hid hv
     refine hK.out _ _ (⟨H.out.row 5 rfl, H.out.row 4 rfl⟩) (fun hN => ?_)
     clear hK K hH hb hv
     have hH := hN
     clear hN
     try simp only [Act.put, List.setIfInBounds_toArray, List.set_cons_zero, List.set_cons_succ]
     refine wpAnyH_ready (rs := [6]) (by kernel_rfl) (by simp) ?_
     refine AllReadyH.cons (o := _) rfl (fun K hK => ?_) AllReadyH.nil
     refine own_st 1 rfl rowE H.out rfl rfl rfl rfl ?_
     intro ws HS
     simp only [List.set_cons_zero, List.set_cons_succ] at HS
     replace H := Lib.hid HS
     refine hK.out _ _ (⟨H.out.row 5 rfl, H.out.row 4 rfl⟩) (fun hN => ?_)
     clear hK K HS hH
     have hH := hN
     clear hN
     try simp only [List.setIfInBounds_toArray]
     refine wpAnyH_ready (rs := [7]) (by kernel_rfl) (by simp) ?_
     refine AllReadyH.cons (o := _) rfl (fun K hK => ?_) AllReadyH.nil
     refine own_st 0 rfl rowE H.out rfl rfl rfl rfl ?_
     intro ws HS
     simp only [List.set_cons_zero] at HS
     replace H := Lib.hid HS
     refine hK.out _ _ (⟨H.out.row 5 rfl, H.out.row 4 rfl⟩) (fun hN => ?_)
     clear hK K HS hH
     have hH := hN
     clear hN
     try simp only [List.setIfInBounds_toArray]
     try simp only [Act.put]
     refine wpAnyH_done (by kernel_rfl) ?_ _
     refine NoPanic.normal ?_
     clear hH
     replace H := Lib.hid (H.out.front (x := (g6, Blk 29 .u64 8 (NZ h9))) 1 rfl)
     go_wp2_with fail
     go_meet
     exact ⟨g6, g7, h9, h11, rfl, rfl, HV9.out, HV11.out, H.out⟩
   ·skip
    refine own_wp_allocB 7 rfl nilE H.out rfl ?_
    intro w7 g7 H3 hb
    replace H := Lib.hid H3
    refine hK.out _ _ (⟨H.out.row 4 rfl, H.out.row 3 rfl⟩) (fun hN => ?_)
    clear hK K hH H3 hb
    have hH := hN
    clear hN
    try simp only [Act.put, List.setIfInBounds_toArray, List.set_cons_zero, List.set_cons_succ]
    refine wpAnyH_ready (rs := [3, 4]) (by kernel_rfl) (by simp) ?_
    refine AllReadyH.cons (o := _) rfl (fun K hK => ?_) (AllReadyH.cons (o := _) rfl (fun K hK => ?_) AllReadyH.nil)
    ·skip
     go_simp
     refine (square_k _ EB.out).mono ?_
     rintro e wc ⟨h11, rfl, hv, hb⟩
     replace H := Lib.hid (H.out.call hb)
     have HV11 := Lib.hid hv
     refine hK.out _ _ (⟨H.out.row 4 rfl, H.out.row 3 rfl⟩) (fun hN => ?_)
     clear hK K hH hb hv
     have hH := hN
     clear hN
     try simp only [Act.put, List.setIfInBounds_toArray, List.set_cons_zero, List.set_cons_succ]
     refine wpAnyH_ready (rs := [4]) (by kernel_rfl) (by simp) ?_
     refine AllReadyH.cons (o := _) rfl (fun K hK => ?_) AllReadyH.nil
     refine own_wp_allocB 6 rfl nilE H.out rfl ?_
     intro w6 g6 H3 hb
     replace H := Lib.hid H3
     refine hK.out _ _ (⟨H.out.row 5 rfl, H.out.row 4 rfl⟩) (fun hN => ?_)
     clear hK K hH H3 hb
     have hH := hN
     clear hN
     try simp only [Act.put, List.setIfInBounds_toArray, List.set_cons_zero, List.set_cons_succ]
     refine wpAnyH_ready (rs := [6]) (by kernel_rfl) (by simp) ?_
     refine AllReadyH.cons (o := _) rfl (fun K hK => ?_) AllReadyH.nil
     refine own_st 0 rfl rowE H.out rfl rfl rfl rfl ?_
     intro ws HS
     simp only [List.set_cons_zero] at HS
     replace H := Lib.hid HS
     refine hK.out _ _ (⟨H.out.row 5 rfl, H.out.row 4 rfl⟩) (fun hN => ?_)
     clear hK K HS hH
     have hH := hN
     clear hN
     try simp only [List.setIfInBounds_toArray]
     refine wpAnyH_ready (rs := [7]) (by kernel_rfl) (by simp) ?_
     refine AllReadyH.cons (o := _) rfl (fun K hK => ?_) AllReadyH.nil
     refine own_st 1 rfl rowE H.out rfl rfl rfl rfl ?_
     intro ws HS
     simp only [List.set_cons_zero, List.set_cons_succ] at HS
     replace H := Lib.hid HS
     refine hK.out _ _ (⟨H.out.row 5 rfl, H.out.row 4 rfl⟩) (fun hN => ?_)
     clear hK K HS hH
     have hH := hN
     clear hN
     try simp only [List.setIfInBounds_toArray]
     try simp only [Act.put]
     refine wpAnyH_done (by kernel_rfl) ?_ _
     refine NoPanic.normal ?_
     clear hH
     replace H := Lib.hid (H.out.front (x := (g7, Blk 29 .u64 8 (NZ h11))) 1 rfl)
     replace H := Lib.hid (H.out.front (x := (g6, Blk 29 .u64 8 (NZ h9))) 1 rfl)
     go_wp2_with fail
     go_meet
     exact ⟨g6, g7, h9, h11, rfl, rfl, HV9.out, HV11.out, H.out⟩
    ·skip
     refine own_wp_allocB 6 rfl nilE H.out rfl ?_
     intro w6 g6 H3 hb
     replace H := Lib.hid H3
     refine hK.out _ _ (⟨H.out.row 5 rfl, H.out.row 4 rfl⟩) (fun hN => ?_)
     clear hK K hH H3 hb
     have hH := hN
     clear hN
     try simp only [Act.put, List.setIfInBounds_toArray, List.set_cons_zero, List.set_cons_succ]
     refine wpAnyH_ready (rs := [3]) (by kernel_rfl) (by simp) ?_
     refine AllReadyH.cons (o := _) rfl (fun K hK => ?_) AllReadyH.nil
     go_simp
     refine (square_k _ EB.out).mono ?_
     rintro e wc ⟨h11, rfl, hv, hb⟩
     replace H := Lib.hid (H.out.call hb)
     have HV11 := Lib.hid hv
     refine hK.out _ _ (⟨H.out.row 5 rfl, H.out.row 4 rfl⟩) (fun hN => ?_)
     clear hK K hH hb hv
     have hH := hN
     clear hN
     try simp only [Act.put, List.setIfInBounds_toArray, List.set_cons_zero, List.set_cons_succ]
     refine wpAnyH_ready (rs := [6]) (by kernel_rfl) (by simp) ?_
     refine AllReadyH.cons (o := _) rfl (fun K hK => ?_) AllReadyH.nil
     refine own_st 0 rfl rowE H.out rfl rfl rfl rfl ?_
     intro ws HS
     simp only [List.set_cons_zero] at HS
     replace H := Lib.hid HS
     refine hK.out _ _ (⟨H.out.row 5 rfl, H.out.row 4 rfl⟩) (fun hN => ?_)
     clear hK K HS hH
     have hH := hN
     clear hN
     try simp only [List.setIfInBounds_toArray]
     refine wpAnyH_ready (rs := [7]) (by kernel_rfl) (by simp) ?_
     refine AllReadyH.cons (o := _) rfl (fun K hK => ?_) AllReadyH.nil
     refine own_st 1 rfl rowE H.out rfl rfl rfl rfl ?_
     intro ws HS
     simp only [List.set_cons_zero, List.set_cons_succ] at HS
     replace H := Lib.hid HS
     refine hK.out _ _ (⟨H.out.row 5 rfl, H.out.row 4 rfl⟩) (fun hN => ?_)
     clear hK K HS hH
     have hH := hN
     clear hN
     try simp only [List.setIfInBounds_toArray]
     try simp only [Act.put]
     refine wpAnyH_done (by kernel_rfl) ?_ _
     refine NoPanic.normal ?_
     clear hH
     replace H := Lib.hid (H.out.front (x := (g7, Blk 29 .u64 8 (NZ h11))) 1 rfl)
     replace H := Lib.hid (H.out.front (x := (g6, Blk 29 .u64 8 (NZ h9))) 1 rfl)
     go_wp2_with fail
     go_meet
     exact ⟨g6, g7, h9, h11, rfl, rfl, HV9.out, HV11.out, H.out⟩
  ·skip
   refine own_wp_allocB 6 rfl nilE H.out rfl ?_
   intro w6 g6 H3 hb
   replace H := Lib.hid H3
   refine hK.out _ _ (⟨H.out.row 4 rfl, H.out.row 3 rfl⟩) (fun hN => ?_)
   clear hK K hH H3 hb
   have hH := hN
   clear hN
   try simp only [Act.put, List.setIfInBounds_toArray, List.set_cons_zero, List.set_cons_succ]
   refine wpAnyH_ready (rs := [1, 5]) (by kernel_rfl) (by simp) ?_
   refine AllReadyH.cons (o := _) rfl (fun K hK => ?_) (AllReadyH.cons (o := _) rfl (fun K hK => ?_) AllReadyH.nil)
   ·skip
    go_simp
    refine (square_k _ EA.out).mono ?_
    rintro e wc ⟨h9, rfl, hv, hb⟩
    replace H := Lib.hid (H.out.call hb)
    have HV9 := Lib.hid hv
    refine hK.out _ _ (⟨H.out.row 4 rfl, H.out.row 3 rfl⟩) (fun hN => ?_)
    clear hK K hH hb hv
    have hH := hN
    clear hN
    try simp only [Act.put, List.setIfInBounds_toArray, List.set_cons_zero, List.set_cons_succ]
    refine wpAnyH_ready (rs := [3, 5]) (by kernel_rfl) (by simp) ?_
    refine AllReadyH.cons (o := _) rfl (fun K hK => ?_) (AllReadyH.cons (o := _) rfl (fun K hK => ?_) AllReadyH.nil)
    ·skip
     go_simp
     refine (square_k _ EB.out).mono ?_
     rintro e wc ⟨h11, rfl, hv, hb⟩
     replace H := Lib.hid (H.out.call hb)
     have HV11 := Lib.hid hv
     refine hK.out _ _ (⟨H.out.row 4 rfl, H.out.row 3 rfl⟩) (fun hN => ?_)
     clear hK K hH hb hv
     have hH := hN
     clear hN
     try simp only [Act.put, List.setIfInBounds_toArray, List.set_cons_zero, List.set_cons_succ]
     refine wpAnyH_ready (rs := [5]) (by kernel_rfl) (by simp) ?_
     refine AllReadyH.cons (o := _) rfl (fun K hK => ?_) AllReadyH.nil
     refine own_wp_allocB 7 rfl nilE H.out rfl ?_
     intro w7 g7 H3 hb
     replace H := Lib.hid H3
     refine hK.out _ _ (⟨H.out.row 5 rfl, H.out.row 4 rfl⟩) (fun hN => ?_)
     clear hK K hH H3 hb
     have hH := hN
     clear hN
     try simp only [Act.put, List.setIfInBounds_toArray, List.set_cons_zero, List.set_cons_succ]
     refine wpAnyH_ready (rs := [6]) (by kernel_rfl) (by simp) ?_
     refine AllReadyH.cons (o := _) rfl (fun K hK => ?_) AllReadyH.nil
     refine own_st 1 rfl rowE H.out rfl rfl rfl rfl ?_
     intro ws HS
     simp only [List.set_cons_zero, List.set_cons_succ] at HS
     replace H := Lib.hid HS
     refine hK.out _ _ (⟨H.out.row 5 rfl, H.out.row 4 rfl⟩) (fun hN => ?_)
     clear hK K HS hH
     have hH := hN
     clear hN
     try simp only [List.setIfInBounds_toArray]
     refine wpAnyH_ready (rs := [7]) (by kernel_rfl) (by simp) ?_
     refine AllReadyH.cons (o := _) rfl (fun K hK => ?_) AllReadyH.nil
     refine own_st 0 rfl rowE H.out rfl rfl rfl rfl ?_
     intro ws HS
     simp only [List.set_cons_zero] at HS
     replace H := Lib.hid HS
     refine hK.out _ _ (⟨H.out.row 5 rfl, H.out.row 4 rfl⟩) (fun hN => ?_)
     clear hK K HS hH
     have hH := hN
     clear hN
     try simp only [List.setIfInBounds_toArray]
     try simp only [Act.put]
     refine wpAnyH_done (by kernel_rfl) ?_ _
     refine NoPanic.normal ?_
     clear hH
     replace H := Lib.hid (H.out.front (x := (g6, Blk 29 .u64 8 (NZ h9))) 1 rfl)
     go_wp2_with fail
     go_meet
     exact ⟨g6, g7, h9, h11, rfl, rfl, HV9.out, HV11.out, H.out⟩
    ·skip
     refine own_wp_allocB 7 rfl nilE H.out rfl ?_
     intro w7 g7 H3 hb
     replace H := Lib.hid H3
     refine hK.out _ _ (⟨H.out.row 5 rfl, H.out.row 4 rfl⟩) (fun hN => ?_)
     clear hK K hH H3 hb
     have hH := hN
     clear hN
     try simp only [Act.put, List.setIfInBounds_toArray, List.set_cons_zero, List.set_cons_succ]
     refine wpAnyH_ready (rs := [3]) (by kernel_rfl) (by simp) ?_
     refine AllReadyH.cons (o := _) rfl (fun K hK => ?_) AllReadyH.nil
     go_simp
     refine (square_k _ EB.out).mono ?_
     rintro e wc ⟨h11, rfl, hv, hb⟩
     replace H := Lib.hid (H.out.call hb)
     have HV11 := Lib.hid hv
     refine hK.out _ _ (⟨H.out.row 5 rfl, H.out.row 4 rfl⟩) (fun hN => ?_)
     clear hK K hH hb hv
     have hH := hN
     clear hN
     try simp only [Act.put, List.setIfInBounds_toArray, List.set_cons_zero, List.set_cons_succ]
     refine wpAnyH_ready (rs := [6]) (by kernel_rfl) (by simp) ?_
     refine AllReadyH.cons (o := _) rfl (fun K hK => ?_) AllReadyH.nil
     refine own_st 1 rfl rowE H.out rfl rfl rfl rfl ?_
     intro ws HS
     simp only [List.set_cons_zero, List.set_cons_succ] at HS
     replace H := Lib.hid HS
     refine hK.out _ _ (⟨H.out.row 5 rfl, H.out.row 4 rfl⟩) (fun hN => ?_)
     clear hK K HS hH
     have hH := hN
     clear hN
     try simp only [List.setIfInBounds_toArray]
     refine wpAnyH_ready (rs := [7]) (by kernel_rfl) (by simp) ?_
     refine AllReadyH.cons (o := _) rfl (fun K hK => ?_) AllReadyH.nil
     refine own_st 0 rfl rowE H.out rfl rfl rfl rfl ?_
     intro ws HS
     simp only [List.set_cons_zero] at HS
     replace H := Lib.hid HS
     refine hK.out _ _ (⟨H.out.row 5 rfl, H.out.row 4 rfl⟩) (fun hN => ?_)
     clear hK K HS hH
     have hH := hN
     clear hN
     try simp only [List.setIfInBounds_toArray]
     try simp only [Act.put]
     refine wpAnyH_done (by kernel_rfl) ?_ _
     refine NoPanic.normal ?_
     clear hH
     replace H := Lib.hid (H.out.front (x := (g6, Blk 29 .u64 8 (NZ h9))) 1 rfl)
     go_wp2_with fail
     go_meet
     exact ⟨g6, g7, h9, h11, rfl, rfl, HV9.out, HV11.out, H.out⟩
   ·skip
    refine own_wp_allocB 7 rfl nilE H.out rfl ?_
    intro w7 g7 H3 hb
    replace H := Lib.hid H3
    refine hK.out _ _ (⟨H.out.row 5 rfl, H.out.row 4 rfl⟩) (fun hN => ?_)
    clear hK K hH H3 hb
    have hH := hN
    clear hN
    try simp only [Act.put, List.setIfInBounds_toArray, List.set_cons_zero, List.set_cons_succ]
    refine wpAnyH_ready (rs := [1]) (by kernel_rfl) (by simp) ?_
    refine AllReadyH.cons (o := _) rfl (fun K hK => ?_) AllReadyH.nil
    go_simp
    refine (square_k _ EA.out).mono ?_
    rintro e wc ⟨h9, rfl, hv, hb⟩
    replace H := Lib.hid (H.out.call hb)
    have HV9 := Lib.hid hv
    refine hK.out _ _ (⟨H.out.row 5 rfl, H.out.row 4 rfl⟩) (fun hN => ?_)
    clear hK K hH hb hv
    have hH := hN
    clear hN
    try simp only [Act.put, List.setIfInBounds_toArray, List.set_cons_zero, List.set_cons_succ]
    refine wpAnyH_ready (rs := [3]) (by kernel_rfl) (by simp) ?_
    refine AllReadyH.cons (o := _) rfl (fun K hK => ?_) AllReadyH.nil
    go_simp
    refine (square_k _ EB.out).mono ?_
    rintro e wc ⟨h11, rfl, hv, hb⟩
    replace H := Lib.hid (H.out.call hb)
    have HV11 := Lib.hid hv
    refine hK.out _ _ (⟨H.out.row 5 rfl, H.out.row 4 rfl⟩) (fun hN => ?_)
    clear hK K hH hb hv
    have hH := hN
    clear hN
    try simp only [Act.put, List.setIfInBounds_toArray, List.set_cons_zero, List.set_cons_succ]
    refine wpAnyH_ready (rs := [6]) (by kernel_rfl) (by simp) ?_
    refine AllReadyH.cons (o := _) rfl (fun K hK => ?_) AllReadyH.nil
    refine own_st 1 rfl rowE H.out rfl rfl rfl rfl ?_
    intro ws HS
    simp only [List.set_cons_zero, List.set_cons_succ] at HS
    replace H := Lib.hid HS
    refine hK.out _ _ (⟨H.out.row 5 rfl, H.out.row 4 rfl⟩) (fun hN => ?_)
    clear hK K HS hH
    have hH := hN
    clear hN
    try simp only [List.setIfInBounds_toArray]
    refine wpAnyH_ready (rs := [7]) (by kernel_rfl) (by simp) ?_
    refine AllReadyH.cons (o := _) rfl (fun K hK => ?_) AllReadyH.nil
    refine own_st 0 rfl rowE H.out rfl rfl rfl rfl ?_
    intro ws HS
    simp only [List.set_cons_zero] at HS
    replace H := Lib.hid HS
    refine hK.out _ _ (⟨H.out.row 5 rfl, H.out.row 4 rfl⟩) (fun hN => ?_)
    clear hK K HS hH
    have hH := hN
    clear hN
    try simp only [List.setIfInBounds_toArray]
    try simp only [Act.put]
    refine wpAnyH_done (by kernel_rfl) ?_ _
    refine NoPanic.normal ?_
    clear hH
    replace H := Lib.hid (H.out.front (x := (g6, Blk 29 .u64 8 (NZ h9))) 1 rfl)
    go_wp2_with fail
    go_meet
    exact ⟨g6, g7, h9, h11, rfl, rfl, HV9.out, HV11.out, H.out⟩
  ·skip
   refine own_wp_allocB 7 rfl nilE H.out rfl ?_
   intro w7 g7 H3 hb
   replace H := Lib.hid H3
   refine hK.out _ _ (⟨H.out.row 4 rfl, H.out.row 3 rfl⟩) (fun hN => ?_)
   clear hK K hH H3 hb
   have hH := hN
   clear hN
   try simp only [Act.put, List.setIfInBounds_toArray, List.set_cons_zero, List.set_cons_succ]
   refine wpAnyH_ready (rs := [1, 4]) (by kernel_rfl) (by simp) ?_
   refine AllReadyH.cons (o := _) rfl (fun K hK => ?_) (AllReadyH.cons (o := _) rfl (fun K hK => ?_) AllReadyH.nil)
   ·skip
    go_simp
    refine (square_k _ EA.out).mono ?_
    rintro e wc ⟨h9, rfl, hv, hb⟩
    replace H := Lib.hid (H.out.call hb)
    have HV9 := Lib.hid hv
    refine hK.out _ _ (⟨H.out.row 4 rfl, H.out.row 3 rfl⟩) (fun hN => ?_)
    clear hK K hH hb hv
    have hH := hN
    clear hN
    try simp only [Act.put, List.setIfInBounds_toArray, List.set_cons_zero, List.set_cons_succ]
    refine wpAnyH_ready (rs := [3, 4]) (by kernel_rfl) (by simp) ?_
    refine AllReadyH.cons (o := _) rfl (fun K hK => ?_) (AllReadyH.cons (o := _) rfl (fun K hK => ?_) AllReadyH.nil)
    ·skip
     go_simp
     refine (square_k _ EB.out).mono ?_
     rintro e wc ⟨h11, rfl, hv, hb⟩
     replace H := Lib.hid (H.out.call hb)
     have HV11 := Lib.hid hv
     refine hK.out _ _ (⟨H.out.row 4 rfl, H.out.row 3 rfl⟩) (fun hN => ?_)
     clear hK K hH hb hv
     have hH := hN
     clear hN
     try simp only [Act.put, List.setIfInBounds_toArray, List.set_cons_zero, List.set_cons_succ]
     refine wpAnyH_ready (rs := [4]) (by kernel_rfl) (by simp) ?_
     refine AllReadyH.cons (o := _) rfl (fun K hK => ?_) AllReadyH.nil
     refine own_wp_allocB 6 rfl nilE H.out rfl ?_
     intro w6 g6 H3 hb
     replace H := Lib.hid H3
     refine hK.out _ _ (⟨H.out.row 5 rfl, H.out.row 4 rfl⟩) (fun hN => ?_)
     clear hK K hH H3 hb
     have hH := hN
     clear hN
     try simp only [Act.put, List.setIfInBounds_toArray, List.set_cons_zero, List.set_cons_succ]
     refine wpAnyH_ready (rs := [6]) (by kernel_rfl) (by simp) ?_
     refine AllReadyH.cons (o := _) rfl (fun K hK => ?_) AllReadyH.nil
     refine own_st 0 rfl rowE H.out rfl rfl rfl rfl ?_
     intro ws HS
     simp only [List.set_cons_zero] at HS
     replace H := Lib.hid HS
     refine hK.out _ _ (⟨H.out.row 5 rfl, H.out.row 4 rfl⟩) (fun hN => ?_)
     clear hK K HS hH
     have hH := hN
     clear hN
     try simp only [List.setIfInBounds_toArray]
     refine wpAnyH_ready (rs := [7]) (by kernel_rfl) (by simp) ?_
     refine AllReadyH.cons (o := _) rfl (fun K hK => ?_) AllReadyH.nil
     refine own_st 1 rfl rowE H.out rfl rfl rfl rfl ?_
     intro ws HS
     simp only [List.set_cons_zero, List.set_cons_succ] at HS
     replace H := Lib.hid HS
     refine hK.out _ _ (⟨H.out.row 5 rfl, H.out.row 4 rfl⟩) (fun hN => ?_)
     clear hK K HS hH
     have hH := hN
     clear hN
     try simp only [List.setIfInBounds_toArray]
     try simp only [Act.put]
     refine wpAnyH_done (by kernel_rfl) ?_ _
     refine NoPanic.normal ?_
     clear hH
     replace H := Lib.hid (H.out.front (x := (g7, Blk 29 .u64 8 (NZ h11))) 1 rfl)
     replace H := Lib.hid (H.out.front (x := (g6, Blk 29 .u64 8 (NZ h9))) 1 rfl)
     go_wp2_with fail
     go_meet
     exact ⟨g6, g7, h9, h11, rfl, rfl, HV9.out, HV11.out, H.out⟩
    ·skip
     refine own_wp_allocB 6 rfl nilE H.out rfl ?_
     intro w6 g6 H3 hb
     replace H := Lib.hid H3
     refine hK.out _ _ (⟨H.out.row 5 rfl, H.out.row 4 rfl⟩) (fun hN => ?_)
     clear hK K hH H3 hb
     have hH := hN
     clear hN
     try simp only [Act.put, List.setIfInBounds_toArray, List.set_cons_zero, List.set_cons_succ]
     refine wpAnyH_ready (rs := [3]) (by kernel_rfl) (by simp) ?_
     refine AllReadyH.cons (o := _) rfl (fun K hK => ?_) AllReadyH.nil
     go_simp
     refine (square_k _ EB.out).mono ?_
     rintro e wc ⟨h11, rfl, hv, hb⟩
     replace H := Lib.hid (H.out.call hb)
     have HV11 := Lib.hid hv
     refine hK.out _ _ (⟨H.out.row 5 rfl, H.out.row 4 rfl⟩) (fun hN => ?_)
     clear hK K hH hb hv
     have hH := hN
     clear hN
     try simp only [Act.put, List.setIfInBounds_toArray, List.set_cons_zero, List.set_cons_succ]
     refine wpAnyH_ready (rs := [6]) (by kernel_rfl) (by simp) ?_
     refine AllReadyH.cons (o := _) rfl (fun K hK => ?_) AllReadyH.nil
     refine own_st 0 rfl rowE H.out rfl rfl rfl rfl ?_
     intro ws HS
     simp only [List.set_cons_zero] at HS
     replace H := Lib.hid HS
     refine hK.out _ _ (⟨H.out.row 5 rfl, H.out.row 4 rfl⟩) (fun hN => ?_)
     clear hK K HS hH
     have hH := hN
     clear hN
     try simp only [List.setIfInBounds_toArray]
     refine wpAnyH_ready (rs := [7]) (by kernel_rfl) (by simp) ?_
     refine AllReadyH.cons (o := _) rfl (fun K hK => ?_) AllReadyH.nil
     refine own_st 1 rfl rowE H.out rfl rfl rfl rfl ?_
     intro ws HS
     simp only [List.set_cons_zero, List.set_cons_succ] at HS
     replace H := Lib.hid HS
     refine hK.out _ _ (⟨H.out.row 5 rfl, H.out.row 4 rfl⟩) (fun hN => ?_)
     clear hK K HS hH
     have hH := hN
     clear hN
     try simp only [List.setIfInBounds_toArray]
     try simp only [Act.put]
     refine wpAnyH_done (by kernel_rfl) ?_ _
     refine NoPanic.normal ?_
     clear hH
     replace H := Lib.hid (H.out.front (x := (g7, Blk 29 .u64 8 (NZ h11))) 1 rfl)
     replace H := Lib.hid (H.out.front (x := (g6, Blk 29 .u64 8 (NZ h9))) 1 rfl)
     go_wp2_with fail
     go_meet
     exact ⟨g6, g7, h9, h11, rfl, rfl, HV9.out, HV11.out, H.out⟩
   ·skip
    refine own_wp_allocB 6 rfl nilE H.out rfl ?_
    intro w6 g6 H3 hb
    replace H := Lib.hid H3
    refine hK.out _ _ (⟨H.out.row 5 rfl, H.out.row 4 rfl⟩) (fun hN => ?_)
    clear hK K hH H3 hb
    have hH := hN
    clear hN
    try simp only [Act.put, List.setIfInBounds_toArray, List.set_cons_zero, List.set_cons_succ]
    refine wpAnyH_ready (rs := [1]) (by kernel_rfl) (by simp) ?_
    refine AllReadyH.cons (o := _) rfl (fun K hK => ?_) AllReadyH.nil
    go_simp
    refine (square_k _ EA.out).mono ?_
    rintro e wc ⟨h9, rfl, hv, hb⟩
    replace H := Lib.hid (H.out.call hb)
    have HV9 := Lib.hid hv
    refine hK.out _ _ (⟨H.out.row 5 rfl, H.out.row 4 rfl⟩) (fun hN => ?_)
    clear hK K hH hb hv
    have hH := hN
    clear hN
    try simp only [Act.put, List.setIfInBounds_toArray, List.set_cons_zero, List.set_cons_succ]
    refine wpAnyH_ready (rs := [3]) (by kernel_rfl) (by simp) ?_
    refine AllReadyH.cons (o := _) rfl (fun K hK => ?_) AllReadyH.nil
    go_simp
    refine (square_k _ EB.out).mono ?_
    rintro e wc ⟨h11, rfl, hv, hb⟩
    replace H := Lib.hid (H.out.call hb)
    have HV11 := Lib.hid hv
    refine hK.out _ _ (⟨H.out.row 5 rfl, H.out.row 4 rfl⟩) (fun hN => ?_)
    clear hK K hH hb hv
    have hH := hN
    clear hN
    try simp only [Act.put, List.setIfInBounds_toArray, List.set_cons_zero, List.set_cons_succ]
    refine wpAnyH_ready (rs := [6]) (by kernel_rfl) (by simp) ?_
    refine AllReadyH.cons (o := _) rfl (fun K hK => ?_) AllReadyH.nil
    refine own_st 0 rfl rowE H.out rfl rfl rfl rfl ?_
    intro ws HS
    simp only [List.set_cons_zero] at HS
    replace H := Lib.hid HS
    refine hK.out _ _ (⟨H.out.row 5 rfl, H.out.row 4 rfl⟩) (fun hN => ?_)
    clear hK K HS hH
    have hH := hN
    clear hN
    try simp only [List.setIfInBounds_toArray]
    refine wpAnyH_ready (rs := [7]) (by kernel_rfl) (by simp) ?_
    refine AllReadyH.cons (o := _) rfl (fun K hK => ?_) AllReadyH.nil
    refine own_st 1 rfl rowE H.out rfl rfl rfl rfl ?_
    intro ws HS
    simp only [List.set_cons_zero, List.set_cons_succ] at HS
    replace H := Lib.hid HS
    refine hK.out _ _ (⟨H.out.row 5 rfl, H.out.row 4 rfl⟩) (fun hN => ?_)
    clear hK K HS hH
    have hH := hN
    clear hN
    try simp only [List.setIfInBounds_toArray]
    try simp only [Act.put]
    refine wpAnyH_done (by kernel_rfl) ?_ _
    refine NoPanic.normal ?_
    clear hH
    replace H := Lib.hid (H.out.front (x := (g7, Blk 29 .u64 8 (NZ h11))) 1 rfl)
    replace H := Lib.hid (H.out.front (x := (g6, Blk 29 .u64 8 (NZ h9))) 1 rfl)
    go_wp2_with fail
    go_meet
    exact ⟨g6, g7, h9, h11, rfl, rfl, HV9.out, HV11.out, H.out⟩
 clear H
 obtain ⟨g6, g7, h9, h11, rfl, rfl, hv9, hv11, HRR⟩ := hcut
 have HV9 := Lib.hid hv9
 have HV11 := Lib.hid hv11
 have H := Lib.hid HRR
 clear HRR hv9 hv11
 go_upto_region 2 with fail
 refine wp_region_noPanic ?_
 refine wp_region_held_drew (S := fun W => W.heap[g7]? = some (Blk 29 .u64 8 (NZ h11)) ∧ W.heap[g6]? = some (Blk 29 .u64 8 (NZ h9))) (by kernel_rfl) (⟨H.out.drew.row 1 rfl, H.out.drew.row 0 rfl⟩) (fun hH => ?_)
 replace H := Lib.hid H.out.drew
 generalize World.drew _ = w8 at *
 refine held_row 0 12 rowE rfl rfl (by kernel_rfl) (by kernel_rfl) (by kernel_rfl) rfl hH rfl rfl (fun _ h => h.1) ?_
 try simp only [Act.put, List.setIfInBounds_toArray, List.set_cons_zero, List.set_cons_succ]
 refine held_row 1 13 rowE rfl rfl (by kernel_rfl) (by kernel_rfl) (by kernel_rfl) rfl hH rfl rfl (fun _ h => h.2) ?_
 try simp only [Act.put, List.setIfInBounds_toArray, List.set_cons_zero, List.set_cons_succ]
 refine held_row 3 15 rowE rfl rfl (by kernel_rfl) (by kernel_rfl) (by kernel_rfl) rfl hH rfl rfl (fun _ h => h.1) ?_
 try simp only [Act.put, List.setIfInBounds_toArray, List.set_cons_zero, List.set_cons_succ]
 refine held_row 4 16 rowE rfl rfl (by kernel_rfl) (by kernel_rfl) (by kernel_rfl) rfl hH rfl rfl (fun _ h => h.2) ?_
 try simp only [Act.put, List.setIfInBounds_toArray, List.set_cons_zero, List.set_cons_succ]
 refine wpAnyH_ready (rs := [2]) (by kernel_rfl) (by simp) ?_
 refine AllReadyH.cons (o := _) rfl (fun K hK => ?_) AllReadyH.nil
 go_simp
 refine (add_k _ HV11.out HV9.out).mono ?_
 rintro e wc ⟨h14, rfl, hv, hb⟩
 replace H := Lib.hid (H.out.call hb)
 have HV14 := Lib.hid hv
 refine hK.out _ _ (⟨H.out.row 1 rfl, H.out.row 0 rfl⟩) (fun hN => ?_)
 clear hK K hH hb hv
 have hH := hN
 clear hN
 try simp only [Act.put, List.setIfInBounds_toArray, List.set_cons_zero, List.set_cons_succ]
 refine wpAnyH_ready (rs := [5]) (by kernel_rfl) (by simp) ?_
 refine AllReadyH.cons (o := _) rfl (fun K hK => ?_) AllReadyH.nil
 go_simp
 refine (sub_k _ (HT.out.below H.out.bel) HV11.out HV9.out).mono ?_
 rintro e wc ⟨h17, rfl, hv, hb⟩
 replace H := Lib.hid (H.out.call hb)
 have HV17 := Lib.hid hv
 refine hK.out _ _ (⟨H.out.row 1 rfl, H.out.row 0 rfl⟩) (fun hN => ?_)
 clear hK K hH hb hv
 have hH := hN
 clear hN
 try simp only [Act.put, List.setIfInBounds_toArray, List.set_cons_zero, List.set_cons_succ]
 refine wpAnyH_ready (rs := [6]) (by kernel_rfl) (by simp) ?_
 refine AllReadyH.cons (o := _) rfl (fun K hK => ?_) AllReadyH.nil
 refine own_st 3 rfl rowE H.out rfl rfl rfl rfl ?_
 intro ws HS
 simp only [List.set_cons_zero, List.set_cons_succ] at HS
 replace H := Lib.hid HS
 refine hK.out _ _ (⟨H.out.row 1 rfl, H.out.row 0 rfl⟩) (fun hN => ?_)
 clear hK K HS hH
 have hH := hN
 clear hN
 try simp only [List.setIfInBounds_toArray]
 refine wpAnyH_ready (rs := [7]) (by kernel_rfl) (by simp) ?_
 refine AllReadyH.cons (o := _) rfl (fun K hK => ?_) AllReadyH.nil
 refine own_st 2 rfl rowE H.out rfl rfl rfl rfl ?_
 intro ws HS
 simp only [List.set_cons_zero, List.set_cons_succ] at HS
 replace H := Lib.hid HS
 refine hK.out _ _ (⟨H.out.row 1 rfl, H.out.row 0 rfl⟩) (fun hN => ?_)
 clear hK K HS hH
 have hH := hN
 clear hN
 try simp only [List.setIfInBounds_toArray]
 try simp only [Act.put]
 refine wpAnyH_done (by kernel_rfl) ?_ _
 refine NoPanic.normal ?_
 clear hH
 go_wp2_with fail
 exact bodyPost_ret (own_result_two 3 2 rowE rowE rfl _ H rfl rfl rfl rfl) rfl ⟨_, _, rfl, HV14.out, HV17.out, H.out.bel⟩
set_option maxRecDepth 8000 in
set_option maxHeartbeats 3200000 in
theorem bent13_k {f g h i : Nat → Nat} {x u y v : K} (w : World) (hT : Tp w) (hf : EK f x) (hg : EK g u) (hh : EK h y) (hi : EK i v) :
  Calls Tryz.prog 59 #[EV f, EV g, EV h, EV i] w fun e w' => ∃ r, e = .returned (EV r) ∧ EK r (x * u * y * v * ofZ 39082) ∧ Below w.heap.size w w' := by
 have HT := Lib.hid hT
 clear hT
 have EA := Lib.hid hf
 have EB := Lib.hid hg
 have EC := Lib.hid hh
 have ED := Lib.hid hi
 clear hf hg hh hi
 have H := Lib.hid (Ow.start w)
 go_enter Tryz.func59, Tryz.ntmps59
 go_wp2_with (first
  | ((fail_if_success have := g4); (fail_if_success have := g4); (with_reducible apply own_box H); (case hgd | ho | hx => exact rfl); intro w4 g4 H' _ _; replace H := H'; clear H'; go_simp)
  | ((fail_if_success have := g5); (fail_if_success have := g5); (with_reducible apply own_box H); (case hgd | ho | hx => exact rfl); intro w5 g5 H' _ _; replace H := H'; clear H'; go_simp)
  | ((fail_if_success have := g6); (fail_if_success have := g6); (with_reducible apply own_box H); (case hgd | ho | hx => exact rfl); intro w6 g6 H' _ _; replace H := H'; clear H'; go_simp)
  | ((fail_if_success have := g7); (fail_if_success have := g7); (with_reducible apply own_box H); (case hgd | ho | hx => exact rfl); intro w7 g7 H' _ _; replace H := H'; clear H'; go_simp)
  | ((fail_if_success have := g8); (with_reducible apply own_alloc nilE H); (case hgd | ho => exact rfl); intro w8 g8 H' _ _; replace H := H'; clear H'; go_simp)
  | ((with_reducible apply own_load rowE H); (case hgd | ho | hx => exact rfl); (case hi => first|exact at0|exact at1|exact at2|exact at3|exact at4|exact at5|exact at6|exact at7|exact at8|exact at9); intro _ _; go_simp)
  | ((fail_if_success have := gq); (with_reducible apply own_build3E H); (case hgd | ho | hx | hy | hz => exact rfl); intro wq gq H' _ _; replace H := H'; clear H'; go_simp)
  | ((fail_if_success have := V1); (with_reducible refine (product_3 _ EA.out (H.out.row 0 rfl) EB.out EC.out ED.out).mono ?_); rintro e wc ⟨h1, rfl, hv, hb⟩; replace H := Lib.hid (H.out.call hb); clear hb; have V1 := Lib.hid hv; clear hv)
  | ((fail_if_success have := V2); (with_reducible refine (times_k 39082 _ (HT.out.below H.out.bel) V1.out (by omega) (by omega)).mono ?_); rintro e wc ⟨h2, rfl, hv, hb⟩; replace H := Lib.hid (H.out.call hb); clear hb; have V2 := Lib.hid hv; clear hv)
  | ((with_reducible apply own_store rowE H); (case hgd | ho | hx | hy => exact rfl); (case hi => first|exact at0|exact at1|exact at2|exact at3|exact at4|exact at5|exact at6|exact at7|exact at8|exact at9); intro ws H' _ _; replace H := H'; clear H'; simp only [List.set_cons_zero, List.set_cons_succ] at H; go_simp))
 exact bodyPost_ret (own_result 1 rowE rfl _ H rfl rfl) rfl ⟨_, rfl, V2.out, H.out.bel⟩
set_option maxRecDepth 8000 in
set_option maxHeartbeats 3200000 in
theorem cross13_k {f g h i : Nat → Nat} {a b c d : K} (w : World) (hT : Tp w) (hf : EK f a) (hg : EK g b) (hh : EK h c) (hi : EK i d) :
  Calls Tryz.prog 51 #[EV f, EV g, EV h, EV i] w fun e w' => ∃ r s, e = .returned (.tuple #[EV r, EV s]) ∧ EK r (a * b * ofZ 2 * inv c) ∧ EK s (d * inv (ofZ 2 - d)) ∧ Below w.heap.size w w' := by
 have HT := Lib.hid hT
 clear hT
 have EA := Lib.hid hf
 have EB := Lib.hid hg
 have EC := Lib.hid hh
 have ED := Lib.hid hi
 clear hf hg hh hi
 have H := Lib.hid (Ow.start w)
 go_enter Tryz.func51, Tryz.ntmps51
 go_wp2_with (first
  | ((fail_if_success have := g4); (fail_if_success have := g4); (with_reducible apply own_box H); (case hgd | ho | hx => exact rfl); intro w4 g4 H' _ _; replace H := H'; clear H'; go_simp)
  | ((fail_if_success have := g5); (fail_if_success have := g5); (with_reducible apply own_box H); (case hgd | ho | hx => exact rfl); intro w5 g5 H' _ _; replace H := H'; clear H'; go_simp)
  | ((fail_if_success have := g6); (fail_if_success have := g6); (with_reducible apply own_box H); (case hgd | ho | hx => exact rfl); intro w6 g6 H' _ _; replace H := H'; clear H'; go_simp)
  | ((fail_if_success have := g7); (fail_if_success have := g7); (with_reducible apply own_box H); (case hgd | ho | hx => exact rfl); intro w7 g7 H' _ _; replace H := H'; clear H'; go_simp)
  | ((fail_if_success have := g8); (fail_if_success have := g8); (with_reducible apply own_alloc nilE H); (case hgd | ho => exact rfl); intro w8 g8 H' _ _; replace H := H'; clear H'; go_simp)
  | ((fail_if_success have := g9); (fail_if_success have := g9); (with_reducible apply own_alloc nilE H); (case hgd | ho => exact rfl); intro w9 g9 H' _ _; replace H := H'; clear H'; go_simp))
 refine wp_region_noPanic ?_
 refine wp_region_held_drew (S := fun W => W.heap[g4]? = some (Blk 29 .u64 8 (NZ f)) ∧ W.heap[g5]? = some (Blk 29 .u64 8 (NZ g)) ∧ W.heap[g6]? = some (Blk 29 .u64 8 (NZ h)) ∧ W.heap[g7]? = some (Blk 29 .u64 8 (NZ i))) (by kernel_rfl) (⟨H.out.drew.row 5 rfl, H.out.drew.row 4 rfl, H.out.drew.row 3 rfl, H.out.drew.row 2 rfl⟩) (fun hH => ?_)
 replace H := Lib.hid H.out.drew
 generalize World.drew _ = w8 at *
 refine held_row 0 10 rowE rfl rfl (by kernel_rfl) (by kernel_rfl) (by kernel_rfl) rfl hH rfl rfl (fun _ h => h.1) ?_
 try simp only [Act.put, List.setIfInBounds_toArray, List.set_cons_zero, List.set_cons_succ]
 refine held_row 1 11 rowE rfl rfl (by kernel_rfl) (by kernel_rfl) (by kernel_rfl) rfl hH rfl rfl (fun _ h => h.2.1) ?_
 try simp only [Act.put, List.setIfInBounds_toArray, List.set_cons_zero, List.set_cons_succ]
 refine held_row 5 15 rowE rfl rfl (by kernel_rfl) (by kernel_rfl) (by kernel_rfl) rfl hH rfl rfl (fun _ h => h.2.2.1) ?_
 try simp only [Act.put, List.setIfInBounds_toArray, List.set_cons_zero, List.set_cons_succ]
 refine held_row 7 17 rowE rfl rfl (by kernel_rfl) (by kernel_rfl) (by kernel_rfl) rfl hH rfl rfl (fun _ h => h.2.2.2) ?_
 try simp only [Act.put, List.setIfInBounds_toArray, List.set_cons_zero, List.set_cons_succ]
 refine held_row 9 19 rowE rfl rfl (by kernel_rfl) (by kernel_rfl) (by kernel_rfl) rfl hH rfl rfl (fun _ h => h.2.2.2) ?_
 try simp only [Act.put, List.setIfInBounds_toArray, List.set_cons_zero, List.set_cons_succ]
 refine wpAnyH_ready (rs := [2]) (by kernel_rfl) (by simp) ?_
 refine AllReadyH.cons (o := _) rfl (fun K hK => ?_) AllReadyH.nil
 refine own_wp_build1E 12 rfl H.out rfl rfl ?_
 intro w12 g12 H3 hb
 replace H := Lib.hid H3
 refine hK.out _ _ (⟨H.out.row 6 rfl, H.out.row 5 rfl, H.out.row 4 rfl, H.out.row 3 rfl⟩) (fun hN => ?_)
 clear hK K hH H3 hb
 have hH := hN
 clear hN
 try simp only [Act.put, List.setIfInBounds_toArray, List.set_cons_zero, List.set_cons_succ]
 refine wpAnyH_ready (rs := [3]) (by kernel_rfl) (by simp) ?_
 refine AllReadyH.cons (o := _) rfl (fun K hK => ?_) AllReadyH.nil
 go_simp
 refine (product_1 _ EA.out (H.out.row 0 rfl) EB.out).mono ?_
 rintro e wc ⟨h13, rfl, hv, hb⟩
 replace H := Lib.hid (H.out.call hb)
 have HV13 := Lib.hid hv
 refine hK.out _ _ (⟨H.out.row 6 rfl, H.out.row 5 rfl, H.out.row 4 rfl, H.out.row 3 rfl⟩) (fun hN => ?_)
 clear hK K hH hb hv
 have hH := hN
 clear hN
 try simp only [Act.put, List.setIfInBounds_toArray, List.set_cons_zero, List.set_cons_succ]
 refine wpAnyH_ready (rs := [4]) (by kernel_rfl) (by simp) ?_
 refine AllReadyH.cons (o := _) rfl (fun K hK => ?_) AllReadyH.nil
 go_simp
 refine (times_k (2) _ (HT.out.below H.out.bel) HV13.out (by omega) (by omega)).mono ?_
 rintro e wc ⟨h14, rfl, hv, hb⟩
 replace H := Lib.hid (H.out.call hb)
 have HV14 := Lib.hid hv
 refine hK.out _ _ (⟨H.out.row 6 rfl, H.out.row 5 rfl, H.out.row 4 rfl, H.out.row 3 rfl⟩) (fun hN => ?_)
 clear hK K hH hb hv
 have hH := hN
 clear hN
 try simp only [Act.put, List.setIfInBounds_toArray, List.set_cons_zero, List.set_cons_succ]
 refine wpAnyH_ready (rs := [6]) (by kernel_rfl) (by simp) ?_
 refine AllReadyH.cons (o := _) rfl (fun K hK => ?_) AllReadyH.nil
 go_simp
 refine (ratio13_k _ HV14.out EC.out).mono ?_
 rintro e wc ⟨h16, rfl, hv, hb⟩
 replace H := Lib.hid (H.out.call hb)
 have HV16 := Lib.hid hv
 refine hK.out _ _ (⟨H.out.row 6 rfl, H.out.row 5 rfl, H.out.row 4 rfl, H.out.row 3 rfl⟩) (fun hN => ?_)
 clear hK K hH hb hv
 have hH := hN
 clear hN
 try simp only [Act.put, List.setIfInBounds_toArray, List.set_cons_zero, List.set_cons_succ]
 refine wpAnyH_ready (rs := [8]) (by kernel_rfl) (by simp) ?_
 refine AllReadyH.cons (o := _) rfl (fun K hK => ?_) AllReadyH.nil
 go_simp
 refine (int_k (2) _ (HT.out.below H.out.bel) (by omega) (by omega)).mono ?_
 rintro e wc ⟨h18, rfl, hv, hb⟩
 replace H := Lib.hid (H.out.call hb)
 have HV18 := Lib.hid hv
 refine hK.out _ _ (⟨H.out.row 6 rfl, H.out.row 5 rfl, H.out.row 4 rfl, H.out.row 3 rfl⟩) (fun hN => ?_)
 clear hK K hH hb hv
 have hH := hN
 clear hN
 try simp only [Act.put, List.setIfInBounds_toArray, List.set_cons_zero, List.set_cons_succ]
 refine wpAnyH_ready (rs := [10]) (by kernel_rfl) (by simp) ?_
 refine AllReadyH.cons (o := _) rfl (fun K hK => ?_) AllReadyH.nil
 go_simp
 refine (sub_k _ (HT.out.below H.out.bel) HV18.out ED.out).mono ?_
 rintro e wc ⟨h20, rfl, hv, hb⟩
 replace H := Lib.hid (H.out.call hb)
 have HV20 := Lib.hid hv
 refine hK.out _ _ (⟨H.out.row 6 rfl, H.out.row 5 rfl, H.out.row 4 rfl, H.out.row 3 rfl⟩) (fun hN => ?_)
 clear hK K hH hb hv
 have hH := hN
 clear hN
 try simp only [Act.put, List.setIfInBounds_toArray, List.set_cons_zero, List.set_cons_succ]
 refine wpAnyH_ready (rs := [11]) (by kernel_rfl) (by simp) ?_
 refine AllReadyH.cons (o := _) rfl (fun K hK => ?_) AllReadyH.nil
 go_simp
 refine (ratio13_k _ ED.out HV20.out).mono ?_
 rintro e wc ⟨h21, rfl, hv, hb⟩
 replace H := Lib.hid (H.out.call hb)
 have HV21 := Lib.hid hv
 refine hK.out _ _ (⟨H.out.row 6 rfl, H.out.row 5 rfl, H.out.row 4 rfl, H.out.row 3 rfl⟩) (fun hN => ?_)
 clear hK K hH hb hv
 have hH := hN
 clear hN
 try simp only [Act.put, List.setIfInBounds_toArray, List.set_cons_zero, List.set_cons_succ]
 refine wpAnyH_ready (rs := [12]) (by kernel_rfl) (by simp) ?_
 refine AllReadyH.cons (o := _) rfl (fun K hK => ?_) AllReadyH.nil
 refine own_st 2 rfl rowE H.out rfl rfl rfl rfl ?_
 intro ws HS
 simp only [List.set_cons_zero, List.set_cons_succ] at HS
 replace H := Lib.hid HS
 refine hK.out _ _ (⟨H.out.row 6 rfl, H.out.row 5 rfl, H.out.row 4 rfl, H.out.row 3 rfl⟩) (fun hN => ?_)
 clear hK K HS hH
 have hH := hN
 clear hN
 try simp only [List.setIfInBounds_toArray]
 refine wpAnyH_ready (rs := [13]) (by kernel_rfl) (by simp) ?_
 refine AllReadyH.cons (o := _) rfl (fun K hK => ?_) AllReadyH.nil
 refine own_st 1 rfl rowE H.out rfl rfl rfl rfl ?_
 intro ws HS
 simp only [List.set_cons_zero, List.set_cons_succ] at HS
 replace H := Lib.hid HS
 refine hK.out _ _ (⟨H.out.row 6 rfl, H.out.row 5 rfl, H.out.row 4 rfl, H.out.row 3 rfl⟩) (fun hN => ?_)
 clear hK K HS hH
 have hH := hN
 clear hN
 try simp only [List.setIfInBounds_toArray]
 try simp only [Act.put]
 refine wpAnyH_done (by kernel_rfl) ?_ _
 refine NoPanic.normal ?_
 clear hH
 go_wp2_with fail
 exact bodyPost_ret (own_result_two 2 1 rowE rowE rfl _ H rfl rfl rfl rfl) rfl ⟨_, _, rfl, HV16.out, HV21.out, H.out.bel⟩
end Go.Proofs.YtoeokhfhcpcjlaaGreatDoor
/-
 The reference's x and y as a row: parts one behind the other. No statement is proved here: lemmas for the walks.
-/
namespace Go.Proofs.YtoeokhfhcpcjlaaGreatDoor
open Go.RowKit
theorem partT_0 {f g : Nat → Int} : Part .i64 32 (t2 16 f g) 0 16 f := ⟨by omega, AZ_congr fun i hi => by unfold t2; rw [Nat.zero_add, if_pos hi]⟩
theorem partT_1 {f g : Nat → Int} : Part .i64 32 (t2 16 f g) 16 16 g := ⟨by omega, AZ_congr fun i hi => by unfold t2; rw [if_neg (by omega), show 16 + i - 16 = i by omega]⟩
/-- Two numbers, the reference's. -/
abbrev T2 (v : Nat → Int) : Value := .agg (AZ .i64 32 v)
abbrev T2v (x y : K) : Nat → Int := t2 16 (dF x.val) (dF y.val)
theorem rowT2 : IsRow Tryz.prog 36 32 := ⟨⟨_, Tryz.underlying36, rfl⟩, by kernel_rfl⟩
theorem nilT2 (w : World) : (zeroValue 36).run Tryz.prog w = .ok (.agg (AZ .i64 32 fun _ => 0)) w :=
 (show AZ .i64 32 (fun _ => 0) = Array.replicate 32 (.int .i64 0) by unfold AZ; rfl) ▸ (zero_of_info (show (Tryz.prog.info? 36).map (fun i => (i.zero, i.size)) = some (some (.agg (Array.replicate 32 (.int .i64 0))), 32) by kernel_rfl)).1 w
theorem built_T2 (f g : Nat → Int) (w : World) : (Instr.build 36 #[(0, .agg (AZ .i64 16 f)), (1, .agg (AZ .i64 16 g))]).run Tryz.prog w = .ok (.agg (AZ .i64 32 (t2 16 f g))) w :=
 run_build w _ _ _ (by kernel_rfl)
section
variable {ops : Array Oper} {rest : List Oper} {o : Oper} {a : Act} {w : World} {Q : Exit → Act → World → Prop}
theorem lay_build_T2 (hgd : o.guard = none) {x y : Operand} (ho : o.op = .build 36 #[(0, x), (1, y)]) {f g : Nat → Int} (hx : a.eval x = .agg (AZ .i64 16 f)) (hy : a.eval y = .agg (AZ .i64 16 g))
  (k : ∀ K : Act → World → Prop, (∀ a w, wpList Tryz.prog ops Q rest a w → K a w) → K (a.put o.dst (.agg (AZ .i64 32 (t2 16 f g)))) w) : wpList Tryz.prog ops Q (o :: rest) a w :=
 wpList_plain hgd fun K hK => by
  unfold Oper.wp execOp
  simp only [ho, List.map_toArray, List.map_cons, List.map_nil, hx, hy, Sem.run_bind, built_T2, Result.andThen_ok]
  exact k K hK
end
section
variable {md : Region.Mode} {ops : Array Oper} {Q : Exit → Act → World → Prop} {S : World → Prop} {fuel : Nat} {listed : Array Bool} {a : Act} {w : World}
/-- In a region that draws its order: two numbers are put together. -/
theorem held_T2 (i : Nat) (d : Tmp) {oi : Oper} (hi : ops[i]? = some oi) (hd : oi.dst = some d) (hs : Region.noSelect ops = true) (hf : Region.free md ops listed i = true)
  (hr : (Region.ready md ops listed).contains i = true) (hw : Region.wanted oi (yielded ops a.tmps) = true) (hS : S w) {x y : Operand} (ho : oi.op = .build 36 #[(0, x), (1, y)])
  {f g : Nat → Int} (hx : a.eval x = .agg (AZ .i64 16 f)) (hy : a.eval y = .agg (AZ .i64 16 g))
  (hN : wpAnyH Tryz.prog md ops (NoPanic Q) S fuel (listed.setIfInBounds i true) (a.put (some d) (.agg (AZ .i64 32 (t2 16 f g)))) w) : wpAnyH Tryz.prog md ops (NoPanic Q) S (fuel + 1) listed a w :=
 held_value i d (.agg (AZ .i64 32 (t2 16 f g))) hi hd hs hf hr hw hS (fun w _ => by
  unfold execOp
  simp only [ho, List.map_toArray, List.map_cons, List.map_nil, hx, hy, Sem.run_bind, built_T2, Result.andThen_ok]
  rfl) hN
end
end Go.Proofs.YtoeokhfhcpcjlaaGreatDoor
