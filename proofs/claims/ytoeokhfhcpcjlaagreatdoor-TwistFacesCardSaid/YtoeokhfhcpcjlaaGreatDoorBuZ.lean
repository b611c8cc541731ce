/-
 Lemmas for the walks, several texts in one. No statement is proved here.
-/
import Derived.Test.YtoeokhfhcpcjlaaGreatDoorBuQ
import Derived.Test.YtoeokhfhcpcjlaaGreatDoorBuI
import Derived.Test.YtoeokhfhcpcjlaaGreatDoorBuB
import Derived.Deep.CutRange
set_option maxRecDepth 8000
set_option maxHeartbeats 3200000
namespace Go.Proofs.YtoeokhfhcpcjlaaGreatDoor
open Go.RowKit
abbrev TO (v : Nat → Int) : Value := .agg (AZ .u64 16 v)
theorem rowTO : IsRow Tryz.prog 46 16 := ⟨⟨_, Tryz.underlying46, rfl⟩, by kernel_rfl⟩
theorem nilTO (w : World) : (zeroValue 46).run Tryz.prog w = .ok (.agg (AZ .u64 16 fun _ => 0)) w :=
 (show AZ .u64 16 (fun _ => 0) = Array.replicate 16 (.int .u64 0) by unfold AZ; rfl) ▸ (zero_of_info (show (Tryz.prog.info? 46).map (fun i => (i.zero, i.size)) = some (some (.agg (Array.replicate 16 (.int .u64 0))), 16) by kernel_rfl)).1 w
theorem built_TO (f g : Nat → Int) (w : World) : (Instr.build 46 #[(0, .agg (AZ .u64 8 f)), (1, .agg (AZ .u64 8 g))]).run Tryz.prog w = .ok (.agg (AZ .u64 16 (t2 8 f g))) w :=
 run_build w _ _ _ (by kernel_rfl)
theorem built_TO0 (w : World) : (Instr.build 46 #[]).run Tryz.prog w = .ok (.agg (AZ .u64 16 fun _ => 0)) w :=
 run_build w _ _ _ (by kernel_rfl)
section
variable {ops : Array Oper} {rest : List Oper} {o : Oper} {a : Act} {w : World} {Q : Exit → Act → World → Prop}
theorem z4w (hgd : o.guard = none) {x y : Operand} (ho : o.op = .build 46 #[(0, x), (1, y)]) {f g : Nat → Int} (hx : a.eval x = .agg (AZ .u64 8 f)) (hy : a.eval y = .agg (AZ .u64 8 g))
  (k : ∀ K : Act → World → Prop, (∀ a w, wpList Tryz.prog ops Q rest a w → K a w) → K (a.put o.dst (.agg (AZ .u64 16 (t2 8 f g)))) w) : wpList Tryz.prog ops Q (o :: rest) a w :=
 wpList_plain hgd fun K hK => by
  unfold Oper.wp execOp
  simp only [ho, List.map_toArray, List.map_cons, List.map_nil, hx, hy, Sem.run_bind, built_TO, Result.andThen_ok]
  exact k K hK
theorem lay_build_TO0 (hgd : o.guard = none) (ho : o.op = .build 46 #[])
  (k : ∀ K : Act → World → Prop, (∀ a w, wpList Tryz.prog ops Q rest a w → K a w) → K (a.put o.dst (.agg (AZ .u64 16 fun _ => 0))) w) : wpList Tryz.prog ops Q (o :: rest) a w :=
 wpList_plain hgd fun K hK => by
  unfold Oper.wp execOp
  simp only [ho, List.map_toArray, List.map_nil, Sem.run_bind, built_TO0, Result.andThen_ok]
  exact k K hK
end
section
variable {md : Region.Mode} {ops : Array Oper} {Q : Exit → Act → World → Prop} {S : World → Prop} {fuel : Nat} {listed : Array Bool} {a : Act} {w : World}
end
section
variable {ops : Array Oper} {rest : List Oper} {o : Oper} {a : Act} {w w0 : World} {l : List (Nat × Obj)} {Q : Exit → Act → World → Prop} {K : Act → World → Prop}
theorem own_wp_build1E (dd : Tmp) (hd : o.dst = some dd) (H : Ow w0 w l) {x : Operand} (ho : o.op = .buildSlice 133 1 #[(0, x)]) {f : Nat → Int} (hx : a.eval x = .agg (AZ .u64 8 f))
  (h : ∀ w' g, Ow w0 w' ((g, Blk 29 .u64 8 f) :: l) → Below w.heap.size w w' → K (a.put (some dd) (.slice (some ⟨g, 0, none⟩) 1 1)) w') : o.wp Tryz.prog a w K Q := by
 unfold Oper.wp execOp
 simp only [ho, List.map_toArray, List.map_cons, List.map_nil, hx, Sem.run_bind, run_build1 (P := Tryz.prog) (w := w) (k := .u64) Tryz.underlying133 infoE (by omega) (by omega) f, Result.andThen_ok]
 rw [← hd] at h
 exact h _ _ (H.alloc _) (z1n _ _)
def G3 (f g h : Nat → Int) : Nat → Nat → Int := fun i => if i = 0 then f else if i = 1 then g else h
theorem own_build3E (H : Hid (Ow w0 w l)) (hgd : o.guard = none) {x y z : Operand} (ho : o.op = .buildSlice 133 3 #[(0, x), (1, y), (2, z)]) {f g h : Nat → Int} (hx : a.eval x = .agg (AZ .u64 8 f)) (hy : a.eval y = .agg (AZ .u64 8 g)) (hz : a.eval z = .agg (AZ .u64 8 h))
  (k : ∀ w' q, Hid (Ow w0 w' ((q, .cells (flatR .u64 8 3 (G3 f g h)).toArray 29) :: l)) → ∀ K : Act → World → Prop, (∀ a w, wpList Tryz.prog ops Q rest a w → K a w) → K (a.put o.dst (.slice (some ⟨q, 0, none⟩) 3 3)) w') : wpList Tryz.prog ops Q (o :: rest) a w :=
 wpList_plain hgd fun K hK => by
  unfold Oper.wp execOp
  have hr := z54 (P := Tryz.prog) (w := w) (k := .u64) Tryz.underlying133 infoE (by omega) 3 (by omega) (by omega) (G3 f g h) #[(0, .agg (AZ .u64 8 f)), (1, .agg (AZ .u64 8 g)), (2, .agg (AZ .u64 8 h))] rfl
  simp only [ho, List.map_toArray, List.map_cons, List.map_nil, hx, hy, hz, Sem.run_bind, hr, Result.andThen_ok]
  exact k _ _ (Lib.hid (H.out.alloc _)) K hK
end
structure TwX (v : Nat → Int) (X Y : K) : Prop where
 is : ∃ f g : Nat → Nat, v = t2 8 (NZ f) (NZ g) ∧ EK f X ∧ EK g Y
abbrev TwK (v : Nat → Int) (P : Pt pN dK) : Prop := TwX v (wtX P) (wtY P)
theorem TwX.mk2 {f g : Nat → Nat} {X Y : K} (h1 : EK f X) (h2 : EK g Y) : TwX (t2 8 (NZ f) (NZ g)) X Y := ⟨f, g, rfl, h1, h2⟩
theorem TwX.eq {v : Nat → Int} {X Y X' Y' : K} (h : TwX v X Y) (e1 : X = X') (e2 : Y = Y') : TwX v X' Y' := e1 ▸ e2 ▸ h
structure Els (w : World) (B q o n : Nat) (E : Nat → Nat → Nat) (x : Nat → K) : Prop where
 lt : q < B
 has : ∀ i, i < n → ∀ j, j < 8 → w.cell? ⟨q, o + i * 8 + j, none⟩ = some (.int .u64 (NZ (E i) j))
 is : ∀ i, i < n → EK (E i) (x i)
def prodK (a : K) (x : Nat → K) : Nat → K
 | 0 => a
 | n + 1 => prodK a x n * x n
theorem z7a {f : Nat → Nat} {a : K} {q o n c : Nat} {E : Nat → Nat → Nat} {x : Nat → K} (w : World) (hf : EK f a) (hE : Els w w.heap.size q o n E x) (hn : n ≤ 1000) :
  Calls Tryz.prog 62 #[EV f, .slice (some ⟨q, o, none⟩) n c] w fun e w' => ∃ r, e = .returned (EV r) ∧ EK r (prodK a x n) ∧ Below w.heap.size w w' := by
 have HE := Lib.hid hE
 have V0 : Hid (EK f (prodK a x 0)) := Lib.hid hf
 clear hE hf
 have H := Lib.hid (Ow.start w)
 go_enter Tryz.func62, Tryz.ntmps62
 go_wp2_with (first
  | ((fail_if_success have := g2); (with_reducible apply z0h H); (case hgd | ho | hx => exact rfl); clear H; intro w2 g2 H _ _; go_simp)
  | ((fail_if_success have := g4); (with_reducible apply z0b nilE H); (case hgd | ho => exact rfl); clear H; intro w4 g4 H _ _; go_simp))
 go_loopg [9] n (fun gk v9 wr => ∃ (k : Nat) (r : Nat → Nat), k + gk = n ∧ v9 = .int .i64 (k : Int) ∧ EK r (prodK a x k) ∧ Ow w wr [(g4, Blk 29 .u64 8 fun _ => 0), (g2, Blk 29 .u64 8 (NZ r))])
 case atStart => exact ⟨0, f, by omega, rfl, V0.out, H.out⟩
 case round =>
  clear H V0
  obtain ⟨k, r, hk, rfl, hr, HR⟩ := hrel
  have V := Lib.hid hr
  have H := Lib.hid HR
  clear hr HR
  cases gk with
  | zero =>
   obtain rfl : k = n := by omega
   have hid : decide ((k : Int) < (k : Int)) = false := by simp
   have hid' : decide (k < k) = false := by simp
   clear hk hn
   go_wp2_with (first
    | ((with_reducible apply z0g rowE H); (case hgd | ho | hx => exact rfl); (case hi => repeat first|exact at0|apply atS); intro _ _; go_simp)
    | ((with_reducible apply z0e rowE H); (case hgd | ho | hx | hy => exact rfl); (case hi => repeat first|exact at0|apply atS); clear H; intro ws H _ _; simp only [qb] at H; go_simp))
   exact bodyPost_ret (z0i 0 rowE rfl _ H rfl rfl) rfl ⟨_, rfl, V.out, H.out.bel⟩
  | succ gk9 =>
   have hlt : k < n := by omega
   have hid : decide ((k : Int) < (n : Int)) = true := by simp; omega
   have hid' : decide (k < n) = true := by simpa using hlt
   have kn : (k : Int) < (n : Int) := by omega
   have n1000 : (n : Int) ≤ 1000 := by omega
   have HK := Lib.hid hk
   have HX := Lib.hid (HE.out.is k hlt)
   have HC : Hid (∀ W, Below w.heap.size w W → ∀ j, j < 8 → W.cell? ⟨q, o + k * 8 + j, none⟩ = some (.int .u64 (NZ (E k) j))) := Lib.hid fun W hW j hj => (hW.cell (p := ⟨q, o + k * 8 + j, none⟩) HE.out.lt).trans (HE.out.has k hlt j hj)
   clear hk hlt hn HE
   go_wp2_with (first
    | ((fail_if_success have := mk1); (with_reducible apply y01 rowE); (case hgd | ho | hx => exact rfl); (case hc => exact HC.out _ H.out.bel); have mk1 := trivial; intro _ _; go_simp)
    | ((fail_if_success have := g6); (fail_if_success have := g6); (with_reducible apply z0b nilE H); (case hgd | ho => exact rfl); clear H; intro w6 g6 H _ _; go_simp)
    | ((with_reducible apply z0g rowE H); (case hgd | ho | hx => exact rfl); (case hi => repeat first|exact at0|apply atS); intro _ _; go_simp)
    | ((fail_if_success have := V2); (with_reducible refine (mul_k _ V.out HX.out).mono ?_); rintro e wc ⟨h2, rfl, hv, hb⟩; replace H := hcall H hb; clear hb; have V2 := Lib.hid hv; clear hv)
    | ((with_reducible apply z0e rowE H); (case hgd | ho | hx | hy => exact rfl); (case hi => repeat first|exact at0|apply atS); clear H; intro ws H _ _; simp only [qb, qc] at H; go_simp))
   go_roundg gk9
   case rel => exact ⟨k + 1, h2, by (have := HK.out; omega), by go_num, V2.out, H.out.pop⟩
   case measure => omega
theorem els_one {w : World} {q : Nat} {g : Nat → Nat} {b : K} (h : w.heap[q]? = some (Blk 29 .u64 8 (NZ g))) (hg : EK g b) : Els w w.heap.size q 0 1 (fun _ => g) (fun _ => b) :=
 ⟨z0w h, fun i hi j hj => by
  obtain rfl : i = 0 := by omega
  rw [Nat.zero_mul, Nat.zero_add, cell_of_row _ _ _ _ _ _ h]
  exact z01 _ _ _ _ hj, fun _ _ => hg⟩
theorem product_1 {f g : Nat → Nat} {a b : K} {q c : Nat} (w : World) (hf : EK f a) (h : w.heap[q]? = some (Blk 29 .u64 8 (NZ g))) (hg : EK g b) :
  Calls Tryz.prog 62 #[EV f, .slice (some ⟨q, 0, none⟩) 1 c] w fun e w' => ∃ r, e = .returned (EV r) ∧ EK r (a * b) ∧ Below w.heap.size w w' := z7a w hf (els_one h hg) (by omega)
theorem product_3 {f g h i : Nat → Nat} {x u y v : K} {q c : Nat} (w : World) (hf : EK f x) (hr : w.heap[q]? = some (.cells (flatR .u64 8 3 (G3 (NZ g) (NZ h) (NZ i))).toArray 29)) (hg : EK g u) (hh : EK h y) (hi : EK i v) :
  Calls Tryz.prog 62 #[EV f, .slice (some ⟨q, 0, none⟩) 3 c] w fun e w' => ∃ r, e = .returned (EV r) ∧ EK r (x * u * y * v) ∧ Below w.heap.size w w' :=
 z7a (E := fun k => if k = 0 then g else if k = 1 then h else i) (x := fun k => if k = 0 then u else if k = 1 then y else v) (o := 0) w hf ⟨z0w hr, fun k hk j hj => by
  rw [Nat.zero_add, cell_of_row _ _ _ _ _ _ hr, List.getElem?_toArray, z21 .u64 8 _ j hj 3 k hk]
  rcases (by omega : k = 0 ∨ k = 1 ∨ k = 2) with rfl | rfl | rfl <;> rfl, fun k hk => by
  rcases (by omega : k = 0 ∨ k = 1 ∨ k = 2) with rfl | rfl | rfl
  ·exact hg
  ·exact hh
  ·exact hi⟩ (by omega)
theorem z68 {f g : Nat → Nat} {a b : K} (w : World) (hf : EK f a) (hg : EK g b) :
  Calls Tryz.prog 63 #[EV f, EV g] w fun e w' => ∃ r, e = .returned (EV r) ∧ EK r (a * inv b) ∧ Below w.heap.size w w' := by
 have EA := Lib.hid hf
 have EB := Lib.hid hg
 clear hf hg
 have H := Lib.hid (Ow.start w)
 go_enter Tryz.func63, Tryz.ntmps63
 go_wp2_with (first
  | ((fail_if_success have := g2); (with_reducible apply z0h H); (case hgd | ho | hx => exact rfl); clear H; intro w2 g2 H _ _; go_simp)
  | ((fail_if_success have := g3); (fail_if_success have := g3); (with_reducible apply z0h H); (case hgd | ho | hx => exact rfl); clear H; intro w3 g3 H _ _; go_simp)
  | ((fail_if_success have := g4); (with_reducible apply z0b nilE H); (case hgd | ho => exact rfl); clear H; intro w4 g4 H _ _; go_simp))
 refine wp_region_noPanic ?_
 refine wp_region_held_drew (S := fun W => W.heap[g2]? = some (Blk 29 .u64 8 (NZ f)) ∧ W.heap[g3]? = some (Blk 29 .u64 8 (NZ g))) (by kernel_rfl) (⟨H.out.drew.row 2 rfl, H.out.drew.row 1 rfl⟩) (fun hH => ?_)
 replace H := Lib.hid H.out.drew
 generalize World.drew _ = w8 at *
 refine z0f 0 5 rowE rfl rfl rfl hH rfl rfl (fun _ h => h.1) ?_
 try simp only [Act.put, qa, qb, qc]
 refine z0f 1 6 rowE rfl rfl rfl hH rfl rfl (fun _ h => h.2) ?_
 try simp only [Act.put, qa, qb, qc]
 refine rd1 2 rfl fun K hK => ?_
 go_simp
 refine (z7m _ EB.out).mono ?_
 rintro e wc ⟨h7, rfl, hv, hb⟩
 replace H := hcall H hb
 have HV7 := Lib.hid hv
 clear hH
 refine hK.out _ _ ⟨H.out.row 2 rfl, H.out.row 1 rfl⟩ fun hH => ?_
 clear hK K hb hv
 try simp only [Act.put, qa, qb, qc]
 refine rd1 3 rfl fun K hK => ?_
 go_simp
 refine (mul_k _ EA.out HV7.out).mono ?_
 rintro e wc ⟨h8, rfl, hv, hb⟩
 replace H := hcall H hb
 have HV8 := Lib.hid hv
 clear hH
 refine hK.out _ _ ⟨H.out.row 2 rfl, H.out.row 1 rfl⟩ fun hH => ?_
 clear hK K hb hv
 try simp only [Act.put, qa, qb, qc]
 refine rd1 4 rfl fun K hK => ?_
 refine z0l 0 rfl rowE H.out rfl rfl rfl rfl ?_
 intro ws HS
 simp only [qb] at HS
 replace H := Lib.hid HS
 clear hH
 refine hK.out _ _ ⟨H.out.row 2 rfl, H.out.row 1 rfl⟩ fun hH => ?_
 clear hK K HS
 try simp only [qa]
 try simp only [Act.put]
 refine wpAnyH_done (by kernel_rfl) ?_ _
 refine NoPanic.normal ?_
 clear hH
 go_wp2_with fail
 exact bodyPost_ret (z0i 0 rowE rfl _ H rfl rfl) rfl ⟨_, rfl, HV8.out, H.out.bel⟩
theorem z0o {f g : Nat → Nat} {a b : K} (w : World) (hT : Tp w) (hf : EK f a) (hg : EK g b) :
  Calls Tryz.prog 50 #[EV f, EV g] w fun e w' => ∃ r s, e = .returned (.tuple #[EV r, EV s]) ∧ EK r (b * b + a * a) ∧ EK s (b * b - a * a) ∧ Below w.heap.size w w' := by
 have HT := Lib.hid hT
 clear hT
 have EA := Lib.hid hf
 have EB := Lib.hid hg
 clear hf hg
 have H := Lib.hid (Ow.start w)
 go_enter Tryz.func50, Tryz.ntmps50
 go_wp2_with (first
  | ((fail_if_success have := g2); (with_reducible apply z0h H); (case hgd | ho | hx => exact rfl); clear H; intro w2 g2 H _ _; go_simp)
  | ((fail_if_success have := g3); (fail_if_success have := g3); (with_reducible apply z0h H); (case hgd | ho | hx => exact rfl); clear H; intro w3 g3 H _ _; go_simp)
  | ((fail_if_success have := g4); (with_reducible apply z0b nilE H); (case hgd | ho => exact rfl); clear H; intro w4 g4 H _ _; go_simp)
  | ((fail_if_success have := g5); (fail_if_success have := g5); (with_reducible apply z0b nilE H); (case hgd | ho => exact rfl); clear H; intro w5 g5 H _ _; go_simp))
 go_cut [6, 7] from 8 to 11 (fun v6 v7 wx => ∃ g6 g7 h9 h11, v6 = .pointer (some ⟨g6, 0, none⟩) ∧ v7 = .pointer (some ⟨g7, 0, none⟩) ∧ EK h9 (a * a) ∧ EK h11 (b * b) ∧ Ow w wx [(g6, Blk 29 .u64 8 (NZ h9)), (g7, Blk 29 .u64 8 (NZ h11)), (g5, Blk 29 .u64 8 fun _ => 0), (g4, Blk 29 .u64 8 fun _ => 0), (g3, Blk 29 .u64 8 (NZ g)), (g2, Blk 29 .u64 8 (NZ f))])
 case first =>
  go_wp2_with fail
  refine wp_region_noPanic ?_
  refine wp_region_held_drew (S := fun W => W.heap[g2]? = some (Blk 29 .u64 8 (NZ f)) ∧ W.heap[g3]? = some (Blk 29 .u64 8 (NZ g))) (by kernel_rfl) (⟨H.out.drew.row 3 rfl, H.out.drew.row 2 rfl⟩) (fun hH => ?_)
  replace H := Lib.hid H.out.drew
  generalize World.drew _ = w8 at *
  refine z0f 0 8 rowE rfl rfl rfl hH rfl rfl (fun _ h => h.1) ?_
  try simp only [Act.put, qa, qb, qc]
  refine z0f 2 10 rowE rfl rfl rfl hH rfl rfl (fun _ h => h.2) ?_
  try simp only [Act.put, qa, qb, qc]
  refine rdn [1, 4, 5] (rdc rfl (fun K hK => ?_) (rdc rfl (fun K hK => ?_) (rdc rfl (fun K hK => ?_) rdz)))
  ·skip
   go_simp
   refine (z0m _ EA.out).mono ?_
   rintro e wc ⟨h9, rfl, hv, hb⟩
   replace H := hcall H hb
   have HV9 := Lib.hid hv
   clear hH
   refine hK.out _ _ ⟨H.out.row 3 rfl, H.out.row 2 rfl⟩ fun hH => ?_
   clear hK K hb hv
   try simp only [Act.put, qa, qb, qc]
   refine rdn [3, 4, 5] (rdc rfl (fun K hK => ?_) (rdc rfl (fun K hK => ?_) (rdc rfl (fun K hK => ?_) rdz)))
   ·skip
    go_simp
    refine (z0m _ EB.out).mono ?_
    rintro e wc ⟨h11, rfl, hv, hb⟩
    replace H := hcall H hb
    have HV11 := Lib.hid hv
    clear hH
    refine hK.out _ _ ⟨H.out.row 3 rfl, H.out.row 2 rfl⟩ fun hH => ?_
    clear hK K hb hv
    try simp only [Act.put, qa, qb, qc]
    refine rdn [4, 5] (rdc rfl (fun K hK => ?_) (rdc rfl (fun K hK => ?_) rdz))
    ·skip
     refine z0c 6 rfl nilE H.out rfl ?_
     intro w6 g6 H3 hb
     replace H := Lib.hid H3
     clear hH
     refine hK.out _ _ ⟨H.out.row 4 rfl, H.out.row 3 rfl⟩ fun hH => ?_
     clear hK K H3 hb
     try simp only [Act.put, qa, qb, qc]
     refine rd1 5 rfl fun K hK => ?_
     refine z0c 7 rfl nilE H.out rfl ?_
     intro w7 g7 H3 hb
     replace H := Lib.hid H3
     clear hH
     refine hK.out _ _ ⟨H.out.row 5 rfl, H.out.row 4 rfl⟩ fun hH => ?_
     clear hK K H3 hb
     try simp only [Act.put, qa, qb, qc]
     refine rd1 6 rfl fun K hK => ?_
     refine z0l 1 rfl rowE H.out rfl rfl rfl rfl ?_
     intro ws HS
     simp only [qb, qc] at HS
     replace H := Lib.hid HS
     clear hH
     refine hK.out _ _ ⟨H.out.row 5 rfl, H.out.row 4 rfl⟩ fun hH => ?_
     clear hK K HS
     try simp only [qa]
     refine rd1 7 rfl fun K hK => ?_
     refine z0l 0 rfl rowE H.out rfl rfl rfl rfl ?_
     intro ws HS
     simp only [qb] at HS
     replace H := Lib.hid HS
     clear hH
     refine hK.out _ _ ⟨H.out.row 5 rfl, H.out.row 4 rfl⟩ fun hH => ?_
     clear hK K HS
     try simp only [qa]
     try simp only [Act.put]
     refine wpAnyH_done (by kernel_rfl) ?_ _
     refine NoPanic.normal ?_
     clear hH
     replace H := Lib.hid (H.out.front (x := (g6, Blk 29 .u64 8 (NZ h9))) 1 rfl)
     go_wp2_with fail
     go_meet
     exact ⟨g6, g7, h9, h11, rfl, rfl, HV9.out, HV11.out, H.out⟩
    ·skip
     refine z0c 7 rfl nilE H.out rfl ?_
     intro w7 g7 H3 hb
     replace H := Lib.hid H3
     clear hH
     refine hK.out _ _ ⟨H.out.row 4 rfl, H.out.row 3 rfl⟩ fun hH => ?_
     clear hK K H3 hb
     try simp only [Act.put, qa, qb, qc]
     refine rd1 4 rfl fun K hK => ?_
     refine z0c 6 rfl nilE H.out rfl ?_
     intro w6 g6 H3 hb
     replace H := Lib.hid H3
     clear hH
     refine hK.out _ _ ⟨H.out.row 5 rfl, H.out.row 4 rfl⟩ fun hH => ?_
     clear hK K H3 hb
     try simp only [Act.put, qa, qb, qc]
     refine rd1 6 rfl fun K hK => ?_
     refine z0l 0 rfl rowE H.out rfl rfl rfl rfl ?_
     intro ws HS
     simp only [qb] at HS
     replace H := Lib.hid HS
     clear hH
     refine hK.out _ _ ⟨H.out.row 5 rfl, H.out.row 4 rfl⟩ fun hH => ?_
     clear hK K HS
     try simp only [qa]
     refine rd1 7 rfl fun K hK => ?_
     refine z0l 1 rfl rowE H.out rfl rfl rfl rfl ?_
     intro ws HS
     simp only [qb, qc] at HS
     replace H := Lib.hid HS
     clear hH
     refine hK.out _ _ ⟨H.out.row 5 rfl, H.out.row 4 rfl⟩ fun hH => ?_
     clear hK K HS
     try simp only [qa]
     try simp only [Act.put]
     refine wpAnyH_done (by kernel_rfl) ?_ _
     refine NoPanic.normal ?_
     clear hH
     replace H := Lib.hid (H.out.front (x := (g7, Blk 29 .u64 8 (NZ h11))) 1 rfl)
     replace H := Lib.hid (H.out.front (x := (g6, Blk 29 .u64 8 (NZ h9))) 1 rfl)
     go_wp2_with fail
     go_meet
     exact ⟨g6, g7, h9, h11, rfl, rfl, HV9.out, HV11.out, H.out⟩
   ·skip
    refine z0c 6 rfl nilE H.out rfl ?_
    intro w6 g6 H3 hb
    replace H := Lib.hid H3
    clear hH
    refine hK.out _ _ ⟨H.out.row 4 rfl, H.out.row 3 rfl⟩ fun hH => ?_
    clear hK K H3 hb
    try simp only [Act.put, qa, qb, qc]
    refine rdn [3, 5] (rdc rfl (fun K hK => ?_) (rdc rfl (fun K hK => ?_) rdz))
    ·skip
     go_simp
     refine (z0m _ EB.out).mono ?_
     rintro e wc ⟨h11, rfl, hv, hb⟩
     replace H := hcall H hb
     have HV11 := Lib.hid hv
     clear hH
     refine hK.out _ _ ⟨H.out.row 4 rfl, H.out.row 3 rfl⟩ fun hH => ?_
     clear hK K hb hv
     try simp only [Act.put, qa, qb, qc]
     refine rd1 5 rfl fun K hK => ?_
     refine z0c 7 rfl nilE H.out rfl ?_
     intro w7 g7 H3 hb
     replace H := Lib.hid H3
     clear hH
     refine hK.out _ _ ⟨H.out.row 5 rfl, H.out.row 4 rfl⟩ fun hH => ?_
     clear hK K H3 hb
     try simp only [Act.put, qa, qb, qc]
     refine rd1 6 rfl fun K hK => ?_
     refine z0l 1 rfl rowE H.out rfl rfl rfl rfl ?_
     intro ws HS
     simp only [qb, qc] at HS
     replace H := Lib.hid HS
     clear hH
     refine hK.out _ _ ⟨H.out.row 5 rfl, H.out.row 4 rfl⟩ fun hH => ?_
     clear hK K HS
     try simp only [qa]
     refine rd1 7 rfl fun K hK => ?_
     refine z0l 0 rfl rowE H.out rfl rfl rfl rfl ?_
     intro ws HS
     simp only [qb] at HS
     replace H := Lib.hid HS
     clear hH
     refine hK.out _ _ ⟨H.out.row 5 rfl, H.out.row 4 rfl⟩ fun hH => ?_
     clear hK K HS
     try simp only [qa]
     try simp only [Act.put]
     refine wpAnyH_done (by kernel_rfl) ?_ _
     refine NoPanic.normal ?_
     clear hH
     replace H := Lib.hid (H.out.front (x := (g6, Blk 29 .u64 8 (NZ h9))) 1 rfl)
     go_wp2_with fail
     go_meet
     exact ⟨g6, g7, h9, h11, rfl, rfl, HV9.out, HV11.out, H.out⟩
    ·skip
     refine z0c 7 rfl nilE H.out rfl ?_
     intro w7 g7 H3 hb
     replace H := Lib.hid H3
     clear hH
     refine hK.out _ _ ⟨H.out.row 5 rfl, H.out.row 4 rfl⟩ fun hH => ?_
     clear hK K H3 hb
     try simp only [Act.put, qa, qb, qc]
     refine rd1 3 rfl fun K hK => ?_
     go_simp
     refine (z0m _ EB.out).mono ?_
     rintro e wc ⟨h11, rfl, hv, hb⟩
     replace H := hcall H hb
     have HV11 := Lib.hid hv
     clear hH
     refine hK.out _ _ ⟨H.out.row 5 rfl, H.out.row 4 rfl⟩ fun hH => ?_
     clear hK K hb hv
     try simp only [Act.put, qa, qb, qc]
     refine rd1 6 rfl fun K hK => ?_
     refine z0l 1 rfl rowE H.out rfl rfl rfl rfl ?_
     intro ws HS
     simp only [qb, qc] at HS
     replace H := Lib.hid HS
     clear hH
     refine hK.out _ _ ⟨H.out.row 5 rfl, H.out.row 4 rfl⟩ fun hH => ?_
     clear hK K HS
     try simp only [qa]
     refine rd1 7 rfl fun K hK => ?_
     refine z0l 0 rfl rowE H.out rfl rfl rfl rfl ?_
     intro ws HS
     simp only [qb] at HS
     replace H := Lib.hid HS
     clear hH
     refine hK.out _ _ ⟨H.out.row 5 rfl, H.out.row 4 rfl⟩ fun hH => ?_
     clear hK K HS
     try simp only [qa]
     try simp only [Act.put]
     refine wpAnyH_done (by kernel_rfl) ?_ _
     refine NoPanic.normal ?_
     clear hH
     replace H := Lib.hid (H.out.front (x := (g6, Blk 29 .u64 8 (NZ h9))) 1 rfl)
     go_wp2_with fail
     go_meet
     exact ⟨g6, g7, h9, h11, rfl, rfl, HV9.out, HV11.out, H.out⟩
   ·skip
    refine z0c 7 rfl nilE H.out rfl ?_
    intro w7 g7 H3 hb
    replace H := Lib.hid H3
    clear hH
    refine hK.out _ _ ⟨H.out.row 4 rfl, H.out.row 3 rfl⟩ fun hH => ?_
    clear hK K H3 hb
    try simp only [Act.put, qa, qb, qc]
    refine rdn [3, 4] (rdc rfl (fun K hK => ?_) (rdc rfl (fun K hK => ?_) rdz))
    ·skip
     go_simp
     refine (z0m _ EB.out).mono ?_
     rintro e wc ⟨h11, rfl, hv, hb⟩
     replace H := hcall H hb
     have HV11 := Lib.hid hv
     clear hH
     refine hK.out _ _ ⟨H.out.row 4 rfl, H.out.row 3 rfl⟩ fun hH => ?_
     clear hK K hb hv
     try simp only [Act.put, qa, qb, qc]
     refine rd1 4 rfl fun K hK => ?_
     refine z0c 6 rfl nilE H.out rfl ?_
     intro w6 g6 H3 hb
     replace H := Lib.hid H3
     clear hH
     refine hK.out _ _ ⟨H.out.row 5 rfl, H.out.row 4 rfl⟩ fun hH => ?_
     clear hK K H3 hb
     try simp only [Act.put, qa, qb, qc]
     refine rd1 6 rfl fun K hK => ?_
     refine z0l 0 rfl rowE H.out rfl rfl rfl rfl ?_
     intro ws HS
     simp only [qb] at HS
     replace H := Lib.hid HS
     clear hH
     refine hK.out _ _ ⟨H.out.row 5 rfl, H.out.row 4 rfl⟩ fun hH => ?_
     clear hK K HS
     try simp only [qa]
     refine rd1 7 rfl fun K hK => ?_
     refine z0l 1 rfl rowE H.out rfl rfl rfl rfl ?_
     intro ws HS
     simp only [qb, qc] at HS
     replace H := Lib.hid HS
     clear hH
     refine hK.out _ _ ⟨H.out.row 5 rfl, H.out.row 4 rfl⟩ fun hH => ?_
     clear hK K HS
     try simp only [qa]
     try simp only [Act.put]
     refine wpAnyH_done (by kernel_rfl) ?_ _
     refine NoPanic.normal ?_
     clear hH
     replace H := Lib.hid (H.out.front (x := (g7, Blk 29 .u64 8 (NZ h11))) 1 rfl)
     replace H := Lib.hid (H.out.front (x := (g6, Blk 29 .u64 8 (NZ h9))) 1 rfl)
     go_wp2_with fail
     go_meet
     exact ⟨g6, g7, h9, h11, rfl, rfl, HV9.out, HV11.out, H.out⟩
    ·skip
     refine z0c 6 rfl nilE H.out rfl ?_
     intro w6 g6 H3 hb
     replace H := Lib.hid H3
     clear hH
     refine hK.out _ _ ⟨H.out.row 5 rfl, H.out.row 4 rfl⟩ fun hH => ?_
     clear hK K H3 hb
     try simp only [Act.put, qa, qb, qc]
     refine rd1 3 rfl fun K hK => ?_
     go_simp
     refine (z0m _ EB.out).mono ?_
     rintro e wc ⟨h11, rfl, hv, hb⟩
     replace H := hcall H hb
     have HV11 := Lib.hid hv
     clear hH
     refine hK.out _ _ ⟨H.out.row 5 rfl, H.out.row 4 rfl⟩ fun hH => ?_
     clear hK K hb hv
     try simp only [Act.put, qa, qb, qc]
     refine rd1 6 rfl fun K hK => ?_
     refine z0l 0 rfl rowE H.out rfl rfl rfl rfl ?_
     intro ws HS
     simp only [qb] at HS
     replace H := Lib.hid HS
     clear hH
     refine hK.out _ _ ⟨H.out.row 5 rfl, H.out.row 4 rfl⟩ fun hH => ?_
     clear hK K HS
     try simp only [qa]
     refine rd1 7 rfl fun K hK => ?_
     refine z0l 1 rfl rowE H.out rfl rfl rfl rfl ?_
     intro ws HS
     simp only [qb, qc] at HS
     replace H := Lib.hid HS
     clear hH
     refine hK.out _ _ ⟨H.out.row 5 rfl, H.out.row 4 rfl⟩ fun hH => ?_
     clear hK K HS
     try simp only [qa]
     try simp only [Act.put]
     refine wpAnyH_done (by kernel_rfl) ?_ _
     refine NoPanic.normal ?_
     clear hH
     replace H := Lib.hid (H.out.front (x := (g7, Blk 29 .u64 8 (NZ h11))) 1 rfl)
     replace H := Lib.hid (H.out.front (x := (g6, Blk 29 .u64 8 (NZ h9))) 1 rfl)
     go_wp2_with fail
     go_meet
     exact ⟨g6, g7, h9, h11, rfl, rfl, HV9.out, HV11.out, H.out⟩
  ·skip
   refine z0c 6 rfl nilE H.out rfl ?_
   intro w6 g6 H3 hb
   replace H := Lib.hid H3
   clear hH
   refine hK.out _ _ ⟨H.out.row 4 rfl, H.out.row 3 rfl⟩ fun hH => ?_
   clear hK K H3 hb
   try simp only [Act.put, qa, qb, qc]
   refine rdn [1, 5] (rdc rfl (fun K hK => ?_) (rdc rfl (fun K hK => ?_) rdz))
   ·skip
    go_simp
    refine (z0m _ EA.out).mono ?_
    rintro e wc ⟨h9, rfl, hv, hb⟩
    replace H := hcall H hb
    have HV9 := Lib.hid hv
    clear hH
    refine hK.out _ _ ⟨H.out.row 4 rfl, H.out.row 3 rfl⟩ fun hH => ?_
    clear hK K hb hv
    try simp only [Act.put, qa, qb, qc]
    refine rdn [3, 5] (rdc rfl (fun K hK => ?_) (rdc rfl (fun K hK => ?_) rdz))
    ·skip
     go_simp
     refine (z0m _ EB.out).mono ?_
     rintro e wc ⟨h11, rfl, hv, hb⟩
     replace H := hcall H hb
     have HV11 := Lib.hid hv
     clear hH
     refine hK.out _ _ ⟨H.out.row 4 rfl, H.out.row 3 rfl⟩ fun hH => ?_
     clear hK K hb hv
     try simp only [Act.put, qa, qb, qc]
     refine rd1 5 rfl fun K hK => ?_
     refine z0c 7 rfl nilE H.out rfl ?_
     intro w7 g7 H3 hb
     replace H := Lib.hid H3
     clear hH
     refine hK.out _ _ ⟨H.out.row 5 rfl, H.out.row 4 rfl⟩ fun hH => ?_
     clear hK K H3 hb
     try simp only [Act.put, qa, qb, qc]
     refine rd1 6 rfl fun K hK => ?_
     refine z0l 1 rfl rowE H.out rfl rfl rfl rfl ?_
     intro ws HS
     simp only [qb, qc] at HS
     replace H := Lib.hid HS
     clear hH
     refine hK.out _ _ ⟨H.out.row 5 rfl, H.out.row 4 rfl⟩ fun hH => ?_
     clear hK K HS
     try simp only [qa]
     refine rd1 7 rfl fun K hK => ?_
     refine z0l 0 rfl rowE H.out rfl rfl rfl rfl ?_
     intro ws HS
     simp only [qb] at HS
     replace H := Lib.hid HS
     clear hH
     refine hK.out _ _ ⟨H.out.row 5 rfl, H.out.row 4 rfl⟩ fun hH => ?_
     clear hK K HS
     try simp only [qa]
     try simp only [Act.put]
     refine wpAnyH_done (by kernel_rfl) ?_ _
     refine NoPanic.normal ?_
     clear hH
     replace H := Lib.hid (H.out.front (x := (g6, Blk 29 .u64 8 (NZ h9))) 1 rfl)
     go_wp2_with fail
     go_meet
     exact ⟨g6, g7, h9, h11, rfl, rfl, HV9.out, HV11.out, H.out⟩
    ·skip
     refine z0c 7 rfl nilE H.out rfl ?_
     intro w7 g7 H3 hb
     replace H := Lib.hid H3
     clear hH
     refine hK.out _ _ ⟨H.out.row 5 rfl, H.out.row 4 rfl⟩ fun hH => ?_
     clear hK K H3 hb
     try simp only [Act.put, qa, qb, qc]
     refine rd1 3 rfl fun K hK => ?_
     go_simp
     refine (z0m _ EB.out).mono ?_
     rintro e wc ⟨h11, rfl, hv, hb⟩
     replace H := hcall H hb
     have HV11 := Lib.hid hv
     clear hH
     refine hK.out _ _ ⟨H.out.row 5 rfl, H.out.row 4 rfl⟩ fun hH => ?_
     clear hK K hb hv
     try simp only [Act.put, qa, qb, qc]
     refine rd1 6 rfl fun K hK => ?_
     refine z0l 1 rfl rowE H.out rfl rfl rfl rfl ?_
     intro ws HS
     simp only [qb, qc] at HS
     replace H := Lib.hid HS
     clear hH
     refine hK.out _ _ ⟨H.out.row 5 rfl, H.out.row 4 rfl⟩ fun hH => ?_
     clear hK K HS
     try simp only [qa]
     refine rd1 7 rfl fun K hK => ?_
     refine z0l 0 rfl rowE H.out rfl rfl rfl rfl ?_
     intro ws HS
     simp only [qb] at HS
     replace H := Lib.hid HS
     clear hH
     refine hK.out _ _ ⟨H.out.row 5 rfl, H.out.row 4 rfl⟩ fun hH => ?_
     clear hK K HS
     try simp only [qa]
     try simp only [Act.put]
     refine wpAnyH_done (by kernel_rfl) ?_ _
     refine NoPanic.normal ?_
     clear hH
     replace H := Lib.hid (H.out.front (x := (g6, Blk 29 .u64 8 (NZ h9))) 1 rfl)
     go_wp2_with fail
     go_meet
     exact ⟨g6, g7, h9, h11, rfl, rfl, HV9.out, HV11.out, H.out⟩
   ·skip
    refine z0c 7 rfl nilE H.out rfl ?_
    intro w7 g7 H3 hb
    replace H := Lib.hid H3
    clear hH
    refine hK.out _ _ ⟨H.out.row 5 rfl, H.out.row 4 rfl⟩ fun hH => ?_
    clear hK K H3 hb
    try simp only [Act.put, qa, qb, qc]
    refine rd1 1 rfl fun K hK => ?_
    go_simp
    refine (z0m _ EA.out).mono ?_
    rintro e wc ⟨h9, rfl, hv, hb⟩
    replace H := hcall H hb
    have HV9 := Lib.hid hv
    clear hH
    refine hK.out _ _ ⟨H.out.row 5 rfl, H.out.row 4 rfl⟩ fun hH => ?_
    clear hK K hb hv
    try simp only [Act.put, qa, qb, qc]
    refine rd1 3 rfl fun K hK => ?_
    go_simp
    refine (z0m _ EB.out).mono ?_
    rintro e wc ⟨h11, rfl, hv, hb⟩
    replace H := hcall H hb
    have HV11 := Lib.hid hv
    clear hH
    refine hK.out _ _ ⟨H.out.row 5 rfl, H.out.row 4 rfl⟩ fun hH => ?_
    clear hK K hb hv
    try simp only [Act.put, qa, qb, qc]
    refine rd1 6 rfl fun K hK => ?_
    refine z0l 1 rfl rowE H.out rfl rfl rfl rfl ?_
    intro ws HS
    simp only [qb, qc] at HS
    replace H := Lib.hid HS
    clear hH
    refine hK.out _ _ ⟨H.out.row 5 rfl, H.out.row 4 rfl⟩ fun hH => ?_
    clear hK K HS
    try simp only [qa]
    refine rd1 7 rfl fun K hK => ?_
    refine z0l 0 rfl rowE H.out rfl rfl rfl rfl ?_
    intro ws HS
    simp only [qb] at HS
    replace H := Lib.hid HS
    clear hH
    refine hK.out _ _ ⟨H.out.row 5 rfl, H.out.row 4 rfl⟩ fun hH => ?_
    clear hK K HS
    try simp only [qa]
    try simp only [Act.put]
    refine wpAnyH_done (by kernel_rfl) ?_ _
    refine NoPanic.normal ?_
    clear hH
    replace H := Lib.hid (H.out.front (x := (g6, Blk 29 .u64 8 (NZ h9))) 1 rfl)
    go_wp2_with fail
    go_meet
    exact ⟨g6, g7, h9, h11, rfl, rfl, HV9.out, HV11.out, H.out⟩
  ·skip
   refine z0c 7 rfl nilE H.out rfl ?_
   intro w7 g7 H3 hb
   replace H := Lib.hid H3
   clear hH
   refine hK.out _ _ ⟨H.out.row 4 rfl, H.out.row 3 rfl⟩ fun hH => ?_
   clear hK K H3 hb
   try simp only [Act.put, qa, qb, qc]
   refine rdn [1, 4] (rdc rfl (fun K hK => ?_) (rdc rfl (fun K hK => ?_) rdz))
   ·skip
    go_simp
    refine (z0m _ EA.out).mono ?_
    rintro e wc ⟨h9, rfl, hv, hb⟩
    replace H := hcall H hb
    have HV9 := Lib.hid hv
    clear hH
    refine hK.out _ _ ⟨H.out.row 4 rfl, H.out.row 3 rfl⟩ fun hH => ?_
    clear hK K hb hv
    try simp only [Act.put, qa, qb, qc]
    refine rdn [3, 4] (rdc rfl (fun K hK => ?_) (rdc rfl (fun K hK => ?_) rdz))
    ·skip
     go_simp
     refine (z0m _ EB.out).mono ?_
     rintro e wc ⟨h11, rfl, hv, hb⟩
     replace H := hcall H hb
     have HV11 := Lib.hid hv
     clear hH
     refine hK.out _ _ ⟨H.out.row 4 rfl, H.out.row 3 rfl⟩ fun hH => ?_
     clear hK K hb hv
     try simp only [Act.put, qa, qb, qc]
     refine rd1 4 rfl fun K hK => ?_
     refine z0c 6 rfl nilE H.out rfl ?_
     intro w6 g6 H3 hb
     replace H := Lib.hid H3
     clear hH
     refine hK.out _ _ ⟨H.out.row 5 rfl, H.out.row 4 rfl⟩ fun hH => ?_
     clear hK K H3 hb
     try simp only [Act.put, qa, qb, qc]
     refine rd1 6 rfl fun K hK => ?_
     refine z0l 0 rfl rowE H.out rfl rfl rfl rfl ?_
     intro ws HS
     simp only [qb] at HS
     replace H := Lib.hid HS
     clear hH
     refine hK.out _ _ ⟨H.out.row 5 rfl, H.out.row 4 rfl⟩ fun hH => ?_
     clear hK K HS
     try simp only [qa]
     refine rd1 7 rfl fun K hK => ?_
     refine z0l 1 rfl rowE H.out rfl rfl rfl rfl ?_
     intro ws HS
     simp only [qb, qc] at HS
     replace H := Lib.hid HS
     clear hH
     refine hK.out _ _ ⟨H.out.row 5 rfl, H.out.row 4 rfl⟩ fun hH => ?_
     clear hK K HS
     try simp only [qa]
     try simp only [Act.put]
     refine wpAnyH_done (by kernel_rfl) ?_ _
     refine NoPanic.normal ?_
     clear hH
     replace H := Lib.hid (H.out.front (x := (g7, Blk 29 .u64 8 (NZ h11))) 1 rfl)
     replace H := Lib.hid (H.out.front (x := (g6, Blk 29 .u64 8 (NZ h9))) 1 rfl)
     go_wp2_with fail
     go_meet
     exact ⟨g6, g7, h9, h11, rfl, rfl, HV9.out, HV11.out, H.out⟩
    ·skip
     refine z0c 6 rfl nilE H.out rfl ?_
     intro w6 g6 H3 hb
     replace H := Lib.hid H3
     clear hH
     refine hK.out _ _ ⟨H.out.row 5 rfl, H.out.row 4 rfl⟩ fun hH => ?_
     clear hK K H3 hb
     try simp only [Act.put, qa, qb, qc]
     refine rd1 3 rfl fun K hK => ?_
     go_simp
     refine (z0m _ EB.out).mono ?_
     rintro e wc ⟨h11, rfl, hv, hb⟩
     replace H := hcall H hb
     have HV11 := Lib.hid hv
     clear hH
     refine hK.out _ _ ⟨H.out.row 5 rfl, H.out.row 4 rfl⟩ fun hH => ?_
     clear hK K hb hv
     try simp only [Act.put, qa, qb, qc]
     refine rd1 6 rfl fun K hK => ?_
     refine z0l 0 rfl rowE H.out rfl rfl rfl rfl ?_
     intro ws HS
     simp only [qb] at HS
     replace H := Lib.hid HS
     clear hH
     refine hK.out _ _ ⟨H.out.row 5 rfl, H.out.row 4 rfl⟩ fun hH => ?_
     clear hK K HS
     try simp only [qa]
     refine rd1 7 rfl fun K hK => ?_
     refine z0l 1 rfl rowE H.out rfl rfl rfl rfl ?_
     intro ws HS
     simp only [qb, qc] at HS
     replace H := Lib.hid HS
     clear hH
     refine hK.out _ _ ⟨H.out.row 5 rfl, H.out.row 4 rfl⟩ fun hH => ?_
     clear hK K HS
     try simp only [qa]
     try simp only [Act.put]
     refine wpAnyH_done (by kernel_rfl) ?_ _
     refine NoPanic.normal ?_
     clear hH
     replace H := Lib.hid (H.out.front (x := (g7, Blk 29 .u64 8 (NZ h11))) 1 rfl)
     replace H := Lib.hid (H.out.front (x := (g6, Blk 29 .u64 8 (NZ h9))) 1 rfl)
     go_wp2_with fail
     go_meet
     exact ⟨g6, g7, h9, h11, rfl, rfl, HV9.out, HV11.out, H.out⟩
   ·skip
    refine z0c 6 rfl nilE H.out rfl ?_
    intro w6 g6 H3 hb
    replace H := Lib.hid H3
    clear hH
    refine hK.out _ _ ⟨H.out.row 5 rfl, H.out.row 4 rfl⟩ fun hH => ?_
    clear hK K H3 hb
    try simp only [Act.put, qa, qb, qc]
    refine rd1 1 rfl fun K hK => ?_
    go_simp
    refine (z0m _ EA.out).mono ?_
    rintro e wc ⟨h9, rfl, hv, hb⟩
    replace H := hcall H hb
    have HV9 := Lib.hid hv
    clear hH
    refine hK.out _ _ ⟨H.out.row 5 rfl, H.out.row 4 rfl⟩ fun hH => ?_
    clear hK K hb hv
    try simp only [Act.put, qa, qb, qc]
    refine rd1 3 rfl fun K hK => ?_
    go_simp
    refine (z0m _ EB.out).mono ?_
    rintro e wc ⟨h11, rfl, hv, hb⟩
    replace H := hcall H hb
    have HV11 := Lib.hid hv
    clear hH
    refine hK.out _ _ ⟨H.out.row 5 rfl, H.out.row 4 rfl⟩ fun hH => ?_
    clear hK K hb hv
    try simp only [Act.put, qa, qb, qc]
    refine rd1 6 rfl fun K hK => ?_
    refine z0l 0 rfl rowE H.out rfl rfl rfl rfl ?_
    intro ws HS
    simp only [qb] at HS
    replace H := Lib.hid HS
    clear hH
    refine hK.out _ _ ⟨H.out.row 5 rfl, H.out.row 4 rfl⟩ fun hH => ?_
    clear hK K HS
    try simp only [qa]
    refine rd1 7 rfl fun K hK => ?_
    refine z0l 1 rfl rowE H.out rfl rfl rfl rfl ?_
    intro ws HS
    simp only [qb, qc] at HS
    replace H := Lib.hid HS
    clear hH
    refine hK.out _ _ ⟨H.out.row 5 rfl, H.out.row 4 rfl⟩ fun hH => ?_
    clear hK K HS
    try simp only [qa]
    try simp only [Act.put]
    refine wpAnyH_done (by kernel_rfl) ?_ _
    refine NoPanic.normal ?_
    clear hH
    replace H := Lib.hid (H.out.front (x := (g7, Blk 29 .u64 8 (NZ h11))) 1 rfl)
    replace H := Lib.hid (H.out.front (x := (g6, Blk 29 .u64 8 (NZ h9))) 1 rfl)
    go_wp2_with fail
    go_meet
    exact ⟨g6, g7, h9, h11, rfl, rfl, HV9.out, HV11.out, H.out⟩
 clear H
 obtain ⟨g6, g7, h9, h11, rfl, rfl, hv9, hv11, HRR⟩ := hcut
 have HV9 := Lib.hid hv9
 have HV11 := Lib.hid hv11
 have H := Lib.hid HRR
 clear HRR hv9 hv11
 go_upto_region 2 with fail
 refine wp_region_noPanic ?_
 refine wp_region_held_drew (S := fun W => W.heap[g7]? = some (Blk 29 .u64 8 (NZ h11)) ∧ W.heap[g6]? = some (Blk 29 .u64 8 (NZ h9))) (by kernel_rfl) (⟨H.out.drew.row 1 rfl, H.out.drew.row 0 rfl⟩) (fun hH => ?_)
 replace H := Lib.hid H.out.drew
 generalize World.drew _ = w8 at *
 refine z0f 0 12 rowE rfl rfl rfl hH rfl rfl (fun _ h => h.1) ?_
 try simp only [Act.put, qa, qb, qc]
 refine z0f 1 13 rowE rfl rfl rfl hH rfl rfl (fun _ h => h.2) ?_
 try simp only [Act.put, qa, qb, qc]
 refine z0f 3 15 rowE rfl rfl rfl hH rfl rfl (fun _ h => h.1) ?_
 try simp only [Act.put, qa, qb, qc]
 refine z0f 4 16 rowE rfl rfl rfl hH rfl rfl (fun _ h => h.2) ?_
 try simp only [Act.put, qa, qb, qc]
 refine rd1 2 rfl fun K hK => ?_
 go_simp
 refine (add_k _ HV11.out HV9.out).mono ?_
 rintro e wc ⟨h14, rfl, hv, hb⟩
 replace H := hcall H hb
 have HV14 := Lib.hid hv
 clear hH
 refine hK.out _ _ ⟨H.out.row 1 rfl, H.out.row 0 rfl⟩ fun hH => ?_
 clear hK K hb hv
 try simp only [Act.put, qa, qb, qc]
 refine rd1 5 rfl fun K hK => ?_
 go_simp
 refine (sub_k _ (HT.out.below H.out.bel) HV11.out HV9.out).mono ?_
 rintro e wc ⟨h17, rfl, hv, hb⟩
 replace H := hcall H hb
 have HV17 := Lib.hid hv
 clear hH
 refine hK.out _ _ ⟨H.out.row 1 rfl, H.out.row 0 rfl⟩ fun hH => ?_
 clear hK K hb hv
 try simp only [Act.put, qa, qb, qc]
 refine rd1 6 rfl fun K hK => ?_
 refine z0l 3 rfl rowE H.out rfl rfl rfl rfl ?_
 intro ws HS
 simp only [qb, qc] at HS
 replace H := Lib.hid HS
 clear hH
 refine hK.out _ _ ⟨H.out.row 1 rfl, H.out.row 0 rfl⟩ fun hH => ?_
 clear hK K HS
 try simp only [qa]
 refine rd1 7 rfl fun K hK => ?_
 refine z0l 2 rfl rowE H.out rfl rfl rfl rfl ?_
 intro ws HS
 simp only [qb, qc] at HS
 replace H := Lib.hid HS
 clear hH
 refine hK.out _ _ ⟨H.out.row 1 rfl, H.out.row 0 rfl⟩ fun hH => ?_
 clear hK K HS
 try simp only [qa]
 try simp only [Act.put]
 refine wpAnyH_done (by kernel_rfl) ?_ _
 refine NoPanic.normal ?_
 clear hH
 go_wp2_with fail
 exact bodyPost_ret (z3i 3 2 rowE rowE rfl _ H rfl rfl rfl rfl) rfl ⟨_, _, rfl, HV14.out, HV17.out, H.out.bel⟩
theorem bent13_k {f g h i : Nat → Nat} {x u y v : K} (w : World) (hT : Tp w) (hf : EK f x) (hg : EK g u) (hh : EK h y) (hi : EK i v) :
  Calls Tryz.prog 59 #[EV f, EV g, EV h, EV i] w fun e w' => ∃ r, e = .returned (EV r) ∧ EK r (x * u * y * v * ofZ 39082) ∧ Below w.heap.size w w' := by
 have HT := Lib.hid hT
 clear hT
 have EA := Lib.hid hf
 have EB := Lib.hid hg
 have EC := Lib.hid hh
 have ED := Lib.hid hi
 clear hf hg hh hi
 have H := Lib.hid (Ow.start w)
 go_enter Tryz.func59, Tryz.ntmps59
 go_wp2_with (first
  | ((fail_if_success have := g4); (fail_if_success have := g4); (with_reducible apply z0h H); (case hgd | ho | hx => exact rfl); clear H; intro w4 g4 H _ _; go_simp)
  | ((fail_if_success have := g5); (fail_if_success have := g5); (with_reducible apply z0h H); (case hgd | ho | hx => exact rfl); clear H; intro w5 g5 H _ _; go_simp)
  | ((fail_if_success have := g6); (fail_if_success have := g6); (with_reducible apply z0h H); (case hgd | ho | hx => exact rfl); clear H; intro w6 g6 H _ _; go_simp)
  | ((fail_if_success have := g7); (fail_if_success have := g7); (with_reducible apply z0h H); (case hgd | ho | hx => exact rfl); clear H; intro w7 g7 H _ _; go_simp)
  | ((fail_if_success have := g8); (with_reducible apply z0b nilE H); (case hgd | ho => exact rfl); clear H; intro w8 g8 H _ _; go_simp)
  | ((with_reducible apply z0g rowE H); (case hgd | ho | hx => exact rfl); (case hi => repeat first|exact at0|apply atS); intro _ _; go_simp)
  | ((fail_if_success have := gq); (with_reducible apply own_build3E H); (case hgd | ho | hx | hy | hz => exact rfl); clear H; intro wq gq H _ _; go_simp)
  | ((fail_if_success have := V1); (with_reducible refine (product_3 _ EA.out (H.out.row 0 rfl) EB.out EC.out ED.out).mono ?_); rintro e wc ⟨h1, rfl, hv, hb⟩; replace H := hcall H hb; clear hb; have V1 := Lib.hid hv; clear hv)
  | ((fail_if_success have := V2); (with_reducible refine (z3k 39082 _ (HT.out.below H.out.bel) V1.out (by omega) (by omega)).mono ?_); rintro e wc ⟨h2, rfl, hv, hb⟩; replace H := hcall H hb; clear hb; have V2 := Lib.hid hv; clear hv)
  | ((with_reducible apply z0e rowE H); (case hgd | ho | hx | hy => exact rfl); (case hi => repeat first|exact at0|apply atS); clear H; intro ws H _ _; simp only [qb, qc] at H; go_simp))
 exact bodyPost_ret (z0i 1 rowE rfl _ H rfl rfl) rfl ⟨_, rfl, V2.out, H.out.bel⟩
theorem cross13_k {f g h i : Nat → Nat} {a b c d : K} (w : World) (hT : Tp w) (hf : EK f a) (hg : EK g b) (hh : EK h c) (hi : EK i d) :
  Calls Tryz.prog 51 #[EV f, EV g, EV h, EV i] w fun e w' => ∃ r s, e = .returned (.tuple #[EV r, EV s]) ∧ EK r (a * b * ofZ 2 * inv c) ∧ EK s (d * inv (ofZ 2 - d)) ∧ Below w.heap.size w w' := by
 have HT := Lib.hid hT
 clear hT
 have EA := Lib.hid hf
 have EB := Lib.hid hg
 have EC := Lib.hid hh
 have ED := Lib.hid hi
 clear hf hg hh hi
 have H := Lib.hid (Ow.start w)
 go_enter Tryz.func51, Tryz.ntmps51
 go_wp2_with (first
  | ((fail_if_success have := g4); (fail_if_success have := g4); (with_reducible apply z0h H); (case hgd | ho | hx => exact rfl); clear H; intro w4 g4 H _ _; go_simp)
  | ((fail_if_success have := g5); (fail_if_success have := g5); (with_reducible apply z0h H); (case hgd | ho | hx => exact rfl); clear H; intro w5 g5 H _ _; go_simp)
  | ((fail_if_success have := g6); (fail_if_success have := g6); (with_reducible apply z0h H); (case hgd | ho | hx => exact rfl); clear H; intro w6 g6 H _ _; go_simp)
  | ((fail_if_success have := g7); (fail_if_success have := g7); (with_reducible apply z0h H); (case hgd | ho | hx => exact rfl); clear H; intro w7 g7 H _ _; go_simp)
  | ((fail_if_success have := g8); (fail_if_success have := g8); (with_reducible apply z0b nilE H); (case hgd | ho => exact rfl); clear H; intro w8 g8 H _ _; go_simp)
  | ((fail_if_success have := g9); (fail_if_success have := g9); (with_reducible apply z0b nilE H); (case hgd | ho => exact rfl); clear H; intro w9 g9 H _ _; go_simp))
 refine wp_region_noPanic ?_
 refine wp_region_held_drew (S := fun W => W.heap[g4]? = some (Blk 29 .u64 8 (NZ f)) ∧ W.heap[g5]? = some (Blk 29 .u64 8 (NZ g)) ∧ W.heap[g6]? = some (Blk 29 .u64 8 (NZ h)) ∧ W.heap[g7]? = some (Blk 29 .u64 8 (NZ i))) (by kernel_rfl) (⟨H.out.drew.row 5 rfl, H.out.drew.row 4 rfl, H.out.drew.row 3 rfl, H.out.drew.row 2 rfl⟩) (fun hH => ?_)
 replace H := Lib.hid H.out.drew
 generalize World.drew _ = w8 at *
 refine z0f 0 10 rowE rfl rfl rfl hH rfl rfl (fun _ h => h.1) ?_
 try simp only [Act.put, qa, qb, qc]
 refine z0f 1 11 rowE rfl rfl rfl hH rfl rfl (fun _ h => h.2.1) ?_
 try simp only [Act.put, qa, qb, qc]
 refine z0f 5 15 rowE rfl rfl rfl hH rfl rfl (fun _ h => h.2.2.1) ?_
 try simp only [Act.put, qa, qb, qc]
 refine z0f 7 17 rowE rfl rfl rfl hH rfl rfl (fun _ h => h.2.2.2) ?_
 try simp only [Act.put, qa, qb, qc]
 refine z0f 9 19 rowE rfl rfl rfl hH rfl rfl (fun _ h => h.2.2.2) ?_
 try simp only [Act.put, qa, qb, qc]
 refine rd1 2 rfl fun K hK => ?_
 refine own_wp_build1E 12 rfl H.out rfl rfl ?_
 intro w12 g12 H3 hb
 replace H := Lib.hid H3
 clear hH
 refine hK.out _ _ ⟨H.out.row 6 rfl, H.out.row 5 rfl, H.out.row 4 rfl, H.out.row 3 rfl⟩ fun hH => ?_
 clear hK K H3 hb
 try simp only [Act.put, qa, qb, qc]
 refine rd1 3 rfl fun K hK => ?_
 go_simp
 refine (product_1 _ EA.out (H.out.row 0 rfl) EB.out).mono ?_
 rintro e wc ⟨h13, rfl, hv, hb⟩
 replace H := hcall H hb
 have HV13 := Lib.hid hv
 clear hH
 refine hK.out _ _ ⟨H.out.row 6 rfl, H.out.row 5 rfl, H.out.row 4 rfl, H.out.row 3 rfl⟩ fun hH => ?_
 clear hK K hb hv
 try simp only [Act.put, qa, qb, qc]
 refine rd1 4 rfl fun K hK => ?_
 go_simp
 refine (z3k (2) _ (HT.out.below H.out.bel) HV13.out (by omega) (by omega)).mono ?_
 rintro e wc ⟨h14, rfl, hv, hb⟩
 replace H := hcall H hb
 have HV14 := Lib.hid hv
 clear hH
 refine hK.out _ _ ⟨H.out.row 6 rfl, H.out.row 5 rfl, H.out.row 4 rfl, H.out.row 3 rfl⟩ fun hH => ?_
 clear hK K hb hv
 try simp only [Act.put, qa, qb, qc]
 refine rd1 6 rfl fun K hK => ?_
 go_simp
 refine (z68 _ HV14.out EC.out).mono ?_
 rintro e wc ⟨h16, rfl, hv, hb⟩
 replace H := hcall H hb
 have HV16 := Lib.hid hv
 clear hH
 refine hK.out _ _ ⟨H.out.row 6 rfl, H.out.row 5 rfl, H.out.row 4 rfl, H.out.row 3 rfl⟩ fun hH => ?_
 clear hK K hb hv
 try simp only [Act.put, qa, qb, qc]
 refine rd1 8 rfl fun K hK => ?_
 go_simp
 refine (int_k (2) _ (HT.out.below H.out.bel) (by omega) (by omega)).mono ?_
 rintro e wc ⟨h18, rfl, hv, hb⟩
 replace H := hcall H hb
 have HV18 := Lib.hid hv
 clear hH
 refine hK.out _ _ ⟨H.out.row 6 rfl, H.out.row 5 rfl, H.out.row 4 rfl, H.out.row 3 rfl⟩ fun hH => ?_
 clear hK K hb hv
 try simp only [Act.put, qa, qb, qc]
 refine rd1 10 rfl fun K hK => ?_
 go_simp
 refine (sub_k _ (HT.out.below H.out.bel) HV18.out ED.out).mono ?_
 rintro e wc ⟨h20, rfl, hv, hb⟩
 replace H := hcall H hb
 have HV20 := Lib.hid hv
 clear hH
 refine hK.out _ _ ⟨H.out.row 6 rfl, H.out.row 5 rfl, H.out.row 4 rfl, H.out.row 3 rfl⟩ fun hH => ?_
 clear hK K hb hv
 try simp only [Act.put, qa, qb, qc]
 refine rd1 11 rfl fun K hK => ?_
 go_simp
 refine (z68 _ ED.out HV20.out).mono ?_
 rintro e wc ⟨h21, rfl, hv, hb⟩
 replace H := hcall H hb
 have HV21 := Lib.hid hv
 clear hH
 refine hK.out _ _ ⟨H.out.row 6 rfl, H.out.row 5 rfl, H.out.row 4 rfl, H.out.row 3 rfl⟩ fun hH => ?_
 clear hK K hb hv
 try simp only [Act.put, qa, qb, qc]
 refine rd1 12 rfl fun K hK => ?_
 refine z0l 2 rfl rowE H.out rfl rfl rfl rfl ?_
 intro ws HS
 simp only [qb, qc] at HS
 replace H := Lib.hid HS
 clear hH
 refine hK.out _ _ ⟨H.out.row 6 rfl, H.out.row 5 rfl, H.out.row 4 rfl, H.out.row 3 rfl⟩ fun hH => ?_
 clear hK K HS
 try simp only [qa]
 refine rd1 13 rfl fun K hK => ?_
 refine z0l 1 rfl rowE H.out rfl rfl rfl rfl ?_
 intro ws HS
 simp only [qb, qc] at HS
 replace H := Lib.hid HS
 clear hH
 refine hK.out _ _ ⟨H.out.row 6 rfl, H.out.row 5 rfl, H.out.row 4 rfl, H.out.row 3 rfl⟩ fun hH => ?_
 clear hK K HS
 try simp only [qa]
 try simp only [Act.put]
 refine wpAnyH_done (by kernel_rfl) ?_ _
 refine NoPanic.normal ?_
 clear hH
 go_wp2_with fail
 exact bodyPost_ret (z3i 2 1 rowE rowE rfl _ H rfl rfl rfl rfl) rfl ⟨_, _, rfl, HV16.out, HV21.out, H.out.bel⟩
abbrev T2 (v : Nat → Int) : Value := .agg (AZ .i64 32 v)
section
variable {ops : Array Oper} {rest : List Oper} {o : Oper} {a : Act} {w : World} {Q : Exit → Act → World → Prop}
end
section
variable {md : Region.Mode} {ops : Array Oper} {Q : Exit → Act → World → Prop} {S : World → Prop} {fuel : Nat} {listed : Array Bool} {a : Act} {w : World}
end
end Go.Proofs.YtoeokhfhcpcjlaaGreatDoor
