/-
 The law's own functions, and the reference's On. No statement is proved here: lemmas for the walks.
-/
import Derived.Test.YtoeokhfhcpcjlaaGreatDoorZTwGo3
import Derived.Test.YtoeokhfhcpcjlaaGreatDoorZTwRef
import Derived.Test.YtoeokhfhcpcjlaaGreatDoorZCbMade
import Derived.Test.YtoeokhfhcpcjlaaGreatDoorBuX
import Derived.Test.YtoeokhfhcpcjlaaGreatDoorBuB
import Derived.Test.YtoeokhfhcpcjlaaGreatDoorBuQ
import Derived.Deep.CutRange
set_option maxRecDepth 8000
set_option maxHeartbeats 3200000
namespace Go.Proofs.YtoeokhfhcpcjlaaGreatDoor
open Go.RowKit
abbrev PP2 (v : Nat → Int) : Value := .agg (AZ .u64 48 v)
theorem z5h {f g : Nat → Int} : Part .u64 48 (t2 24 f g) 0 24 f := ⟨by omega, z0x fun i hi => by unfold t2; rw [Nat.zero_add, if_pos hi]⟩
theorem z8b {f g : Nat → Int} : Part .u64 48 (t2 24 f g) 24 24 g := ⟨by omega, z0x fun i hi => by unfold t2; rw [if_neg (by omega), show 24 + i - 24 = i by omega]⟩
theorem rowPP : IsRow Tryz.prog 56 48 := ⟨⟨_, Tryz.underlying56, rfl⟩, by kernel_rfl⟩
theorem nilPP (w : World) : (zeroValue 56).run Tryz.prog w = .ok (.agg (AZ .u64 48 fun _ => 0)) w :=
 (show AZ .u64 48 (fun _ => 0) = Array.replicate 48 (.int .u64 0) by unfold AZ; rfl) ▸ (zero_of_info (show (Tryz.prog.info? 56).map (fun i => (i.zero, i.size)) = some (some (.agg (Array.replicate 48 (.int .u64 0))), 48) by kernel_rfl)).1 w
theorem built_PP (f g : Nat → Int) (w : World) : (Instr.build 56 #[(0, .agg (AZ .u64 24 f)), (1, .agg (AZ .u64 24 g))]).run Tryz.prog w = .ok (.agg (AZ .u64 48 (t2 24 f g))) w :=
 run_build w _ _ _ (by kernel_rfl)
section
variable {md : Region.Mode} {ops : Array Oper} {Q : Exit → Act → World → Prop} {S : World → Prop} {fuel : Nat} {listed : Array Bool} {a : Act} {w : World}
theorem y04 (i : Nat) (d : Tmp) {oi : Oper} (hi : ops[i]? = some oi) (hd : oi.dst = some d) (hw : Region.wanted oi (yielded ops a.tmps) = true) (hS : S w) {x y : Operand} (ho : oi.op = .build 56 #[(0, x), (1, y)])
  {f g : Nat → Int} (hx : a.eval x = .agg (AZ .u64 24 f)) (hy : a.eval y = .agg (AZ .u64 24 g))
  (hN : wpAnyH Tryz.prog md ops (NoPanic Q) S fuel (listed.setIfInBounds i true) (a.put (some d) (.agg (AZ .u64 48 (t2 24 f g)))) w) (hs : Region.noSelect ops = true := by kernel_rfl) (hf : Region.free md ops listed i = true := by kernel_rfl) (hr : (Region.ready md ops listed).contains i = true := by kernel_rfl) : wpAnyH Tryz.prog md ops (NoPanic Q) S (fuel + 1) listed a w :=
 z0a i d (.agg (AZ .u64 48 (t2 24 f g))) hi hd (hs := hs) (hf := hf) (hr := hr) hw hS (fun w _ => by
  unfold execOp
  simp only [ho, List.map_toArray, List.map_cons, List.map_nil, hx, hy, Sem.run_bind, built_PP, Result.andThen_ok]
  rfl) hN
end
abbrev QQ2 (v : Nat → Int) : Value := .agg (AZ .i64 96 v)
theorem rowQQ : IsRow Tryz.prog 57 96 := ⟨⟨_, Tryz.underlying57, rfl⟩, by kernel_rfl⟩
theorem nilQQ (w : World) : (zeroValue 57).run Tryz.prog w = .ok (.agg (AZ .i64 96 fun _ => 0)) w :=
 (show AZ .i64 96 (fun _ => 0) = Array.replicate 96 (.int .i64 0) by unfold AZ; rfl) ▸ (zero_of_info (show (Tryz.prog.info? 57).map (fun i => (i.zero, i.size)) = some (some (.agg (Array.replicate 96 (.int .i64 0))), 96) by kernel_rfl)).1 w
theorem built_QQ (f g : Nat → Int) (w : World) : (Instr.build 57 #[(0, .agg (AZ .i64 48 f)), (1, .agg (AZ .i64 48 g))]).run Tryz.prog w = .ok (.agg (AZ .i64 96 (t2 48 f g))) w :=
 run_build w _ _ _ (by kernel_rfl)
section
variable {md : Region.Mode} {ops : Array Oper} {Q : Exit → Act → World → Prop} {S : World → Prop} {fuel : Nat} {listed : Array Bool} {a : Act} {w : World}
theorem y03 (i : Nat) (d : Tmp) {oi : Oper} (hi : ops[i]? = some oi) (hd : oi.dst = some d) (hw : Region.wanted oi (yielded ops a.tmps) = true) (hS : S w) {x y : Operand} (ho : oi.op = .build 57 #[(0, x), (1, y)])
  {f g : Nat → Int} (hx : a.eval x = .agg (AZ .i64 48 f)) (hy : a.eval y = .agg (AZ .i64 48 g))
  (hN : wpAnyH Tryz.prog md ops (NoPanic Q) S fuel (listed.setIfInBounds i true) (a.put (some d) (.agg (AZ .i64 96 (t2 48 f g)))) w) (hs : Region.noSelect ops = true := by kernel_rfl) (hf : Region.free md ops listed i = true := by kernel_rfl) (hr : (Region.ready md ops listed).contains i = true := by kernel_rfl) : wpAnyH Tryz.prog md ops (NoPanic Q) S (fuel + 1) listed a w :=
 z0a i d (.agg (AZ .i64 96 (t2 48 f g))) hi hd (hs := hs) (hf := hf) (hr := hr) hw hS (fun w _ => by
  unfold execOp
  simp only [ho, List.map_toArray, List.map_cons, List.map_nil, hx, hy, Sem.run_bind, built_QQ, Result.andThen_ok]
  rfl) hN
end
section
variable {P : Program} {ops : Array Oper} {rest : List Oper} {o : Oper} {a : Act} {w w0 : World} {l : List (Nat × Obj)} {Q : Exit → Act → World → Prop} {t ty : TypeId} {u v : Value} {C : Array Value}
theorem own_loadCC {i j : Nat} (hT : IsRow P ty 2) (H : Hid (Ow w0 w l)) (hgd : o.guard = none) {x : Operand} (ho : o.op = .load ty x) {g : Nat} (hx : a.eval x = .pointer (some ⟨g, j, none⟩))
  (hi : l[i]? = some (g, Cs t C)) (h0 : C[j]? = some u) (h1 : C[j + 1]? = some v) (h : ∀ K : Act → World → Prop, (∀ a w, wpList P ops Q rest a w → K a w) → K (a.put o.dst (.agg #[u, v])) w) : wpList P ops Q (o :: rest) a w :=
 wpList_plain hgd fun K hK => by
  obtain ⟨d, hd, hd'⟩ := hT.under
  have hr := H.out.row i hi
  have hrun := run_loadAt_mid (P := P) w g j ty [u, v] d (fun q y hq => by
   rcases (by omega : q = 0 ∨ q = 1 ∨ 2 ≤ q) with rfl | rfl | h2
   ·cases hq
    exact z6y hr h0
   ·cases hq
    exact z6y hr h1
   ·rw [List.getElem?_eq_none (by simpa using h2)] at hq
    cases hq) hd (by cases d <;> simp_all) hT.size
  unfold Oper.wp execOp
  simp only [ho, hx, Sem.run_bind, hrun, Result.andThen_ok]
  exact h K hK
end
theorem z5d (x : K) (w : World) : Calls Tryz.prog 36 #[FV x.val] w fun e w' => ∃ g c, e = .returned (.slice (some ⟨g, 0, none⟩) 56 c) ∧ Sb w' w'.heap.size (some ⟨g, 0, none⟩) 56 c x.val ∧ Below w.heap.size w w' :=
 (z4t x.val w).mono fun e w' ⟨v, he, ⟨g, c, hv, _, hs⟩, hb⟩ => ⟨g, c, by rw [he, hv], ⟨by rw [← bX_bt]; exact hs, z7l x⟩, hb⟩
theorem z7r {a : Option Addr} {c y : Nat} (w : World) (hs : Sb w w.heap.size a 56 c y) :
  Calls Tryz.prog 35 #[.slice a 56 c] w fun e w' => ∃ h, e = .returned (.tuple #[EV h, .int .i64 0]) ∧ EK h (cN pN y) ∧ Below w.heap.size w w' :=
 (y0s a c (bt y) w hs.sl).mono fun _ _ ⟨he, hb⟩ => ⟨_, he, (by
  have h := of_v (bt y)
  rw [nB_bt, Nat.mod_eq_of_lt hs.fits] at h
  exact h), hb⟩
theorem z66 {a1 a2 : Option Addr} {n1 c1 x1 n2 c2 x2 : Nat} {z1 z2 : Int} {o1 o2 b : Bool} (hb : (o1 && o2) = b) (ok1 : okS n1 z1 = o1) (ok2 : okS n2 z2 = o2) (w : World) (hT : Tp w) (hs1 : Sb w w.heap.size a1 n1 c1 x1) (hs2 : Sb w w.heap.size a2 n2 c2 x2) :
  Calls Tryz.prog 17 #[.agg #[.slice a1 n1 c1, .int .i64 z1, .slice a2 n2 c2, .int .i64 z2]] w fun e w' => ∃ v u r s P Q, e = .returned (.tuple #[PP2 (t2 24 v u), QQ2 (t2 48 r s), .bool b]) ∧ PtK v P ∧ PtK u Q ∧ RfK r P ∧ RfK s Q ∧ Below w.heap.size w w' := by
 subst hb
 have HS1 := Lib.hid hs1
 have HS2 := Lib.hid hs2
 have OK1 := Lib.hid ok1
 have OK2 := Lib.hid ok2
 clear hs1 hs2 ok1 ok2
 have HT := Lib.hid hT
 clear hT
 have H := Lib.hid (Ow.start w)
 go_enter Tryz.func17, Tryz.ntmps17
 go_upto_region 3 with (first
  | ((fail_if_success have := g1); (with_reducible apply z15 H); (case hgd | ho | hx => exact rfl); clear H; intro w1 g1 H _ _; go_simp)
  | ((fail_if_success have := g2); (with_reducible apply z0b nilPP H); (case hgd | ho => exact rfl); clear H; intro w2 g2 H _ _; go_simp)
  | ((fail_if_success have := g3); (fail_if_success have := g3); (with_reducible apply z0b nilQQ H); (case hgd | ho => exact rfl); clear H; intro w3 g3 H _ _; go_simp)
  | ((with_reducible apply own_loadCC rowSpK H); (case hgd | ho | hx => exact rfl); (case hi => repeat first|exact at0|apply atS); (case h0 | h1 => exact rfl); intro _ _; go_simp)
  | ((fail_if_success have := mk1); (with_reducible refine (z6a OK1.out _ (HT.out.below H.out.bel) ((HS1.out.below H.out.bel).more H.out.bel.size)).mono ?_); rintro e wc ⟨v1, r1, P1, rfl, hv, hw, hb⟩; replace H := hcall H hb; have V1 := Lib.hid hv; have W1 := Lib.hid hw; have mk1 := trivial; clear hb hv hw)
  | ((fail_if_success have := mk2); (with_reducible refine (z6a OK2.out _ (HT.out.below H.out.bel) ((HS2.out.below H.out.bel).more H.out.bel.size)).mono ?_); rintro e wc ⟨v2, r2, P2, rfl, hv, hw, hb⟩; replace H := hcall H hb; have V2 := Lib.hid hv; have W2 := Lib.hid hw; have mk2 := trivial; clear hb hv hw)
  | ((fail_if_success have := g5); (fail_if_success have := g5); (with_reducible apply z0b nilPt H); (case hgd | ho => exact rfl); clear H; intro w5 g5 H _ _; go_simp)
  | ((fail_if_success have := g6); (fail_if_success have := g6); (with_reducible apply z0b nilQt H); (case hgd | ho => exact rfl); clear H; intro w6 g6 H _ _; go_simp)
  | ((fail_if_success have := g8); (fail_if_success have := g8); (with_reducible apply z0b nilPt H); (case hgd | ho => exact rfl); clear H; intro w8 g8 H _ _; go_simp)
  | ((fail_if_success have := g9); (fail_if_success have := g9); (with_reducible apply z0b nilQt H); (case hgd | ho => exact rfl); clear H; intro w9 g9 H _ _; go_simp)
  | ((with_reducible apply z0e rowPt H); (case hgd | ho | hx | hy => exact rfl); (case hi => repeat first|exact at0|apply atS); clear H; intro ws H _ _; simp only [qb, qc] at H; go_simp)
  | ((with_reducible apply z0e rowQt H); (case hgd | ho | hx | hy => exact rfl); (case hi => repeat first|exact at0|apply atS); clear H; intro ws H _ _; simp only [qb] at H; go_simp))
 clear mk1 mk2
 cases o1 with
 | true =>
  clear OK1 OK2
  refine wp_region_noPanic ?_
  refine wp_region_held_drew (S := fun W => W.heap[g5]? = some (Blk 38 .u64 24 (v1)) ∧ W.heap[g8]? = some (Blk 38 .u64 24 (v2)) ∧ W.heap[g6]? = some (Blk 40 .i64 48 (r1)) ∧ W.heap[g9]? = some (Blk 40 .i64 48 (r2))) (by kernel_rfl) (⟨H.out.drew.row 3 rfl, H.out.drew.row 1 rfl, H.out.drew.row 2 rfl, H.out.drew.row 0 rfl⟩) (fun hH => ?_)
  replace H := Lib.hid H.out.drew
  generalize World.drew _ = w8 at *
  refine z0f 0 25 rowPt rfl rfl rfl hH rfl rfl (fun _ h => h.1) ?_
  try simp only [Act.put, qa, qb, qc]
  refine z0f 1 26 rowPt rfl rfl rfl hH rfl rfl (fun _ h => h.2.1) ?_
  try simp only [Act.put, qa, qb, qc]
  refine y04 2 27 rfl rfl rfl hH rfl rfl rfl ?_
  try simp only [Act.put, qa, qb, qc]
  refine z0f 3 28 rowQt rfl rfl rfl hH rfl rfl (fun _ h => h.2.2.1) ?_
  try simp only [Act.put, qa, qb, qc]
  refine z0f 4 29 rowQt rfl rfl rfl hH rfl rfl (fun _ h => h.2.2.2) ?_
  try simp only [Act.put, qa, qb, qc]
  refine y03 5 30 rfl rfl rfl hH rfl rfl rfl ?_
  try simp only [Act.put, qa, qb, qc]
  refine z0a 6 31 (.bool true) rfl rfl rfl hH (fun w hw => by go_simp) ?_
  try simp only [Act.put, qa, qb, qc]
  refine z0a 7 32 (.bool true) rfl rfl rfl hH (fun w hw => by go_simp) ?_
  try simp only [Act.put, qa, qb, qc]
  refine z0a 8 33 (.bool o2) rfl rfl rfl hH (fun w hw => by go_simp) ?_
  try simp only [Act.put, qa, qb, qc]
  refine z0a 9 34 (.bool o2) rfl rfl rfl hH (fun w hw => by go_simp) ?_
  try simp only [Act.put, qa, qb, qc]
  refine rd1 10 rfl fun K hK => ?_
  refine z0l 5 rfl rowPP H.out rfl rfl rfl rfl ?_
  intro ws HS
  simp only [qb, qc] at HS
  replace H := Lib.hid HS
  clear hH
  refine hK.out _ _ ⟨H.out.row 3 rfl, H.out.row 1 rfl, H.out.row 2 rfl, H.out.row 0 rfl⟩ fun hH => ?_
  clear hK K HS
  try simp only [qa]
  refine rd1 11 rfl fun K hK => ?_
  refine z0l 4 rfl rowQQ H.out rfl rfl rfl rfl ?_
  intro ws HS
  simp only [qb, qc] at HS
  replace H := Lib.hid HS
  clear hH
  refine hK.out _ _ ⟨H.out.row 3 rfl, H.out.row 1 rfl, H.out.row 2 rfl, H.out.row 0 rfl⟩ fun hH => ?_
  clear hK K HS
  try simp only [qa]
  refine z0a 12 4 (.bool o2) rfl rfl rfl hH (fun w hw => by go_simp) ?_
  try simp only [Act.put, qa, qb, qc]
  try simp only [Act.put]
  refine wpAnyH_done (by kernel_rfl) ?_ _
  refine NoPanic.normal ?_
  clear hH
  go_wp2_with fail
  exact bodyPost_ret (z06 5 4 rowPP rowQQ rfl _ H rfl rfl rfl rfl rfl) rfl ⟨_, _, _, _, _, _, rfl, V1.out, V2.out, W1.out, W2.out, H.out.bel⟩
 | false =>
  clear OK1 OK2
  refine wp_region_noPanic ?_
  refine wp_region_held_drew (S := fun W => W.heap[g5]? = some (Blk 38 .u64 24 (v1)) ∧ W.heap[g8]? = some (Blk 38 .u64 24 (v2)) ∧ W.heap[g6]? = some (Blk 40 .i64 48 (r1)) ∧ W.heap[g9]? = some (Blk 40 .i64 48 (r2))) (by kernel_rfl) (⟨H.out.drew.row 3 rfl, H.out.drew.row 1 rfl, H.out.drew.row 2 rfl, H.out.drew.row 0 rfl⟩) (fun hH => ?_)
  replace H := Lib.hid H.out.drew
  generalize World.drew _ = w8 at *
  refine z0f 0 25 rowPt rfl rfl rfl hH rfl rfl (fun _ h => h.1) ?_
  try simp only [Act.put, qa, qb, qc]
  refine z0f 1 26 rowPt rfl rfl rfl hH rfl rfl (fun _ h => h.2.1) ?_
  try simp only [Act.put, qa, qb, qc]
  refine y04 2 27 rfl rfl rfl hH rfl rfl rfl ?_
  try simp only [Act.put, qa, qb, qc]
  refine z0f 3 28 rowQt rfl rfl rfl hH rfl rfl (fun _ h => h.2.2.1) ?_
  try simp only [Act.put, qa, qb, qc]
  refine z0f 4 29 rowQt rfl rfl rfl hH rfl rfl (fun _ h => h.2.2.2) ?_
  try simp only [Act.put, qa, qb, qc]
  refine y03 5 30 rfl rfl rfl hH rfl rfl rfl ?_
  try simp only [Act.put, qa, qb, qc]
  refine z0a 6 31 (.bool false) rfl rfl rfl hH (fun w hw => by go_simp) ?_
  try simp only [Act.put, qa, qb, qc]
  refine z0a 7 32 (.bool false) rfl rfl rfl hH (fun w hw => by go_simp) ?_
  try simp only [Act.put, qa, qb, qc]
  refine z09 8 33 rfl rfl rfl hH ?_
  try simp only [Act.put, qa, qb, qc]
  refine z0a 9 34 (.bool false) rfl rfl rfl hH (fun w hw => by go_simp) ?_
  try simp only [Act.put, qa, qb, qc]
  refine rd1 10 rfl fun K hK => ?_
  refine z0l 5 rfl rowPP H.out rfl rfl rfl rfl ?_
  intro ws HS
  simp only [qb, qc] at HS
  replace H := Lib.hid HS
  clear hH
  refine hK.out _ _ ⟨H.out.row 3 rfl, H.out.row 1 rfl, H.out.row 2 rfl, H.out.row 0 rfl⟩ fun hH => ?_
  clear hK K HS
  try simp only [qa]
  refine rd1 11 rfl fun K hK => ?_
  refine z0l 4 rfl rowQQ H.out rfl rfl rfl rfl ?_
  intro ws HS
  simp only [qb, qc] at HS
  replace H := Lib.hid HS
  clear hH
  refine hK.out _ _ ⟨H.out.row 3 rfl, H.out.row 1 rfl, H.out.row 2 rfl, H.out.row 0 rfl⟩ fun hH => ?_
  clear hK K HS
  try simp only [qa]
  refine z0a 12 4 (.bool false) rfl rfl rfl hH (fun w hw => by go_simp) ?_
  try simp only [Act.put, qa, qb, qc]
  try simp only [Act.put]
  refine wpAnyH_done (by kernel_rfl) ?_ _
  refine NoPanic.normal ?_
  clear hH
  go_wp2_with fail
  exact bodyPost_ret (z06 5 4 rowPP rowQQ rfl _ H rfl rfl rfl rfl rfl) rfl ⟨_, _, _, _, _, _, rfl, V1.out, V2.out, W1.out, W2.out, H.out.bel⟩
end Go.Proofs.YtoeokhfhcpcjlaaGreatDoor
