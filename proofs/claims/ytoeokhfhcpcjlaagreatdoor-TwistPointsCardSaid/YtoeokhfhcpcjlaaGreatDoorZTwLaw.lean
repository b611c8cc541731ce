/-
 The law's own functions, and the reference's On. No statement is proved here: lemmas for the walks.
-/
import Derived.Test.YtoeokhfhcpcjlaaGreatDoorZTwGo3
import Derived.Test.YtoeokhfhcpcjlaaGreatDoorZTwRef
import Derived.Test.YtoeokhfhcpcjlaaGreatDoorZCbMade
import Derived.Test.YtoeokhfhcpcjlaaGreatDoorBuX
import Derived.Test.YtoeokhfhcpcjlaaGreatDoorBuB
import Derived.Test.YtoeokhfhcpcjlaaGreatDoorBuQ
import Derived.Deep.CutRange
namespace Go.Proofs.YtoeokhfhcpcjlaaGreatDoor
open Go.RowKit
abbrev PP2 (v : Nat → Int) : Value := .agg (AZ .u64 48 v)
theorem partP_0 {f g : Nat → Int} : Part .u64 48 (t2 24 f g) 0 24 f := ⟨by omega, AZ_congr fun i hi => by unfold t2; rw [Nat.zero_add, if_pos hi]⟩
theorem partP_1 {f g : Nat → Int} : Part .u64 48 (t2 24 f g) 24 24 g := ⟨by omega, AZ_congr fun i hi => by unfold t2; rw [if_neg (by omega), show 24 + i - 24 = i by omega]⟩
theorem rowPP : IsRow Tryz.prog 56 48 := ⟨⟨_, Tryz.underlying56, rfl⟩, by kernel_rfl⟩
theorem nilPP (w : World) : (zeroValue 56).run Tryz.prog w = .ok (.agg (AZ .u64 48 fun _ => 0)) w :=
 (show AZ .u64 48 (fun _ => 0) = Array.replicate 48 (.int .u64 0) by unfold AZ; rfl) ▸ (zero_of_info (show (Tryz.prog.info? 56).map (fun i => (i.zero, i.size)) = some (some (.agg (Array.replicate 48 (.int .u64 0))), 48) by kernel_rfl)).1 w
theorem built_PP (f g : Nat → Int) (w : World) : (Instr.build 56 #[(0, .agg (AZ .u64 24 f)), (1, .agg (AZ .u64 24 g))]).run Tryz.prog w = .ok (.agg (AZ .u64 48 (t2 24 f g))) w :=
 run_build w _ _ _ (by kernel_rfl)
section
variable {md : Region.Mode} {ops : Array Oper} {Q : Exit → Act → World → Prop} {S : World → Prop} {fuel : Nat} {listed : Array Bool} {a : Act} {w : World}
theorem held_PP (i : Nat) (d : Tmp) {oi : Oper} (hi : ops[i]? = some oi) (hd : oi.dst = some d) (hs : Region.noSelect ops = true) (hf : Region.free md ops listed i = true)
  (hr : (Region.ready md ops listed).contains i = true) (hw : Region.wanted oi (yielded ops a.tmps) = true) (hS : S w) {x y : Operand} (ho : oi.op = .build 56 #[(0, x), (1, y)])
  {f g : Nat → Int} (hx : a.eval x = .agg (AZ .u64 24 f)) (hy : a.eval y = .agg (AZ .u64 24 g))
  (hN : wpAnyH Tryz.prog md ops (NoPanic Q) S fuel (listed.setIfInBounds i true) (a.put (some d) (.agg (AZ .u64 48 (t2 24 f g)))) w) : wpAnyH Tryz.prog md ops (NoPanic Q) S (fuel + 1) listed a w :=
 held_value i d (.agg (AZ .u64 48 (t2 24 f g))) hi hd hs hf hr hw hS (fun w _ => by
  unfold execOp
  simp only [ho, List.map_toArray, List.map_cons, List.map_nil, hx, hy, Sem.run_bind, built_PP, Result.andThen_ok]
  rfl) hN
end
abbrev QQ2 (v : Nat → Int) : Value := .agg (AZ .i64 96 v)
theorem partQ_0 {f g : Nat → Int} : Part .i64 96 (t2 48 f g) 0 48 f := ⟨by omega, AZ_congr fun i hi => by unfold t2; rw [Nat.zero_add, if_pos hi]⟩
theorem partQ_1 {f g : Nat → Int} : Part .i64 96 (t2 48 f g) 48 48 g := ⟨by omega, AZ_congr fun i hi => by unfold t2; rw [if_neg (by omega), show 48 + i - 48 = i by omega]⟩
theorem rowQQ : IsRow Tryz.prog 57 96 := ⟨⟨_, Tryz.underlying57, rfl⟩, by kernel_rfl⟩
theorem nilQQ (w : World) : (zeroValue 57).run Tryz.prog w = .ok (.agg (AZ .i64 96 fun _ => 0)) w :=
 (show AZ .i64 96 (fun _ => 0) = Array.replicate 96 (.int .i64 0) by unfold AZ; rfl) ▸ (zero_of_info (show (Tryz.prog.info? 57).map (fun i => (i.zero, i.size)) = some (some (.agg (Array.replicate 96 (.int .i64 0))), 96) by kernel_rfl)).1 w
theorem built_QQ (f g : Nat → Int) (w : World) : (Instr.build 57 #[(0, .agg (AZ .i64 48 f)), (1, .agg (AZ .i64 48 g))]).run Tryz.prog w = .ok (.agg (AZ .i64 96 (t2 48 f g))) w :=
 run_build w _ _ _ (by kernel_rfl)
section
variable {md : Region.Mode} {ops : Array Oper} {Q : Exit → Act → World → Prop} {S : World → Prop} {fuel : Nat} {listed : Array Bool} {a : Act} {w : World}
theorem held_QQ (i : Nat) (d : Tmp) {oi : Oper} (hi : ops[i]? = some oi) (hd : oi.dst = some d) (hs : Region.noSelect ops = true) (hf : Region.free md ops listed i = true)
  (hr : (Region.ready md ops listed).contains i = true) (hw : Region.wanted oi (yielded ops a.tmps) = true) (hS : S w) {x y : Operand} (ho : oi.op = .build 57 #[(0, x), (1, y)])
  {f g : Nat → Int} (hx : a.eval x = .agg (AZ .i64 48 f)) (hy : a.eval y = .agg (AZ .i64 48 g))
  (hN : wpAnyH Tryz.prog md ops (NoPanic Q) S fuel (listed.setIfInBounds i true) (a.put (some d) (.agg (AZ .i64 96 (t2 48 f g)))) w) : wpAnyH Tryz.prog md ops (NoPanic Q) S (fuel + 1) listed a w :=
 held_value i d (.agg (AZ .i64 96 (t2 48 f g))) hi hd hs hf hr hw hS (fun w _ => by
  unfold execOp
  simp only [ho, List.map_toArray, List.map_cons, List.map_nil, hx, hy, Sem.run_bind, built_QQ, Result.andThen_ok]
  rfl) hN
end
section
variable {P : Program} {ops : Array Oper} {rest : List Oper} {o : Oper} {a : Act} {w w0 : World} {l : List (Nat × Obj)} {Q : Exit → Act → World → Prop} {t ty : TypeId} {u v : Value} {C : Array Value}
/-- Two cells of a block are loaded. -/
theorem own_loadCC {i j : Nat} (hT : IsRow P ty 2) (H : Hid (Ow w0 w l)) (hgd : o.guard = none) {x : Operand} (ho : o.op = .load ty x) {g : Nat} (hx : a.eval x = .pointer (some ⟨g, j, none⟩))
  (hi : l[i]? = some (g, Cs t C)) (h0 : C[j]? = some u) (h1 : C[j + 1]? = some v) (h : ∀ K : Act → World → Prop, (∀ a w, wpList P ops Q rest a w → K a w) → K (a.put o.dst (.agg #[u, v])) w) : wpList P ops Q (o :: rest) a w :=
 wpList_plain hgd fun K hK => by
  obtain ⟨d, hd, hd'⟩ := hT.under
  have hr := H.out.row i hi
  have hrun := run_loadAt_mid (P := P) w g j ty [u, v] d (fun q y hq => by
   rcases (by omega : q = 0 ∨ q = 1 ∨ 2 ≤ q) with rfl | rfl | h2
   ·cases hq
    exact cell_cs hr h0
   ·cases hq
    exact cell_cs hr h1
   ·rw [List.getElem?_eq_none (by simpa using h2)] at hq
    cases hq) hd (by cases d <;> simp_all) hT.size
  unfold Oper.wp execOp
  simp only [ho, hx, Sem.run_bind, hrun, Result.andThen_ok]
  exact h K hK
end
/-- The reference's bytes of an element. -/
theorem refBytes_sb (x : K) (w : World) : Calls Tryz.prog 36 #[FV x.val] w fun e w' => ∃ g c, e = .returned (.slice (some ⟨g, 0, none⟩) 56 c) ∧ Sb w' w'.heap.size (some ⟨g, 0, none⟩) 56 c x.val ∧ Below w.heap.size w w' :=
 (refBytes_any x.val w).mono fun e w' ⟨v, he, ⟨g, c, hv, _, hs⟩, hb⟩ => ⟨g, c, by rw [he, hv], ⟨by rw [← bX_bt]; exact hs, k_fits x⟩, hb⟩
theorem fieldOf_x {a : Option Addr} {c y : Nat} (w : World) (hs : Sb w w.heap.size a 56 c y) :
  Calls Tryz.prog 35 #[.slice a 56 c] w fun e w' => ∃ h, e = .returned (.tuple #[EV h, .int .i64 0]) ∧ EK h (cN pN y) ∧ Below w.heap.size w w' :=
 (of_any a c (bt y) w hs.sl).mono fun _ _ ⟨he, hb⟩ => ⟨_, he, (by
  have h := of_v (bt y)
  rw [nB_bt, Nat.mod_eq_of_lt hs.fits] at h
  exact h), hb⟩
theorem refOf_x {a : Option Addr} {c y : Nat} (w : World) (hs : Sb w w.heap.size a 56 c y) :
  Calls Tryz.prog 42 #[.slice a 56 c] w fun e w' => e = .returned (FV (cN pN y).val) ∧ Below w.heap.size w w' :=
 (refOf_any a c (bt y) w hs.sl).mono fun _ _ ⟨he, hb⟩ => ⟨by rw [he, nB_bt, Nat.mod_eq_of_lt hs.fits]; rfl, hb⟩
set_option maxRecDepth 8000 in
set_option maxHeartbeats 3200000 in
theorem refOn_k {X Y : K} {b : Bool} (w : World) (h : decide (tOn X Y) = b) :
  Calls Tryz.prog 15 #[T2 (T2v X Y)] w fun e w' => e = .returned (.bool b) ∧ Below w.heap.size w w' := by
 have HB : Hid (decide (Y * Y - X * X = ofZ (1) - ofZ (39082) * (X * X * (Y * Y))) = b) := Lib.hid (by
  rw [← h]
  exact decide_eq_decide.2 (by rw [ax_ref]))
 clear h
 have H := Lib.hid (Ow.start w)
 go_enter Tryz.func15, Tryz.ntmps15
 go_upto_region 3 with (first
  | ((fail_if_success have := g1); (with_reducible apply own_box H); (case hgd | ho | hx => exact rfl); intro w1 g1 H' _ _; replace H := H'; clear H'; go_simp)
  | ((with_reducible apply own_load_p rowF H); (case hgd | ho | hx => exact rfl); (case hi => first|exact at0|exact at1|exact at2|exact at3|exact at4|exact at5|exact at6|exact at7|exact at8|exact at9); (case hp => first | exact partT_0 | exact partT_1); intro _ _; go_simp)
  | ((fail_if_success have := mk3); (with_reducible refine (refMul_k (X) (X) _).mono ?_); rintro e wc ⟨rfl, hb⟩; replace H := Lib.hid (H.out.call hb); clear hb; have mk3 := trivial)
  | ((fail_if_success have := g3); (fail_if_success have := g3); (with_reducible apply own_alloc intsF.zero H); (case hgd | ho => exact rfl); intro w3 g3 H' _ _; replace H := H'; clear H'; go_simp)
  | ((fail_if_success have := mk4); (with_reducible refine (refMul_k (Y) (Y) _).mono ?_); rintro e wc ⟨rfl, hb⟩; replace H := Lib.hid (H.out.call hb); clear hb; have mk4 := trivial)
  | ((fail_if_success have := g4); (fail_if_success have := g4); (with_reducible apply own_alloc intsF.zero H); (case hgd | ho => exact rfl); intro w4 g4 H' _ _; replace H := H'; clear H'; go_simp)
  | ((with_reducible apply own_store rowF H); (case hgd | ho | hx | hy => exact rfl); (case hi => first|exact at0|exact at1|exact at2|exact at3|exact at4|exact at5|exact at6|exact at7|exact at8|exact at9); intro ws H' _ _; replace H := H'; clear H'; simp only [List.set_cons_zero] at H; go_simp))
 clear mk3 mk4
 go_cut [5] from 16 to 20 (fun v5 wx => ∃ g5, v5 = .pointer (some ⟨g5, 0, none⟩) ∧ Ow w wx [(g5, Blk 31 .i64 16 (dF (((ofZ (39082)) * ((X * X) * (Y * Y)))).val)), (g4, Blk 31 .i64 16 (dF ((Y * Y)).val)), (g3, Blk 31 .i64 16 (dF ((X * X)).val)), (g1, Blk 36 .i64 32 ((t2 16 (dF (X).val) (dF (Y).val))))])
 case first =>
  go_wp2_with fail
  refine wp_region_noPanic ?_
  refine wp_region_held_drew (S := fun W => W.heap[g3]? = some (Blk 31 .i64 16 (dF ((X * X)).val)) ∧ W.heap[g4]? = some (Blk 31 .i64 16 (dF ((Y * Y)).val))) (by kernel_rfl) (⟨H.out.drew.row 1 rfl, H.out.drew.row 0 rfl⟩) (fun hH => ?_)
  replace H := Lib.hid H.out.drew
  generalize World.drew _ = w8 at *
  refine held_row 1 17 rowF rfl rfl (by kernel_rfl) (by kernel_rfl) (by kernel_rfl) rfl hH rfl rfl (fun _ h => h.1) ?_
  try simp only [Act.put, List.setIfInBounds_toArray, List.set_cons_zero, List.set_cons_succ]
  refine held_row 2 18 rowF rfl rfl (by kernel_rfl) (by kernel_rfl) (by kernel_rfl) rfl hH rfl rfl (fun _ h => h.2) ?_
  try simp only [Act.put, List.setIfInBounds_toArray, List.set_cons_zero, List.set_cons_succ]
  refine wpAnyH_ready (rs := [0, 5]) (by kernel_rfl) (by simp) ?_
  refine AllReadyH.cons (o := _) rfl (fun K hK => ?_) (AllReadyH.cons (o := _) rfl (fun K hK => ?_) AllReadyH.nil)
  ·skip
   go_simp
   refine (refInt_k _ (39082) (by omega) (by omega)).mono ?_
   rintro e wc ⟨rfl, hb⟩
   replace H := Lib.hid (H.out.call hb)
   refine hK.out _ _ (⟨H.out.row 1 rfl, H.out.row 0 rfl⟩) (fun hN => ?_)
   clear hK K hH hb
   have hH := hN
   clear hN
   try simp only [Act.put, List.setIfInBounds_toArray, List.set_cons_zero, List.set_cons_succ]
   refine wpAnyH_ready (rs := [3, 5]) (by kernel_rfl) (by simp) ?_
   refine AllReadyH.cons (o := _) rfl (fun K hK => ?_) (AllReadyH.cons (o := _) rfl (fun K hK => ?_) AllReadyH.nil)
   ·skip
    go_simp
    refine (refMul_k _ _ _).mono ?_
    rintro e wc ⟨rfl, hb⟩
    replace H := Lib.hid (H.out.call hb)
    refine hK.out _ _ (⟨H.out.row 1 rfl, H.out.row 0 rfl⟩) (fun hN => ?_)
    clear hK K hH hb
    have hH := hN
    clear hN
    try simp only [Act.put, List.setIfInBounds_toArray, List.set_cons_zero, List.set_cons_succ]
    refine wpAnyH_ready (rs := [4, 5]) (by kernel_rfl) (by simp) ?_
    refine AllReadyH.cons (o := _) rfl (fun K hK => ?_) (AllReadyH.cons (o := _) rfl (fun K hK => ?_) AllReadyH.nil)
    ·skip
     go_simp
     refine (refMul_k _ _ _).mono ?_
     rintro e wc ⟨rfl, hb⟩
     replace H := Lib.hid (H.out.call hb)
     refine hK.out _ _ (⟨H.out.row 1 rfl, H.out.row 0 rfl⟩) (fun hN => ?_)
     clear hK K hH hb
     have hH := hN
     clear hN
     try simp only [Act.put, List.setIfInBounds_toArray, List.set_cons_zero, List.set_cons_succ]
     refine wpAnyH_ready (rs := [5]) (by kernel_rfl) (by simp) ?_
     refine AllReadyH.cons (o := _) rfl (fun K hK => ?_) AllReadyH.nil
     refine own_wp_allocB 5 rfl intsF.zero H.out rfl ?_
     intro w5 g5 H3 hb
     replace H := Lib.hid H3
     refine hK.out _ _ (⟨H.out.row 2 rfl, H.out.row 1 rfl⟩) (fun hN => ?_)
     clear hK K hH H3 hb
     have hH := hN
     clear hN
     try simp only [Act.put, List.setIfInBounds_toArray, List.set_cons_zero, List.set_cons_succ]
     refine wpAnyH_ready (rs := [6]) (by kernel_rfl) (by simp) ?_
     refine AllReadyH.cons (o := _) rfl (fun K hK => ?_) AllReadyH.nil
     refine own_st 0 rfl rowF H.out rfl rfl rfl rfl ?_
     intro ws HS
     simp only [List.set_cons_zero] at HS
     replace H := Lib.hid HS
     refine hK.out _ _ (⟨H.out.row 2 rfl, H.out.row 1 rfl⟩) (fun hN => ?_)
     clear hK K HS hH
     have hH := hN
     clear hN
     try simp only [List.setIfInBounds_toArray]
     try simp only [Act.put]
     refine wpAnyH_done (by kernel_rfl) ?_ _
     refine NoPanic.normal ?_
     clear hH
     go_wp2_with fail
     go_meet
     exact ⟨g5, rfl, H.out⟩
    ·skip
     refine own_wp_allocB 5 rfl intsF.zero H.out rfl ?_
     intro w5 g5 H3 hb
     replace H := Lib.hid H3
     refine hK.out _ _ (⟨H.out.row 2 rfl, H.out.row 1 rfl⟩) (fun hN => ?_)
     clear hK K hH H3 hb
     have hH := hN
     clear hN
     try simp only [Act.put, List.setIfInBounds_toArray, List.set_cons_zero, List.set_cons_succ]
     refine wpAnyH_ready (rs := [4]) (by kernel_rfl) (by simp) ?_
     refine AllReadyH.cons (o := _) rfl (fun K hK => ?_) AllReadyH.nil
     go_simp
     refine (refMul_k _ _ _).mono ?_
     rintro e wc ⟨rfl, hb⟩
     replace H := Lib.hid (H.out.call hb)
     refine hK.out _ _ (⟨H.out.row 2 rfl, H.out.row 1 rfl⟩) (fun hN => ?_)
     clear hK K hH hb
     have hH := hN
     clear hN
     try simp only [Act.put, List.setIfInBounds_toArray, List.set_cons_zero, List.set_cons_succ]
     refine wpAnyH_ready (rs := [6]) (by kernel_rfl) (by simp) ?_
     refine AllReadyH.cons (o := _) rfl (fun K hK => ?_) AllReadyH.nil
     refine own_st 0 rfl rowF H.out rfl rfl rfl rfl ?_
     intro ws HS
     simp only [List.set_cons_zero] at HS
     replace H := Lib.hid HS
     refine hK.out _ _ (⟨H.out.row 2 rfl, H.out.row 1 rfl⟩) (fun hN => ?_)
     clear hK K HS hH
     have hH := hN
     clear hN
     try simp only [List.setIfInBounds_toArray]
     try simp only [Act.put]
     refine wpAnyH_done (by kernel_rfl) ?_ _
     refine NoPanic.normal ?_
     clear hH
     go_wp2_with fail
     go_meet
     exact ⟨g5, rfl, H.out⟩
   ·skip
    refine own_wp_allocB 5 rfl intsF.zero H.out rfl ?_
    intro w5 g5 H3 hb
    replace H := Lib.hid H3
    refine hK.out _ _ (⟨H.out.row 2 rfl, H.out.row 1 rfl⟩) (fun hN => ?_)
    clear hK K hH H3 hb
    have hH := hN
    clear hN
    try simp only [Act.put, List.setIfInBounds_toArray, List.set_cons_zero, List.set_cons_succ]
    refine wpAnyH_ready (rs := [3]) (by kernel_rfl) (by simp) ?_
    refine AllReadyH.cons (o := _) rfl (fun K hK => ?_) AllReadyH.nil
    go_simp
    refine (refMul_k _ _ _).mono ?_
    rintro e wc ⟨rfl, hb⟩
    replace H := Lib.hid (H.out.call hb)
    refine hK.out _ _ (⟨H.out.row 2 rfl, H.out.row 1 rfl⟩) (fun hN => ?_)
    clear hK K hH hb
    have hH := hN
    clear hN
    try simp only [Act.put, List.setIfInBounds_toArray, List.set_cons_zero, List.set_cons_succ]
    refine wpAnyH_ready (rs := [4]) (by kernel_rfl) (by simp) ?_
    refine AllReadyH.cons (o := _) rfl (fun K hK => ?_) AllReadyH.nil
    go_simp
    refine (refMul_k _ _ _).mono ?_
    rintro e wc ⟨rfl, hb⟩
    replace H := Lib.hid (H.out.call hb)
    refine hK.out _ _ (⟨H.out.row 2 rfl, H.out.row 1 rfl⟩) (fun hN => ?_)
    clear hK K hH hb
    have hH := hN
    clear hN
    try simp only [Act.put, List.setIfInBounds_toArray, List.set_cons_zero, List.set_cons_succ]
    refine wpAnyH_ready (rs := [6]) (by kernel_rfl) (by simp) ?_
    refine AllReadyH.cons (o := _) rfl (fun K hK => ?_) AllReadyH.nil
    refine own_st 0 rfl rowF H.out rfl rfl rfl rfl ?_
    intro ws HS
    simp only [List.set_cons_zero] at HS
    replace H := Lib.hid HS
    refine hK.out _ _ (⟨H.out.row 2 rfl, H.out.row 1 rfl⟩) (fun hN => ?_)
    clear hK K HS hH
    have hH := hN
    clear hN
    try simp only [List.setIfInBounds_toArray]
    try simp only [Act.put]
    refine wpAnyH_done (by kernel_rfl) ?_ _
    refine NoPanic.normal ?_
    clear hH
    go_wp2_with fail
    go_meet
    exact ⟨g5, rfl, H.out⟩
  ·skip
   refine own_wp_allocB 5 rfl intsF.zero H.out rfl ?_
   intro w5 g5 H3 hb
   replace H := Lib.hid H3
   refine hK.out _ _ (⟨H.out.row 2 rfl, H.out.row 1 rfl⟩) (fun hN => ?_)
   clear hK K hH H3 hb
   have hH := hN
   clear hN
   try simp only [Act.put, List.setIfInBounds_toArray, List.set_cons_zero, List.set_cons_succ]
   refine wpAnyH_ready (rs := [0]) (by kernel_rfl) (by simp) ?_
   refine AllReadyH.cons (o := _) rfl (fun K hK => ?_) AllReadyH.nil
   go_simp
   refine (refInt_k _ (39082) (by omega) (by omega)).mono ?_
   rintro e wc ⟨rfl, hb⟩
   replace H := Lib.hid (H.out.call hb)
   refine hK.out _ _ (⟨H.out.row 2 rfl, H.out.row 1 rfl⟩) (fun hN => ?_)
   clear hK K hH hb
   have hH := hN
   clear hN
   try simp only [Act.put, List.setIfInBounds_toArray, List.set_cons_zero, List.set_cons_succ]
   refine wpAnyH_ready (rs := [3]) (by kernel_rfl) (by simp) ?_
   refine AllReadyH.cons (o := _) rfl (fun K hK => ?_) AllReadyH.nil
   go_simp
   refine (refMul_k _ _ _).mono ?_
   rintro e wc ⟨rfl, hb⟩
   replace H := Lib.hid (H.out.call hb)
   refine hK.out _ _ (⟨H.out.row 2 rfl, H.out.row 1 rfl⟩) (fun hN => ?_)
   clear hK K hH hb
   have hH := hN
   clear hN
   try simp only [Act.put, List.setIfInBounds_toArray, List.set_cons_zero, List.set_cons_succ]
   refine wpAnyH_ready (rs := [4]) (by kernel_rfl) (by simp) ?_
   refine AllReadyH.cons (o := _) rfl (fun K hK => ?_) AllReadyH.nil
   go_simp
   refine (refMul_k _ _ _).mono ?_
   rintro e wc ⟨rfl, hb⟩
   replace H := Lib.hid (H.out.call hb)
   refine hK.out _ _ (⟨H.out.row 2 rfl, H.out.row 1 rfl⟩) (fun hN => ?_)
   clear hK K hH hb
   have hH := hN
   clear hN
   try simp only [Act.put, List.setIfInBounds_toArray, List.set_cons_zero, List.set_cons_succ]
   refine wpAnyH_ready (rs := [6]) (by kernel_rfl) (by simp) ?_
   refine AllReadyH.cons (o := _) rfl (fun K hK => ?_) AllReadyH.nil
   refine own_st 0 rfl rowF H.out rfl rfl rfl rfl ?_
   intro ws HS
   simp only [List.set_cons_zero] at HS
   replace H := Lib.hid HS
   refine hK.out _ _ (⟨H.out.row 2 rfl, H.out.row 1 rfl⟩) (fun hN => ?_)
   clear hK K HS hH
   have hH := hN
   clear hN
   try simp only [List.setIfInBounds_toArray]
   try simp only [Act.put]
   refine wpAnyH_done (by kernel_rfl) ?_ _
   refine NoPanic.normal ?_
   clear hH
   go_wp2_with fail
   go_meet
   exact ⟨g5, rfl, H.out⟩
 clear H
 obtain ⟨g5, rfl, HRR⟩ := hcut
 have H := Lib.hid HRR
 clear HRR 
 go_upto_region 4 with fail
 refine wp_region_noPanic ?_
 refine wp_region_held_drew (S := fun W => W.heap[g4]? = some (Blk 31 .i64 16 (dF ((Y * Y)).val)) ∧ W.heap[g3]? = some (Blk 31 .i64 16 (dF ((X * X)).val)) ∧ W.heap[g5]? = some (Blk 31 .i64 16 (dF (((ofZ (39082)) * ((X * X) * (Y * Y)))).val))) (by kernel_rfl) (⟨H.out.drew.row 1 rfl, H.out.drew.row 2 rfl, H.out.drew.row 0 rfl⟩) (fun hH => ?_)
 replace H := Lib.hid H.out.drew
 generalize World.drew _ = w8 at *
 refine held_row 0 21 rowF rfl rfl (by kernel_rfl) (by kernel_rfl) (by kernel_rfl) rfl hH rfl rfl (fun _ h => h.1) ?_
 try simp only [Act.put, List.setIfInBounds_toArray, List.set_cons_zero, List.set_cons_succ]
 refine held_row 1 22 rowF rfl rfl (by kernel_rfl) (by kernel_rfl) (by kernel_rfl) rfl hH rfl rfl (fun _ h => h.2.1) ?_
 try simp only [Act.put, List.setIfInBounds_toArray, List.set_cons_zero, List.set_cons_succ]
 refine held_row 4 25 rowF rfl rfl (by kernel_rfl) (by kernel_rfl) (by kernel_rfl) rfl hH rfl rfl (fun _ h => h.2.2) ?_
 try simp only [Act.put, List.setIfInBounds_toArray, List.set_cons_zero, List.set_cons_succ]
 refine wpAnyH_ready (rs := [2]) (by kernel_rfl) (by simp) ?_
 refine AllReadyH.cons (o := _) rfl (fun K hK => ?_) AllReadyH.nil
 go_simp
 refine (refSub_k _ _ _).mono ?_
 rintro e wc ⟨rfl, hb⟩
 replace H := Lib.hid (H.out.call hb)
 refine hK.out _ _ (⟨H.out.row 1 rfl, H.out.row 2 rfl, H.out.row 0 rfl⟩) (fun hN => ?_)
 clear hK K hH hb
 have hH := hN
 clear hN
 try simp only [Act.put, List.setIfInBounds_toArray, List.set_cons_zero, List.set_cons_succ]
 refine wpAnyH_ready (rs := [3]) (by kernel_rfl) (by simp) ?_
 refine AllReadyH.cons (o := _) rfl (fun K hK => ?_) AllReadyH.nil
 go_simp
 refine (refInt_k _ (1) (by omega) (by omega)).mono ?_
 rintro e wc ⟨rfl, hb⟩
 replace H := Lib.hid (H.out.call hb)
 refine hK.out _ _ (⟨H.out.row 1 rfl, H.out.row 2 rfl, H.out.row 0 rfl⟩) (fun hN => ?_)
 clear hK K hH hb
 have hH := hN
 clear hN
 try simp only [Act.put, List.setIfInBounds_toArray, List.set_cons_zero, List.set_cons_succ]
 refine wpAnyH_ready (rs := [5]) (by kernel_rfl) (by simp) ?_
 refine AllReadyH.cons (o := _) rfl (fun K hK => ?_) AllReadyH.nil
 go_simp
 refine (refSub_k _ _ _).mono ?_
 rintro e wc ⟨rfl, hb⟩
 replace H := Lib.hid (H.out.call hb)
 refine hK.out _ _ (⟨H.out.row 1 rfl, H.out.row 2 rfl, H.out.row 0 rfl⟩) (fun hN => ?_)
 clear hK K hH hb
 have hH := hN
 clear hN
 try simp only [Act.put, List.setIfInBounds_toArray, List.set_cons_zero, List.set_cons_succ]
 refine wpAnyH_ready (rs := [6]) (by kernel_rfl) (by simp) ?_
 refine AllReadyH.cons (o := _) rfl (fun K hK => ?_) AllReadyH.nil
 go_simp
 refine (refSame_b _ _ _ HB.out).mono ?_
 rintro e wc ⟨rfl, hb⟩
 replace H := Lib.hid (H.out.call hb)
 refine hK.out _ _ (⟨H.out.row 1 rfl, H.out.row 2 rfl, H.out.row 0 rfl⟩) (fun hN => ?_)
 clear hK K hH hb
 have hH := hN
 clear hN
 try simp only [Act.put, List.setIfInBounds_toArray, List.set_cons_zero, List.set_cons_succ]
 refine held_value 7 2 (.bool b) rfl rfl (by kernel_rfl) (by kernel_rfl) (by kernel_rfl) rfl hH (fun w hw => by go_simp) ?_
 try simp only [Act.put, List.setIfInBounds_toArray, List.set_cons_zero, List.set_cons_succ]
 try simp only [Act.put]
 refine wpAnyH_done (by kernel_rfl) ?_ _
 refine NoPanic.normal ?_
 clear hH
 go_wp2_with fail
 go_ret
 exact ⟨rfl, H.out.bel⟩
set_option maxRecDepth 8000 in
set_option maxHeartbeats 3200000 in
theorem two13_bad (a : Option Addr) (n c : Nat) (w : World) (hT : Tp w) (hn : n ≠ 56) :
  Calls Tryz.prog 8 #[.slice a n c] w fun e w' => ∃ f x, e = .returned (.tuple #[EV f, FV (x : K).val, .bool false]) ∧ EK f x ∧ Below w.heap.size w w' := by
 have hd : ((n : Int) != 56) = true := by rw [bne_iff_ne]; omega
 clear hn
 have HT := Lib.hid hT
 clear hT
 have H := Lib.hid (Ow.start w)
 go_enter Tryz.func8, Tryz.ntmps8
 go_wp2_with (first
  | ((fail_if_success have := g2); (with_reducible apply own_alloc nilE H); (case hgd | ho => exact rfl); intro w2 g2 H' _ _; replace H := H'; clear H'; go_simp)
  | ((fail_if_success have := g3); (fail_if_success have := g3); (with_reducible apply own_alloc intsF.zero H); (case hgd | ho => exact rfl); intro w3 g3 H' _ _; replace H := H'; clear H'; go_simp)
  | ((fail_if_success have := V1); (with_reducible refine (int_k (0) _ (HT.out.below H.out.bel) (by omega) (by omega)).mono ?_); rintro e wc ⟨h1, rfl, hv, hb⟩; replace H := Lib.hid (H.out.call hb); clear hb; have V1 := Lib.hid hv; clear hv)
  | ((fail_if_success have := mk2); (with_reducible refine (refInt_k _ (0) (by omega) (by omega)).mono ?_); rintro e wc ⟨rfl, hb⟩; replace H := Lib.hid (H.out.call hb); clear hb; have mk2 := trivial)
  | ((with_reducible apply own_store rowE H); (case hgd | ho | hx | hy => exact rfl); (case hi => first|exact at0|exact at1|exact at2|exact at3|exact at4|exact at5|exact at6|exact at7|exact at8|exact at9); intro ws H' _ _; replace H := H'; clear H'; simp only [List.set_cons_zero, List.set_cons_succ] at H; go_simp)
  | ((with_reducible apply own_store rowF H); (case hgd | ho | hx | hy => exact rfl); (case hi => first|exact at0|exact at1|exact at2|exact at3|exact at4|exact at5|exact at6|exact at7|exact at8|exact at9); intro ws H' _ _; replace H := H'; clear H'; simp only [List.set_cons_zero] at H; go_simp))
 exact bodyPost_ret (own_result_tws 1 0 rowE rowF rfl _ H rfl rfl rfl rfl rfl) rfl ⟨_, _, rfl, V1.out, H.out.bel⟩
set_option maxRecDepth 8000 in
set_option maxHeartbeats 3200000 in
theorem two13_k {a : Option Addr} {c y : Nat} (w : World) (hs : Sb w w.heap.size a 56 c y) :
  Calls Tryz.prog 8 #[.slice a 56 c] w fun e w' => ∃ f, e = .returned (.tuple #[EV f, FV (cN pN y).val, .bool true]) ∧ EK f (cN pN y) ∧ Below w.heap.size w w' := by
 have HS := Lib.hid hs
 clear hs
 have H := Lib.hid (Ow.start w)
 go_enter Tryz.func8, Tryz.ntmps8
 go_upto_region 4 with (first
  | ((fail_if_success have := g2); (with_reducible apply own_alloc nilE H); (case hgd | ho => exact rfl); intro w2 g2 H' _ _; replace H := H'; clear H'; go_simp)
  | ((fail_if_success have := g3); (fail_if_success have := g3); (with_reducible apply own_alloc intsF.zero H); (case hgd | ho => exact rfl); intro w3 g3 H' _ _; replace H := H'; clear H'; go_simp)
  | ((fail_if_success have := V1); (with_reducible refine (fieldOf_x _ ((HS.out.below H.out.bel).more H.out.bel.size)).mono ?_); rintro e wc ⟨h1, rfl, hv, hb⟩; replace H := Lib.hid (H.out.call hb); clear hb; have V1 := Lib.hid hv; clear hv)
  | ((fail_if_success have := g5); (fail_if_success have := g5); (with_reducible apply own_alloc nilE H); (case hgd | ho => exact rfl); intro w5 g5 H' _ _; replace H := H'; clear H'; go_simp)
  | ((with_reducible apply own_store rowE H); (case hgd | ho | hx | hy => exact rfl); (case hi => first|exact at0|exact at1|exact at2|exact at3|exact at4|exact at5|exact at6|exact at7|exact at8|exact at9); intro ws H' _ _; replace H := H'; clear H'; simp only [List.set_cons_zero] at H; go_simp))
 refine wp_region_noPanic ?_
 refine wp_region_held_drew (S := fun W => W.heap[g5]? = some (Blk 29 .u64 8 (NZ h1))) (by kernel_rfl) (H.out.drew.row 0 rfl) (fun hH => ?_)
 replace H := Lib.hid H.out.drew
 generalize World.drew _ = w8 at *
 refine held_row 0 17 rowE rfl rfl (by kernel_rfl) (by kernel_rfl) (by kernel_rfl) rfl hH rfl rfl (fun _ h => h) ?_
 try simp only [Act.put, List.setIfInBounds_toArray, List.set_cons_zero, List.set_cons_succ]
 refine held_value 1 18 (.slice a 56 c) rfl rfl (by kernel_rfl) (by kernel_rfl) (by kernel_rfl) rfl hH (fun w hw => by go_simp) ?_
 try simp only [Act.put, List.setIfInBounds_toArray, List.set_cons_zero, List.set_cons_succ]
 refine held_value 3 20 (.int .i64 0) rfl rfl (by kernel_rfl) (by kernel_rfl) (by kernel_rfl) rfl hH (fun w hw => by go_simp) ?_
 try simp only [Act.put, List.setIfInBounds_toArray, List.set_cons_zero, List.set_cons_succ]
 refine held_value 4 21 (.bool true) rfl rfl (by kernel_rfl) (by kernel_rfl) (by kernel_rfl) rfl hH (fun w hw => by go_simp) ?_
 try simp only [Act.put, List.setIfInBounds_toArray, List.set_cons_zero, List.set_cons_succ]
 refine wpAnyH_ready (rs := [2]) (by kernel_rfl) (by simp) ?_
 refine AllReadyH.cons (o := _) rfl (fun K hK => ?_) AllReadyH.nil
 go_simp
 refine (refOf_x _ ((HS.out.below H.out.bel).more H.out.bel.size)).mono ?_
 rintro e wc ⟨rfl, hb⟩
 replace H := Lib.hid (H.out.call hb)
 refine hK.out _ _ (H.out.row 0 rfl) (fun hN => ?_)
 clear hK K hH hb
 have hH := hN
 clear hN
 try simp only [Act.put, List.setIfInBounds_toArray, List.set_cons_zero, List.set_cons_succ]
 refine wpAnyH_ready (rs := [5]) (by kernel_rfl) (by simp) ?_
 refine AllReadyH.cons (o := _) rfl (fun K hK => ?_) AllReadyH.nil
 refine own_st 2 rfl rowE H.out rfl rfl rfl rfl ?_
 intro ws HS
 simp only [List.set_cons_zero, List.set_cons_succ] at HS
 replace H := Lib.hid HS
 refine hK.out _ _ (H.out.row 0 rfl) (fun hN => ?_)
 clear hK K HS hH
 have hH := hN
 clear hN
 try simp only [List.setIfInBounds_toArray]
 refine wpAnyH_ready (rs := [6]) (by kernel_rfl) (by simp) ?_
 refine AllReadyH.cons (o := _) rfl (fun K hK => ?_) AllReadyH.nil
 refine own_st 1 rfl rowF H.out rfl rfl rfl rfl ?_
 intro ws HS
 simp only [List.set_cons_zero, List.set_cons_succ] at HS
 replace H := Lib.hid HS
 refine hK.out _ _ (H.out.row 0 rfl) (fun hN => ?_)
 clear hK K HS hH
 have hH := hN
 clear hN
 try simp only [List.setIfInBounds_toArray]
 refine held_value 7 4 (.bool true) rfl rfl (by kernel_rfl) (by kernel_rfl) (by kernel_rfl) rfl hH (fun w hw => by go_simp) ?_
 try simp only [Act.put, List.setIfInBounds_toArray, List.set_cons_zero, List.set_cons_succ]
 try simp only [Act.put]
 refine wpAnyH_done (by kernel_rfl) ?_ _
 refine NoPanic.normal ?_
 clear hH
 go_wp2_with fail
 exact bodyPost_ret (own_result_tws 2 1 rowE rowF rfl _ H rfl rfl rfl rfl rfl) rfl ⟨_, rfl, V1.out, H.out.bel⟩
set_option maxRecDepth 8000 in
set_option maxHeartbeats 3200000 in
theorem sameE_k {f : Nat → Nat} {a : K} (w : World) (hf : EK f a) :
  Calls Tryz.prog 27 #[EV f, FV a.val] w fun e w' => e = .returned (.bool true) ∧ Below w.heap.size w w' := by
 have EA := Lib.hid hf
 clear hf
 have H := Lib.hid (Ow.start w)
 go_enter Tryz.func27, Tryz.ntmps27
 go_wp2_with (first
  | ((fail_if_success have := g2); (with_reducible apply own_box H); (case hgd | ho | hx => exact rfl); intro w2 g2 H' _ _; replace H := H'; clear H'; go_simp)
  | ((fail_if_success have := g3); (fail_if_success have := g3); (with_reducible apply own_box H); (case hgd | ho | hx => exact rfl); intro w3 g3 H' _ _; replace H := H'; clear H'; go_simp))
 refine wp_region_noPanic ?_
 refine wp_region_held_drew (S := fun W => W.heap[g2]? = some (Blk 29 .u64 8 (NZ f)) ∧ W.heap[g3]? = some (Blk 31 .i64 16 (dF (a).val))) (by kernel_rfl) (⟨H.out.drew.row 1 rfl, H.out.drew.row 0 rfl⟩) (fun hH => ?_)
 replace H := Lib.hid H.out.drew
 generalize World.drew _ = w8 at *
 refine held_row 0 5 rowE rfl rfl (by kernel_rfl) (by kernel_rfl) (by kernel_rfl) rfl hH rfl rfl (fun _ h => h.1) ?_
 try simp only [Act.put, List.setIfInBounds_toArray, List.set_cons_zero, List.set_cons_succ]
 refine held_row 2 7 rowF rfl rfl (by kernel_rfl) (by kernel_rfl) (by kernel_rfl) rfl hH rfl rfl (fun _ h => h.2) ?_
 try simp only [Act.put, List.setIfInBounds_toArray, List.set_cons_zero, List.set_cons_succ]
 refine wpAnyH_ready (rs := [1]) (by kernel_rfl) (by simp) ?_
 refine AllReadyH.cons (o := _) rfl (fun K hK => ?_) AllReadyH.nil
 go_simp
 refine (bytes_sb _ EA.out).mono ?_
 rintro e wc ⟨ge6, ce6, rfl, hs, hb⟩
 replace H := Lib.hid (H.out.call hb)
 have SE6 := Lib.hid hs
 refine hK.out _ _ (⟨H.out.row 1 rfl, H.out.row 0 rfl⟩) (fun hN => ?_)
 clear hK K hH hb hs
 have hH := hN
 clear hN
 try simp only [Act.put, List.setIfInBounds_toArray, List.set_cons_zero, List.set_cons_succ]
 refine wpAnyH_ready (rs := [3]) (by kernel_rfl) (by simp) ?_
 refine AllReadyH.cons (o := _) rfl (fun K hK => ?_) AllReadyH.nil
 go_simp
 refine (refBytes_sb _ _).mono ?_
 rintro e wc ⟨ge8, ce8, rfl, hs, hb⟩
 replace SE6 := Lib.hid (SE6.out.call hb)
 replace H := Lib.hid (H.out.call hb)
 have SE8 := Lib.hid hs
 refine hK.out _ _ (⟨H.out.row 1 rfl, H.out.row 0 rfl⟩) (fun hN => ?_)
 clear hK K hH hb hs
 have hH := hN
 clear hN
 try simp only [Act.put, List.setIfInBounds_toArray, List.set_cons_zero, List.set_cons_succ]
 refine wpAnyH_ready (rs := [4]) (by kernel_rfl) (by simp) ?_
 refine AllReadyH.cons (o := _) rfl (fun K hK => ?_) AllReadyH.nil
 go_simp
 refine (cmp_true11 _ _ _ _ _ _ _ _ (by omega) SE6.out SE8.out rfl).mono ?_
 rintro e wc ⟨rfl, hb⟩
 replace SE6 := Lib.hid (SE6.out.call hb)
 replace SE8 := Lib.hid (SE8.out.call hb)
 replace H := Lib.hid (H.out.call hb)
 refine hK.out _ _ (⟨H.out.row 1 rfl, H.out.row 0 rfl⟩) (fun hN => ?_)
 clear hK K hH hb
 have hH := hN
 clear hN
 try simp only [Act.put, List.setIfInBounds_toArray, List.set_cons_zero, List.set_cons_succ]
 refine held_value 5 4 (.bool true) rfl rfl (by kernel_rfl) (by kernel_rfl) (by kernel_rfl) rfl hH (fun w hw => by go_simp) ?_
 try simp only [Act.put, List.setIfInBounds_toArray, List.set_cons_zero, List.set_cons_succ]
 try simp only [Act.put]
 refine wpAnyH_done (by kernel_rfl) ?_ _
 refine NoPanic.normal ?_
 clear hH
 go_wp2_with fail
 go_ret
 exact ⟨rfl, H.out.bel⟩
set_option maxRecDepth 8000 in
set_option maxHeartbeats 3200000 in
theorem same13_k {v : Nat → Int} {X Y : K} (w : World) (hp : TwX v X Y) :
  Calls Tryz.prog 16 #[TO v, T2 (T2v X Y)] w fun e w' => e = .returned (.bool true) ∧ Below w.heap.size w w' := by
 have V := Lib.hid hp
 clear hp
 have H := Lib.hid (Ow.start w)
 go_enter Tryz.func16, Tryz.ntmps16
 go_wp2_with (first
  | ((fail_if_success have := g2); (with_reducible apply own_box H); (case hgd | ho | hx => exact rfl); intro w2 g2 H' _ _; replace H := H'; clear H'; go_simp)
  | ((fail_if_success have := g3); (fail_if_success have := g3); (with_reducible apply own_box H); (case hgd | ho | hx => exact rfl); intro w3 g3 H' _ _; replace H := H'; clear H'; go_simp)
  | ((with_reducible apply own_load rowTO H); (case hgd | ho | hx => exact rfl); (case hi => first|exact at0|exact at1|exact at2|exact at3|exact at4|exact at5|exact at6|exact at7|exact at8|exact at9); intro _ _; go_simp)
  | ((fail_if_success have := VX); (with_reducible refine (twAffine_k _ V.out).mono ?_); rintro e wc ⟨hx, hy, rfl, hv, hu, hb⟩; replace H := Lib.hid (H.out.call hb); clear hb; have VX := Lib.hid hv; have VY := Lib.hid hu; clear hv hu)
  | ((fail_if_success have := g5); (fail_if_success have := g5); (with_reducible apply own_alloc nilE H); (case hgd | ho => exact rfl); intro w5 g5 H' _ _; replace H := H'; clear H'; go_simp)
  | ((fail_if_success have := g6); (fail_if_success have := g6); (with_reducible apply own_alloc nilE H); (case hgd | ho => exact rfl); intro w6 g6 H' _ _; replace H := H'; clear H'; go_simp)
  | ((with_reducible apply own_store rowE H); (case hgd | ho | hx | hy => exact rfl); (case hi => first|exact at0|exact at1|exact at2|exact at3|exact at4|exact at5|exact at6|exact at7|exact at8|exact at9); intro ws H' _ _; replace H := H'; clear H'; simp only [List.set_cons_zero, List.set_cons_succ] at H; go_simp)
  | ((with_reducible apply own_load rowE H); (case hgd | ho | hx => exact rfl); (case hi => first|exact at0|exact at1|exact at2|exact at3|exact at4|exact at5|exact at6|exact at7|exact at8|exact at9); intro _ _; go_simp)
  | ((with_reducible apply own_load_p rowF H); (case hgd | ho | hx => exact rfl); (case hi => first|exact at0|exact at1|exact at2|exact at3|exact at4|exact at5|exact at6|exact at7|exact at8|exact at9); (case hp => first | exact partT_0 | exact partT_1); intro _ _; go_simp)
  | ((with_reducible apply own_loadg rowE H); (case hw | ho | hx => exact rfl); (case hi => first|exact at0|exact at1|exact at2|exact at3|exact at4|exact at5|exact at6|exact at7|exact at8|exact at9); intro _ _; go_simp)
  | ((with_reducible apply own_load_pg rowF H); (case hw | ho | hx => exact rfl); (case hi => first|exact at0|exact at1|exact at2|exact at3|exact at4|exact at5|exact at6|exact at7|exact at8|exact at9); (case hp => first | exact partT_0 | exact partT_1); intro _ _; go_simp)
  | ((fail_if_success have := mk1); (with_reducible refine (sameE_k _ VX.out).mono ?_); rintro e wc ⟨rfl, hb⟩; replace H := Lib.hid (H.out.call hb); clear hb; have mk1 := trivial)
  | ((fail_if_success have := mk2); (with_reducible refine (sameE_k _ VY.out).mono ?_); rintro e wc ⟨rfl, hb⟩; replace H := Lib.hid (H.out.call hb); clear hb; have mk2 := trivial))
 go_ret
 exact ⟨rfl, H.out.bel⟩
set_option maxRecDepth 8000 in
set_option maxHeartbeats 3200000 in
theorem spots13_k {a1 a2 : Option Addr} {n1 c1 x1 n2 c2 x2 : Nat} {z1 z2 : Int} {o1 o2 b : Bool} (hb : (o1 && o2) = b) (ok1 : okS n1 z1 = o1) (ok2 : okS n2 z2 = o2) (w : World) (hT : Tp w) (hs1 : Sb w w.heap.size a1 n1 c1 x1) (hs2 : Sb w w.heap.size a2 n2 c2 x2) :
  Calls Tryz.prog 17 #[.agg #[.slice a1 n1 c1, .int .i64 z1, .slice a2 n2 c2, .int .i64 z2]] w fun e w' => ∃ v u r s P Q, e = .returned (.tuple #[PP2 (t2 24 v u), QQ2 (t2 48 r s), .bool b]) ∧ PtK v P ∧ PtK u Q ∧ RfK r P ∧ RfK s Q ∧ Below w.heap.size w w' := by
 subst hb
 have HS1 := Lib.hid hs1
 have HS2 := Lib.hid hs2
 have OK1 := Lib.hid ok1
 have OK2 := Lib.hid ok2
 clear hs1 hs2 ok1 ok2
 have HT := Lib.hid hT
 clear hT
 have H := Lib.hid (Ow.start w)
 go_enter Tryz.func17, Tryz.ntmps17
 go_upto_region 3 with (first
  | ((fail_if_success have := g1); (with_reducible apply own_boxC H); (case hgd | ho | hx => exact rfl); intro w1 g1 H' _ _; replace H := H'; clear H'; go_simp)
  | ((fail_if_success have := g2); (with_reducible apply own_alloc nilPP H); (case hgd | ho => exact rfl); intro w2 g2 H' _ _; replace H := H'; clear H'; go_simp)
  | ((fail_if_success have := g3); (fail_if_success have := g3); (with_reducible apply own_alloc nilQQ H); (case hgd | ho => exact rfl); intro w3 g3 H' _ _; replace H := H'; clear H'; go_simp)
  | ((with_reducible apply own_loadCC rowSpK H); (case hgd | ho | hx => exact rfl); (case hi => first|exact at0|exact at1|exact at2|exact at3|exact at4|exact at5|exact at6|exact at7|exact at8|exact at9); (case h0 | h1 => exact rfl); intro _ _; go_simp)
  | ((fail_if_success have := mk1); (with_reducible refine (made11_any OK1.out _ (HT.out.below H.out.bel) ((HS1.out.below H.out.bel).more H.out.bel.size)).mono ?_); rintro e wc ⟨v1, r1, P1, rfl, hv, hw, hb⟩; replace H := Lib.hid (H.out.call hb); have V1 := Lib.hid hv; have W1 := Lib.hid hw; have mk1 := trivial; clear hb hv hw)
  | ((fail_if_success have := mk2); (with_reducible refine (made11_any OK2.out _ (HT.out.below H.out.bel) ((HS2.out.below H.out.bel).more H.out.bel.size)).mono ?_); rintro e wc ⟨v2, r2, P2, rfl, hv, hw, hb⟩; replace H := Lib.hid (H.out.call hb); have V2 := Lib.hid hv; have W2 := Lib.hid hw; have mk2 := trivial; clear hb hv hw)
  | ((fail_if_success have := g5); (fail_if_success have := g5); (with_reducible apply own_alloc nilPt H); (case hgd | ho => exact rfl); intro w5 g5 H' _ _; replace H := H'; clear H'; go_simp)
  | ((fail_if_success have := g6); (fail_if_success have := g6); (with_reducible apply own_alloc nilQt H); (case hgd | ho => exact rfl); intro w6 g6 H' _ _; replace H := H'; clear H'; go_simp)
  | ((fail_if_success have := g8); (fail_if_success have := g8); (with_reducible apply own_alloc nilPt H); (case hgd | ho => exact rfl); intro w8 g8 H' _ _; replace H := H'; clear H'; go_simp)
  | ((fail_if_success have := g9); (fail_if_success have := g9); (with_reducible apply own_alloc nilQt H); (case hgd | ho => exact rfl); intro w9 g9 H' _ _; replace H := H'; clear H'; go_simp)
  | ((with_reducible apply own_store rowPt H); (case hgd | ho | hx | hy => exact rfl); (case hi => first|exact at0|exact at1|exact at2|exact at3|exact at4|exact at5|exact at6|exact at7|exact at8|exact at9); intro ws H' _ _; replace H := H'; clear H'; simp only [List.set_cons_zero, List.set_cons_succ] at H; go_simp)
  | ((with_reducible apply own_store rowQt H); (case hgd | ho | hx | hy => exact rfl); (case hi => first|exact at0|exact at1|exact at2|exact at3|exact at4|exact at5|exact at6|exact at7|exact at8|exact at9); intro ws H' _ _; replace H := H'; clear H'; simp only [List.set_cons_zero] at H; go_simp))
 clear mk1 mk2
 cases o1 with
 | true =>
  clear OK1 OK2
  refine wp_region_noPanic ?_
  refine wp_region_held_drew (S := fun W => W.heap[g5]? = some (Blk 38 .u64 24 (v1)) ∧ W.heap[g8]? = some (Blk 38 .u64 24 (v2)) ∧ W.heap[g6]? = some (Blk 40 .i64 48 (r1)) ∧ W.heap[g9]? = some (Blk 40 .i64 48 (r2))) (by kernel_rfl) (⟨H.out.drew.row 3 rfl, H.out.drew.row 1 rfl, H.out.drew.row 2 rfl, H.out.drew.row 0 rfl⟩) (fun hH => ?_)
  replace H := Lib.hid H.out.drew
  generalize World.drew _ = w8 at *
  refine held_row 0 25 rowPt rfl rfl (by kernel_rfl) (by kernel_rfl) (by kernel_rfl) rfl hH rfl rfl (fun _ h => h.1) ?_
  try simp only [Act.put, List.setIfInBounds_toArray, List.set_cons_zero, List.set_cons_succ]
  refine held_row 1 26 rowPt rfl rfl (by kernel_rfl) (by kernel_rfl) (by kernel_rfl) rfl hH rfl rfl (fun _ h => h.2.1) ?_
  try simp only [Act.put, List.setIfInBounds_toArray, List.set_cons_zero, List.set_cons_succ]
  refine held_PP 2 27 rfl rfl (by kernel_rfl) (by kernel_rfl) (by kernel_rfl) rfl hH rfl rfl rfl ?_
  try simp only [Act.put, List.setIfInBounds_toArray, List.set_cons_zero, List.set_cons_succ]
  refine held_row 3 28 rowQt rfl rfl (by kernel_rfl) (by kernel_rfl) (by kernel_rfl) rfl hH rfl rfl (fun _ h => h.2.2.1) ?_
  try simp only [Act.put, List.setIfInBounds_toArray, List.set_cons_zero, List.set_cons_succ]
  refine held_row 4 29 rowQt rfl rfl (by kernel_rfl) (by kernel_rfl) (by kernel_rfl) rfl hH rfl rfl (fun _ h => h.2.2.2) ?_
  try simp only [Act.put, List.setIfInBounds_toArray, List.set_cons_zero, List.set_cons_succ]
  refine held_QQ 5 30 rfl rfl (by kernel_rfl) (by kernel_rfl) (by kernel_rfl) rfl hH rfl rfl rfl ?_
  try simp only [Act.put, List.setIfInBounds_toArray, List.set_cons_zero, List.set_cons_succ]
  refine held_value 6 31 (.bool true) rfl rfl (by kernel_rfl) (by kernel_rfl) (by kernel_rfl) rfl hH (fun w hw => by go_simp) ?_
  try simp only [Act.put, List.setIfInBounds_toArray, List.set_cons_zero, List.set_cons_succ]
  refine held_value 7 32 (.bool true) rfl rfl (by kernel_rfl) (by kernel_rfl) (by kernel_rfl) rfl hH (fun w hw => by go_simp) ?_
  try simp only [Act.put, List.setIfInBounds_toArray, List.set_cons_zero, List.set_cons_succ]
  refine held_value 8 33 (.bool o2) rfl rfl (by kernel_rfl) (by kernel_rfl) (by kernel_rfl) rfl hH (fun w hw => by go_simp) ?_
  try simp only [Act.put, List.setIfInBounds_toArray, List.set_cons_zero, List.set_cons_succ]
  refine held_value 9 34 (.bool o2) rfl rfl (by kernel_rfl) (by kernel_rfl) (by kernel_rfl) rfl hH (fun w hw => by go_simp) ?_
  try simp only [Act.put, List.setIfInBounds_toArray, List.set_cons_zero, List.set_cons_succ]
  refine wpAnyH_ready (rs := [10]) (by kernel_rfl) (by simp) ?_
  refine AllReadyH.cons (o := _) rfl (fun K hK => ?_) AllReadyH.nil
  refine own_st 5 rfl rowPP H.out rfl rfl rfl rfl ?_
  intro ws HS
  simp only [List.set_cons_zero, List.set_cons_succ] at HS
  replace H := Lib.hid HS
  refine hK.out _ _ (⟨H.out.row 3 rfl, H.out.row 1 rfl, H.out.row 2 rfl, H.out.row 0 rfl⟩) (fun hN => ?_)
  clear hK K HS hH
  have hH := hN
  clear hN
  try simp only [List.setIfInBounds_toArray]
  refine wpAnyH_ready (rs := [11]) (by kernel_rfl) (by simp) ?_
  refine AllReadyH.cons (o := _) rfl (fun K hK => ?_) AllReadyH.nil
  refine own_st 4 rfl rowQQ H.out rfl rfl rfl rfl ?_
  intro ws HS
  simp only [List.set_cons_zero, List.set_cons_succ] at HS
  replace H := Lib.hid HS
  refine hK.out _ _ (⟨H.out.row 3 rfl, H.out.row 1 rfl, H.out.row 2 rfl, H.out.row 0 rfl⟩) (fun hN => ?_)
  clear hK K HS hH
  have hH := hN
  clear hN
  try simp only [List.setIfInBounds_toArray]
  refine held_value 12 4 (.bool o2) rfl rfl (by kernel_rfl) (by kernel_rfl) (by kernel_rfl) rfl hH (fun w hw => by go_simp) ?_
  try simp only [Act.put, List.setIfInBounds_toArray, List.set_cons_zero, List.set_cons_succ]
  try simp only [Act.put]
  refine wpAnyH_done (by kernel_rfl) ?_ _
  refine NoPanic.normal ?_
  clear hH
  go_wp2_with fail
  exact bodyPost_ret (own_result_tws 5 4 rowPP rowQQ rfl _ H rfl rfl rfl rfl rfl) rfl ⟨_, _, _, _, _, _, rfl, V1.out, V2.out, W1.out, W2.out, H.out.bel⟩
 | false =>
  clear OK1 OK2
  refine wp_region_noPanic ?_
  refine wp_region_held_drew (S := fun W => W.heap[g5]? = some (Blk 38 .u64 24 (v1)) ∧ W.heap[g8]? = some (Blk 38 .u64 24 (v2)) ∧ W.heap[g6]? = some (Blk 40 .i64 48 (r1)) ∧ W.heap[g9]? = some (Blk 40 .i64 48 (r2))) (by kernel_rfl) (⟨H.out.drew.row 3 rfl, H.out.drew.row 1 rfl, H.out.drew.row 2 rfl, H.out.drew.row 0 rfl⟩) (fun hH => ?_)
  replace H := Lib.hid H.out.drew
  generalize World.drew _ = w8 at *
  refine held_row 0 25 rowPt rfl rfl (by kernel_rfl) (by kernel_rfl) (by kernel_rfl) rfl hH rfl rfl (fun _ h => h.1) ?_
  try simp only [Act.put, List.setIfInBounds_toArray, List.set_cons_zero, List.set_cons_succ]
  refine held_row 1 26 rowPt rfl rfl (by kernel_rfl) (by kernel_rfl) (by kernel_rfl) rfl hH rfl rfl (fun _ h => h.2.1) ?_
  try simp only [Act.put, List.setIfInBounds_toArray, List.set_cons_zero, List.set_cons_succ]
  refine held_PP 2 27 rfl rfl (by kernel_rfl) (by kernel_rfl) (by kernel_rfl) rfl hH rfl rfl rfl ?_
  try simp only [Act.put, List.setIfInBounds_toArray, List.set_cons_zero, List.set_cons_succ]
  refine held_row 3 28 rowQt rfl rfl (by kernel_rfl) (by kernel_rfl) (by kernel_rfl) rfl hH rfl rfl (fun _ h => h.2.2.1) ?_
  try simp only [Act.put, List.setIfInBounds_toArray, List.set_cons_zero, List.set_cons_succ]
  refine held_row 4 29 rowQt rfl rfl (by kernel_rfl) (by kernel_rfl) (by kernel_rfl) rfl hH rfl rfl (fun _ h => h.2.2.2) ?_
  try simp only [Act.put, List.setIfInBounds_toArray, List.set_cons_zero, List.set_cons_succ]
  refine held_QQ 5 30 rfl rfl (by kernel_rfl) (by kernel_rfl) (by kernel_rfl) rfl hH rfl rfl rfl ?_
  try simp only [Act.put, List.setIfInBounds_toArray, List.set_cons_zero, List.set_cons_succ]
  refine held_value 6 31 (.bool false) rfl rfl (by kernel_rfl) (by kernel_rfl) (by kernel_rfl) rfl hH (fun w hw => by go_simp) ?_
  try simp only [Act.put, List.setIfInBounds_toArray, List.set_cons_zero, List.set_cons_succ]
  refine held_value 7 32 (.bool false) rfl rfl (by kernel_rfl) (by kernel_rfl) (by kernel_rfl) rfl hH (fun w hw => by go_simp) ?_
  try simp only [Act.put, List.setIfInBounds_toArray, List.set_cons_zero, List.set_cons_succ]
  refine held_skip 8 33 rfl rfl (by kernel_rfl) (by kernel_rfl) (by kernel_rfl) rfl hH ?_
  try simp only [Act.put, List.setIfInBounds_toArray, List.set_cons_zero, List.set_cons_succ]
  refine held_value 9 34 (.bool false) rfl rfl (by kernel_rfl) (by kernel_rfl) (by kernel_rfl) rfl hH (fun w hw => by go_simp) ?_
  try simp only [Act.put, List.setIfInBounds_toArray, List.set_cons_zero, List.set_cons_succ]
  refine wpAnyH_ready (rs := [10]) (by kernel_rfl) (by simp) ?_
  refine AllReadyH.cons (o := _) rfl (fun K hK => ?_) AllReadyH.nil
  refine own_st 5 rfl rowPP H.out rfl rfl rfl rfl ?_
  intro ws HS
  simp only [List.set_cons_zero, List.set_cons_succ] at HS
  replace H := Lib.hid HS
  refine hK.out _ _ (⟨H.out.row 3 rfl, H.out.row 1 rfl, H.out.row 2 rfl, H.out.row 0 rfl⟩) (fun hN => ?_)
  clear hK K HS hH
  have hH := hN
  clear hN
  try simp only [List.setIfInBounds_toArray]
  refine wpAnyH_ready (rs := [11]) (by kernel_rfl) (by simp) ?_
  refine AllReadyH.cons (o := _) rfl (fun K hK => ?_) AllReadyH.nil
  refine own_st 4 rfl rowQQ H.out rfl rfl rfl rfl ?_
  intro ws HS
  simp only [List.set_cons_zero, List.set_cons_succ] at HS
  replace H := Lib.hid HS
  refine hK.out _ _ (⟨H.out.row 3 rfl, H.out.row 1 rfl, H.out.row 2 rfl, H.out.row 0 rfl⟩) (fun hN => ?_)
  clear hK K HS hH
  have hH := hN
  clear hN
  try simp only [List.setIfInBounds_toArray]
  refine held_value 12 4 (.bool false) rfl rfl (by kernel_rfl) (by kernel_rfl) (by kernel_rfl) rfl hH (fun w hw => by go_simp) ?_
  try simp only [Act.put, List.setIfInBounds_toArray, List.set_cons_zero, List.set_cons_succ]
  try simp only [Act.put]
  refine wpAnyH_done (by kernel_rfl) ?_ _
  refine NoPanic.normal ?_
  clear hH
  go_wp2_with fail
  exact bodyPost_ret (own_result_tws 5 4 rowPP rowQQ rfl _ H rfl rfl rfl rfl rfl) rfl ⟨_, _, _, _, _, _, rfl, V1.out, V2.out, W1.out, W2.out, H.out.bel⟩
end Go.Proofs.YtoeokhfhcpcjlaaGreatDoor
