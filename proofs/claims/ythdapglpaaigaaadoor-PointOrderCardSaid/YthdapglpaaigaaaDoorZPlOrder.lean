/-
  The walk of PointOrder. No statement is proved here: lemmas for the walks.
-/
import Derived.Test.YthdapglpaaigaaaDoorZPlAwake
import Derived.Test.YthdapglpaaigaaaDoorBuS
import Derived.Deep.CutRange
namespace Go.Proofs.YthdapglpaaigaaaDoor
open Go.RowKit

theorem order_three (x q : Nat) : pmul edK lN (spot x q) = padd edK (padd edK (pmul edK q pquarter) (pmul edK q pquarter)) (pmul edK q pquarter) := by
  rw [spot_l, ← pmul_add, ← pmul_add]
  congr 1
  omega
theorem four_times (l : Nat) (P : Pt pN dK) : padd edK (padd edK (pmul edK l P) (pmul edK l P)) (padd edK (pmul edK l P) (pmul edK l P)) = pmul edK (4 * l) P := by
  rw [← pmul_add, ← pmul_add]
  congr 1
  omega
theorem order_four (x q : Nat) : padd edK (padd edK (pmul edK lN (spot x q)) (pmul edK lN (spot x q))) (padd edK (pmul edK lN (spot x q)) (pmul edK lN (spot x q))) = pzero := by rw [four_times, spot_4l]
/-- What was there when w0 stood is as it was. -/
structure Bq (w0 W : World) : Prop where
  bel : Below w0.heap.size w0 W
section
variable {w0 W W' : World}
theorem Bq.call (h : Bq w0 W) (hb : Below W.heap.size W W') : Bq w0 W' := ⟨h.bel.trans (hb.mono h.bel.size)⟩
theorem Bq.drew (h : Bq w0 W) : Bq w0 W.drew := ⟨h.bel.drew⟩
theorem Bq.put {g : Nat} (h : Bq w0 W) (hb : Below g W W') (hg : w0.heap.size ≤ g) : Bq w0 W' := ⟨h.bel.trans (hb.mono hg)⟩
end
section
variable {P : Program} {ops : Array Oper} {rest : List Oper} {o : Oper} {a : Act} {w w0 : World} {l : List (Nat × Obj)} {Q : Exit → Act → World → Prop} {t ty : TypeId} {k : IntKind} {n m : Nat}
theorem own_allocG (hz : ∀ w, (zeroValue t).run P w = .ok (.agg (AZ k n fun _ => 0)) w) (H : Hid (Ow w0 w l)) (hgd : o.guard = none) (ho : o.op = .alloc t)
    (h : ∀ w' g, Hid (Ow w0 w' ((g, Blk t k n fun _ => 0) :: l)) → Below w.heap.size w w' → w.heap.size ≤ g → ∀ K : Act → World → Prop, (∀ a w, wpList P ops Q rest a w → K a w) → K (a.put o.dst (.pointer (some ⟨g, 0, none⟩))) w') : wpList P ops Q (o :: rest) a w :=
  wpList_plain hgd fun K hK => by
    unfold Oper.wp execOp
    simp only [ho, Instr.alloc, Sem.run_bind, hz, Result.andThen_ok, newVar, Value.cells]
    simp [go_sem]
    exact h _ _ (Lib.hid (H.out.alloc _)) (below_alloc _ _) (Nat.le_refl _) K hK
theorem below_row (w : World) (g : Nat) (f : Array Value) : Below g w (w.setRow g f) := ⟨rfl, rfl, rfl, by simp [World.setRow], fun c hc => setRow_other w g c _ (by omega)⟩
theorem own_storeG {i : Nat} (hT : IsRow P ty n) (H : Hid (Ow w0 w l)) (hgd : o.guard = none) {x y : Operand} (ho : o.op = .store ty x y) {g : Nat} (hx : a.eval x = .pointer (some ⟨g, 0, none⟩)) {f f0 : Nat → Int} (hy : a.eval y = .agg (AZ k n f))
    (hi : l[i]? = some (g, Blk t k n f0)) (h : ∀ w', Hid (Ow w0 w' (l.set i (g, Blk t k n f))) → Below g w w' → ∀ K : Act → World → Prop, (∀ a w, wpList P ops Q rest a w → K a w) → K (a.put o.dst undef) w') : wpList P ops Q (o :: rest) a w :=
  wpList_plain hgd fun K hK => by
    unfold Oper.wp execOp
    have hs := run_store_part (o := 0) (g := f) hT (H.out.row i hi) (by omega)
    rw [layZ_all] at hs
    simp only [ho, hx, hy, Sem.run_bind, hs, Result.andThen_ok]
    exact h _ (Lib.hid (H.out.setRow i hi f)) (below_row _ _ _) K hK
end
section
variable {P : Program} {o : Oper} {a : Act} {w w0 : World} {l : List (Nat × Obj)} {K : Act → World → Prop} {Q : Exit → Act → World → Prop} {t ty : TypeId} {k : IntKind} {n : Nat}
theorem own_wp_allocG (dd : Tmp) (hd : o.dst = some dd) (hz : ∀ w, (zeroValue t).run P w = .ok (.agg (AZ k n fun _ => 0)) w) (H : Ow w0 w l) (ho : o.op = .alloc t)
    (h : ∀ w' g, Ow w0 w' ((g, Blk t k n fun _ => 0) :: l) → Below w.heap.size w w' → w.heap.size ≤ g → K (a.put (some dd) (.pointer (some ⟨g, 0, none⟩))) w') : o.wp P a w K Q := by
  unfold Oper.wp execOp
  simp only [ho, Instr.alloc, Sem.run_bind, hz, Result.andThen_ok, newVar, Value.cells]
  simp [go_sem]
  show K (a.put o.dst _) _
  rw [hd]
  exact h _ _ (H.alloc _) (below_alloc _ _) (Nat.le_refl _)
theorem own_wp_storeG (i : Nat) (hT : IsRow P ty n) (H : Ow w0 w l) {x y : Operand} (ho : o.op = .store ty x y) {g : Nat} (hx : a.eval x = .pointer (some ⟨g, 0, none⟩)) {f f0 : Nat → Int} (hy : a.eval y = .agg (AZ k n f))
    (hi : l[i]? = some (g, Blk t k n f0)) (h : ∀ w', Ow w0 w' (l.set i (g, Blk t k n f)) → Below g w w' → K (a.put o.dst undef) w') : o.wp P a w K Q := by
  unfold Oper.wp execOp
  have hs := run_store_part (o := 0) (g := f) hT (H.row i hi) (by omega)
  rw [layZ_all] at hs
  simp only [ho, hx, hy, Sem.run_bind, hs, Result.andThen_ok]
  exact h _ (H.setRow i hi f) (below_row _ _ _)
end
set_option maxRecDepth 20000 in
set_option maxHeartbeats 12800000 in
theorem order_walk (u : Nat → BitVec 8) (y : Int) (w : World) (hT : Tp w) :
    Calls Tryd.prog 7 #[.agg (SpotA u y)] w fun e w' => e = .returned (.bool true) ∧ Below w.heap.size w w' := by
  obtain ⟨x1, hx1⟩ := num57 u
  have M1 := Lib.hid (fun w hT => made8_k u y x1 w hT hx1)
  have N1 := Lib.hid (fun w hT => quarter_k y w hT)
  have HA := Lib.hid (order_three x1 (qn y))
  have HF := Lib.hid (order_four x1 (qn y))
  obtain ⟨P1, hP1⟩ : ∃ P, spot x1 (qn y) = P := ⟨_, rfl⟩
  obtain ⟨P2, hP2⟩ : ∃ P, pmul edK (qn y) pquarter = P := ⟨_, rfl⟩
  rw [hP1] at M1 HA HF
  rw [hP2] at N1 HA
  clear hP1 hP2 hx1
  have HT := Lib.hid hT
  clear hT
  have H := Lib.hid (Ow.start w)
  go_enter Tryd.func7, Tryd.ntmps7
  go_upto_region 7 with (first
    | ((fail_if_success have := g1); (with_reducible apply own_boxS H); (case hgd => exact rfl); (case ho => exact rfl); (case hx => exact rfl); intro w1 g1 H' _ _; replace H := H'; clear H'; go_simp)
    | ((with_reducible apply own_loadS H); (case hgd => exact rfl); (case ho => exact rfl); (case hx => exact rfl); (case hi => first | exact at0 | exact at1 | exact at2 | exact at3 | exact at4 | exact at5 | exact at6 | exact at7 | exact at8 | exact at9); intro _ _; go_simp)
    | ((with_reducible apply own_quart H); (case hgd => exact rfl); (case ho => exact rfl); (case hx => exact rfl); (case hi => first | exact at0 | exact at1 | exact at2 | exact at3 | exact at4 | exact at5 | exact at6 | exact at7 | exact at8 | exact at9); intro _ _; go_simp)
    | ((fail_if_success have := V1); (with_reducible refine (M1.out _ (HT.out.below H.out.bel)).mono ?_); rintro e wc ⟨k1, rfl, hv, hb⟩; replace H := Lib.hid (H.out.call hb); clear hb; have V1 := Lib.hid hv; clear hv)
    | ((fail_if_success have := V2); (with_reducible refine (N1.out _ (HT.out.below H.out.bel)).mono ?_); rintro e wc ⟨k2, rfl, hv, hb⟩; replace H := Lib.hid (H.out.call hb); clear hb; have V2 := Lib.hid hv; clear hv)
    | ((fail_if_success have := g3); (fail_if_success have := g3); (with_reducible apply own_alloc nilPt H); (case hgd => exact rfl); (case ho => exact rfl); intro w3 g3 H' _ _; replace H := H'; clear H'; go_simp)
    | ((fail_if_success have := g5); (fail_if_success have := g5); (with_reducible apply own_alloc nilPt H); (case hgd => exact rfl); (case ho => exact rfl); intro w5 g5 H' _ _; replace H := H'; clear H'; go_simp)
    | ((fail_if_success have := HS); (with_reducible apply own_store rowPt H); (case hgd => exact rfl); (case ho => exact rfl); (case hx => exact rfl); (case hy => exact rfl); (case hi => first | exact at0 | exact at1 | exact at2 | exact at3 | exact at4 | exact at5 | exact at6 | exact at7 | exact at8 | exact at9); intro ws H' _ _; replace H := H'; clear H'; simp only [List.set_cons_zero] at H; go_simp)
    | ((with_reducible apply own_load rowPt H); (case hgd => exact rfl); (case ho => exact rfl); (case hx => exact rfl); (case hi => first | exact at0 | exact at1 | exact at2 | exact at3 | exact at4 | exact at5 | exact at6 | exact at7 | exact at8 | exact at9); intro _ _; go_simp)
    | ((fail_if_success have := HS); (with_reducible refine (refL_v _).mono ?_); rintro e wL ⟨ad, c, rfl, hs, hb⟩; replace H := Lib.hid (H.out.call hb); have HS := Lib.hid hs; have HB : Hid (Bq wL wL) := Lib.hid ⟨Below.refl _ _⟩; clear hs hb)
    | ((fail_if_success have := V4); (with_reducible refine (lawTimes_k ad 56 c lN _ (HT.out.below H.out.bel) (by omega) (by omega) ((HS.out.below HB.out.bel).more HB.out.bel.size) V1.out).mono ?_); rintro e wc ⟨k4, rfl, hv, hb⟩; replace H := Lib.hid (H.out.call hb); replace HB := Lib.hid (HB.out.call hb); clear hb; have V4 := Lib.hid hv; clear hv)
    | ((fail_if_success have := g8); (with_reducible apply own_allocG nilPt H); (case hgd => exact rfl); (case ho => exact rfl); intro w8 g8 H' hb hge _ _; replace H := H'; have HG8 := Lib.hid (Nat.le_trans HB.out.bel.size hge); replace HB := Lib.hid (HB.out.call hb); clear H' hb hge; go_simp)
    | ((with_reducible apply own_storeG rowPt H); (case hgd => exact rfl); (case ho => exact rfl); (case hx => exact rfl); (case hy => exact rfl); (case hi => first | exact at0 | exact at1 | exact at2 | exact at3 | exact at4 | exact at5 | exact at6 | exact at7 | exact at8 | exact at9); intro ws H' hst _ _; replace H := H'; replace HB := Lib.hid (HB.out.put hst HG8.out); clear H' hst; simp only [List.set_cons_zero] at H; go_simp))
  go_cut [9] from 31 to 34 (fun v9 wx => ∃ g9 h34, v9 = .pointer (some ⟨g9, 0, none⟩) ∧ PtK h34 (padd edK (padd edK P2 P2) P2) ∧ Bq wL wx ∧ Ow w wx [(g9, Blk 34 .u64 24 (h34)), (g8, Blk 34 .u64 24 (k4)), (g5, Blk 34 .u64 24 (k2)), (g3, Blk 34 .u64 24 (k1)), (g1, BkS u y)])
  case first =>
    go_wp2_with fail
    refine wp_region_noPanic ?_
    refine wp_region_held_drew (S := fun W => W.heap[g5]? = some (Blk 34 .u64 24 (k2))) (by kernel_rfl) (H.out.drew.row 1 rfl) (fun hH => ?_)
    replace H := Lib.hid H.out.drew
    replace HB := Lib.hid HB.out.drew
    generalize World.drew _ = w8 at *
    refine held_row 0 31 rowPt rfl rfl (by kernel_rfl) (by kernel_rfl) (by kernel_rfl) rfl hH rfl rfl (fun _ h => h) ?_
    try simp only [Act.put, List.setIfInBounds_toArray, List.set_cons_zero, List.set_cons_succ]
    refine held_row 2 33 rowPt rfl rfl (by kernel_rfl) (by kernel_rfl) (by kernel_rfl) rfl hH rfl rfl (fun _ h => h) ?_
    try simp only [Act.put, List.setIfInBounds_toArray, List.set_cons_zero, List.set_cons_succ]
    refine wpAnyH_ready (rs := [1, 4]) (by kernel_rfl) (by simp) ?_
    refine AllReadyH.cons (o := _) rfl (fun K hK => ?_) (AllReadyH.cons (o := _) rfl (fun K hK => ?_) AllReadyH.nil)
    · skip
      go_simp
      refine (ptDouble_k _ (HT.out.below H.out.bel) V2.out).mono ?_
      rintro e wc ⟨h32, rfl, hv, hb⟩
      replace HB := Lib.hid (HB.out.call hb)
      replace H := Lib.hid (H.out.call hb)
      have HV32 := Lib.hid hv
      refine hK.out _ _ (H.out.row 1 rfl) (fun hN => ?_)
      clear hK K hH hb hv
      have hH := hN
      clear hN
      try simp only [Act.put, List.setIfInBounds_toArray, List.set_cons_zero, List.set_cons_succ]
      refine wpAnyH_ready (rs := [3, 4]) (by kernel_rfl) (by simp) ?_
      refine AllReadyH.cons (o := _) rfl (fun K hK => ?_) (AllReadyH.cons (o := _) rfl (fun K hK => ?_) AllReadyH.nil)
      · skip
        go_simp
        refine (ptAdd_k _ (HT.out.below H.out.bel) HV32.out V2.out).mono ?_
        rintro e wc ⟨h34, rfl, hv, hb⟩
        replace HB := Lib.hid (HB.out.call hb)
        replace H := Lib.hid (H.out.call hb)
        have HV34 := Lib.hid hv
        refine hK.out _ _ (H.out.row 1 rfl) (fun hN => ?_)
        clear hK K hH hb hv
        have hH := hN
        clear hN
        try simp only [Act.put, List.setIfInBounds_toArray, List.set_cons_zero, List.set_cons_succ]
        refine wpAnyH_ready (rs := [4]) (by kernel_rfl) (by simp) ?_
        refine AllReadyH.cons (o := _) rfl (fun K hK => ?_) AllReadyH.nil
        refine own_wp_allocG 9 rfl nilPt H.out rfl ?_
        intro w9 g9 H3 hb hge
        have HG9 := Lib.hid (Nat.le_trans HB.out.bel.size hge)
        replace HB := Lib.hid (HB.out.call hb)
        replace H := Lib.hid H3
        refine hK.out _ _ (H.out.row 2 rfl) (fun hN => ?_)
        clear hK K hH H3 hb hge
        have hH := hN
        clear hN
        try simp only [Act.put, List.setIfInBounds_toArray, List.set_cons_zero, List.set_cons_succ]
        refine wpAnyH_ready (rs := [5]) (by kernel_rfl) (by simp) ?_
        refine AllReadyH.cons (o := _) rfl (fun K hK => ?_) AllReadyH.nil
        refine own_wp_storeG 0 rowPt H.out rfl rfl rfl rfl ?_
        intro ws HS hst
        replace HB := Lib.hid (HB.out.put hst HG9.out)
        simp only [List.set_cons_zero] at HS
        replace H := Lib.hid HS
        refine hK.out _ _ (H.out.row 2 rfl) (fun hN => ?_)
        clear hK K HS hH hst
        have hH := hN
        clear hN
        try simp only [Act.put, List.setIfInBounds_toArray]
        try simp only [Act.put]
        refine wpAnyH_done (by kernel_rfl) ?_ _
        refine NoPanic.normal ?_
        clear hH
        go_wp2_with fail
        go_meet
        exact ⟨g9, h34, rfl, HV34.out, HB.out, H.out⟩
      · skip
        refine own_wp_allocG 9 rfl nilPt H.out rfl ?_
        intro w9 g9 H3 hb hge
        have HG9 := Lib.hid (Nat.le_trans HB.out.bel.size hge)
        replace HB := Lib.hid (HB.out.call hb)
        replace H := Lib.hid H3
        refine hK.out _ _ (H.out.row 2 rfl) (fun hN => ?_)
        clear hK K hH H3 hb hge
        have hH := hN
        clear hN
        try simp only [Act.put, List.setIfInBounds_toArray, List.set_cons_zero, List.set_cons_succ]
        refine wpAnyH_ready (rs := [3]) (by kernel_rfl) (by simp) ?_
        refine AllReadyH.cons (o := _) rfl (fun K hK => ?_) AllReadyH.nil
        go_simp
        refine (ptAdd_k _ (HT.out.below H.out.bel) HV32.out V2.out).mono ?_
        rintro e wc ⟨h34, rfl, hv, hb⟩
        replace HB := Lib.hid (HB.out.call hb)
        replace H := Lib.hid (H.out.call hb)
        have HV34 := Lib.hid hv
        refine hK.out _ _ (H.out.row 2 rfl) (fun hN => ?_)
        clear hK K hH hb hv
        have hH := hN
        clear hN
        try simp only [Act.put, List.setIfInBounds_toArray, List.set_cons_zero, List.set_cons_succ]
        refine wpAnyH_ready (rs := [5]) (by kernel_rfl) (by simp) ?_
        refine AllReadyH.cons (o := _) rfl (fun K hK => ?_) AllReadyH.nil
        refine own_wp_storeG 0 rowPt H.out rfl rfl rfl rfl ?_
        intro ws HS hst
        replace HB := Lib.hid (HB.out.put hst HG9.out)
        simp only [List.set_cons_zero] at HS
        replace H := Lib.hid HS
        refine hK.out _ _ (H.out.row 2 rfl) (fun hN => ?_)
        clear hK K HS hH hst
        have hH := hN
        clear hN
        try simp only [Act.put, List.setIfInBounds_toArray]
        try simp only [Act.put]
        refine wpAnyH_done (by kernel_rfl) ?_ _
        refine NoPanic.normal ?_
        clear hH
        go_wp2_with fail
        go_meet
        exact ⟨g9, h34, rfl, HV34.out, HB.out, H.out⟩
    · skip
      refine own_wp_allocG 9 rfl nilPt H.out rfl ?_
      intro w9 g9 H3 hb hge
      have HG9 := Lib.hid (Nat.le_trans HB.out.bel.size hge)
      replace HB := Lib.hid (HB.out.call hb)
      replace H := Lib.hid H3
      refine hK.out _ _ (H.out.row 2 rfl) (fun hN => ?_)
      clear hK K hH H3 hb hge
      have hH := hN
      clear hN
      try simp only [Act.put, List.setIfInBounds_toArray, List.set_cons_zero, List.set_cons_succ]
      refine wpAnyH_ready (rs := [1]) (by kernel_rfl) (by simp) ?_
      refine AllReadyH.cons (o := _) rfl (fun K hK => ?_) AllReadyH.nil
      go_simp
      refine (ptDouble_k _ (HT.out.below H.out.bel) V2.out).mono ?_
      rintro e wc ⟨h32, rfl, hv, hb⟩
      replace HB := Lib.hid (HB.out.call hb)
      replace H := Lib.hid (H.out.call hb)
      have HV32 := Lib.hid hv
      refine hK.out _ _ (H.out.row 2 rfl) (fun hN => ?_)
      clear hK K hH hb hv
      have hH := hN
      clear hN
      try simp only [Act.put, List.setIfInBounds_toArray, List.set_cons_zero, List.set_cons_succ]
      refine wpAnyH_ready (rs := [3]) (by kernel_rfl) (by simp) ?_
      refine AllReadyH.cons (o := _) rfl (fun K hK => ?_) AllReadyH.nil
      go_simp
      refine (ptAdd_k _ (HT.out.below H.out.bel) HV32.out V2.out).mono ?_
      rintro e wc ⟨h34, rfl, hv, hb⟩
      replace HB := Lib.hid (HB.out.call hb)
      replace H := Lib.hid (H.out.call hb)
      have HV34 := Lib.hid hv
      refine hK.out _ _ (H.out.row 2 rfl) (fun hN => ?_)
      clear hK K hH hb hv
      have hH := hN
      clear hN
      try simp only [Act.put, List.setIfInBounds_toArray, List.set_cons_zero, List.set_cons_succ]
      refine wpAnyH_ready (rs := [5]) (by kernel_rfl) (by simp) ?_
      refine AllReadyH.cons (o := _) rfl (fun K hK => ?_) AllReadyH.nil
      refine own_wp_storeG 0 rowPt H.out rfl rfl rfl rfl ?_
      intro ws HS hst
      replace HB := Lib.hid (HB.out.put hst HG9.out)
      simp only [List.set_cons_zero] at HS
      replace H := Lib.hid HS
      refine hK.out _ _ (H.out.row 2 rfl) (fun hN => ?_)
      clear hK K HS hH hst
      have hH := hN
      clear hN
      try simp only [Act.put, List.setIfInBounds_toArray]
      try simp only [Act.put]
      refine wpAnyH_done (by kernel_rfl) ?_ _
      refine NoPanic.normal ?_
      clear hH
      go_wp2_with fail
      go_meet
      exact ⟨g9, h34, rfl, HV34.out, HB.out, H.out⟩
  clear H
  obtain ⟨g9, h34, rfl, hv34, hbq, HRR⟩ := hcut
  have HV34 := Lib.hid hv34
  have HB := Lib.hid hbq
  have H := Lib.hid HRR
  clear HRR hv34 hbq
  go_wp2_with (first
    | ((with_reducible apply own_load rowPt H); (case hgd => exact rfl); (case ho => exact rfl); (case hx => exact rfl); (case hi => first | exact at0 | exact at1 | exact at2 | exact at3 | exact at4 | exact at5 | exact at6 | exact at7 | exact at8 | exact at9); intro _ _; go_simp)
    | ((with_reducible apply own_loadg rowPt H); (case hw => exact rfl); (case ho => exact rfl); (case hx => exact rfl); (case hi => first | exact at0 | exact at1 | exact at2 | exact at3 | exact at4 | exact at5 | exact at6 | exact at7 | exact at8 | exact at9); intro _ _; go_simp)
    | ((fail_if_success have := V6); (with_reducible refine (base_k _ (HT.out.below H.out.bel)).mono ?_); rintro e wc ⟨k6, rfl, hv, hb⟩; replace H := Lib.hid (H.out.call hb); replace HB := Lib.hid (HB.out.call hb); clear hb; have V6 := Lib.hid hv; clear hv)
    | ((fail_if_success have := V7); (with_reducible refine (lawTimes_k ad 56 c lN _ (HT.out.below H.out.bel) (by omega) (by omega) ((HS.out.below HB.out.bel).more HB.out.bel.size) V6.out).mono ?_); rintro e wc ⟨k7, rfl, hv, hb⟩; replace H := Lib.hid (H.out.call hb); replace HB := Lib.hid (HB.out.call hb); clear hb; have V7 := Lib.hid hv; clear hv)
    | ((fail_if_success have := V8); (with_reducible refine (identity_k _ (HT.out.below H.out.bel)).mono ?_); rintro e wc ⟨k8, rfl, hv, hb⟩; replace H := Lib.hid (H.out.call hb); clear hb; have V8 := Lib.hid hv; clear hv)
    | ((fail_if_success have := E1); (with_reducible refine (ptEqual_k _ (HT.out.below H.out.bel) V7.out V8.out (decide_eq_true pB_order)).mono ?_); rintro e wc ⟨rfl, hb⟩; replace H := Lib.hid (H.out.call hb); clear hb; have E1 := trivial)
    | ((fail_if_success have := E2); (with_reducible refine (ptEqual_k _ (HT.out.below H.out.bel) V4.out HV34.out (decide_eq_true HA.out)).mono ?_); rintro e wc ⟨rfl, hb⟩; replace H := Lib.hid (H.out.call hb); clear hb; have E2 := trivial)
    | ((fail_if_success have := V9); (with_reducible refine (ptFour_k _ (HT.out.below H.out.bel) V4.out).mono ?_); rintro e wc ⟨k9, rfl, hv, hb⟩; replace H := Lib.hid (H.out.call hb); clear hb; have V9 := Lib.hid hv; clear hv)
    | ((fail_if_success have := V10); (with_reducible refine (identity_k _ (HT.out.below H.out.bel)).mono ?_); rintro e wc ⟨k10, rfl, hv, hb⟩; replace H := Lib.hid (H.out.call hb); clear hb; have V10 := Lib.hid hv; clear hv)
    | ((fail_if_success have := E3); (with_reducible refine (ptEqual_k _ (HT.out.below H.out.bel) V9.out V10.out (decide_eq_true HF.out)).mono ?_); rintro e wc ⟨rfl, hb⟩; replace H := Lib.hid (H.out.call hb); clear hb; have E3 := trivial)
    | ((fail_if_success have := V11); (with_reducible refine (base_k _ (HT.out.below H.out.bel)).mono ?_); rintro e wc ⟨k11, rfl, hv, hb⟩; replace H := Lib.hid (H.out.call hb); clear hb; have V11 := Lib.hid hv; clear hv)
    | ((fail_if_success have := V12); (with_reducible refine (identity_k _ (HT.out.below H.out.bel)).mono ?_); rintro e wc ⟨k12, rfl, hv, hb⟩; replace H := Lib.hid (H.out.call hb); clear hb; have V12 := Lib.hid hv; clear hv)
    | ((fail_if_success have := E4); (with_reducible refine (ptEqual_k _ (HT.out.below H.out.bel) V11.out V12.out (decide_eq_false pB_ne)).mono ?_); rintro e wc ⟨rfl, hb⟩; replace H := Lib.hid (H.out.call hb); clear hb; have E4 := trivial)
    | ((with_reducible refine (awake8_k _ (HT.out.below H.out.bel)).mono ?_); rintro e wc ⟨rfl, hb⟩; replace H := Lib.hid (H.out.call hb); clear hb))
  go_ret
  exact ⟨rfl, H.out.bel⟩
end Go.Proofs.YthdapglpaaigaaaDoor
