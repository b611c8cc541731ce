/-
  The contracts of package point's bend, ratios, parts, and of its function values. No statement is proved here: lemmas for the walks.
-/
import Derived.Test.YthdapglpaaigaaaDoorZPtMem
import Derived.Test.YthdapglpaaigaaaDoorBuC
import Derived.Deep.CutRange
namespace Go.Proofs.YthdapglpaaigaaaDoor
open Go.RowKit

section
variable {fn : Func} {p q r s : Tmp} {t : TypeId} {w w0 : World} {l : List (Nat × Obj)} {k : IntKind} {n : Nat} {P : Program}
theorem own_result4 (i1 i2 i3 i4 : Nat) (hT : IsRow P t n) (h : fn.results = #[.cell p t, .cell q t, .cell r t, .cell s t]) (tmps : Array Value) {g1 g2 g3 g4 : Nat} {t1 t2 t3 t4 : TypeId} {f1 f2 f3 f4 : Nat → Int}
    (H : Hid (Ow w0 w l)) (e1 : l[i1]? = some (g1, Blk t1 k n f1)) (e2 : l[i2]? = some (g2, Blk t2 k n f2)) (e3 : l[i3]? = some (g3, Blk t3 k n f3)) (e4 : l[i4]? = some (g4, Blk t4 k n f4))
    (hp : tmps.getD p undef = .pointer (some ⟨g1, 0, none⟩)) (hq : tmps.getD q undef = .pointer (some ⟨g2, 0, none⟩)) (hr : tmps.getD r undef = .pointer (some ⟨g3, 0, none⟩)) (hs : tmps.getD s undef = .pointer (some ⟨g4, 0, none⟩)) :
    (results fn tmps).run P w = .ok (.tuple #[.agg (AZ k n f1), .agg (AZ k n f2), .agg (AZ k n f3), .agg (AZ k n f4)]) w := by
  obtain ⟨d, hd, hd'⟩ := hT.under
  have r1 : w.heap[g1]? = some (.cells (AZ k n f1) t1) := H.out.row i1 e1
  have r2 : w.heap[g2]? = some (.cells (AZ k n f2) t2) := H.out.row i2 e2
  have r3 : w.heap[g3]? = some (.cells (AZ k n f3) t3) := H.out.row i3 e3
  have r4 : w.heap[g4]? = some (.cells (AZ k n f4) t4) := H.out.row i4 e4
  have hp' : tmps[p]?.getD undef = .pointer (some ⟨g1, 0, none⟩) := by simpa using hp
  have hq' : tmps[q]?.getD undef = .pointer (some ⟨g2, 0, none⟩) := by simpa using hq
  have hr' : tmps[r]?.getD undef = .pointer (some ⟨g3, 0, none⟩) := by simpa using hr
  have hs' : tmps[s]?.getD undef = .pointer (some ⟨g4, 0, none⟩) := by simpa using hs
  have L : ∀ (g : Nat) (tb : TypeId) (f : Nat → Int), w.heap[g]? = some (.cells (AZ k n f) tb) → _ := fun g tb f hf => run_loadVar_row w g tb t _ (0, 0) d hf hd (by cases d <;> simp_all) (by rw [AZ_size]; exact hT.size)
  simp [results, h, hp', hq', hr', hs', asAddr, L _ _ _ r1, L _ _ _ r2, L _ _ _ r3, L _ _ _ r4]
theorem own_result2 (i1 i2 : Nat) (hT : IsRow P t n) (h : fn.results = #[.cell p t, .cell q t]) (tmps : Array Value) {g1 g2 : Nat} {t1 t2 : TypeId} {f1 f2 : Nat → Int}
    (H : Hid (Ow w0 w l)) (e1 : l[i1]? = some (g1, Blk t1 k n f1)) (e2 : l[i2]? = some (g2, Blk t2 k n f2))
    (hp : tmps.getD p undef = .pointer (some ⟨g1, 0, none⟩)) (hq : tmps.getD q undef = .pointer (some ⟨g2, 0, none⟩)) :
    (results fn tmps).run P w = .ok (.tuple #[.agg (AZ k n f1), .agg (AZ k n f2)]) w := by
  obtain ⟨d, hd, hd'⟩ := hT.under
  have r1 : w.heap[g1]? = some (.cells (AZ k n f1) t1) := H.out.row i1 e1
  have r2 : w.heap[g2]? = some (.cells (AZ k n f2) t2) := H.out.row i2 e2
  have hp' : tmps[p]?.getD undef = .pointer (some ⟨g1, 0, none⟩) := by simpa using hp
  have hq' : tmps[q]?.getD undef = .pointer (some ⟨g2, 0, none⟩) := by simpa using hq
  have L : ∀ (g : Nat) (tb : TypeId) (f : Nat → Int), w.heap[g]? = some (.cells (AZ k n f) tb) → _ := fun g tb f hf => run_loadVar_row w g tb t _ (0, 0) d hf hd (by cases d <;> simp_all) (by rw [AZ_size]; exact hT.size)
  simp [results, h, hp', hq', asAddr, L _ _ _ r1, L _ _ _ r2]
end
set_option maxRecDepth 8000 in
set_option maxHeartbeats 3200000 in
theorem bend_k {f g : Nat → Nat} {a b : K} (w : World) (hT : Tp w) (hf : EK f a) (hg : EK g b) :
    Calls Tryd.prog 42 #[EV f, EV g] w fun e w' => ∃ h, e = .returned (EV h) ∧ EK h (a * b * dK) ∧ Below w.heap.size w w' := by
  have HF := Lib.hid hf
  have HG := Lib.hid hg
  clear hf hg
  have HT := Lib.hid hT
  clear hT
  have H := Lib.hid (Ow.start w)
  go_enter Tryd.func42, Tryd.ntmps42
  go_wp2_with (first
    | ((fail_if_success have := g1); (with_reducible apply own_box H); (case hgd => exact rfl); (case ho => exact rfl); (case hx => exact rfl); intro w1 g1 H' _ _; replace H := H'; clear H'; go_simp)
    | ((fail_if_success have := g2); (fail_if_success have := g2); (with_reducible apply own_box H); (case hgd => exact rfl); (case ho => exact rfl); (case hx => exact rfl); intro w2 g2 H' _ _; replace H := H'; clear H'; go_simp)
    | ((fail_if_success have := g3); (with_reducible apply own_alloc nilE H); (case hgd => exact rfl); (case ho => exact rfl); intro w3 g3 H' _ _; replace H := H'; clear H'; go_simp)
    | ((with_reducible apply own_load rowE H); (case hgd => exact rfl); (case ho => exact rfl); (case hx => exact rfl); (case hi => first | exact at0 | exact at1 | exact at2 | exact at3 | exact at4 | exact at5 | exact at6 | exact at7 | exact at8 | exact at9); intro _ _; go_simp)
    | ((fail_if_success have := V1); (with_reducible refine (mul_k _ HF.out HG.out).mono ?_); rintro e wc ⟨k1, rfl, hv, hb⟩; replace H := Lib.hid (H.out.call hb); clear hb; have V1 := Lib.hid hv; clear hv)
    | ((fail_if_success have := V2); (with_reducible refine (times_k (-39081) _ (HT.out.below H.out.bel) V1.out (by omega) (by omega)).mono ?_); rintro e wc ⟨k2, rfl, hv, hb⟩; replace H := Lib.hid (H.out.call hb); clear hb; have V2 := Lib.hid hv; clear hv)
    | ((with_reducible apply own_store rowE H); (case hgd => exact rfl); (case ho => exact rfl); (case hx => exact rfl); (case hy => exact rfl); (case hi => first | exact at0 | exact at1 | exact at2 | exact at3 | exact at4 | exact at5 | exact at6 | exact at7 | exact at8 | exact at9); intro ws H' _ _; replace H := H'; clear H'; simp only [List.set_cons_zero] at H; go_simp))
  exact bodyPost_ret (own_result 0 rowE rfl _ H rfl rfl) rfl ⟨k2, rfl, by have := V2.out; rwa [dK_ofZ] at this, H.out.bel⟩
set_option maxRecDepth 8000 in
set_option maxHeartbeats 3200000 in
theorem dbl_k {f g : Nat → Nat} {a : K} (w : World) (hf : EK f a) :
    Calls Tryd.prog 60 #[EV f, EV g] w fun e w' => ∃ h, e = .returned (EV h) ∧ EK h (a * a) ∧ Below w.heap.size w w' := by
  have HF := Lib.hid hf
  clear hf
  have H := Lib.hid (Ow.start w)
  go_enter Tryd.func60, Tryd.ntmps60
  go_wp2_with (first
    | ((fail_if_success have := g1); (with_reducible apply own_box H); (case hgd => exact rfl); (case ho => exact rfl); (case hx => exact rfl); intro w1 g1 H' _ _; replace H := H'; clear H'; go_simp)
    | ((fail_if_success have := g2); (fail_if_success have := g2); (with_reducible apply own_box H); (case hgd => exact rfl); (case ho => exact rfl); (case hx => exact rfl); intro w2 g2 H' _ _; replace H := H'; clear H'; go_simp)
    | ((fail_if_success have := g3); (with_reducible apply own_alloc nilE H); (case hgd => exact rfl); (case ho => exact rfl); intro w3 g3 H' _ _; replace H := H'; clear H'; go_simp)
    | ((with_reducible apply own_load rowE H); (case hgd => exact rfl); (case ho => exact rfl); (case hx => exact rfl); (case hi => first | exact at0 | exact at1 | exact at2 | exact at3 | exact at4 | exact at5 | exact at6 | exact at7 | exact at8 | exact at9); intro _ _; go_simp)
    | ((fail_if_success have := V1); (with_reducible refine (square_k _ HF.out).mono ?_); rintro e wc ⟨k1, rfl, hv, hb⟩; replace H := Lib.hid (H.out.call hb); clear hb; have V1 := Lib.hid hv; clear hv)
    | ((with_reducible apply own_store rowE H); (case hgd => exact rfl); (case ho => exact rfl); (case hx => exact rfl); (case hy => exact rfl); (case hi => first | exact at0 | exact at1 | exact at2 | exact at3 | exact at4 | exact at5 | exact at6 | exact at7 | exact at8 | exact at9); intro ws H' _ _; replace H := H'; clear H'; simp only [List.set_cons_zero] at H; go_simp))
  exact bodyPost_ret (own_result 0 rowE rfl _ H rfl rfl) rfl ⟨k1, rfl, V1.out, H.out.bel⟩
set_option maxRecDepth 8000 in
set_option maxHeartbeats 3200000 in
theorem pickc_k {f g : Nat → Nat} {a b : K} (n : Int) (w : World) (hf : EK f a) (hg : EK g b) :
    Calls Tryd.prog 65 #[.int .i64 n, EV f, EV g] w fun e w' => ∃ h, e = .returned (EV h) ∧ EK h (if n % 2 = 0 then a else b) ∧ Below w.heap.size w w' := by
  obtain ⟨r, hr⟩ : ∃ r, (if n % 2 = 0 then a else b) = r := ⟨_, rfl⟩
  have HR : Hid (EK (pickF n f g) r) := Lib.hid (by rw [← hr]; exact pick_k hf hg)
  rw [hr]
  clear hr
  have HF := Lib.hid hf
  have HG := Lib.hid hg
  clear hf hg
  have H := Lib.hid (Ow.start w)
  go_enter Tryd.func65, Tryd.ntmps65
  go_wp2_with (first
    | ((fail_if_success have := g1); (with_reducible apply own_box H); (case hgd => exact rfl); (case ho => exact rfl); (case hx => exact rfl); intro w1 g1 H' _ _; replace H := H'; clear H'; go_simp)
    | ((fail_if_success have := g2); (fail_if_success have := g2); (with_reducible apply own_box H); (case hgd => exact rfl); (case ho => exact rfl); (case hx => exact rfl); intro w2 g2 H' _ _; replace H := H'; clear H'; go_simp)
    | ((fail_if_success have := g3); (with_reducible apply own_alloc nilE H); (case hgd => exact rfl); (case ho => exact rfl); intro w3 g3 H' _ _; replace H := H'; clear H'; go_simp)
    | ((with_reducible apply own_load rowE H); (case hgd => exact rfl); (case ho => exact rfl); (case hx => exact rfl); (case hi => first | exact at0 | exact at1 | exact at2 | exact at3 | exact at4 | exact at5 | exact at6 | exact at7 | exact at8 | exact at9); intro _ _; go_simp)
    | ((with_reducible refine (select_any _ _ _ _ HF.out.lim HG.out.lim).mono ?_); rintro e wc ⟨rfl, hb⟩; replace H := Lib.hid (H.out.call hb); clear hb)
    | ((with_reducible apply own_store rowE H); (case hgd => exact rfl); (case ho => exact rfl); (case hx => exact rfl); (case hy => exact rfl); (case hi => first | exact at0 | exact at1 | exact at2 | exact at3 | exact at4 | exact at5 | exact at6 | exact at7 | exact at8 | exact at9); intro ws H' _ _; replace H := H'; clear H'; simp only [List.set_cons_zero] at H; go_simp))
  exact bodyPost_ret (own_result 0 rowE rfl _ H rfl rfl) rfl ⟨_, rfl, HR.out, H.out.bel⟩
set_option maxRecDepth 8000 in
set_option maxHeartbeats 3200000 in
theorem ratios_k {f1 f2 f3 f4 : Nat → Nat} {a b u v : K} (w : World) (h1 : EK f1 a) (h2 : EK f2 b) (h3 : EK f3 u) (h4 : EK f4 v) :
    Calls Tryd.prog 59 #[EV f1, EV f2, EV f3, EV f4] w fun e w' => ∃ x y z, e = .returned (PO (t3 8 (NZ x) (NZ y) (NZ z))) ∧ EK x (a * v) ∧ EK y (u * b) ∧ EK z (b * v) ∧ Below w.heap.size w w' := by
  have H1 := Lib.hid h1
  have H2 := Lib.hid h2
  have H3 := Lib.hid h3
  have H4 := Lib.hid h4
  clear h1 h2 h3 h4
  have H := Lib.hid (Ow.start w)
  go_enter Tryd.func59, Tryd.ntmps59
  go_wp2_with (first
    | ((fail_if_success have := g1); (with_reducible apply own_box H); (case hgd => exact rfl); (case ho => exact rfl); (case hx => exact rfl); intro w1 g1 H' _ _; replace H := H'; clear H'; go_simp)
    | ((fail_if_success have := g2); (fail_if_success have := g2); (with_reducible apply own_box H); (case hgd => exact rfl); (case ho => exact rfl); (case hx => exact rfl); intro w2 g2 H' _ _; replace H := H'; clear H'; go_simp)
    | ((fail_if_success have := g3); (fail_if_success have := g3); (with_reducible apply own_box H); (case hgd => exact rfl); (case ho => exact rfl); (case hx => exact rfl); intro w3 g3 H' _ _; replace H := H'; clear H'; go_simp)
    | ((fail_if_success have := g4); (fail_if_success have := g4); (with_reducible apply own_box H); (case hgd => exact rfl); (case ho => exact rfl); (case hx => exact rfl); intro w4 g4 H' _ _; replace H := H'; clear H'; go_simp)
    | ((fail_if_success have := g8); (with_reducible apply own_alloc nilPt H); (case hgd => exact rfl); (case ho => exact rfl); intro w8 g8 H' _ _; replace H := H'; clear H'; go_simp))
  refine wp_region_noPanic ?_
  refine wp_region_held_drew (S := fun W => W.heap[g1]? = some (Blk 30 .u64 8 (NZ f1)) ∧ W.heap[g4]? = some (Blk 30 .u64 8 (NZ f4)) ∧ W.heap[g3]? = some (Blk 30 .u64 8 (NZ f3)) ∧ W.heap[g2]? = some (Blk 30 .u64 8 (NZ f2))) (by kernel_rfl) (⟨H.out.drew.row 4 rfl, H.out.drew.row 1 rfl, H.out.drew.row 2 rfl, H.out.drew.row 3 rfl⟩) (fun hH => ?_)
  replace H := Lib.hid H.out.drew
  generalize World.drew _ = w8 at *
  refine held_row 0 9 rowE rfl rfl (by kernel_rfl) (by kernel_rfl) (by kernel_rfl) rfl hH rfl rfl (fun _ h => h.1) ?_
  try simp only [Act.put, List.setIfInBounds_toArray, List.set_cons_zero, List.set_cons_succ]
  refine held_row 1 10 rowE rfl rfl (by kernel_rfl) (by kernel_rfl) (by kernel_rfl) rfl hH rfl rfl (fun _ h => h.2.1) ?_
  try simp only [Act.put, List.setIfInBounds_toArray, List.set_cons_zero, List.set_cons_succ]
  refine held_row 3 12 rowE rfl rfl (by kernel_rfl) (by kernel_rfl) (by kernel_rfl) rfl hH rfl rfl (fun _ h => h.2.2.1) ?_
  try simp only [Act.put, List.setIfInBounds_toArray, List.set_cons_zero, List.set_cons_succ]
  refine held_row 4 13 rowE rfl rfl (by kernel_rfl) (by kernel_rfl) (by kernel_rfl) rfl hH rfl rfl (fun _ h => h.2.2.2) ?_
  try simp only [Act.put, List.setIfInBounds_toArray, List.set_cons_zero, List.set_cons_succ]
  refine held_row 6 15 rowE rfl rfl (by kernel_rfl) (by kernel_rfl) (by kernel_rfl) rfl hH rfl rfl (fun _ h => h.2.2.2) ?_
  try simp only [Act.put, List.setIfInBounds_toArray, List.set_cons_zero, List.set_cons_succ]
  refine held_row 7 16 rowE rfl rfl (by kernel_rfl) (by kernel_rfl) (by kernel_rfl) rfl hH rfl rfl (fun _ h => h.2.1) ?_
  try simp only [Act.put, List.setIfInBounds_toArray, List.set_cons_zero, List.set_cons_succ]
  refine wpAnyH_ready (rs := [2]) (by kernel_rfl) (by simp) ?_
  refine AllReadyH.cons (o := _) rfl (fun K hK => ?_) AllReadyH.nil
  go_simp
  refine (mul_k _ H1.out H4.out).mono ?_
  rintro e wc ⟨h11, rfl, hv, hb⟩
  replace H := Lib.hid (H.out.call hb)
  have HV11 := Lib.hid hv
  refine hK.out _ _ (⟨H.out.row 4 rfl, H.out.row 1 rfl, H.out.row 2 rfl, H.out.row 3 rfl⟩) (fun hN => ?_)
  clear hK K hH hb hv
  have hH := hN
  clear hN
  try simp only [Act.put, List.setIfInBounds_toArray, List.set_cons_zero, List.set_cons_succ]
  refine wpAnyH_ready (rs := [5]) (by kernel_rfl) (by simp) ?_
  refine AllReadyH.cons (o := _) rfl (fun K hK => ?_) AllReadyH.nil
  go_simp
  refine (mul_k _ H3.out H2.out).mono ?_
  rintro e wc ⟨h14, rfl, hv, hb⟩
  replace H := Lib.hid (H.out.call hb)
  have HV14 := Lib.hid hv
  refine hK.out _ _ (⟨H.out.row 4 rfl, H.out.row 1 rfl, H.out.row 2 rfl, H.out.row 3 rfl⟩) (fun hN => ?_)
  clear hK K hH hb hv
  have hH := hN
  clear hN
  try simp only [Act.put, List.setIfInBounds_toArray, List.set_cons_zero, List.set_cons_succ]
  refine wpAnyH_ready (rs := [8]) (by kernel_rfl) (by simp) ?_
  refine AllReadyH.cons (o := _) rfl (fun K hK => ?_) AllReadyH.nil
  go_simp
  refine (mul_k _ H2.out H4.out).mono ?_
  rintro e wc ⟨h17, rfl, hv, hb⟩
  replace H := Lib.hid (H.out.call hb)
  have HV17 := Lib.hid hv
  refine hK.out _ _ (⟨H.out.row 4 rfl, H.out.row 1 rfl, H.out.row 2 rfl, H.out.row 3 rfl⟩) (fun hN => ?_)
  clear hK K hH hb hv
  have hH := hN
  clear hN
  try simp only [Act.put, List.setIfInBounds_toArray, List.set_cons_zero, List.set_cons_succ]
  refine held_pt 9 18 rfl rfl (by kernel_rfl) (by kernel_rfl) (by kernel_rfl) rfl hH rfl rfl rfl rfl ?_
  try simp only [Act.put, List.setIfInBounds_toArray, List.set_cons_zero, List.set_cons_succ]
  refine wpAnyH_ready (rs := [10]) (by kernel_rfl) (by simp) ?_
  refine AllReadyH.cons (o := _) rfl (fun K hK => ?_) AllReadyH.nil
  refine own_wp_store 0 rowPt H.out rfl rfl rfl rfl ?_
  intro ws HS
  simp only [List.set_cons_zero] at HS
  replace H := Lib.hid HS
  refine hK.out _ _ (⟨H.out.row 4 rfl, H.out.row 1 rfl, H.out.row 2 rfl, H.out.row 3 rfl⟩) (fun hN => ?_)
  clear hK K HS hH
  have hH := hN
  clear hN
  try simp only [Act.put, List.setIfInBounds_toArray]
  try simp only [Act.put]
  refine wpAnyH_done (by kernel_rfl) ?_ _
  refine NoPanic.normal ?_
  clear hH
  go_wp2_with fail
  exact bodyPost_ret (own_result 0 rowPt rfl _ H rfl rfl) rfl ⟨_, _, _, rfl, HV11.out, HV14.out, HV17.out, H.out.bel⟩
end Go.Proofs.YthdapglpaaigaaaDoor
