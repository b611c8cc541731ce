/-
  Lemmas for the walks, several texts in one. No statement is proved here.
-/
import Derived.Test.YtjcfoilfdmameaaGreatDoorBuJ
import Derived.Test.YtjcfoilfdmameaaGreatDoorBuU
import Derived.Deep.CutRange
import Derived.Test.YtjcfoilfdmameaaGreatDoorBuX
/-
  What a table's parts answers, as an iterator: the points of a number's columns. No statement is proved here: lemmas for the walks.
-/
namespace Go.Proofs.YtjcfoilfdmameaaGreatDoor
open Go.RowKit

theorem enters {P : Program} {f : FuncId} {fn : Func} {c : Code} (hf : P.funcs[f]? = some fn) (hn : (fn.name == "runtime.NumGoroutine") = false) (hb : fn.body = some c) (args : Array Value) (w : World) : (callFunc f args).run P w = .ok (.enter f args) w := by
  have h1 : fn.name ≠ "runtime.NumGoroutine" := by simpa using hn
  simp [callFunc, hf, h1, hb, mark]
theorem cellFy : IsCell Tryz.prog 136 := ⟨fun w => by unfold isAgg; rw [Sem.run_bind, run_underlying Tryz.underlying136 w]; rfl, by kernel_rfl⟩
theorem one_ptr (a : Option Addr) : OneV (.pointer a) := ⟨rfl, rfl⟩
set_option maxRecDepth 8000 in
set_option maxHeartbeats 3200000 in
theorem back_k (gc m : Nat) (w : World) :
    Calls Tryz.prog 90 #[.slice (some ⟨gc, 0, none⟩) m m] w fun e w' => ∃ b, e = .returned (.func (.func 115) #[] #[.pointer (some ⟨b, 0, none⟩)]) ∧ w.heap.size ≤ b ∧ w'.heap[b]? = some (Oc 133 (.slice (some ⟨gc, 0, none⟩) m m)) ∧ Below w.heap.size w w' := by
  have H := Lib.hid (Ow.start w)
  go_enter Tryz.func90, Tryz.ntmps90
  go_wp2_with (first
    | ((fail_if_success have := g1); (with_reducible apply own_box1 (one_slice _ _ _) H); (case hgd => exact rfl); (case ho => exact rfl); (case hx => exact rfl); intro w1 g1 H' _ _; replace H := H'; clear H'; go_simp))
  go_ret
  exact ⟨_, rfl, H.out.ge 0 rfl, H.out.row 0 rfl, H.out.bel⟩
/-- What it hands the i-th round. -/
def PartV (m x k : Nat) (P : Pt pN dK) (i : Nat) (args : Array Value) : Prop := ∃ r, args = #[PO r] ∧ PtK r (pmul edK (cw m (tog x (m - 1 - i) m k) k) P)
set_option maxRecDepth 8000 in
set_option maxHeartbeats 3200000 in
theorem parts_iter {w0 w : World} {g b5 b2 gc k s m x : Nat} {P : Pt pN dK} (hT : Tp w0) (hK : TabK w0 w0.heap.size g P k s) (hm : (8 * s + k - 1) / k = m) (hm1 : m ≤ 1000) (hb : Below w0.heap.size w0 w)
    (h5 : w.heap[b5]? = some (Oc 133 (.slice (some ⟨gc, 0, none⟩) m m))) (h2 : w.heap[b2]? = some (Oc 56 (.pointer (some ⟨g, 0, none⟩)))) (hc : w.heap[gc]? = some (Blk 3 .i64 m fun i => ((tog x i m k : Nat) : Int)))
    {X : Nat → Prop} (hX : ∀ j, X j → w0.heap.size ≤ j ∧ j < w.heap.size) (x5 : ¬ X b5) (x2 : ¬ X b2) (xc : ¬ X gc) :
    Iter Tryz.prog 89 #[.pointer (some ⟨b5, 0, none⟩), .pointer (some ⟨b2, 0, none⟩)] m (PartV m x k P) X w := by
  intro l J W hTW hJ hY h0
  have hwW := hTW.size
  obtain ⟨Y, hYd⟩ : ∃ Y : Nat → Prop, (fun k => X k ∨ (w.heap.size ≤ k ∧ k < W.heap.size)) = Y := ⟨_, rfl⟩
  rw [hYd] at hY
  have HYb : Hid (∀ j, Y j → w0.heap.size ≤ j ∧ j < W.heap.size) := Lib.hid fun j hj => by
    rw [← hYd] at hj
    have := hb.size
    rcases hj with h | h
    · have := hX j h
      omega
    · omega
  have hno : ∀ j, j < w.heap.size → ¬ X j → ¬ Y j := fun j h1 h2 => by
    rw [← hYd]
    rintro (h | h)
    · exact h2 h
    · omega
  have Y5 := Lib.hid (hno b5 (lt_row h5) x5)
  have Y2 := Lib.hid (hno b2 (lt_row h2) x2)
  have YC := Lib.hid (hno gc (lt_row hc) xc)
  have H5 := Lib.hid (hTW.row h5 x5)
  have H2 := Lib.hid (hTW.row h2 x2)
  have HC := Lib.hid (hTW.row hc xc)
  have HB0 := Lib.hid (hb.trans (hTW.below (fun j h1 h2 => by have := (hX j h2).1; omega) hb.size))
  have HJ := Lib.hid hJ
  have HY := Lib.hid hY
  have H0 := Lib.hid h0
  have HK := Lib.hid hK
  have HM := Lib.hid hm
  clear hno h5 h2 hc x5 x2 xc hX hTW hb hJ hY h0 hK hm hYd hwW
  show Calls Tryz.prog 89 #[.func (.yield l) #[] #[], .pointer (some ⟨b5, 0, none⟩), .pointer (some ⟨b2, 0, none⟩)] W _
  have HT := Lib.hid hT
  clear hT
  have H := Lib.hid (Ow.start W)
  refine calls_marks Tryz.func89 rfl ?_
  simp only [Tryz.ntmps89, List.size_toArray, List.length_cons, List.length_nil, Nat.reduceAdd, Nat.reduceSub, Array.replicate_succ, Array.replicate_zero, List.push_toArray, List.append_toArray, List.nil_append, List.cons_append]
  go_wp2_with (first
    | ((fail_if_success have := g3); (with_reducible apply own_box1 (one_func _ _ _) H); (case hgd => exact rfl); (case ho => exact rfl); (case hx => exact rfl); intro w3 g3 H' _ _; replace H := H'; clear H'; go_simp)
    | ((with_reducible apply own_loadCO cellIs H); (case hgd => exact rfl); (case ho => exact rfl); (case hx => exact rfl); (case hr => exact H5.out); (case hj => exact rfl); intro _ _; go_simp)
    | ((with_reducible refine (back_k gc m _).mono ?_); rintro e wc ⟨b9, rfl, hge, hr, hb⟩; replace H := Lib.hid ((H.out.call hb).more hr (Nat.le_trans H.out.bel.size hge) fun x hx => by (have := lt_row (H.out.has x hx); omega)); clear hb hge hr))
  obtain ⟨wL, hwL⟩ : ∃ wL, wL = wc := ⟨_, rfl⟩
  subst hwL
  have HWL := Lib.hid H.out.bel
  refine range_all rfl (fun args w => enters Tryz.func115 (by kernel_rfl) rfl args w) (back_iter (w := wL) (X := Y) (H.out.row 0 rfl) (HWL.out.block gc (lt_row HC.out) |>.trans HC.out) hm1 (fun h => by (have := (HYb.out _ h).2; have := H.out.ge 0 rfl; omega)) YC.out) (Turn.refl _ _) (fun i args h => by rw [h]; rfl)
    (fun i A => J i A ∧ Below w0.heap.size w0 A ∧ Turn (fun j => Y j ∨ wL.heap.size ≤ j) wL A) ?_ ?_ ?_ ?_
  · rintro i A B ⟨h1, h2, h3⟩ hA hAB
    exact ⟨HJ.out i A B h1 (Nat.le_trans HWL.out.size hA) (hAB.mono fun j _ h => Nat.le_trans HWL.out.size h), h2.trans (hAB.below (fun j h1 h2 => by (have := HB0.out.size; have := HWL.out.size; omega)) h2.size), h3.trans (hAB.mono fun j _ h => .inr h)⟩
  · exact ⟨HJ.out _ _ _ H0.out (Nat.le_refl _) (turn_below HWL.out fun j h _ => h), HB0.out.trans (HWL.out.mono HB0.out.size), Turn.refl _ _⟩
  · rintro l' i args A ⟨hJA, hBA, hTA⟩ hi hV hl1 hl2
    have hV' : args = #[.int .i64 ((m - 1 - i : Nat) : Int), .int .i64 ((tog x (m - 1 - i) m k : Nat) : Int)] := hV
    subst hV'
    have hi' := hi
    obtain ⟨c, hc⟩ : ∃ c, tog x (m - 1 - i) m k = c := ⟨_, rfl⟩
    have c2k : c < 2 ^ k := by rw [← hc]; exact tog_lt x (m - 1 - i) m k
    rw [hc]
    have CC := Lib.hid hc
    have HWA := Lib.hid (Nat.le_trans HWL.out.size hTA.size)
    have yl : ∀ j, j < wL.heap.size → ¬ Y j → ¬ (Y j ∨ wL.heap.size ≤ j) := fun j h1 h2 => by
      rintro (h | h)
      · exact h2 h
      · omega
    have a3 := hTA.row (H.out.row 1 rfl) (yl _ (lt_row (H.out.row 1 rfl)) fun h => by (have := (HYb.out _ h).2; have := H.out.ge 1 rfl; omega))
    have a2 := hTA.row ((HWL.out.block b2 (lt_row H2.out)).trans H2.out) (yl _ (Nat.lt_of_lt_of_le (lt_row H2.out) HWL.out.size) Y2.out)
    have g3L := lt_row (H.out.row 1 rfl)
    have A3 := Lib.hid a3
    have A2 := Lib.hid a2
    have TA := Lib.hid hTA
    have JA := Lib.hid hJA
    have BA := Lib.hid hBA
    have HI := Lib.hid hi
    have HL := Lib.hid hl1
    clear hc a3 a2 yl hTA hJA hBA hi hi' hl1 hl2 hV H
    refine region_lets (.inr ⟨l', rfl⟩) rfl (fun a w h => h) ?_
    go_wp2_with fail
    refine ⟨Below.refl _ _, fun w₂ ht => ?_⟩
    have nl : ∀ j, j < wL.heap.size → ¬ j = l' := fun j h => by have := HL.out; omega
    have H3w := Lib.hid (ht.row A3.out (nl g3 g3L))
    have H2w := Lib.hid (ht.row A2.out (nl b2 (Nat.lt_of_lt_of_le (lt_row H2.out) HWL.out.size)))
    have Bw := BA.out.trans (ht.below (B := w0.heap.size) (fun j h e => by (have := HL.out; have := HB0.out.size; have := HWL.out.size; omega)) BA.out.size)
    have HTw := Lib.hid (HT.out.below Bw)
    have HKw := Lib.hid ((HK.out.below Bw).more Bw.size)
    have Jw := Lib.hid (HJ.out i A w₂ JA.out HWA.out (ht.mono fun j _ e => by (have := HL.out; have := HWL.out.size; omega)))
    have HTY := Lib.hid (TA.out.trans (ht.mono fun j _ e => .inr (by (have := HL.out; omega))))
    have SW := Lib.hid (Nat.le_trans HWA.out ht.size)
    have H := Lib.hid (Ow.start w₂)
    clear nl
    refine wpIn_block (wpIn_seq (region_lets (.inr ⟨l', rfl⟩) rfl (fun a w h => h) ?_))
    go_wp2_with (first
      | ((with_reducible apply own_loadCO cellTP H); (case hgd => exact rfl); (case ho => exact rfl); (case hx => exact rfl); (case hr => exact H2w.out); (case hj => exact rfl); intro _ _; go_simp)
      | ((with_reducible refine (tlook_k _ (HTw.out.below H.out.bel) (HKw.out.call H.out.bel) HM.out c c2k (c : Int) rfl).mono ?_); rintro e wd ⟨r, rfl, hv, hb⟩; replace H := Lib.hid (H.out.call hb); have V1 := Lib.hid hv; clear hb hv)
      | ((fail_if_success have := g6); (with_reducible apply own_alloc nilPt H); (case hgd => exact rfl); (case ho => exact rfl); intro w6 g6 H' _ _; replace H := H'; clear H'; go_simp)
      | ((with_reducible apply own_store rowPt H); (case hgd => exact rfl); (case ho => exact rfl); (case hx => exact rfl); (case hy => exact rfl); (case hi => first | exact at0 | exact at1 | exact at2 | exact at3 | exact at4 | exact at5 | exact at6 | exact at7 | exact at8 | exact at9); intro ws H' _ _; replace H := H'; clear H'; simp only [List.set_cons_zero] at H; go_simp))

    refine wpIn_seq (wpIn_region_lit (list_lets (.inr ⟨l', rfl⟩) 2 rfl (fun a w h => h) ?_))
    simp only [List.take_succ_cons, List.take_zero, List.drop_succ_cons, List.drop_zero]
    go_wp2_with (first
      | ((with_reducible apply own_loadCO cellFy H); (case hgd => exact rfl); (case ho => exact rfl); (case hx => exact rfl); (case hr => exact H3w.out); (case hj => exact rfl); intro _ _; go_simp)
      | ((with_reducible apply own_load rowPt H); (case hgd => exact rfl); (case ho => exact rfl); (case hx => exact rfl); (case hi => first | exact at0 | exact at1 | exact at2 | exact at3 | exact at4 | exact at5 | exact at6 | exact at7 | exact at8 | exact at9); intro _ _; go_simp))

    refine list_yield (args := #[PO r]) (.inr ⟨l', rfl⟩) rfl rfl rfl (by simp only [List.map_toArray, List.map_cons, List.map_nil]; rfl) (HY.out i #[PO r] _ (HJ.out i w₂ _ Jw.out SW.out (turn_below H.out.bel fun j h _ => Nat.le_trans SW.out h)) (Nat.le_trans SW.out H.out.bel.size) HI.out ⟨r, rfl, by rw [CC.out]; exact V1.out⟩) ?_
    rintro e w' ⟨rfl, hJ', htY⟩
    refine ⟨_, rfl, ?_⟩
    refine list_lets (.inr ⟨l', rfl⟩) 1 rfl (fun a w h => h) ?_
    simp only [List.take_succ_cons, List.take_zero, List.drop_succ_cons, List.drop_zero]
    have JN := Lib.hid hJ'
    have TN := Lib.hid htY
    clear hJ' htY
    go_wp2_with fail
    simp only [wpListIn]
    refine wpIn_cond_false rfl (wpIn_skip ?_)
    have hwL := HWL.out.size
    refine ⟨(turn_below H.out.bel fun j h1 h2 => by omega).trans (TN.out.mono fun j _ h => ⟨.inl h, Nat.lt_of_lt_of_le (HYb.out j h).2 hwL⟩), JN.out, ?_, HTY.out.trans ((turn_below H.out.bel fun j h1 h2 => by omega).trans (TN.out.mono fun j _ h => .inl h))⟩
    exact Bw.trans ((H.out.bel.mono Bw.size).trans (TN.out.below (fun j h1 h2 => by (have := (HYb.out j h2).1; omega)) (Nat.le_trans Bw.size H.out.bel.size)))
  · rintro D A hD ⟨hJm, hBm, hTm⟩ hDr
    refine ⟨by simp, .inl ⟨_, _, rfl, run_takeDeferred hDr, ?_⟩⟩
    exact ⟨_, results_none rfl _ _ _, ⟨_, rfl⟩, HJ.out _ _ _ hJm (Nat.le_trans HWL.out.size hTm.size) (turn_put _ _ _ (Nat.le_trans HWL.out.size hD))⟩
end Go.Proofs.YtjcfoilfdmameaaGreatDoor

/-
  The contract of a table's Mult. No statement is proved here: lemmas for the walks.
-/
namespace Go.Proofs.YtjcfoilfdmameaaGreatDoor
open Go.RowKit

theorem nilIs (w : World) : (zeroValue 133).run Tryz.prog w = .ok (.slice none 0 0) w := by kernel_rfl
theorem cellIz : IsCell Tryz.prog 3 := ⟨fun w => by unfold isAgg; rw [Sem.run_bind, run_underlying Tryz.underlying3 w]; rfl, by kernel_rfl⟩
theorem Turn.call {X : Nat → Prop} {a b c : World} (h : Turn X a b) (hb : Below b.heap.size b c) : Turn X a c := h.trans (turn_below hb fun j h1 h2 => by omega)
section
variable {P : Program} {o : Oper} {a : Act} {w w0 : World} {l : List (Nat × Obj)} {K : Act → World → Prop} {Q : Exit → Act → World → Prop} {t ty : TypeId} {k : IntKind} {n : Nat}
/-- A row is stored: nothing else has turned. -/
theorem own_stT (i : Nat) (hd : o.dst = none) (hT : IsRow P ty n) (H : Ow w0 w l) {x y : Operand} (ho : o.op = .store ty x y) {g : Nat} (hx : a.eval x = .pointer (some ⟨g, 0, none⟩)) {f f0 : Nat → Int} (hy : a.eval y = .agg (AZ k n f))
    (hi : l[i]? = some (g, Blk t k n f0)) (h : ∀ w', Ow w0 w' (l.set i (g, Blk t k n f)) → Turn (fun j => j = g) w w' → K a w') : o.wp P a w K Q := by
  unfold Oper.wp execOp
  have hs := run_store_part (o := 0) (g := f) hT (H.row i hi) (by omega)
  rw [layZ_all] at hs
  simp only [ho, hx, hy, Sem.run_bind, hs, Result.andThen_ok]
  have hp : a.put o.dst undef = a := by
    rw [hd]
    rfl
  have h2 := h _ (H.setRow i hi f) ⟨rfl, rfl, rfl, by simp [World.setRow], fun c _ hc => setRow_other w g c _ hc⟩
  rw [← hp] at h2
  exact h2
end
set_option maxRecDepth 8000 in
set_option maxHeartbeats 3200000 in
theorem tparts_k {g k s c x m : Nat} {a : Option Addr} {P : Pt pN dK} (w : World) (h : TabK w w.heap.size g P k s) (hm : (8 * s + k - 1) / k = m) (hs : Sb w w.heap.size a s c x) :
    Calls Tryz.prog 51 #[.pointer (some ⟨g, 0, none⟩), .slice a s c] w fun e w' => ∃ b5 b2 gc, e = .returned (.func (.func 89) #[] #[.pointer (some ⟨b5, 0, none⟩), .pointer (some ⟨b2, 0, none⟩)]) ∧
      (w.heap.size ≤ b5 ∧ w.heap.size ≤ b2 ∧ w.heap.size ≤ gc) ∧ w'.heap[b5]? = some (Oc 133 (.slice (some ⟨gc, 0, none⟩) m m)) ∧ w'.heap[b2]? = some (Oc 56 (.pointer (some ⟨g, 0, none⟩))) ∧ w'.heap[gc]? = some (Blk 3 .i64 m fun i => ((tog x i m k : Nat) : Int)) ∧ Below w.heap.size w w' := by
  obtain ⟨gp, F, h1, h2, h3, h4, h5⟩ := h.is
  have hk1 := h.k1
  have hk8 : k ≤ 8 := Nat.le_trans h.k7 (by omega)
  have hs64 := h.s64
  have HM := Lib.hid hm
  have HS := Lib.hid hs
  have HR := Lib.hid h3
  clear h h1 h2 h3 h4 h5 hm hs
  have H := Lib.hid (Ow.start w)
  go_enter Tryz.func51, Tryz.ntmps51
  go_wp2_with (first
    | ((fail_if_success have := g2); (with_reducible apply own_box1 (one_ptr _) H); (case hgd => exact rfl); (case ho => exact rfl); (case hx => exact rfl); intro w2 g2 H' _ _; replace H := H'; clear H'; go_simp)
    | ((with_reducible apply own_load1 cellTP H); (case hgd => exact rfl); (case ho => exact rfl); (case hx => exact rfl); (case hi => first | exact at0 | exact at1 | exact at2 | exact at3 | exact at4 | exact at5 | exact at6 | exact at7 | exact at8 | exact at9); intro _ _; go_simp)
    | ((with_reducible apply own_loadCO cellIz H); (case hgd => exact rfl); (case ho => exact rfl); (case hx => exact rfl); (case hr => exact HR.out); (case hj => exact rfl); intro _ _; go_simp)
    | ((with_reducible refine (columns_v _ s c x k m _ hs64 hk1 hk8 HM.out (HS.out.call H.out.bel)).mono ?_); rintro e wc ⟨gc, rfl, hge, hr, hb⟩; replace H := Lib.hid ((H.out.call hb).more hr (Nat.le_trans H.out.bel.size hge) fun x hx => by (have := lt_row (H.out.has x hx); omega)); clear hb hge hr)
    | ((fail_if_success have := g5); (with_reducible apply own_alloc1 nilIs (one_slice _ _ _) H); (case hgd => exact rfl); (case ho => exact rfl); intro w5 g5 H' _ _; replace H := H'; clear H'; go_simp)
    | ((with_reducible apply own_store1 cellIs (one_slice _ _ _) H); (case hgd => exact rfl); (case ho => exact rfl); (case hx => exact rfl); (case hy => exact rfl); (case hi => first | exact at0 | exact at1 | exact at2 | exact at3 | exact at4 | exact at5 | exact at6 | exact at7 | exact at8 | exact at9); intro ws H' _ _; replace H := H'; clear H'; simp only [List.set_cons_zero] at H; go_simp))
  go_ret
  exact ⟨_, _, _, rfl, ⟨H.out.ge 0 rfl, H.out.ge 2 rfl, H.out.ge 1 rfl⟩, H.out.row 0 rfl, H.out.row 2 rfl, H.out.row 1 rfl, H.out.bel⟩














set_option maxRecDepth 8000 in
set_option maxHeartbeats 3200000 in
theorem tmult_bad {g k s n c : Nat} {a : Option Addr} {P : Pt pN dK} (w : World) (hT : Tp w) (h : TabK w w.heap.size g P k s) (hn : n ≠ s) :
    Calls Tryz.prog 22 #[.pointer (some ⟨g, 0, none⟩), .slice a n c] w fun e w' => ∃ r, e = .returned (.tuple #[PO r, .int .i64 11]) ∧ Below w.heap.size w w' := by
  obtain ⟨gp, F, h1, h2, h3, h4, h5⟩ := h.is
  have HR := Lib.hid h3
  have hne : ¬ ((n : Int) = (s : Int)) := by omega
  have hne' : ¬ (n = s) := hn
  have dne : decide ((n : Int) = (s : Int)) = false := by (simp; omega)
  clear h h1 h2 h3 h4 h5 hn
  have HT := Lib.hid hT
  clear hT
  have H := Lib.hid (Ow.start w)
  go_enter Tryz.func22, Tryz.ntmps22
  go_wp2_with (first
    | ((fail_if_success have := g4); (with_reducible apply own_alloc nilPt H); (case hgd => exact rfl); (case ho => exact rfl); intro w4 g4 H' _ _; replace H := H'; clear H'; go_simp)
    | ((fail_if_success have := V0); (with_reducible refine (identity_k _ (HT.out.below H.out.bel)).mono ?_); rintro e wc ⟨k0, rfl, hv, hb⟩; replace H := Lib.hid (H.out.call hb); have V0 := Lib.hid hv; clear hb hv)
    | ((fail_if_success have := g6); (with_reducible apply own_alloc nilPt H); (case hgd => exact rfl); (case ho => exact rfl); intro w6 g6 H' _ _; replace H := H'; clear H'; go_simp)
    | ((with_reducible apply own_loadCO cellIz H); (case hgd => exact rfl); (case ho => exact rfl); (case hx => exact rfl); (case hr => exact HR.out); (case hj => exact rfl); intro _ _; go_simp)
    | ((with_reducible apply own_load rowPt H); (case hgd => exact rfl); (case ho => exact rfl); (case hx => exact rfl); (case hi => first | exact at0 | exact at1 | exact at2 | exact at3 | exact at4 | exact at5 | exact at6 | exact at7 | exact at8 | exact at9); intro _ _; go_simp)
    | ((with_reducible apply own_store rowPt H); (case hgd => exact rfl); (case ho => exact rfl); (case hx => exact rfl); (case hy => exact rfl); (case hi => first | exact at0 | exact at1 | exact at2 | exact at3 | exact at4 | exact at5 | exact at6 | exact at7 | exact at8 | exact at9); intro ws H' _ _; replace H := H'; clear H'; simp only [List.set_cons_zero, List.set_cons_succ] at H; go_simp))
  exact bodyPost_ret (own_result_slot 1 rowPt rfl _ H rfl rfl rfl) rfl ⟨_, rfl, H.out.bel⟩
set_option maxRecDepth 8000 in
set_option maxHeartbeats 3200000 in
theorem tmult_k {g k s c x : Nat} {a : Option Addr} {P : Pt pN dK} (w : World) (hT : Tp w) (h : TabK w w.heap.size g P k s) (hs : Sb w w.heap.size a s c x) :
    Calls Tryz.prog 22 #[.pointer (some ⟨g, 0, none⟩), .slice a s c] w fun e w' => ∃ r, e = .returned (.tuple #[PO r, .int .i64 0]) ∧ PtK r (pmul edK x P) ∧ Below w.heap.size w w' := by
  obtain ⟨m, hm⟩ : ∃ m, (8 * s + k - 1) / k = m := ⟨_, rfl⟩
  have hm1 : m ≤ 1000 := by
    rw [← hm]
    have h64 := h.s64
    have h7 := h.k7
    exact Nat.le_trans (Nat.div_le_self _ _) (by omega)
  have HX : Hid (hz x m k m = x) := Lib.hid (hz_all (Nat.lt_of_lt_of_le hs.fits (Nat.pow_le_pow_right (by omega) (by
    have h1 := h.k1
    have hd := Nat.div_add_mod (8 * s + k - 1) k
    have hl := Nat.mod_lt (8 * s + k - 1) h1
    rw [hm] at hd
    rw [Nat.mul_comm m k]
    omega))))
  have HM := Lib.hid hm
  have HS := Lib.hid hs
  have HK := Lib.hid h
  obtain ⟨gp, F, _, _, h3, _, _⟩ := h.is
  have HR := Lib.hid h3
  clear h hs hm h3
  have HT := Lib.hid hT
  clear hT
  have H := Lib.hid (Ow.start w)
  refine calls_marks Tryz.func22 rfl ?_
  simp only [Tryz.ntmps22, List.size_toArray, List.length_cons, List.length_nil, Nat.reduceAdd, Nat.reduceSub, Array.replicate_succ, Array.replicate_zero, List.push_toArray, List.append_toArray, List.nil_append, List.cons_append]
  go_wp2_with (first
    | ((fail_if_success have := g4); (with_reducible apply own_alloc nilPt H); (case hgd => exact rfl); (case ho => exact rfl); intro w4 g4 H' _ _; replace H := H'; clear H'; go_simp)
    | ((fail_if_success have := V0); (with_reducible refine (identity_k _ (HT.out.below H.out.bel)).mono ?_); rintro e wc ⟨k0, rfl, hv, hb⟩; replace H := Lib.hid (H.out.call hb); have V0 := Lib.hid hv; clear hb hv)
    | ((fail_if_success have := g6); (with_reducible apply own_alloc nilPt H); (case hgd => exact rfl); (case ho => exact rfl); intro w6 g6 H' _ _; replace H := H'; clear H'; go_simp)
    | ((with_reducible apply own_loadCO cellIz H); (case hgd => exact rfl); (case ho => exact rfl); (case hx => exact rfl); (case hr => exact HR.out); (case hj => exact rfl); intro _ _; go_simp)
    | ((with_reducible refine (tparts_k _ (HK.out.call H.out.bel) HM.out (HS.out.call H.out.bel)).mono ?_); rintro e wc ⟨b5, b2, gc, rfl, hge, hr5, hr2, hrc, hb⟩; have HWP : Hid (∃ wp : World, Below wp.heap.size wp wc ∧ Below w.heap.size w wp ∧ (g6 < wp.heap.size ∧ g4 < wp.heap.size) ∧ (wp.heap.size ≤ b5 ∧ wp.heap.size ≤ b2 ∧ wp.heap.size ≤ gc)) := Lib.hid ⟨_, hb, H.out.bel, ⟨lt_row (H.out.row 0 rfl), lt_row (H.out.row 1 rfl)⟩, hge⟩; have R5 := Lib.hid hr5; have R2 := Lib.hid hr2; have RC := Lib.hid hrc; replace H := Lib.hid (H.out.call hb); clear hb hge hr5 hr2 hrc)
    | ((with_reducible apply own_store rowPt H); (case hgd => exact rfl); (case ho => exact rfl); (case hx => exact rfl); (case hy => exact rfl); (case hi => first | exact at0 | exact at1 | exact at2 | exact at3 | exact at4 | exact at5 | exact at6 | exact at7 | exact at8 | exact at9); intro ws H' _ _; replace H := H'; clear H'; simp only [List.set_cons_zero] at H; go_simp))
  obtain ⟨wp, hb1, hb2, ⟨h6, h4⟩, hg5, hg2, hgc⟩ := HWP.out
  have s1 := hb1.size
  have s2 := hb2.size
  have g6w := H.out.ge 0 rfl
  have g4w := H.out.ge 1 rfl
  have HO := Lib.hid H.out
  clear HWP H
  obtain ⟨wL, hwL⟩ : ∃ wL, wL = wc := ⟨_, rfl⟩
  subst hwL
  refine range_all rfl (fun args w => enters Tryz.func89 (by kernel_rfl) rfl args w) (parts_iter (w0 := w) (X := fun j => w.heap.size ≤ j ∧ j < wp.heap.size) HT.out HK.out HM.out hm1 (hb2.trans (hb1.mono s2)) R5.out R2.out RC.out (fun j h => ⟨h.1, by omega⟩) (fun h => by omega) (fun h => by omega) (fun h => by omega)) (Turn.refl _ _)
    (fun i args h => by (obtain ⟨r, rfl, _⟩ := h; rfl)) (fun i A => ∃ r, PtK r (pmul edK (hz x m k i) P) ∧ Ow w A [(g6, Blk 32 .u64 24 r), (g4, Blk 32 .u64 24 fun _ => 0)]) ?_ ?_ ?_ ?_
  · rintro i A B ⟨r, hr, hO⟩ _ hAB
    exact ⟨r, hr, hO.turn hAB (fun j h1 h2 => by omega) fun x hx => by (simp at hx; rcases hx with rfl | rfl <;> omega)⟩
  · exact ⟨k0, V0.out, HO.out⟩
  · rintro l' i args A ⟨r, hr, hO⟩ hi ⟨q, rfl, hq⟩ hl1 hl2
    have VR := Lib.hid hr
    have VQ := Lib.hid hq
    have HA := Lib.hid hO
    have HI := Lib.hid hi
    clear hr hq hO hi
    have H := Lib.hid (Ow.start A)
    refine region_lets (.inr ⟨l', rfl⟩) rfl (fun a w h => h) ?_
    go_wp2_with (first
      | ((fail_if_success have := g7); (with_reducible apply own_alloc nilPt H); (case hgd => exact rfl); (case ho => exact rfl); intro w7 g7 H' _ _; replace H := H'; clear H'; go_simp)
      | ((with_reducible apply own_store rowPt H); (case hgd => exact rfl); (case ho => exact rfl); (case hx => exact rfl); (case hy => exact rfl); (case hi => first | exact at0 | exact at1 | exact at2 | exact at3 | exact at4 | exact at5 | exact at6 | exact at7 | exact at8 | exact at9); intro ws H' _ _; replace H := H'; clear H'; simp only [List.set_cons_zero] at H; go_simp))

    refine ⟨H.out.bel, fun w₂ ht => ?_⟩
    have hA7 := H.out.ge 0 rfl
    have hsA := (HA.out.bel).size
    replace H := Lib.hid (((HA.out.call H.out.bel).more (H.out.row 0 rfl) (Nat.le_trans hsA hA7) (fun x hx => by (have := lt_row (HA.out.has x hx); omega))).turn ht (fun j h1 h2 => by omega) (fun x hx => by (simp at hx; rcases hx with rfl | rfl | rfl <;> omega)))
    have TX := Lib.hid (Turn.refl (fun j => j = g6) w₂)
    clear HA hsA hA7 ht hl2
    refine wpIn_block ?_
    refine held_lets (S := fun W => W.heap[g7]? = some (Blk 32 .u64 24 (q))) (.inr ⟨l', rfl⟩) (by kernel_rfl) (by kernel_rfl) (fun a w h => h) (H.out.drew.row 0 rfl) (fun hH => ?_)
    replace H := Lib.hid H.out.drew
    replace TX := Lib.hid TX.out.drew
    generalize World.drew _ = w8 at *
    refine held_row 2 26 rowPt rfl rfl (by kernel_rfl) (by kernel_rfl) (by kernel_rfl) rfl hH rfl rfl (fun _ h => h) ?_
    try simp only [Act.put, List.setIfInBounds_toArray, List.set_cons_zero, List.set_cons_succ]
    refine wpAnyH_ready (rs := [0]) (by kernel_rfl) (by simp) ?_
    refine AllReadyH.cons (o := _) rfl (fun K hK => ?_) AllReadyH.nil
    refine own_wp_load 24 rfl 1 rowPt H.out rfl rfl rfl ?_
    refine hK.out _ _ hH (fun hN => ?_)
    clear hK K hH
    have hH := hN
    clear hN
    try simp only [Act.put, List.setIfInBounds_toArray, List.set_cons_zero, List.set_cons_succ]
    refine wpAnyH_ready (rs := [1]) (by kernel_rfl) (by simp) ?_
    refine AllReadyH.cons (o := _) rfl (fun K hK => ?_) AllReadyH.nil
    go_simp
    refine (ptDouble_k _ (HT.out.below H.out.bel) VR.out).mono ?_
    rintro e wc ⟨k25, rfl, hv, hb⟩
    replace TX := Lib.hid (TX.out.call hb)
    replace H := Lib.hid (H.out.call hb)
    have HV25 := Lib.hid hv
    refine hK.out _ _ (H.out.row 0 rfl) (fun hN => ?_)
    clear hK K hH hb hv
    have hH := hN
    clear hN
    try simp only [Act.put, List.setIfInBounds_toArray, List.set_cons_zero, List.set_cons_succ]
    refine wpAnyH_ready (rs := [3]) (by kernel_rfl) (by simp) ?_
    refine AllReadyH.cons (o := _) rfl (fun K hK => ?_) AllReadyH.nil
    go_simp
    refine (ptAdd_k _ (HT.out.below H.out.bel) HV25.out VQ.out).mono ?_
    rintro e wc ⟨k27, rfl, hv, hb⟩
    replace TX := Lib.hid (TX.out.call hb)
    replace H := Lib.hid (H.out.call hb)
    have HV27 := Lib.hid hv
    refine hK.out _ _ (H.out.row 0 rfl) (fun hN => ?_)
    clear hK K hH hb hv
    have hH := hN
    clear hN
    try simp only [Act.put, List.setIfInBounds_toArray, List.set_cons_zero, List.set_cons_succ]
    refine wpAnyH_ready (rs := [4]) (by kernel_rfl) (by simp) ?_
    refine AllReadyH.cons (o := _) rfl (fun K hK => ?_) AllReadyH.nil
    refine own_stT 1 rfl rowPt H.out rfl rfl rfl rfl ?_
    intro ws HS hts
    simp only [List.set_cons_zero, List.set_cons_succ] at HS
    replace H := Lib.hid HS
    replace TX := Lib.hid (TX.out.trans hts)
    refine hK.out _ _ (H.out.row 0 rfl) (fun hN => ?_)
    clear hK K HS hH hts
    have hH := hN
    clear hN
    try simp only [List.setIfInBounds_toArray]
    try simp only [Act.put]
    refine wpAnyH_done (by kernel_rfl) ?_ _
    refine NoPanic.normal ?_
    clear hH
    have hwpL := s1
    exact ⟨TX.out.mono fun j _ e => by (subst e; exact ⟨.inl ⟨g6w, h6⟩, by omega⟩), k27, HV27.out.eq (by rw [← pmul_two, ← pmul_add]; rfl), H.out.pop⟩
  · rintro D A hD ⟨r, hr, hO⟩ hDr
    have VR := Lib.hid (hr.eq (Q := pmul edK x P) (by rw [HX.out]))
    have H := Lib.hid (hO.more hDr (by omega) (fun x hx => by (simp at hx; rcases hx with rfl | rfl <;> omega)))
    have HD := Lib.hid hD
    clear hr hO hDr hD
    go_wp2_with (first
      | ((with_reducible apply own_load rowPt H); (case hgd => exact rfl); (case ho => exact rfl); (case hx => exact rfl); (case hi => first | exact at0 | exact at1 | exact at2 | exact at3 | exact at4 | exact at5 | exact at6 | exact at7 | exact at8 | exact at9); intro _ _; go_simp)
      | ((with_reducible apply own_store rowPt H); (case hgd => exact rfl); (case ho => exact rfl); (case hx => exact rfl); (case hy => exact rfl); (case hi => first | exact at0 | exact at1 | exact at2 | exact at3 | exact at4 | exact at5 | exact at6 | exact at7 | exact at8 | exact at9); intro ws H' _ _; replace H := H'; clear H'; simp only [List.set_cons_zero, List.set_cons_succ] at H; go_simp))


    refine ⟨by simp, .inl ⟨_, _, rfl, run_takeDeferred (H.out.row 0 rfl), ?_⟩⟩
    have H3 := Lib.hid (H.out.pop.turn (turn_put (X := fun j => j = D) _ D (.deferred none) rfl) (fun j h1 h2 => by (have := HD.out; omega)) (fun x hx => by (have := HD.out; simp at hx; rcases hx with rfl | rfl <;> omega)))
    exact ⟨_, own_result_slot 1 rowPt rfl _ H3 rfl rfl rfl, _, rfl, VR.out, H3.out.bel⟩
end Go.Proofs.YtjcfoilfdmameaaGreatDoor

/-
  The contracts of package comb, together. No statement is proved here: lemmas for the walks.
-/
