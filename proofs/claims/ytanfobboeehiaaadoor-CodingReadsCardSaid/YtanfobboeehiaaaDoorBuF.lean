/-
  Lemmas for the walks, several texts in one. No statement is proved here.
-/
import Derived.Test.YtanfobboeehiaaaDoorBuX
import Derived.Test.YtanfobboeehiaaaDoorBuB
import Derived.Test.YtanfobboeehiaaaDoorZRfPt
import Derived.Test.YtanfobboeehiaaaDoorZRtRroot
import Derived.Deep.CutRange
/-
  The contracts of chicoryref09. No statement is proved here: lemmas for the walks.
-/
namespace Go.Proofs.YtanfobboeehiaaaDoor
open Go.RowKit

theorem built_qt0 (w : World) : (Instr.build 40 #[]).run Tryd.prog w = .ok (.agg (AZ .i64 48 fun _ => 0)) w :=
  by kernel_rfl
section
variable {ops : Array Oper} {rest : List Oper} {o : Oper} {a : Act} {w w0 : World} {l : List (Nat × Obj)} {Q : Exit → Act → World → Prop} {ty : TypeId} {v : Value} {ad : Addr}
theorem lay_build_qt0 (hgd : o.guard = none) (ho : o.op = .build 40 #[])
    (k : ∀ K : Act → World → Prop, (∀ a w, wpList Tryd.prog ops Q rest a w → K a w) → K (a.put o.dst (.agg (AZ .i64 48 fun _ => 0))) w) : wpList Tryd.prog ops Q (o :: rest) a w :=
  wpList_plain hgd fun K hK => by
    unfold Oper.wp execOp
    simp only [ho, Array.map_empty, Sem.run_bind, built_qt0, Result.andThen_ok]
    exact k K hK
theorem lay_build_F0g {O : Fin pN} (hO : O = 0) (hw : Region.wanted o (yielded ops a.tmps) = true) (ho : o.op = .build 38 #[])
    (k : ∀ K : Act → World → Prop, (∀ a w, wpList Tryd.prog ops Q rest a w → K a w) → K (a.put o.dst (FV O.val)) w) : wpList Tryd.prog ops Q (o :: rest) a w :=
  list_wanted hw fun K hK => by
    unfold Oper.wp execOp
    simp only [ho, Array.map_empty, Sem.run_bind, built_F0, Result.andThen_ok]
    subst hO
    exact k K hK
/-- A guarded load, of a cell that was there when the call began. -/
theorem own_load_oldg {P : Program} (hT : IsCell P ty) (H : Hid (Ow w0 w l)) (hw : Region.wanted o (yielded ops a.tmps) = true) {x : Operand} (ho : o.op = .load ty x) (hx : a.eval x = .pointer (some ad)) (hc : w0.cell? ad = some v)
    (h : ∀ K : Act → World → Prop, (∀ a w, wpList P ops Q rest a w → K a w) → K (a.put o.dst v) w) : wpList P ops Q (o :: rest) a w :=
  list_wanted hw fun K hK => by
    unfold Oper.wp execOp
    simp only [ho, hx, Sem.run_bind, run_load_cell hT ((Below.cell H.out.bel (p := ad) (block_lt_of_cell hc)).trans hc), Result.andThen_ok]
    exact h K hK
end
theorem refRoot_kt' {a X : K} (w : World) (h : a ^ (eC + 1) * a ^ (eC + 1) = a) (hX : ab (a ^ (eC + 1)) = X) :
    Calls Tryd.prog 51 #[FV a.val] w fun e w' => e = .returned (.tuple #[FV X.val, .bool true]) ∧ Below w.heap.size w w' :=
  (refRoot_k w).mono fun _ _ ⟨h1, hb⟩ => by
    subst hX
    rcases h1 with ⟨_, he⟩ | ⟨hn, _⟩
    · exact ⟨he, hb⟩
    · exact absurd h hn
theorem refRoot_kf' {a O : K} (w : World) (h : a ^ (eC + 1) * a ^ (eC + 1) ≠ a) (hO : O = 0) :
    Calls Tryd.prog 51 #[FV a.val] w fun e w' => e = .returned (.tuple #[FV O.val, .bool false]) ∧ Below w.heap.size w w' :=
  (refRoot_k w).mono fun _ _ ⟨h1, hb⟩ => by
    subst hO
    rcases h1 with ⟨hn, _⟩ | ⟨_, he⟩
    · exact absurd hn h
    · exact ⟨he, hb⟩
theorem OwnB.like {w : World} {base : Nat} {v : Value} {n : Nat} {f g : Nat → BitVec 8} (h : OwnB w base v n f) (hfg : ∀ i, i < n → f i = g i) : OwnB w base v n g := by
  unfold OwnB at h ⊢
  rwa [List.map_congr_left (fun i hi => by rw [hfg i (List.mem_range.1 hi)])] at h
/-- A row to which a byte is appended. -/
theorem OwnB.code {w : World} {base : Nat} {v : Value} {P : Pt pN dK} (h : OwnB w base v 57 (bt (cdN P))) : ∃ g c, v = .slice (some ⟨g, 0, none⟩) 57 c ∧ Sb w w.heap.size (some ⟨g, 0, none⟩) 57 c (cdN P) := by
  obtain ⟨g, c, _, e, _, _, hs⟩ := h.sl (by omega)
  exact ⟨g, c, e, hs, cdN_lt P⟩
set_option maxRecDepth 8000 in
set_option maxHeartbeats 3200000 in
theorem refEncode_odd {v1 : Nat → Int} {P1 : Pt pN dK} (w : World) (q1 : RfK v1 P1) (hp : decide (P1.x.val % 2 = 1) = true) (hs : sg P1.x = 128) :
    Calls Tryd.prog 11 #[QO v1] w fun e w' => ∃ g c, e = .returned (.slice (some ⟨g, 0, none⟩) 57 c) ∧ Sb w' w'.heap.size (some ⟨g, 0, none⟩) 57 c (cdN P1) ∧ Below w.heap.size w w' := by
  have W1 := Lib.hid q1
  have HP := Lib.hid hp
  have HL := Lib.hid (fun j hj => (congrFun (bX_bt P1.y.val) j).trans (cdN_low P1 (i := j) hj).symm)
  have HC : Hid (U (bt (cdN P1) 56) = .int .u8 128) := Lib.hid (by rw [cdN_top, hs]; rfl)
  clear q1 hp hs
  have H := Lib.hid (Ow.start w)
  go_enter Tryd.func11, Tryd.ntmps11
  go_wp2_with (first
    | ((fail_if_success have := g1); (with_reducible apply own_box H); (case hgd => exact rfl); (case ho => exact rfl); (case hx => exact rfl); intro w1 g1 H' _ _; replace H := H'; clear H'; go_simp)
    | ((with_reducible apply own_load rowQt H); (case hgd => exact rfl); (case ho => exact rfl); (case hx => exact rfl); (case hi => first | exact at0 | exact at1 | exact at2 | exact at3 | exact at4 | exact at5 | exact at6 | exact at7 | exact at8 | exact at9); intro _ _; go_simp)
    | ((fail_if_success have := A1); (with_reducible refine (refAffine_k _ W1.out).mono ?_); rintro e wc ⟨rfl, hb⟩; replace H := Lib.hid (H.out.call hb); clear hb; have A1 := trivial)
    | ((fail_if_success have := g3); (fail_if_success have := g3); (with_reducible apply own_alloc intsF.zero H); (case hgd => exact rfl); (case ho => exact rfl); intro w3 g3 H' _ _; replace H := H'; clear H'; go_simp)
    | ((fail_if_success have := g4); (fail_if_success have := g4); (with_reducible apply own_alloc intsF.zero H); (case hgd => exact rfl); (case ho => exact rfl); intro w4 g4 H' _ _; replace H := H'; clear H'; go_simp)
    | ((with_reducible apply own_store rowF H); (case hgd => exact rfl); (case ho => exact rfl); (case hx => exact rfl); (case hy => exact rfl); (case hi => first | exact at0 | exact at1 | exact at2 | exact at3 | exact at4 | exact at5 | exact at6 | exact at7 | exact at8 | exact at9); intro ws H' _ _; replace H := H'; clear H'; simp only [List.set_cons_zero, List.set_cons_succ] at H; go_simp)
    | ((with_reducible apply own_load rowF H); (case hgd => exact rfl); (case ho => exact rfl); (case hx => exact rfl); (case hi => first | exact at0 | exact at1 | exact at2 | exact at3 | exact at4 | exact at5 | exact at6 | exact at7 | exact at8 | exact at9); intro _ _; go_simp)
    | ((with_reducible refine (refNegative_k _).mono ?_); rw [HP.out]; rintro e wc ⟨rfl, hb⟩; replace H := Lib.hid (H.out.call hb); clear hb)
    | ((with_reducible refine (refBytes_own _ _).mono ?_); rintro e wc ⟨vb, B, rfl, hB, hB2, ho, hb⟩; have HO := Lib.hid (ho.like HL.out); have HB := Lib.hid (Nat.le_trans H.out.bel.size hB); have HB2 := Lib.hid hB2; replace H := Lib.hid (H.out.call hb); clear hb ho hB hB2)
    | ((with_reducible apply lay_append_byte); (case hgd => exact rfl); (case ho => exact rfl); (case hs => exact rfl); (case hx => exact rfl); (case hown => exact HO.out.alloc _); (case hc => rw [HC.out]; simp); (case hn => omega); (case hbase => exact Nat.le_trans HB2.out (by simp)); intro v' w' ho' hb'; have HO' := Lib.hid ho'; have HB' := Lib.hid hb'; clear ho' hb'; intro _ _; go_simp))
  go_ret
  obtain ⟨g, c, rfl, hs⟩ := HO'.out.code
  exact ⟨g, c, rfl, hs, (H.out.bel.alloc H.out.bel.size _).trans (HB'.out.mono HB.out)⟩
set_option maxRecDepth 8000 in
set_option maxHeartbeats 3200000 in
theorem refEncode_even {v1 : Nat → Int} {P1 : Pt pN dK} (w : World) (q1 : RfK v1 P1) (hp : decide (P1.x.val % 2 = 1) = false) (hs : sg P1.x = 0) :
    Calls Tryd.prog 11 #[QO v1] w fun e w' => ∃ g c, e = .returned (.slice (some ⟨g, 0, none⟩) 57 c) ∧ Sb w' w'.heap.size (some ⟨g, 0, none⟩) 57 c (cdN P1) ∧ Below w.heap.size w w' := by
  have W1 := Lib.hid q1
  have HP := Lib.hid hp
  have HL := Lib.hid (fun j hj => (congrFun (bX_bt P1.y.val) j).trans (cdN_low P1 (i := j) hj).symm)
  have HC : Hid (U (bt (cdN P1) 56) = .int .u8 0) := Lib.hid (by rw [cdN_top, hs]; rfl)
  clear q1 hp hs
  have H := Lib.hid (Ow.start w)
  go_enter Tryd.func11, Tryd.ntmps11
  go_wp2_with (first
    | ((fail_if_success have := g1); (with_reducible apply own_box H); (case hgd => exact rfl); (case ho => exact rfl); (case hx => exact rfl); intro w1 g1 H' _ _; replace H := H'; clear H'; go_simp)
    | ((with_reducible apply own_load rowQt H); (case hgd => exact rfl); (case ho => exact rfl); (case hx => exact rfl); (case hi => first | exact at0 | exact at1 | exact at2 | exact at3 | exact at4 | exact at5 | exact at6 | exact at7 | exact at8 | exact at9); intro _ _; go_simp)
    | ((fail_if_success have := A1); (with_reducible refine (refAffine_k _ W1.out).mono ?_); rintro e wc ⟨rfl, hb⟩; replace H := Lib.hid (H.out.call hb); clear hb; have A1 := trivial)
    | ((fail_if_success have := g3); (fail_if_success have := g3); (with_reducible apply own_alloc intsF.zero H); (case hgd => exact rfl); (case ho => exact rfl); intro w3 g3 H' _ _; replace H := H'; clear H'; go_simp)
    | ((fail_if_success have := g4); (fail_if_success have := g4); (with_reducible apply own_alloc intsF.zero H); (case hgd => exact rfl); (case ho => exact rfl); intro w4 g4 H' _ _; replace H := H'; clear H'; go_simp)
    | ((with_reducible apply own_store rowF H); (case hgd => exact rfl); (case ho => exact rfl); (case hx => exact rfl); (case hy => exact rfl); (case hi => first | exact at0 | exact at1 | exact at2 | exact at3 | exact at4 | exact at5 | exact at6 | exact at7 | exact at8 | exact at9); intro ws H' _ _; replace H := H'; clear H'; simp only [List.set_cons_zero, List.set_cons_succ] at H; go_simp)
    | ((with_reducible apply own_load rowF H); (case hgd => exact rfl); (case ho => exact rfl); (case hx => exact rfl); (case hi => first | exact at0 | exact at1 | exact at2 | exact at3 | exact at4 | exact at5 | exact at6 | exact at7 | exact at8 | exact at9); intro _ _; go_simp)
    | ((with_reducible refine (refNegative_k _).mono ?_); rw [HP.out]; rintro e wc ⟨rfl, hb⟩; replace H := Lib.hid (H.out.call hb); clear hb)
    | ((with_reducible refine (refBytes_own _ _).mono ?_); rintro e wc ⟨vb, B, rfl, hB, hB2, ho, hb⟩; have HO := Lib.hid (ho.like HL.out); have HB := Lib.hid (Nat.le_trans H.out.bel.size hB); have HB2 := Lib.hid hB2; replace H := Lib.hid (H.out.call hb); clear hb ho hB hB2)
    | ((with_reducible apply lay_append_byte); (case hgd => exact rfl); (case ho => exact rfl); (case hs => exact rfl); (case hx => exact rfl); (case hown => exact HO.out.alloc _); (case hc => rw [HC.out]; simp); (case hn => omega); (case hbase => exact Nat.le_trans HB2.out (by simp)); intro v' w' ho' hb'; have HO' := Lib.hid ho'; have HB' := Lib.hid hb'; clear ho' hb'; intro _ _; go_simp))
  go_ret
  obtain ⟨g, c, rfl, hs⟩ := HO'.out.code
  exact ⟨g, c, rfl, hs, (H.out.bel.alloc H.out.bel.size _).trans (HB'.out.mono HB.out)⟩
theorem refEncode_k {v1 : Nat → Int} {P1 : Pt pN dK} (w : World) (q1 : RfK v1 P1) :
    Calls Tryd.prog 11 #[QO v1] w fun e w' => ∃ g c, e = .returned (.slice (some ⟨g, 0, none⟩) 57 c) ∧ Sb w' w'.heap.size (some ⟨g, 0, none⟩) 57 c (cdN P1) ∧ Below w.heap.size w w' := by
  rcases sg_or P1.x with ⟨h1, h2⟩ | ⟨h1, h2⟩
  · exact refEncode_odd w q1 (decide_eq_true h1) h2
  · exact refEncode_even w q1 (decide_eq_false (by omega)) h2
end Go.Proofs.YtanfobboeehiaaaDoor

/-
  The contract of chicoryref09's Decode, in one case. No statement is proved here: lemmas for the walks.
-/
namespace Go.Proofs.YtanfobboeehiaaaDoor
open Go.RowKit

set_option maxRecDepth 8000 in
set_option maxHeartbeats 3200000 in
theorem refDec_high {a : Option Addr} {c x : Nat} (w : World) (hs : Sb w w.heap.size a 57 c x) (hf : pN ≤ nB (bt x) 56) :
    Calls Tryd.prog 15 #[.slice a 57 c] w fun e w' => e = .returned (.tuple #[QO fun _ => 0, .bool false]) ∧ Below w.heap.size w w' := by
  obtain ⟨b0, o0, rfl, hc⟩ := hs.sl.addr (by omega)
  have hc := hc 56 (by omega)
  have HC := Lib.hid hc
  have HS := Lib.hid (hs.sl.first (m := 56) (c' := c) (by omega) (Nat.le_of_succ_le hs.sl.le) (by omega))
  have le56 : (56 : Int) ≤ (c : Int) := Int.ofNat_le.2 (Nat.le_of_succ_le hs.sl.le)
  have HF : Hid (decide (nB (bt x) 56 < pN) = false) := Lib.hid (decide_eq_false (by omega))
  clear hs hc hf
  have H := Lib.hid (Ow.start w)
  go_enter Tryd.func15, Tryd.ntmps15
  go_wp2_with (first
    | ((fail_if_success have := g2); (fail_if_success have := g2); (with_reducible apply own_alloc nilQt H); (case hgd => exact rfl); (case ho => exact rfl); intro w2 g2 H' _ _; replace H := H'; clear H'; go_simp)
    | ((fail_if_success have := F1); (with_reducible refine (refFits_any _ c _ _ ((HS.out.below H.out.bel).more H.out.bel.size)).mono ?_); rw [HF.out]; rintro e wc ⟨rfl, hb⟩; have F1 := trivial; replace H := Lib.hid (H.out.call hb); clear hb)
    | ((with_reducible apply own_load_oldg cell8 H); (case hw => exact rfl); (case ho => exact rfl); (case hx => exact rfl); (case hc => exact HC.out); intro _ _; go_simp)
    | ((with_reducible apply lay_build_qt0); (case hgd => exact rfl); (case ho => exact rfl); intro _ _; go_simp)
    | ((with_reducible apply own_store rowQt H); (case hgd => exact rfl); (case ho => exact rfl); (case hx => exact rfl); (case hy => exact rfl); (case hi => first | exact at0 | exact at1 | exact at2 | exact at3 | exact at4 | exact at5 | exact at6 | exact at7 | exact at8 | exact at9); intro ws H' _ _; replace H := H'; clear H'; simp only [List.set_cons_zero] at H; go_simp))
  exact bodyPost_ret (own_result_slot 0 rowQt rfl _ H rfl rfl rfl) rfl ⟨rfl, H.out.bel⟩
end Go.Proofs.YtanfobboeehiaaaDoor

/-
  The contract of chicoryref09's Decode, in one case. No statement is proved here: lemmas for the walks.
-/
namespace Go.Proofs.YtanfobboeehiaaaDoor
open Go.RowKit

set_option maxRecDepth 8000 in
set_option maxHeartbeats 3200000 in
theorem refDec_last {a : Option Addr} {c x : Nat} {y : K} (w : World) (hs : Sb w w.heap.size a 57 c x) (hf : nB (bt x) 56 = y.val) (hs1 : bt x 56 ≠ 0 ∧ bt x 56 ≠ 128) :
    Calls Tryd.prog 15 #[.slice a 57 c] w fun e w' => e = .returned (.tuple #[QO fun _ => 0, .bool false]) ∧ Below w.heap.size w w' := by
  obtain ⟨b0, o0, rfl, hc⟩ := hs.sl.addr (by omega)
  have hc := hc 56 (by omega)
  have HC := Lib.hid hc
  have HS := Lib.hid (hs.sl.first (m := 56) (c' := c) (by omega) (Nat.le_of_succ_le hs.sl.le) (by omega))
  have le56 : (56 : Int) ≤ (c : Int) := Int.ofNat_le.2 (Nat.le_of_succ_le hs.sl.le)
  have n0 : ((U8 (bt x 56) : Int) != 0) = true := by rw [bne_iff_ne]; exact fun e => hs1.1 (U8_inj.1 e)
  have n1 : ((U8 (bt x 56) : Int) != 128) = true := by rw [bne_iff_ne]; exact fun e => hs1.2 (U8_inj.1 e)
  have HF : Hid (decide (nB (bt x) 56 < pN) = true) := Lib.hid (decide_eq_true (by rw [hf]; exact y.isLt))
  have HY : Hid (nB (bt x) 56 % pN = y.val) := Lib.hid (by rw [hf, Nat.mod_eq_of_lt y.isLt])
  clear hs hc hf hs1
  have H := Lib.hid (Ow.start w)
  go_enter Tryd.func15, Tryd.ntmps15
  go_wp2_with (first
    | ((fail_if_success have := g2); (fail_if_success have := g2); (with_reducible apply own_alloc nilQt H); (case hgd => exact rfl); (case ho => exact rfl); intro w2 g2 H' _ _; replace H := H'; clear H'; go_simp)
    | ((fail_if_success have := F1); (with_reducible refine (refFits_any _ c _ _ ((HS.out.below H.out.bel).more H.out.bel.size)).mono ?_); rw [HF.out]; rintro e wc ⟨rfl, hb⟩; have F1 := trivial; replace H := Lib.hid (H.out.call hb); clear hb)
    | ((with_reducible apply own_load_oldg cell8 H); (case hw => exact rfl); (case ho => exact rfl); (case hx => exact rfl); (case hc => exact HC.out); intro _ _; go_simp)
    | ((with_reducible apply lay_build_qt0); (case hgd => exact rfl); (case ho => exact rfl); intro _ _; go_simp)
    | ((with_reducible apply own_store rowQt H); (case hgd => exact rfl); (case ho => exact rfl); (case hx => exact rfl); (case hy => exact rfl); (case hi => first | exact at0 | exact at1 | exact at2 | exact at3 | exact at4 | exact at5 | exact at6 | exact at7 | exact at8 | exact at9); intro ws H' _ _; replace H := H'; clear H'; simp only [List.set_cons_zero] at H; go_simp))
  exact bodyPost_ret (own_result_slot 0 rowQt rfl _ H rfl rfl rfl) rfl ⟨rfl, H.out.bel⟩
end Go.Proofs.YtanfobboeehiaaaDoor
