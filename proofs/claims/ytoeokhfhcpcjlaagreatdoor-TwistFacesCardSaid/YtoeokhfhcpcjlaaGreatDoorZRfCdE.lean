/-
 The contracts of chicoryref09. No statement is proved here: lemmas for the walks.
-/
import Derived.Test.YtoeokhfhcpcjlaaGreatDoorBuX
import Derived.Test.YtoeokhfhcpcjlaaGreatDoorBuB
import Derived.Test.YtoeokhfhcpcjlaaGreatDoorZRfPt
import Derived.Test.YtoeokhfhcpcjlaaGreatDoorZRtRroot
import Derived.Deep.CutRange
set_option maxRecDepth 8000
set_option maxHeartbeats 3200000
namespace Go.Proofs.YtoeokhfhcpcjlaaGreatDoor
open Go.RowKit
section
variable {ops : Array Oper} {rest : List Oper} {o : Oper} {a : Act} {w w0 : World} {l : List (Nat × Obj)} {Q : Exit → Act → World → Prop} {ty : TypeId} {v : Value} {ad : Addr}
end
theorem OwnB.like {w : World} {base : Nat} {v : Value} {n : Nat} {f g : Nat → BitVec 8} (h : OwnB w base v n f) (hfg : ∀ i, i < n → f i = g i) : OwnB w base v n g := by
 unfold OwnB at h ⊢
 rwa [List.map_congr_left (fun i hi => by rw [hfg i (List.mem_range.1 hi)])] at h
theorem OwnB.code {w : World} {base : Nat} {v : Value} {P : Pt pN dK} (h : OwnB w base v 57 (bt (cdN P))) : ∃ g c, v = .slice (some ⟨g, 0, none⟩) 57 c ∧ Sb w w.heap.size (some ⟨g, 0, none⟩) 57 c (cdN P) := by
 obtain ⟨g, c, _, e, _, _, hs⟩ := h.sl (by omega)
 exact ⟨g, c, e, hs, cdN_lt P⟩
theorem refEncode_odd {v1 : Nat → Int} {P1 : Pt pN dK} (w : World) (q1 : RfK v1 P1) (hp : decide (P1.x.val % 2 = 1) = true) (hs : sg P1.x = 128) :
  Calls Tryz.prog 49 #[QO v1] w fun e w' => ∃ g c, e = .returned (.slice (some ⟨g, 0, none⟩) 57 c) ∧ Sb w' w'.heap.size (some ⟨g, 0, none⟩) 57 c (cdN P1) ∧ Below w.heap.size w w' := by
 have W1 := Lib.hid q1
 have HP := Lib.hid hp
 have HL := Lib.hid (fun j hj => (congrFun (bX_bt P1.y.val) j).trans (y1c P1 (i := j) hj).symm)
 have HC : Hid (U (bt (cdN P1) 56) = .int .u8 128) := Lib.hid (by rw [z8h, hs]; rfl)
 clear q1 hp hs
 have H := Lib.hid (Ow.start w)
 go_enter Tryz.func49, Tryz.ntmps49
 go_wp2_with (first
  | ((fail_if_success have := g1); (with_reducible apply z0h H); (case hgd | ho | hx => exact rfl); clear H; intro w1 g1 H _ _; go_simp)
  | ((with_reducible apply z0g rowQt H); (case hgd | ho | hx => exact rfl); (case hi => repeat first|exact at0|apply atS); intro _ _; go_simp)
  | ((fail_if_success have := A1); (with_reducible refine (z5e _ W1.out).mono ?_); rintro e wc ⟨rfl, hb⟩; replace H := hcall H hb; clear hb; have A1 := trivial)
  | ((fail_if_success have := g3); (fail_if_success have := g3); (with_reducible apply z0b intsF.zero H); (case hgd | ho => exact rfl); clear H; intro w3 g3 H _ _; go_simp)
  | ((fail_if_success have := g4); (fail_if_success have := g4); (with_reducible apply z0b intsF.zero H); (case hgd | ho => exact rfl); clear H; intro w4 g4 H _ _; go_simp)
  | ((with_reducible apply z0e rowF H); (case hgd | ho | hx | hy => exact rfl); (case hi => repeat first|exact at0|apply atS); clear H; intro ws H _ _; simp only [qb, qc] at H; go_simp)
  | ((with_reducible apply z0g rowF H); (case hgd | ho | hx => exact rfl); (case hi => repeat first|exact at0|apply atS); intro _ _; go_simp)
  | ((with_reducible refine (z3u _).mono ?_); rw [HP.out]; rintro e wc ⟨rfl, hb⟩; replace H := hcall H hb; clear hb)
  | ((with_reducible refine (z2u _ _).mono ?_); rintro e wc ⟨vb, B, rfl, hB, hB2, ho, hb⟩; have HO := Lib.hid (ho.like HL.out); have HB := Lib.hid (Nat.le_trans H.out.bel.size hB); have HB2 := Lib.hid hB2; replace H := hcall H hb; clear hb ho hB hB2)
  | ((with_reducible apply z08); (case hgd | ho | hs | hx => exact rfl); (case hown => exact HO.out.alloc _); (case hc => rw [HC.out]; simp); (case hn => omega); (case hbase => exact Nat.le_trans HB2.out (by simp)); intro v' w' ho' hb'; have HO' := Lib.hid ho'; have HB' := Lib.hid hb'; clear ho' hb'; intro _ _; go_simp))
 go_ret
 obtain ⟨g, c, rfl, hs⟩ := HO'.out.code
 exact ⟨g, c, rfl, hs, (H.out.bel.alloc H.out.bel.size _).trans (HB'.out.mono HB.out)⟩
theorem refEncode_even {v1 : Nat → Int} {P1 : Pt pN dK} (w : World) (q1 : RfK v1 P1) (hp : decide (P1.x.val % 2 = 1) = false) (hs : sg P1.x = 0) :
  Calls Tryz.prog 49 #[QO v1] w fun e w' => ∃ g c, e = .returned (.slice (some ⟨g, 0, none⟩) 57 c) ∧ Sb w' w'.heap.size (some ⟨g, 0, none⟩) 57 c (cdN P1) ∧ Below w.heap.size w w' := by
 have W1 := Lib.hid q1
 have HP := Lib.hid hp
 have HL := Lib.hid (fun j hj => (congrFun (bX_bt P1.y.val) j).trans (y1c P1 (i := j) hj).symm)
 have HC : Hid (U (bt (cdN P1) 56) = .int .u8 0) := Lib.hid (by rw [z8h, hs]; rfl)
 clear q1 hp hs
 have H := Lib.hid (Ow.start w)
 go_enter Tryz.func49, Tryz.ntmps49
 go_wp2_with (first
  | ((fail_if_success have := g1); (with_reducible apply z0h H); (case hgd | ho | hx => exact rfl); clear H; intro w1 g1 H _ _; go_simp)
  | ((with_reducible apply z0g rowQt H); (case hgd | ho | hx => exact rfl); (case hi => repeat first|exact at0|apply atS); intro _ _; go_simp)
  | ((fail_if_success have := A1); (with_reducible refine (z5e _ W1.out).mono ?_); rintro e wc ⟨rfl, hb⟩; replace H := hcall H hb; clear hb; have A1 := trivial)
  | ((fail_if_success have := g3); (fail_if_success have := g3); (with_reducible apply z0b intsF.zero H); (case hgd | ho => exact rfl); clear H; intro w3 g3 H _ _; go_simp)
  | ((fail_if_success have := g4); (fail_if_success have := g4); (with_reducible apply z0b intsF.zero H); (case hgd | ho => exact rfl); clear H; intro w4 g4 H _ _; go_simp)
  | ((with_reducible apply z0e rowF H); (case hgd | ho | hx | hy => exact rfl); (case hi => repeat first|exact at0|apply atS); clear H; intro ws H _ _; simp only [qb, qc] at H; go_simp)
  | ((with_reducible apply z0g rowF H); (case hgd | ho | hx => exact rfl); (case hi => repeat first|exact at0|apply atS); intro _ _; go_simp)
  | ((with_reducible refine (z3u _).mono ?_); rw [HP.out]; rintro e wc ⟨rfl, hb⟩; replace H := hcall H hb; clear hb)
  | ((with_reducible refine (z2u _ _).mono ?_); rintro e wc ⟨vb, B, rfl, hB, hB2, ho, hb⟩; have HO := Lib.hid (ho.like HL.out); have HB := Lib.hid (Nat.le_trans H.out.bel.size hB); have HB2 := Lib.hid hB2; replace H := hcall H hb; clear hb ho hB hB2)
  | ((with_reducible apply z08); (case hgd | ho | hs | hx => exact rfl); (case hown => exact HO.out.alloc _); (case hc => rw [HC.out]; simp); (case hn => omega); (case hbase => exact Nat.le_trans HB2.out (by simp)); intro v' w' ho' hb'; have HO' := Lib.hid ho'; have HB' := Lib.hid hb'; clear ho' hb'; intro _ _; go_simp))
 go_ret
 obtain ⟨g, c, rfl, hs⟩ := HO'.out.code
 exact ⟨g, c, rfl, hs, (H.out.bel.alloc H.out.bel.size _).trans (HB'.out.mono HB.out)⟩
theorem refEncode_k {v1 : Nat → Int} {P1 : Pt pN dK} (w : World) (q1 : RfK v1 P1) :
  Calls Tryz.prog 49 #[QO v1] w fun e w' => ∃ g c, e = .returned (.slice (some ⟨g, 0, none⟩) 57 c) ∧ Sb w' w'.heap.size (some ⟨g, 0, none⟩) 57 c (cdN P1) ∧ Below w.heap.size w w' := by
 rcases sg_or P1.x with ⟨h1, h2⟩ | ⟨h1, h2⟩
 ·exact refEncode_odd w q1 (decide_eq_true h1) h2
 ·exact refEncode_even w q1 (decide_eq_false (by omega)) h2
end Go.Proofs.YtoeokhfhcpcjlaaGreatDoor
