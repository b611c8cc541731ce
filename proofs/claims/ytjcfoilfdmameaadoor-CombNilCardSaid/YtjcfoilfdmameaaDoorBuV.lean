/-
  Lemmas for the walks, several texts in one. No statement is proved here.
-/
import Derived.Test.YtjcfoilfdmameaaDoorBuJ
import Derived.Test.YtjcfoilfdmameaaDoorBuU
import Derived.Deep.CutRange
import Derived.Test.YtjcfoilfdmameaaDoorBuX
/-
  What a table's parts answers, as an iterator: the points of a number's columns. No statement is proved here: lemmas for the walks.
-/
namespace Go.Proofs.YtjcfoilfdmameaaDoor
open Go.RowKit











































































































































end Go.Proofs.YtjcfoilfdmameaaDoor

/-
  The contract of a table's Mult. No statement is proved here: lemmas for the walks.
-/
namespace Go.Proofs.YtjcfoilfdmameaaDoor
open Go.RowKit



theorem Turn.call {X : Nat → Prop} {a b c : World} (h : Turn X a b) (hb : Below b.heap.size b c) : Turn X a c := h.trans (turn_below hb fun j h1 h2 => by omega)
section
variable {P : Program} {o : Oper} {a : Act} {w w0 : World} {l : List (Nat × Obj)} {K : Act → World → Prop} {Q : Exit → Act → World → Prop} {t ty : TypeId} {k : IntKind} {n : Nat}













end
























set_option maxRecDepth 8000 in
set_option maxHeartbeats 3200000 in
theorem tmult_nil {a : Option Addr} {n c : Nat} (w : World) (hT : Tp w) : Calls Tryd.prog 8 #[.pointer none, .slice a n c] w fun e w' => ∃ r, e = .returned (.tuple #[PO r, .int .i64 2]) ∧ Below w.heap.size w w' := by
  have HT := Lib.hid hT
  clear hT
  have H := Lib.hid (Ow.start w)
  go_enter Tryd.func8, Tryd.ntmps8
  go_wp2_with (first
    | ((fail_if_success have := g4); (with_reducible apply own_alloc nilPt H); (case hgd => exact rfl); (case ho => exact rfl); intro w4 g4 H' _ _; replace H := H'; clear H'; go_simp)
    | ((fail_if_success have := V0); (with_reducible refine (identity_k _ (HT.out.below H.out.bel)).mono ?_); rintro e wc ⟨k0, rfl, hv, hb⟩; replace H := Lib.hid (H.out.call hb); have V0 := Lib.hid hv; clear hb hv)
    | ((fail_if_success have := g6); (with_reducible apply own_alloc nilPt H); (case hgd => exact rfl); (case ho => exact rfl); intro w6 g6 H' _ _; replace H := H'; clear H'; go_simp)
    | ((with_reducible apply own_load rowPt H); (case hgd => exact rfl); (case ho => exact rfl); (case hx => exact rfl); (case hi => first | exact at0 | exact at1 | exact at2 | exact at3 | exact at4 | exact at5 | exact at6 | exact at7 | exact at8 | exact at9); intro _ _; go_simp)
    | ((with_reducible apply own_store rowPt H); (case hgd => exact rfl); (case ho => exact rfl); (case hx => exact rfl); (case hy => exact rfl); (case hi => first | exact at0 | exact at1 | exact at2 | exact at3 | exact at4 | exact at5 | exact at6 | exact at7 | exact at8 | exact at9); intro ws H' _ _; replace H := H'; clear H'; simp only [List.set_cons_zero, List.set_cons_succ] at H; go_simp))
  exact bodyPost_ret (own_result_slot 1 rowPt rfl _ H rfl rfl rfl) rfl ⟨_, rfl, H.out.bel⟩

































































































































































end Go.Proofs.YtjcfoilfdmameaaDoor

/-
  The contracts of package comb, together. No statement is proved here: lemmas for the walks.
-/
