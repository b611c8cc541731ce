/-
  The base's texts: the contracts of package point's Base and of the reference's hex and Base. No statement is proved here: lemmas for the walks.
-/
import Derived.Test.YtjcfoilfdmameaaDoorZPtTold
import Derived.Test.YtjcfoilfdmameaaDoorZRfPt
import Derived.Deep.LoopGhost
namespace Go.Proofs.YtjcfoilfdmameaaDoor
open Go.RowKit

def chX : List Nat := [52, 102, 49, 57, 55, 48, 99, 54, 54, 98, 101, 100, 48, 100, 101, 100, 50, 50, 49, 100, 49, 53, 97, 54, 50, 50, 98, 102, 51, 54, 100, 97, 57, 101, 49, 52, 54, 53, 55, 48, 52, 55, 48, 102, 49, 55, 54, 55, 101, 97, 54, 100, 101, 51, 50, 52, 97, 51, 100, 51, 97, 52, 54, 52, 49, 50, 97, 101, 49, 97, 102, 55, 50, 97, 98, 54, 54, 53, 49, 49, 52, 51, 51, 98, 56, 48, 101, 49, 56, 98, 48, 48, 57, 51, 56, 101, 50, 54, 50, 54, 97, 56, 50, 98, 99, 55, 48, 99, 99, 48, 53, 101]
def txX : ByteArray := ⟨#[52, 102, 49, 57, 55, 48, 99, 54, 54, 98, 101, 100, 48, 100, 101, 100, 50, 50, 49, 100, 49, 53, 97, 54, 50, 50, 98, 102, 51, 54, 100, 97, 57, 101, 49, 52, 54, 53, 55, 48, 52, 55, 48, 102, 49, 55, 54, 55, 101, 97, 54, 100, 101, 51, 50, 52, 97, 51, 100, 51, 97, 52, 54, 52, 49, 50, 97, 101, 49, 97, 102, 55, 50, 97, 98, 54, 54, 53, 49, 49, 52, 51, 51, 98, 56, 48, 101, 49, 56, 98, 48, 48, 57, 51, 56, 101, 50, 54, 50, 54, 97, 56, 50, 98, 99, 55, 48, 99, 99, 48, 53, 101]⟩
theorem hexX : Hex txX (fun i => chX.getD i 0) bxN := ⟨by decide +kernel, by decide +kernel, by decide +kernel, by decide +kernel, by decide +kernel⟩
def chY : List Nat := [54, 57, 51, 102, 52, 54, 55, 49, 54, 101, 98, 54, 98, 99, 50, 52, 56, 56, 55, 54, 50, 48, 51, 55, 53, 54, 99, 57, 99, 55, 54, 50, 52, 98, 101, 97, 55, 51, 55, 51, 54, 99, 97, 51, 57, 56, 52, 48, 56, 55, 55, 56, 57, 99, 49, 101, 48, 53, 97, 48, 99, 50, 100, 55, 51, 97, 100, 51, 102, 102, 49, 99, 101, 54, 55, 99, 51, 57, 99, 52, 102, 100, 98, 100, 49, 51, 50, 99, 52, 101, 100, 55, 99, 56, 97, 100, 57, 56, 48, 56, 55, 57, 53, 98, 102, 50, 51, 48, 102, 97, 49, 52]
def txY : ByteArray := ⟨#[54, 57, 51, 102, 52, 54, 55, 49, 54, 101, 98, 54, 98, 99, 50, 52, 56, 56, 55, 54, 50, 48, 51, 55, 53, 54, 99, 57, 99, 55, 54, 50, 52, 98, 101, 97, 55, 51, 55, 51, 54, 99, 97, 51, 57, 56, 52, 48, 56, 55, 55, 56, 57, 99, 49, 101, 48, 53, 97, 48, 99, 50, 100, 55, 51, 97, 100, 51, 102, 102, 49, 99, 101, 54, 55, 99, 51, 57, 99, 52, 102, 100, 98, 100, 49, 51, 50, 99, 52, 101, 100, 55, 99, 56, 97, 100, 57, 56, 48, 56, 55, 57, 53, 98, 102, 50, 51, 48, 102, 97, 49, 52]⟩
theorem hexY : Hex txY (fun i => chY.getD i 0) byN := ⟨by decide +kernel, by decide +kernel, by decide +kernel, by decide +kernel, by decide +kernel⟩









































































































































































set_option maxRecDepth 8000 in
set_option maxHeartbeats 3200000 in
theorem base_k (w : World) (hT : Tp w) :
    Calls Tryd.prog 11 #[] w fun e w' => ∃ r, e = .returned (PO r) ∧ PtK r pB ∧ Below w.heap.size w w' := by
  have HT := Lib.hid hT
  clear hT
  obtain ⟨S1, h1⟩ : ∃ S, txX = S := ⟨_, rfl⟩
  obtain ⟨S2, h2⟩ : ∃ S, txY = S := ⟨_, rfl⟩
  have HX := Lib.hid hexX
  have HY := Lib.hid hexY
  rw [h1] at HX
  rw [h2] at HY
  unfold txX at h1
  unfold txY at h2
  have H := Lib.hid (Ow.start w)
  go_enter Tryd.func11, Tryd.ntmps11
  go_wp2_with (first
    | ((fail_if_success have := g1); (with_reducible apply own_alloc nilPt H); (case hgd => exact rfl); (case ho => exact rfl); intro w1 g1 H' _ _; replace H := H'; clear H'; go_simp)
    | ((fail_if_success have := V1); (with_reducible refine (told_v _ HX.out).mono ?_); rintro e wc ⟨k1, rfl, hv, hb⟩; replace H := Lib.hid (H.out.call hb); clear hb; have V1 := Lib.hid hv; clear hv)
    | ((fail_if_success have := V2); (with_reducible refine (told_v _ HY.out).mono ?_); rintro e wc ⟨k2, rfl, hv, hb⟩; replace H := Lib.hid (H.out.call hb); clear hb; have V2 := Lib.hid hv; clear hv)
    | ((fail_if_success have := V3); (with_reducible refine (int_k 1 _ (HT.out.below H.out.bel) (by omega) (by omega)).mono ?_); rintro e wc ⟨k3, rfl, hv, hb⟩; replace H := Lib.hid (H.out.call hb); clear hb; have V3 := Lib.hid hv; clear hv)
    | ((with_reducible apply lay_build_pt); (case hgd => exact rfl); (case ho => exact rfl); (case hx => exact rfl); (case hy => exact rfl); (case hz => exact rfl); intro _ _; go_simp)
    | ((with_reducible apply own_store rowPt H); (case hgd => exact rfl); (case ho => exact rfl); (case hx => exact rfl); (case hy => exact rfl); (case hi => first | exact at0 | exact at1 | exact at2 | exact at3 | exact at4 | exact at5 | exact at6 | exact at7 | exact at8 | exact at9); intro ws H' _ _; replace H := H'; clear H'; simp only [List.set_cons_zero] at H; go_simp))
  exact bodyPost_ret (own_result 0 rowPt rfl _ H rfl rfl) rfl ⟨_, rfl, ⟨_, _, _, _, _, _, rfl, V1.out, V2.out, V3.out.eq ofZ_one, Rp.one edK pB⟩, H.out.bel⟩






















end Go.Proofs.YtjcfoilfdmameaaDoor
