/-
  The chapter's examples hold. No statement is proved here: lemmas for the walks.
-/
import Derived.Test.YtanfobboeehiaaaDoorBuX
import Derived.Test.YtanfobboeehiaaaDoorZPtId
import Derived.Test.YtanfobboeehiaaaDoorBuN
import Derived.Test.YtanfobboeehiaaaDoorBuK
import Derived.Deep.CutRange
namespace Go.Proofs.YtanfobboeehiaaaDoor
open Go.RowKit

theorem jn_zero (m : Nat) : jn m 0 0 = 0 := by
  show 2 ^ (8 * m) * 0 + 0 = 0
  rw [Nat.mul_zero]
/-- What Encode answers, as a row. -/
theorem code_sb {w : World} {g c : Nat} {P : Pt pN dK} (h : w.heap[g]? = some (YB c (bt (cdN P)))) (hc : 57 ≤ c) : Sb w w.heap.size (some ⟨g, 0, none⟩) 57 c (cdN P) :=
  ⟨⟨hc, (fun e => by cases e), fun ad e _ => ⟨g, 0, (Option.some.inj e).symm, lt_row h, fun i hi => by rw [Nat.zero_add]; exact (blk_rowB h).cell i (by omega)⟩⟩, cdN_lt P⟩
theorem code_cell {w : World} {g c : Nat} {P : Pt pN dK} (h : w.heap[g]? = some (YB c (bt (cdN P)))) (hc : 57 ≤ c) (i : Nat) (hi : i < 57) {v : Value} (hv : U (bt (cdN P) i) = v) : w.cell? ⟨g, i, none⟩ = some v := by
  rw [← hv]
  exact (blk_rowB h).cell i (by omega)
theorem cmp_dec (a a' : Option Addr) (n c c' x y : Nat) (w : World) (hn : n ≤ 100000) (h1 : Sb w w.heap.size a n c x) (h2 : Sb w w.heap.size a' n c' y) (h : x = y) :
    Calls Tryd.prog 9 #[.slice a n c, .slice a' n c'] w fun e w' => e = .returned (.bool true) ∧ Below w.heap.size w w' :=
  (cmp_same a a' n c c' x y w hn h1 h2).mono fun _ _ ⟨he, hb⟩ => ⟨by rw [he, decide_eq_true h], hb⟩
/-- The point whose bytes are noughts. -/
def pM : Pt pN dK := ⟨-1, 0, by decide +kernel⟩
theorem pM_n : 0 = cdN pM := by
  show 0 = jn 56 (sg (-1)) 0
  rw [sg_even (by decide +kernel)]
  exact (jn_zero 56).symm
theorem pM_x : pM.x = ofZ (-1) := ofZ_neg.symm
theorem one_0 : U (bt (cdN pzero) 0) = .int .u8 1 := by
  rw [cdN_low _ (by omega)]
  rfl
theorem one_56 : U (bt (cdN pzero) 56) = .int .u8 0 := by
  rw [cdN_top]
  rfl
theorem noughts {w : World} {g n : Nat} (h : w.heap[g]? = some (YB n fun _ => 0)) : Sb w w.heap.size (some ⟨g, 0, none⟩) n n 0 :=
  ⟨(blk_rowB h).sl.congr fun i _ => (bt_zero i).symm, Nat.two_pow_pos _⟩
set_option maxRecDepth 20000 in
set_option maxHeartbeats 12800000 in
theorem awake9_k (w : World) (hT : Tp w) :
    Calls Tryd.prog 13 #[] w fun e w' => e = .returned (.bool true) ∧ Below w.heap.size w w' := by
  have HT := Lib.hid hT
  clear hT
  have H := Lib.hid (Ow.start w)
  go_enter Tryd.func13, Tryd.ntmps13
  go_wp2_with (first
    | ((fail_if_success have := V1); (with_reducible refine (ident_k _ (HT.out.below H.out.bel)).mono ?_); rintro e wc ⟨k1, rfl, hv, hb⟩; replace H := Lib.hid (H.out.call hb); clear hb; have V1 := Lib.hid hv; clear hv)
    | ((fail_if_success have := L7); (with_reducible refine (encode_k _ V1.out).mono ?_); rintro e wc ⟨g7, c7, rfl, hc, hg, hr, hb⟩; replace H := Lib.hid (H.out.add hb hg hr); have L7 := Lib.hid hc; clear hb hg hr hc)
    | ((with_reducible apply own_makeB (m := 57) H); (case hgd => exact rfl); (case ho => exact rfl); (case hx => exact rfl); (case hy => exact rfl); (case hc => omega); intro w9 g9 H' _ _; replace H := H'; clear H'; go_simp)
    | ((fail_if_success have := V2); (fail_if_success have := V2); (with_reducible refine (decode_on _ (HT.out.below H.out.bel) (noughts (H.out.row 0 rfl)) pM_n).mono ?_); rintro e wc ⟨k2, rfl, hv, hb⟩; replace H := Lib.hid (H.out.call hb); clear hb; have V2 := Lib.hid hv; clear hv)
    | ((fail_if_success have := g2); (fail_if_success have := g2); (with_reducible apply own_alloc nilPt H); (case hgd => exact rfl); (case ho => exact rfl); intro w2 g2 H' _ _; replace H := H'; clear H'; go_simp)
    | ((with_reducible apply own_store rowPt H); (case hgd => exact rfl); (case ho => exact rfl); (case hx => exact rfl); (case hy => exact rfl); (case hi => first | exact at0 | exact at1 | exact at2 | exact at3 | exact at4 | exact at5 | exact at6 | exact at7 | exact at8 | exact at9); intro ws H' _ _; replace H := H'; clear H'; simp only [List.set_cons_zero] at H; go_simp)
    | ((with_reducible apply own_load rowPt H); (case hgd => exact rfl); (case ho => exact rfl); (case hx => exact rfl); (case hi => first | exact at0 | exact at1 | exact at2 | exact at3 | exact at4 | exact at5 | exact at6 | exact at7 | exact at8 | exact at9); intro _ _; go_simp)
    | ((fail_if_success have := A1); (with_reducible refine (ptAffine_k _ V2.out).mono ?_); rintro e wc ⟨a1, a2, rfl, hv1, hv2, hb⟩; replace H := Lib.hid (H.out.call hb); clear hb; have A1 := Lib.hid hv1; have A2 := Lib.hid hv2; clear hv1 hv2)
    | ((fail_if_success have := g4); (fail_if_success have := g4); (with_reducible apply own_alloc nilE H); (case hgd => exact rfl); (case ho => exact rfl); intro w4 g4 H' _ _; replace H := H'; clear H'; go_simp)
    | ((fail_if_success have := g5); (fail_if_success have := g5); (with_reducible apply own_alloc nilE H); (case hgd => exact rfl); (case ho => exact rfl); intro w5 g5 H' _ _; replace H := H'; clear H'; go_simp)
    | ((with_reducible apply own_store rowE H); (case hgd => exact rfl); (case ho => exact rfl); (case hx => exact rfl); (case hy => exact rfl); (case hi => first | exact at0 | exact at1 | exact at2 | exact at3 | exact at4 | exact at5 | exact at6 | exact at7 | exact at8 | exact at9); intro ws H' _ _; replace H := H'; clear H'; simp only [List.set_cons_zero, List.set_cons_succ] at H; go_simp))
  have C0 := Lib.hid (code_cell (H.out.row 4 rfl) L7.out 0 (by omega) one_0)
  have C56 := Lib.hid (code_cell (H.out.row 4 rfl) L7.out 56 (by omega) one_56)
  refine wp_region_noPanic ?_
  refine wp_region_held_drew (S := fun W => W.heap[g4]? = some (Blk 28 .u64 8 (NZ a1)) ∧ W.heap[g5]? = some (Blk 28 .u64 8 (NZ a2)) ∧ W.cell? ⟨g7, 0, none⟩ = some (.int .u8 1) ∧ W.cell? ⟨g7, 56, none⟩ = some (.int .u8 0)) (by kernel_rfl) (⟨H.out.drew.row 1 rfl, H.out.drew.row 0 rfl, C0.out, C56.out⟩) (fun hH => ?_)
  replace H := Lib.hid H.out.drew
  replace C0 := Lib.hid (show (World.drew _).cell? _ = _ from C0.out)
  replace C56 := Lib.hid (show (World.drew _).cell? _ = _ from C56.out)
  generalize World.drew _ = w8 at *
  refine held_value 0 18 (.slice (some ⟨g7, 0, none⟩) 57 c7) rfl rfl (by kernel_rfl) (by kernel_rfl) (by kernel_rfl) rfl hH (fun w hw => by go_simp) ?_
  try simp only [Act.put, List.setIfInBounds_toArray, List.set_cons_zero, List.set_cons_succ]
  refine held_value 1 19 (.int .i64 57) rfl rfl (by kernel_rfl) (by kernel_rfl) (by kernel_rfl) rfl hH (fun w hw => by go_simp) ?_
  try simp only [Act.put, List.setIfInBounds_toArray, List.set_cons_zero, List.set_cons_succ]
  refine held_value 2 20 (.bool true) rfl rfl (by kernel_rfl) (by kernel_rfl) (by kernel_rfl) rfl hH (fun w hw => by go_simp) ?_
  try simp only [Act.put, List.setIfInBounds_toArray, List.set_cons_zero, List.set_cons_succ]
  refine held_value 3 21 (.bool true) rfl rfl (by kernel_rfl) (by kernel_rfl) (by kernel_rfl) rfl hH (fun w hw => by go_simp) ?_
  try simp only [Act.put, List.setIfInBounds_toArray, List.set_cons_zero, List.set_cons_succ]
  refine held_value 4 22 (.slice (some ⟨g7, 0, none⟩) 57 c7) rfl rfl (by kernel_rfl) (by kernel_rfl) (by kernel_rfl) rfl hH (fun w hw => by go_simp) ?_
  try simp only [Act.put, List.setIfInBounds_toArray, List.set_cons_zero, List.set_cons_succ]
  refine held_value 5 23 (.pointer (some ⟨g7, 0, none⟩)) rfl rfl (by kernel_rfl) (by kernel_rfl) (by kernel_rfl) rfl hH (fun w hw => by go_simp) ?_
  try simp only [Act.put, List.setIfInBounds_toArray, List.set_cons_zero, List.set_cons_succ]
  refine held_value 6 24 (.int .u8 1) rfl rfl (by kernel_rfl) (by kernel_rfl) (by kernel_rfl) rfl hH (fun w hw => by have hc := hw.2.2.1; go_simp) ?_
  try simp only [Act.put, List.setIfInBounds_toArray, List.set_cons_zero, List.set_cons_succ]
  refine held_value 7 25 (.bool true) rfl rfl (by kernel_rfl) (by kernel_rfl) (by kernel_rfl) rfl hH (fun w hw => by go_simp) ?_
  try simp only [Act.put, List.setIfInBounds_toArray, List.set_cons_zero, List.set_cons_succ]
  refine held_value 8 26 (.bool true) rfl rfl (by kernel_rfl) (by kernel_rfl) (by kernel_rfl) rfl hH (fun w hw => by go_simp) ?_
  try simp only [Act.put, List.setIfInBounds_toArray, List.set_cons_zero, List.set_cons_succ]
  refine held_value 9 27 (.bool true) rfl rfl (by kernel_rfl) (by kernel_rfl) (by kernel_rfl) rfl hH (fun w hw => by go_simp) ?_
  try simp only [Act.put, List.setIfInBounds_toArray, List.set_cons_zero, List.set_cons_succ]
  refine held_value 10 28 (.slice (some ⟨g7, 0, none⟩) 57 c7) rfl rfl (by kernel_rfl) (by kernel_rfl) (by kernel_rfl) rfl hH (fun w hw => by go_simp) ?_
  try simp only [Act.put, List.setIfInBounds_toArray, List.set_cons_zero, List.set_cons_succ]
  refine held_value 11 29 (.pointer (some ⟨g7, 56, none⟩)) rfl rfl (by kernel_rfl) (by kernel_rfl) (by kernel_rfl) rfl hH (fun w hw => by go_simp) ?_
  try simp only [Act.put, List.setIfInBounds_toArray, List.set_cons_zero, List.set_cons_succ]
  refine held_value 12 30 (.int .u8 0) rfl rfl (by kernel_rfl) (by kernel_rfl) (by kernel_rfl) rfl hH (fun w hw => by have hc := hw.2.2.2; go_simp) ?_
  try simp only [Act.put, List.setIfInBounds_toArray, List.set_cons_zero, List.set_cons_succ]
  refine held_value 13 31 (.bool true) rfl rfl (by kernel_rfl) (by kernel_rfl) (by kernel_rfl) rfl hH (fun w hw => by go_simp) ?_
  try simp only [Act.put, List.setIfInBounds_toArray, List.set_cons_zero, List.set_cons_succ]
  refine held_value 14 32 (.bool true) rfl rfl (by kernel_rfl) (by kernel_rfl) (by kernel_rfl) rfl hH (fun w hw => by go_simp) ?_
  try simp only [Act.put, List.setIfInBounds_toArray, List.set_cons_zero, List.set_cons_succ]
  refine held_value 15 33 (.bool true) rfl rfl (by kernel_rfl) (by kernel_rfl) (by kernel_rfl) rfl hH (fun w hw => by go_simp) ?_
  try simp only [Act.put, List.setIfInBounds_toArray, List.set_cons_zero, List.set_cons_succ]
  refine held_value 16 34 (.int .i64 0) rfl rfl (by kernel_rfl) (by kernel_rfl) (by kernel_rfl) rfl hH (fun w hw => by go_simp) ?_
  try simp only [Act.put, List.setIfInBounds_toArray, List.set_cons_zero, List.set_cons_succ]
  refine held_value 17 35 (.bool true) rfl rfl (by kernel_rfl) (by kernel_rfl) (by kernel_rfl) rfl hH (fun w hw => by go_simp) ?_
  try simp only [Act.put, List.setIfInBounds_toArray, List.set_cons_zero, List.set_cons_succ]
  refine held_value 18 36 (.bool true) rfl rfl (by kernel_rfl) (by kernel_rfl) (by kernel_rfl) rfl hH (fun w hw => by go_simp) ?_
  try simp only [Act.put, List.setIfInBounds_toArray, List.set_cons_zero, List.set_cons_succ]
  refine held_value 19 37 (.bool true) rfl rfl (by kernel_rfl) (by kernel_rfl) (by kernel_rfl) rfl hH (fun w hw => by go_simp) ?_
  try simp only [Act.put, List.setIfInBounds_toArray, List.set_cons_zero, List.set_cons_succ]
  refine held_row 20 38 rowE rfl rfl (by kernel_rfl) (by kernel_rfl) (by kernel_rfl) rfl hH rfl rfl (fun _ h => h.1) ?_
  try simp only [Act.put, List.setIfInBounds_toArray, List.set_cons_zero, List.set_cons_succ]
  refine wpAnyH_ready (rs := [21]) (by kernel_rfl) (by simp) ?_
  refine AllReadyH.cons (o := _) rfl (fun K hK => ?_) AllReadyH.nil
  go_simp
  refine (int_k (-1) _ (HT.out.below H.out.bel) (by omega) (by omega)).mono ?_
  rintro e wc ⟨h39, rfl, hv, hb⟩
  replace C0 := Lib.hid ((Below.cell hb (p := ⟨g7, 0, none⟩) (block_lt_of_cell C0.out)).trans C0.out)
  replace C56 := Lib.hid ((Below.cell hb (p := ⟨g7, 56, none⟩) (block_lt_of_cell C56.out)).trans C56.out)
  replace H := Lib.hid (H.out.call hb)
  have HV39 := Lib.hid hv
  refine hK.out _ _ (⟨H.out.row 1 rfl, H.out.row 0 rfl, C0.out, C56.out⟩) (fun hN => ?_)
  clear hK K hH hb hv
  have hH := hN
  clear hN
  try simp only [Act.put, List.setIfInBounds_toArray, List.set_cons_zero, List.set_cons_succ]
  refine wpAnyH_ready (rs := [22]) (by kernel_rfl) (by simp) ?_
  refine AllReadyH.cons (o := _) rfl (fun K hK => ?_) AllReadyH.nil
  go_simp
  refine (equal_kt _ (HT.out.below H.out.bel) A1.out HV39.out (pM_x)).mono ?_
  rintro e wc ⟨rfl, hb⟩
  replace C0 := Lib.hid ((Below.cell hb (p := ⟨g7, 0, none⟩) (block_lt_of_cell C0.out)).trans C0.out)
  replace C56 := Lib.hid ((Below.cell hb (p := ⟨g7, 56, none⟩) (block_lt_of_cell C56.out)).trans C56.out)
  replace H := Lib.hid (H.out.call hb)
  refine hK.out _ _ (⟨H.out.row 1 rfl, H.out.row 0 rfl, C0.out, C56.out⟩) (fun hN => ?_)
  clear hK K hH hb
  have hH := hN
  clear hN
  try simp only [Act.put, List.setIfInBounds_toArray, List.set_cons_zero, List.set_cons_succ]
  refine held_value 23 41 (.bool true) rfl rfl (by kernel_rfl) (by kernel_rfl) (by kernel_rfl) rfl hH (fun w hw => by go_simp) ?_
  try simp only [Act.put, List.setIfInBounds_toArray, List.set_cons_zero, List.set_cons_succ]
  refine held_value 24 42 (.bool true) rfl rfl (by kernel_rfl) (by kernel_rfl) (by kernel_rfl) rfl hH (fun w hw => by go_simp) ?_
  try simp only [Act.put, List.setIfInBounds_toArray, List.set_cons_zero, List.set_cons_succ]
  refine held_row 25 43 rowE rfl rfl (by kernel_rfl) (by kernel_rfl) (by kernel_rfl) rfl hH rfl rfl (fun _ h => h.2.1) ?_
  try simp only [Act.put, List.setIfInBounds_toArray, List.set_cons_zero, List.set_cons_succ]
  refine wpAnyH_ready (rs := [26]) (by kernel_rfl) (by simp) ?_
  refine AllReadyH.cons (o := _) rfl (fun K hK => ?_) AllReadyH.nil
  go_simp
  refine (zero_kt _ A2.out rfl).mono ?_
  rintro e wc ⟨rfl, hb⟩
  replace C0 := Lib.hid ((Below.cell hb (p := ⟨g7, 0, none⟩) (block_lt_of_cell C0.out)).trans C0.out)
  replace C56 := Lib.hid ((Below.cell hb (p := ⟨g7, 56, none⟩) (block_lt_of_cell C56.out)).trans C56.out)
  replace H := Lib.hid (H.out.call hb)
  refine hK.out _ _ (⟨H.out.row 1 rfl, H.out.row 0 rfl, C0.out, C56.out⟩) (fun hN => ?_)
  clear hK K hH hb
  have hH := hN
  clear hN
  try simp only [Act.put, List.setIfInBounds_toArray, List.set_cons_zero, List.set_cons_succ]
  refine held_value 27 45 (.bool true) rfl rfl (by kernel_rfl) (by kernel_rfl) (by kernel_rfl) rfl hH (fun w hw => by go_simp) ?_
  try simp only [Act.put, List.setIfInBounds_toArray, List.set_cons_zero, List.set_cons_succ]
  refine held_value 28 0 (.bool true) rfl rfl (by kernel_rfl) (by kernel_rfl) (by kernel_rfl) rfl hH (fun w hw => by go_simp) ?_
  try simp only [Act.put, List.setIfInBounds_toArray, List.set_cons_zero]
  try simp only [Act.put]
  refine wpAnyH_done (by kernel_rfl) ?_ _
  refine NoPanic.normal ?_
  clear hH
  go_wp2_with fail
  go_ret
  exact ⟨rfl, H.out.bel⟩
end Go.Proofs.YtanfobboeehiaaaDoor
