/-
  The contracts of package root's squares and chain. No statement is proved here: lemmas for the walks.
-/
import Derived.Test.YtgcdahcmfniceaaDoorZRtK
namespace Go.Proofs.YtgcdahcmfniceaaDoor
open Go.RowKit

theorem sq_step (a : K) (i : Nat) : a ^ 2 ^ i * a ^ 2 ^ i = a ^ 2 ^ (i + 1) := by
  rw [← fp_pow_add, Nat.pow_succ]
  congr 1
  omega
set_option maxRecDepth 8000 in
set_option maxHeartbeats 3200000 in
theorem squares_k {f : Nat → Nat} {a : K} (n : Nat) (w : World) (hn : n ≤ 1000) (hf : EK f a) :
    Calls Tryd.prog 23 #[EV f, .int .i64 (n : Int)] w fun e w' => ∃ h, e = .returned (EV h) ∧ EK h (a ^ 2 ^ n) ∧ Below w.heap.size w w' := by
  have HF := Lib.hid hf
  clear hf
  have H := Lib.hid (Ow.start w)
  go_enter Tryd.func23, Tryd.ntmps23
  go_wp2_with (first
    | ((fail_if_success have := g1); (with_reducible apply own_box H); (case hgd => exact rfl); (case ho => exact rfl); (case hx => exact rfl); intro w1 g1 H' _ _; replace H := H'; clear H'; go_simp)
    | ((fail_if_success have := g2); (with_reducible apply own_alloc nilE H); (case hgd => exact rfl); (case ho => exact rfl); intro w2 g2 H' _ _; replace H := H'; clear H'; go_simp))
  go_loopw [6] (fun v wr => ∃ (i : Nat) (h : Nat → Nat), i ≤ n ∧ v = .int .i64 i ∧ EK h (a ^ 2 ^ i) ∧ Ow w wr [(g2, Blk 27 .u64 8 fun _ => 0), (g1, Blk 27 .u64 8 (NZ h))]) (fun v _ => n - (intOf v).toNat)
  case atStart => exact ⟨0, f, by omega, rfl, HF.out.eq (by grind), H.out⟩
  case round =>
    clear H
    obtain ⟨i, h, hi, rfl, hv, HR⟩ := hrel
    have HV := Lib.hid hv
    clear hv
    by_cases hlt : i < n
    · have hid : decide ((i : Int) < (n : Int)) = true := by simp; omega
      have iN : (i : Int) < 1000 := by omega
      have H := Lib.hid HR
      clear HR
      have Hlt := Lib.hid hlt
      clear hlt hi hn
      go_wp2_with (first
        | ((with_reducible apply own_load rowE H); (case hgd => exact rfl); (case ho => exact rfl); (case hx => exact rfl); (case hi => first | exact at0 | exact at1 | exact at2 | exact at3 | exact at4 | exact at5 | exact at6 | exact at7 | exact at8 | exact at9); intro _ _; go_simp)
        | ((with_reducible refine (square_k _ HV.out).mono ?_); rintro e wc ⟨h2, rfl, hv, hb⟩; replace H := Lib.hid (H.out.call hb); clear hb; have HV2 := Lib.hid hv; clear hv)
        | ((with_reducible apply own_store rowE H); (case hgd => exact rfl); (case ho => exact rfl); (case hx => exact rfl); (case hy => exact rfl); (case hi => first | exact at0 | exact at1 | exact at2 | exact at3 | exact at4 | exact at5 | exact at6 | exact at7 | exact at8 | exact at9); intro ws H' _ _; replace H := H'; clear H'; simp only [List.set_cons_zero, List.set_cons_succ] at H; go_simp))
      go_roundw
      case rel => exact ⟨i + 1, h2, by have := Hlt.out; omega, by go_num, HV2.out.eq (sq_step _ _), H.out⟩
      case measure => have := Hlt.out; simp [intOf]; omega
    · obtain rfl : i = n := by omega
      clear hlt hi
      have hid : decide ((i : Int) < (i : Int)) = false := by simp
      have H := Lib.hid HR
      clear HR
      go_wp2_with (first
        | ((with_reducible apply own_load rowE H); (case hgd => exact rfl); (case ho => exact rfl); (case hx => exact rfl); (case hi => first | exact at0 | exact at1 | exact at2 | exact at3 | exact at4 | exact at5 | exact at6 | exact at7 | exact at8 | exact at9); intro _ _; go_simp)
        | ((with_reducible apply own_store rowE H); (case hgd => exact rfl); (case ho => exact rfl); (case hx => exact rfl); (case hy => exact rfl); (case hi => first | exact at0 | exact at1 | exact at2 | exact at3 | exact at4 | exact at5 | exact at6 | exact at7 | exact at8 | exact at9); intro ws H' _ _; replace H := H'; clear H'; simp only [List.set_cons_zero] at H; go_simp))
      exact bodyPost_ret (own_result 0 rowE rfl _ H rfl rfl) rfl ⟨h, rfl, HV.out, H.out.bel⟩
theorem set_at2 {α : Type} {A B : α} {l : List α} {i : Nat} {x y : α} (h : l[i]? = some y) : (A :: B :: l.set i x)[i + 2]? = some x := set_at h
set_option maxRecDepth 8000 in
set_option maxHeartbeats 3200000 in
theorem behind_k {f g : Nat → Nat} {b c : K} (n : Nat) (z : Int) (hz : z = (n : Int)) (gp i : Nat) (W w : World) (l : List (Nat × Obj)) (hn : n ≤ 1000) (h0 : Ow W w l) (hi : l[i]? = some (gp, Blk 27 .u64 8 (NZ f))) (hf : EK f b) (hg : EK g c) :
    Calls Tryd.prog 29 #[.int .i64 z, EV g, .pointer (some ⟨gp, 0, none⟩)] w fun e w' => ∃ h, e = .returned (EV h) ∧ EK h (b ^ 2 ^ n * c) ∧ Ow W w' (l.set i (gp, Blk 27 .u64 8 (NZ h))) := by
  subst hz
  have HF := Lib.hid hf
  have HG := Lib.hid hg
  have HI := Lib.hid hi
  have H := Lib.hid h0
  clear hf hg hi h0
  go_enter Tryd.func29, Tryd.ntmps29
  go_wp2_with (first
    | ((fail_if_success have := g4); (with_reducible apply own_box H); (case hgd => exact rfl); (case ho => exact rfl); (case hx => exact rfl); intro w4 g4 H' _ _; replace H := H'; clear H'; go_simp)
    | ((fail_if_success have := g5); (with_reducible apply own_alloc nilE H); (case hgd => exact rfl); (case ho => exact rfl); intro w5 g5 H' _ _; replace H := H'; clear H'; go_simp))
  refine wp_region_noPanic ?_
  refine wp_region_held_drew (S := fun W => W.heap[g4]? = some (Blk 27 .u64 8 (NZ g))) (by kernel_rfl) (H.out.drew.row 1 rfl) (fun hH => ?_)
  replace H := Lib.hid H.out.drew
  generalize World.drew _ = w8 at *
  refine held_value 1 7 (.int .i64 (n : Int)) rfl rfl (by kernel_rfl) (by kernel_rfl) (by kernel_rfl) rfl hH (fun w hw => by go_simp) ?_
  try simp only [Act.put, List.setIfInBounds_toArray, List.set_cons_zero, List.set_cons_succ]
  refine held_row 3 9 rowE rfl rfl (by kernel_rfl) (by kernel_rfl) (by kernel_rfl) rfl hH rfl rfl (fun _ h => h) ?_
  try simp only [Act.put, List.setIfInBounds_toArray, List.set_cons_zero, List.set_cons_succ]
  refine wpAnyH_ready (rs := [0]) (by kernel_rfl) (by simp) ?_
  refine AllReadyH.cons (o := _) rfl (fun K hK => ?_) AllReadyH.nil
  refine own_wp_load 6 rfl (i + 2) rowE H.out rfl rfl HI.out ?_
  refine hK.out _ _ hH (fun hN => ?_)
  clear hK K hH
  have hH := hN
  clear hN
  try simp only [Act.put, List.setIfInBounds_toArray, List.set_cons_zero, List.set_cons_succ]
  refine wpAnyH_ready (rs := [2]) (by kernel_rfl) (by simp) ?_
  refine AllReadyH.cons (o := _) rfl (fun K hK => ?_) AllReadyH.nil
  go_simp
  refine (squares_k n _ hn HF.out).mono ?_
  rintro e wc ⟨h8, rfl, hv, hb⟩
  replace H := Lib.hid (H.out.call hb)
  have HV8 := Lib.hid hv
  refine hK.out _ _ (H.out.row 1 rfl) (fun hN => ?_)
  clear hK K hH hb hv
  have hH := hN
  clear hN
  try simp only [Act.put, List.setIfInBounds_toArray, List.set_cons_zero, List.set_cons_succ]
  refine wpAnyH_ready (rs := [4]) (by kernel_rfl) (by simp) ?_
  refine AllReadyH.cons (o := _) rfl (fun K hK => ?_) AllReadyH.nil
  go_simp
  refine (mul_k _ HV8.out HG.out).mono ?_
  rintro e wc ⟨h10, rfl, hv, hb⟩
  replace H := Lib.hid (H.out.call hb)
  have HV10 := Lib.hid hv
  refine hK.out _ _ (H.out.row 1 rfl) (fun hN => ?_)
  clear hK K hH hb hv
  have hH := hN
  clear hN
  try simp only [Act.put, List.setIfInBounds_toArray, List.set_cons_zero, List.set_cons_succ]
  refine wpAnyH_ready (rs := [5]) (by kernel_rfl) (by simp) ?_
  refine AllReadyH.cons (o := _) rfl (fun K hK => ?_) AllReadyH.nil
  refine own_wp_store (i + 2) rowE H.out rfl rfl rfl HI.out ?_
  intro ws HS
  simp only [List.set_cons_succ] at HS
  replace H := Lib.hid HS
  refine hK.out _ _ (H.out.row 1 rfl) (fun hN => ?_)
  clear hK K HS hH
  have hH := hN
  clear hN
  try simp only [Act.put, List.setIfInBounds_toArray]
  try simp only [Act.put]
  refine wpAnyH_done (by kernel_rfl) ?_ _
  refine NoPanic.normal ?_
  clear hH
  go_wp2_with (first
    | ((with_reducible apply own_load rowE H); (case hgd => exact rfl); (case ho => exact rfl); (case hx => exact rfl); (case hi => exact set_at2 HI.out); intro _ _; go_simp)
    | ((with_reducible apply own_store rowE H); (case hgd => exact rfl); (case ho => exact rfl); (case hx => exact rfl); (case hy => exact rfl); (case hi => first | exact at0 | exact at1 | exact at2 | exact at3 | exact at4 | exact at5 | exact at6 | exact at7 | exact at8 | exact at9); intro ws H' _ _; replace H := H'; clear H'; simp only [List.set_cons_zero] at H; go_simp))

  exact bodyPost_ret (own_result 0 rowE rfl _ H rfl rfl) rfl ⟨h10, rfl, HV10.out, H.out.pop.pop⟩
end Go.Proofs.YtgcdahcmfniceaaDoor
