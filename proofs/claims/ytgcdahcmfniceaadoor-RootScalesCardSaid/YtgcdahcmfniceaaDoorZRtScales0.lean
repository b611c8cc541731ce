/-
  The walk of RootScales, where the third element is 0. No statement is proved here: lemmas for the walks.
-/
import Derived.Test.YtgcdahcmfniceaaDoorZRtScalesM
namespace Go.Proofs.YtgcdahcmfniceaaDoor
open Go.RowKit

section
variable {P : Program} {ops : Array Oper} {rest : List Oper} {o : Oper} {a : Act} {w : World} {Q : Exit → Act → World → Prop}
/-- What its guard keeps back is passed over. -/
theorem list_skip (hw : Region.wanted o (yielded ops a.tmps) = false) (h : ∀ K : Act → World → Prop, (∀ a w, wpList P ops Q rest a w → K a w) → K (a.put o.dst undef) w) : wpList P ops Q (o :: rest) a w :=
  wpList_step fun K hK => by
    rw [hw, if_neg (by simp)]
    exact h K hK
/-- Its guard's slot holds nothing: the operation is passed over. -/
theorem skip_undef {j s : Nat} {want : Bool} (gd : o.guard = some (j, want)) (hd : (ops[j]?).bind (·.dst) = some s) (hv : a.tmps[s]? = some undef) (h : ∀ K : Act → World → Prop, (∀ a w, wpList P ops Q rest a w → K a w) → K (a.put o.dst undef) w) : wpList P ops Q (o :: rest) a w :=
  list_skip (by
    have e : yielded ops a.tmps j = none := by
      unfold yielded
      rw [hd]
      simp only [Option.bind_some, hv]
      rfl
    unfold Region.wanted
    rw [gd]
    show (yielded ops a.tmps j == some want) = false
    rw [e]
    rfl) h
/-- Its guard's slot holds the other Boolean. -/
theorem skip_other {j s : Nat} {want : Bool} (gd : o.guard = some (j, want)) (hd : (ops[j]?).bind (·.dst) = some s) (hv : a.tmps[s]? = some (.bool (!want))) (h : ∀ K : Act → World → Prop, (∀ a w, wpList P ops Q rest a w → K a w) → K (a.put o.dst undef) w) : wpList P ops Q (o :: rest) a w :=
  list_skip (by
    have e : yielded ops a.tmps j = some (!want) := by
      unfold yielded
      rw [hd]
      simp only [Option.bind_some, hv]
    unfold Region.wanted
    rw [gd]
    show (yielded ops a.tmps j == some want) = false
    rw [e]
    cases want <;> rfl) h
end
set_option maxRecDepth 20000 in
set_option maxHeartbeats 12800000 in
theorem scales_zero (u v z : Nat → BitVec 8) (w : World) (hT : Tp w) (f g k : Nat → Nat) (a b c r : K) (d : Bool) (r' : K) (d' : Bool) (hm1 : ∀ w, Calls Tryd.prog 4 #[.agg (AZ .u8 56 (UB u))] w fun e w' => e = .returned (.tuple #[EV f, .bool true]) ∧ Below w.heap.size w w') (hm2 : ∀ w, Calls Tryd.prog 4 #[.agg (AZ .u8 56 (UB v))] w fun e w' => e = .returned (.tuple #[EV g, .bool true]) ∧ Below w.heap.size w w') (hm3 : ∀ w, Calls Tryd.prog 4 #[.agg (AZ .u8 56 (UB z))] w fun e w' => e = .returned (.tuple #[EV k, .bool true]) ∧ Below w.heap.size w w') (hv1 : EK f a) (hv2 : EK g b) (hv3 : EK k c) (hc : c = 0) (hr1 : ∀ w, Tp w → Calls Tryd.prog 5 #[EV f, EV g] w fun e w' => ∃ h, e = .returned (.tuple #[EV h, .bool d]) ∧ EK h r ∧ Below w.heap.size w w') (hr2 : ∀ (p q : Nat → Nat) w, Tp w → EK p (a * c) → EK q (b * c) → Calls Tryd.prog 5 #[EV p, EV q] w fun e w' => ∃ h, e = .returned (.tuple #[EV h, .bool d']) ∧ EK h r' ∧ Below w.heap.size w w') :
    Calls Tryd.prog 3 #[.agg (AZ .u8 56 (UB u)), .agg (AZ .u8 56 (UB v)), .agg (AZ .u8 56 (UB z))] w fun e w' => e = .returned (.bool true) ∧ Below w.heap.size w w' := by
  have HM1 := Lib.hid hm1
  have HM2 := Lib.hid hm2
  have HM3 := Lib.hid hm3
  have HV1 := Lib.hid hv1
  have HV2 := Lib.hid hv2
  have HV3 := Lib.hid hv3
  have HZ := Lib.hid (fun (h : Nat → Nat) w (hv : EK h c) => zero_kt w hv hc)
  have HR1 := Lib.hid hr1
  have HR2 := Lib.hid hr2
  clear hm1 hm2 hm3 hv1 hv2 hv3 hc hr1 hr2
  have HT := Lib.hid hT
  clear hT
  have H := Lib.hid (Ow.start w)
  go_enter Tryd.func3, Tryd.ntmps3
  go_upto_region 7 with (first
    | ((fail_if_success have := g3); (with_reducible apply own_box H); (case hgd => exact rfl); (case ho => exact rfl); (case hx => exact rfl); intro w3 g3 H' _ _; replace H := H'; clear H'; go_simp)
    | ((fail_if_success have := g4); (with_reducible apply own_box H); (case hgd => exact rfl); (case ho => exact rfl); (case hx => exact rfl); intro w4 g4 H' _ _; replace H := H'; clear H'; go_simp)
    | ((fail_if_success have := g5); (with_reducible apply own_box H); (case hgd => exact rfl); (case ho => exact rfl); (case hx => exact rfl); intro w5 g5 H' _ _; replace H := H'; clear H'; go_simp)
    | ((with_reducible apply own_load rowB H); (case hgd => exact rfl); (case ho => exact rfl); (case hx => exact rfl); (case hi => first | exact at0 | exact at1 | exact at2 | exact at3 | exact at4 | exact at5 | exact at6 | exact at7 | exact at8 | exact at9); intro _ _; go_simp)
    | ((with_reducible apply own_load rowE H); (case hgd => exact rfl); (case ho => exact rfl); (case hx => exact rfl); (case hi => first | exact at0 | exact at1 | exact at2 | exact at3 | exact at4 | exact at5 | exact at6 | exact at7 | exact at8 | exact at9); intro _ _; go_simp)
    | ((with_reducible refine (HM1.out _).mono ?_); rintro e wc ⟨rfl, hb⟩; replace H := Lib.hid (H.out.call hb); clear hb)
    | ((with_reducible refine (HM2.out _).mono ?_); rintro e wc ⟨rfl, hb⟩; replace H := Lib.hid (H.out.call hb); clear hb)
    | ((with_reducible refine (HM3.out _).mono ?_); rintro e wc ⟨rfl, hb⟩; replace H := Lib.hid (H.out.call hb); clear hb)
    | ((fail_if_success have := g7); (with_reducible apply own_alloc nilE H); (case hgd => exact rfl); (case ho => exact rfl); intro w7 g7 H' _ _; replace H := H'; clear H'; go_simp)
    | ((fail_if_success have := g9); (with_reducible apply own_alloc nilE H); (case hgd => exact rfl); (case ho => exact rfl); intro w9 g9 H' _ _; replace H := H'; clear H'; go_simp)
    | ((fail_if_success have := g11); (with_reducible apply own_alloc nilE H); (case hgd => exact rfl); (case ho => exact rfl); intro w11 g11 H' _ _; replace H := H'; clear H'; go_simp)
    | ((fail_if_success have := g13); (with_reducible apply own_alloc nilE H); (case hgd => exact rfl); (case ho => exact rfl); intro w13 g13 H' _ _; replace H := H'; clear H'; go_simp)
    | ((with_reducible apply own_store rowE H); (case hgd => exact rfl); (case ho => exact rfl); (case hx => exact rfl); (case hy => exact rfl); (case hi => first | exact at0 | exact at1 | exact at2 | exact at3 | exact at4 | exact at5 | exact at6 | exact at7 | exact at8 | exact at9); intro ws H' _ _; replace H := H'; clear H'; simp only [List.set_cons_zero] at H; go_simp)
    | ((with_reducible refine (HR1.out _ (HT.out.below H.out.bel)).mono ?_); rintro e wc ⟨h, rfl, hv, hb⟩; replace H := Lib.hid (H.out.call hb); clear hb; have HV4 := Lib.hid hv; clear hv))
  go_cut [15, 16] from 51 to 60 (fun v15 v16 wx => ∃ g15 h15, v15 = .pointer (some ⟨g15, 0, none⟩) ∧ v16 = .bool d' ∧ EK h15 r' ∧ Ow w wx [(g15, Blk 27 .u64 8 (NZ h15)), (g13, Blk 27 .u64 8 (NZ h)), (g11, Blk 27 .u64 8 (NZ k)), (g9, Blk 27 .u64 8 (NZ g)), (g7, Blk 27 .u64 8 (NZ f)), (g5, Blk 23 .u8 56 (UB z)), (g4, Blk 23 .u8 56 (UB v)), (g3, Blk 23 .u8 56 (UB u))])
  case first =>
    go_wp2_with fail
    refine wp_region_noPanic ?_
    refine wp_region_held_drew (S := fun W => W.heap[g7]? = some (Blk 27 .u64 8 (NZ f)) ∧ W.heap[g11]? = some (Blk 27 .u64 8 (NZ k)) ∧ W.heap[g9]? = some (Blk 27 .u64 8 (NZ g))) (by kernel_rfl) (⟨H.out.drew.row 3 rfl, H.out.drew.row 1 rfl, H.out.drew.row 2 rfl⟩) (fun hH => ?_)
    replace H := Lib.hid H.out.drew
    generalize World.drew _ = w8 at *
    refine held_row 0 52 rowE rfl rfl (by kernel_rfl) (by kernel_rfl) (by kernel_rfl) rfl hH rfl rfl (fun _ h => h.1) ?_
    try simp only [Act.put, List.setIfInBounds_toArray, List.set_cons_zero, List.set_cons_succ]
    refine held_row 1 53 rowE rfl rfl (by kernel_rfl) (by kernel_rfl) (by kernel_rfl) rfl hH rfl rfl (fun _ h => h.2.1) ?_
    try simp only [Act.put, List.setIfInBounds_toArray, List.set_cons_zero, List.set_cons_succ]
    refine held_row 3 55 rowE rfl rfl (by kernel_rfl) (by kernel_rfl) (by kernel_rfl) rfl hH rfl rfl (fun _ h => h.2.2) ?_
    try simp only [Act.put, List.setIfInBounds_toArray, List.set_cons_zero, List.set_cons_succ]
    refine held_row 4 56 rowE rfl rfl (by kernel_rfl) (by kernel_rfl) (by kernel_rfl) rfl hH rfl rfl (fun _ h => h.2.1) ?_
    try simp only [Act.put, List.setIfInBounds_toArray, List.set_cons_zero, List.set_cons_succ]
    refine wpAnyH_ready (rs := [2, 10]) (by kernel_rfl) (by simp) ?_
    refine AllReadyH.cons (o := _) rfl (fun K hK => ?_) (AllReadyH.cons (o := _) rfl (fun K hK => ?_) AllReadyH.nil)
    · skip
      go_simp
      refine (mul_k _ HV1.out HV3.out).mono ?_
      rintro e wc ⟨h54, rfl, hv, hb⟩
      replace H := Lib.hid (H.out.call hb)
      have HV54 := Lib.hid hv
      refine hK.out _ _ (⟨H.out.row 3 rfl, H.out.row 1 rfl, H.out.row 2 rfl⟩) (fun hN => ?_)
      clear hK K hH hb hv
      have hH := hN
      clear hN
      try simp only [Act.put, List.setIfInBounds_toArray, List.set_cons_zero, List.set_cons_succ]
      refine wpAnyH_ready (rs := [5, 10]) (by kernel_rfl) (by simp) ?_
      refine AllReadyH.cons (o := _) rfl (fun K hK => ?_) (AllReadyH.cons (o := _) rfl (fun K hK => ?_) AllReadyH.nil)
      · skip
        go_simp
        refine (mul_k _ HV2.out HV3.out).mono ?_
        rintro e wc ⟨h57, rfl, hv, hb⟩
        replace H := Lib.hid (H.out.call hb)
        have HV57 := Lib.hid hv
        refine hK.out _ _ (⟨H.out.row 3 rfl, H.out.row 1 rfl, H.out.row 2 rfl⟩) (fun hN => ?_)
        clear hK K hH hb hv
        have hH := hN
        clear hN
        try simp only [Act.put, List.setIfInBounds_toArray, List.set_cons_zero, List.set_cons_succ]
        refine wpAnyH_ready (rs := [6, 10]) (by kernel_rfl) (by simp) ?_
        refine AllReadyH.cons (o := _) rfl (fun K hK => ?_) (AllReadyH.cons (o := _) rfl (fun K hK => ?_) AllReadyH.nil)
        · skip
          go_simp
          refine (HR2.out _ _ _ (HT.out.below H.out.bel) HV54.out HV57.out).mono ?_
          rintro e wc ⟨h58, rfl, hv, hb⟩
          replace H := Lib.hid (H.out.call hb)
          have HV58 := Lib.hid hv
          refine hK.out _ _ (⟨H.out.row 3 rfl, H.out.row 1 rfl, H.out.row 2 rfl⟩) (fun hN => ?_)
          clear hK K hH hb hv
          have hH := hN
          clear hN
          try simp only [Act.put, List.setIfInBounds_toArray, List.set_cons_zero, List.set_cons_succ]
          refine held_value 7 51 (.tuple #[EV h58, .bool d']) rfl rfl (by kernel_rfl) (by kernel_rfl) (by kernel_rfl) rfl hH (fun w hw => by go_simp) ?_
          try simp only [Act.put, List.setIfInBounds_toArray, List.set_cons_zero, List.set_cons_succ]
          refine held_value 8 59 (EV h58) rfl rfl (by kernel_rfl) (by kernel_rfl) (by kernel_rfl) rfl hH (fun w hw => by go_simp) ?_
          try simp only [Act.put, List.setIfInBounds_toArray, List.set_cons_zero, List.set_cons_succ]
          refine held_value 9 60 (.bool d') rfl rfl (by kernel_rfl) (by kernel_rfl) (by kernel_rfl) rfl hH (fun w hw => by go_simp) ?_
          try simp only [Act.put, List.setIfInBounds_toArray, List.set_cons_zero, List.set_cons_succ]
          refine wpAnyH_ready (rs := [10]) (by kernel_rfl) (by simp) ?_
          refine AllReadyH.cons (o := _) rfl (fun K hK => ?_) AllReadyH.nil
          refine own_wp_allocB 15 rfl nilE H.out rfl ?_
          intro w15 g15 H3 hb
          replace H := Lib.hid H3
          refine hK.out _ _ (⟨H.out.row 4 rfl, H.out.row 2 rfl, H.out.row 3 rfl⟩) (fun hN => ?_)
          clear hK K hH H3 hb
          have hH := hN
          clear hN
          try simp only [Act.put, List.setIfInBounds_toArray, List.set_cons_zero, List.set_cons_succ]
          refine wpAnyH_ready (rs := [11]) (by kernel_rfl) (by simp) ?_
          refine AllReadyH.cons (o := _) rfl (fun K hK => ?_) AllReadyH.nil
          refine own_wp_store 0 rowE H.out rfl rfl rfl rfl ?_
          intro ws HS
          simp only [List.set_cons_zero] at HS
          replace H := Lib.hid HS
          refine hK.out _ _ (⟨H.out.row 4 rfl, H.out.row 2 rfl, H.out.row 3 rfl⟩) (fun hN => ?_)
          clear hK K HS hH
          have hH := hN
          clear hN
          try simp only [Act.put, List.setIfInBounds_toArray]
          refine held_value 12 16 (.bool d') rfl rfl (by kernel_rfl) (by kernel_rfl) (by kernel_rfl) rfl hH (fun w hw => by go_simp) ?_
          try simp only [Act.put]
          try simp only [Act.put]
          refine wpAnyH_done (by kernel_rfl) ?_ _
          refine NoPanic.normal ?_
          clear hH
          replace H := Lib.hid (H.out.front (x := (g15, Blk 27 .u64 8 (NZ h58))) 0 rfl)
          go_wp2_with fail
          go_meet
          exact ⟨g15, h58, rfl, rfl, HV58.out, H.out⟩
        · skip
          refine own_wp_allocB 15 rfl nilE H.out rfl ?_
          intro w15 g15 H3 hb
          replace H := Lib.hid H3
          refine hK.out _ _ (⟨H.out.row 4 rfl, H.out.row 2 rfl, H.out.row 3 rfl⟩) (fun hN => ?_)
          clear hK K hH H3 hb
          have hH := hN
          clear hN
          try simp only [Act.put, List.setIfInBounds_toArray, List.set_cons_zero, List.set_cons_succ]
          refine wpAnyH_ready (rs := [6]) (by kernel_rfl) (by simp) ?_
          refine AllReadyH.cons (o := _) rfl (fun K hK => ?_) AllReadyH.nil
          go_simp
          refine (HR2.out _ _ _ (HT.out.below H.out.bel) HV54.out HV57.out).mono ?_
          rintro e wc ⟨h58, rfl, hv, hb⟩
          replace H := Lib.hid (H.out.call hb)
          have HV58 := Lib.hid hv
          refine hK.out _ _ (⟨H.out.row 4 rfl, H.out.row 2 rfl, H.out.row 3 rfl⟩) (fun hN => ?_)
          clear hK K hH hb hv
          have hH := hN
          clear hN
          try simp only [Act.put, List.setIfInBounds_toArray, List.set_cons_zero, List.set_cons_succ]
          refine held_value 7 51 (.tuple #[EV h58, .bool d']) rfl rfl (by kernel_rfl) (by kernel_rfl) (by kernel_rfl) rfl hH (fun w hw => by go_simp) ?_
          try simp only [Act.put, List.setIfInBounds_toArray, List.set_cons_zero, List.set_cons_succ]
          refine held_value 8 59 (EV h58) rfl rfl (by kernel_rfl) (by kernel_rfl) (by kernel_rfl) rfl hH (fun w hw => by go_simp) ?_
          try simp only [Act.put, List.setIfInBounds_toArray, List.set_cons_zero, List.set_cons_succ]
          refine held_value 9 60 (.bool d') rfl rfl (by kernel_rfl) (by kernel_rfl) (by kernel_rfl) rfl hH (fun w hw => by go_simp) ?_
          try simp only [Act.put, List.setIfInBounds_toArray, List.set_cons_zero, List.set_cons_succ]
          refine wpAnyH_ready (rs := [11]) (by kernel_rfl) (by simp) ?_
          refine AllReadyH.cons (o := _) rfl (fun K hK => ?_) AllReadyH.nil
          refine own_wp_store 0 rowE H.out rfl rfl rfl rfl ?_
          intro ws HS
          simp only [List.set_cons_zero] at HS
          replace H := Lib.hid HS
          refine hK.out _ _ (⟨H.out.row 4 rfl, H.out.row 2 rfl, H.out.row 3 rfl⟩) (fun hN => ?_)
          clear hK K HS hH
          have hH := hN
          clear hN
          try simp only [Act.put, List.setIfInBounds_toArray]
          refine held_value 12 16 (.bool d') rfl rfl (by kernel_rfl) (by kernel_rfl) (by kernel_rfl) rfl hH (fun w hw => by go_simp) ?_
          try simp only [Act.put]
          try simp only [Act.put]
          refine wpAnyH_done (by kernel_rfl) ?_ _
          refine NoPanic.normal ?_
          clear hH
          replace H := Lib.hid (H.out.front (x := (g15, Blk 27 .u64 8 (NZ h58))) 0 rfl)
          go_wp2_with fail
          go_meet
          exact ⟨g15, h58, rfl, rfl, HV58.out, H.out⟩
      · skip
        refine own_wp_allocB 15 rfl nilE H.out rfl ?_
        intro w15 g15 H3 hb
        replace H := Lib.hid H3
        refine hK.out _ _ (⟨H.out.row 4 rfl, H.out.row 2 rfl, H.out.row 3 rfl⟩) (fun hN => ?_)
        clear hK K hH H3 hb
        have hH := hN
        clear hN
        try simp only [Act.put, List.setIfInBounds_toArray, List.set_cons_zero, List.set_cons_succ]
        refine wpAnyH_ready (rs := [5]) (by kernel_rfl) (by simp) ?_
        refine AllReadyH.cons (o := _) rfl (fun K hK => ?_) AllReadyH.nil
        go_simp
        refine (mul_k _ HV2.out HV3.out).mono ?_
        rintro e wc ⟨h57, rfl, hv, hb⟩
        replace H := Lib.hid (H.out.call hb)
        have HV57 := Lib.hid hv
        refine hK.out _ _ (⟨H.out.row 4 rfl, H.out.row 2 rfl, H.out.row 3 rfl⟩) (fun hN => ?_)
        clear hK K hH hb hv
        have hH := hN
        clear hN
        try simp only [Act.put, List.setIfInBounds_toArray, List.set_cons_zero, List.set_cons_succ]
        refine wpAnyH_ready (rs := [6]) (by kernel_rfl) (by simp) ?_
        refine AllReadyH.cons (o := _) rfl (fun K hK => ?_) AllReadyH.nil
        go_simp
        refine (HR2.out _ _ _ (HT.out.below H.out.bel) HV54.out HV57.out).mono ?_
        rintro e wc ⟨h58, rfl, hv, hb⟩
        replace H := Lib.hid (H.out.call hb)
        have HV58 := Lib.hid hv
        refine hK.out _ _ (⟨H.out.row 4 rfl, H.out.row 2 rfl, H.out.row 3 rfl⟩) (fun hN => ?_)
        clear hK K hH hb hv
        have hH := hN
        clear hN
        try simp only [Act.put, List.setIfInBounds_toArray, List.set_cons_zero, List.set_cons_succ]
        refine held_value 7 51 (.tuple #[EV h58, .bool d']) rfl rfl (by kernel_rfl) (by kernel_rfl) (by kernel_rfl) rfl hH (fun w hw => by go_simp) ?_
        try simp only [Act.put, List.setIfInBounds_toArray, List.set_cons_zero, List.set_cons_succ]
        refine held_value 8 59 (EV h58) rfl rfl (by kernel_rfl) (by kernel_rfl) (by kernel_rfl) rfl hH (fun w hw => by go_simp) ?_
        try simp only [Act.put, List.setIfInBounds_toArray, List.set_cons_zero, List.set_cons_succ]
        refine held_value 9 60 (.bool d') rfl rfl (by kernel_rfl) (by kernel_rfl) (by kernel_rfl) rfl hH (fun w hw => by go_simp) ?_
        try simp only [Act.put, List.setIfInBounds_toArray, List.set_cons_zero, List.set_cons_succ]
        refine wpAnyH_ready (rs := [11]) (by kernel_rfl) (by simp) ?_
        refine AllReadyH.cons (o := _) rfl (fun K hK => ?_) AllReadyH.nil
        refine own_wp_store 0 rowE H.out rfl rfl rfl rfl ?_
        intro ws HS
        simp only [List.set_cons_zero] at HS
        replace H := Lib.hid HS
        refine hK.out _ _ (⟨H.out.row 4 rfl, H.out.row 2 rfl, H.out.row 3 rfl⟩) (fun hN => ?_)
        clear hK K HS hH
        have hH := hN
        clear hN
        try simp only [Act.put, List.setIfInBounds_toArray]
        refine held_value 12 16 (.bool d') rfl rfl (by kernel_rfl) (by kernel_rfl) (by kernel_rfl) rfl hH (fun w hw => by go_simp) ?_
        try simp only [Act.put]
        try simp only [Act.put]
        refine wpAnyH_done (by kernel_rfl) ?_ _
        refine NoPanic.normal ?_
        clear hH
        replace H := Lib.hid (H.out.front (x := (g15, Blk 27 .u64 8 (NZ h58))) 0 rfl)
        go_wp2_with fail
        go_meet
        exact ⟨g15, h58, rfl, rfl, HV58.out, H.out⟩
    · skip
      refine own_wp_allocB 15 rfl nilE H.out rfl ?_
      intro w15 g15 H3 hb
      replace H := Lib.hid H3
      refine hK.out _ _ (⟨H.out.row 4 rfl, H.out.row 2 rfl, H.out.row 3 rfl⟩) (fun hN => ?_)
      clear hK K hH H3 hb
      have hH := hN
      clear hN
      try simp only [Act.put, List.setIfInBounds_toArray, List.set_cons_zero, List.set_cons_succ]
      refine wpAnyH_ready (rs := [2]) (by kernel_rfl) (by simp) ?_
      refine AllReadyH.cons (o := _) rfl (fun K hK => ?_) AllReadyH.nil
      go_simp
      refine (mul_k _ HV1.out HV3.out).mono ?_
      rintro e wc ⟨h54, rfl, hv, hb⟩
      replace H := Lib.hid (H.out.call hb)
      have HV54 := Lib.hid hv
      refine hK.out _ _ (⟨H.out.row 4 rfl, H.out.row 2 rfl, H.out.row 3 rfl⟩) (fun hN => ?_)
      clear hK K hH hb hv
      have hH := hN
      clear hN
      try simp only [Act.put, List.setIfInBounds_toArray, List.set_cons_zero, List.set_cons_succ]
      refine wpAnyH_ready (rs := [5]) (by kernel_rfl) (by simp) ?_
      refine AllReadyH.cons (o := _) rfl (fun K hK => ?_) AllReadyH.nil
      go_simp
      refine (mul_k _ HV2.out HV3.out).mono ?_
      rintro e wc ⟨h57, rfl, hv, hb⟩
      replace H := Lib.hid (H.out.call hb)
      have HV57 := Lib.hid hv
      refine hK.out _ _ (⟨H.out.row 4 rfl, H.out.row 2 rfl, H.out.row 3 rfl⟩) (fun hN => ?_)
      clear hK K hH hb hv
      have hH := hN
      clear hN
      try simp only [Act.put, List.setIfInBounds_toArray, List.set_cons_zero, List.set_cons_succ]
      refine wpAnyH_ready (rs := [6]) (by kernel_rfl) (by simp) ?_
      refine AllReadyH.cons (o := _) rfl (fun K hK => ?_) AllReadyH.nil
      go_simp
      refine (HR2.out _ _ _ (HT.out.below H.out.bel) HV54.out HV57.out).mono ?_
      rintro e wc ⟨h58, rfl, hv, hb⟩
      replace H := Lib.hid (H.out.call hb)
      have HV58 := Lib.hid hv
      refine hK.out _ _ (⟨H.out.row 4 rfl, H.out.row 2 rfl, H.out.row 3 rfl⟩) (fun hN => ?_)
      clear hK K hH hb hv
      have hH := hN
      clear hN
      try simp only [Act.put, List.setIfInBounds_toArray, List.set_cons_zero, List.set_cons_succ]
      refine held_value 7 51 (.tuple #[EV h58, .bool d']) rfl rfl (by kernel_rfl) (by kernel_rfl) (by kernel_rfl) rfl hH (fun w hw => by go_simp) ?_
      try simp only [Act.put, List.setIfInBounds_toArray, List.set_cons_zero, List.set_cons_succ]
      refine held_value 8 59 (EV h58) rfl rfl (by kernel_rfl) (by kernel_rfl) (by kernel_rfl) rfl hH (fun w hw => by go_simp) ?_
      try simp only [Act.put, List.setIfInBounds_toArray, List.set_cons_zero, List.set_cons_succ]
      refine held_value 9 60 (.bool d') rfl rfl (by kernel_rfl) (by kernel_rfl) (by kernel_rfl) rfl hH (fun w hw => by go_simp) ?_
      try simp only [Act.put, List.setIfInBounds_toArray, List.set_cons_zero, List.set_cons_succ]
      refine wpAnyH_ready (rs := [11]) (by kernel_rfl) (by simp) ?_
      refine AllReadyH.cons (o := _) rfl (fun K hK => ?_) AllReadyH.nil
      refine own_wp_store 0 rowE H.out rfl rfl rfl rfl ?_
      intro ws HS
      simp only [List.set_cons_zero] at HS
      replace H := Lib.hid HS
      refine hK.out _ _ (⟨H.out.row 4 rfl, H.out.row 2 rfl, H.out.row 3 rfl⟩) (fun hN => ?_)
      clear hK K HS hH
      have hH := hN
      clear hN
      try simp only [Act.put, List.setIfInBounds_toArray]
      refine held_value 12 16 (.bool d') rfl rfl (by kernel_rfl) (by kernel_rfl) (by kernel_rfl) rfl hH (fun w hw => by go_simp) ?_
      try simp only [Act.put]
      try simp only [Act.put]
      refine wpAnyH_done (by kernel_rfl) ?_ _
      refine NoPanic.normal ?_
      clear hH
      replace H := Lib.hid (H.out.front (x := (g15, Blk 27 .u64 8 (NZ h58))) 0 rfl)
      go_wp2_with fail
      go_meet
      exact ⟨g15, h58, rfl, rfl, HV58.out, H.out⟩
  case rest =>
    clear H
    obtain ⟨g15, h15, rfl, rfl, hv15, HRR⟩ := hcut
    have H := Lib.hid HRR
    have HV5 := Lib.hid hv15
    clear HRR hv15
    go_upto_region 8 with fail
    go_step
    ((with_reducible apply own_load rowE H); (case hgd => exact rfl); (case ho => exact rfl); (case hx => exact rfl); (case hi => first | exact at0 | exact at1 | exact at2 | exact at3 | exact at4 | exact at5 | exact at6 | exact at7 | exact at8 | exact at9); intro _ _; go_simp)
    iterate 3 go_step
    ((with_reducible refine (HZ.out _ _ HV3.out).mono ?_); rintro e wc ⟨rfl, hb⟩; replace H := Lib.hid (H.out.call hb); clear hb)
    go_simp
    iterate 7 go_step
    with_reducible refine skip_other (want := true) (j := 3) (s := 64) ?_ ?_ ?_ ?_
    · exact rfl
    · exact rfl
    · exact rfl
    intro K hK
    simp only [Act.put, List.setIfInBounds_toArray, List.set_cons_zero, List.set_cons_succ]
    with_reducible refine hK _ _ ?_
    clear hK K
    with_reducible refine skip_other (want := true) (j := 3) (s := 64) ?_ ?_ ?_ ?_
    · exact rfl
    · exact rfl
    · exact rfl
    intro K hK
    simp only [Act.put, List.setIfInBounds_toArray, List.set_cons_zero, List.set_cons_succ]
    with_reducible refine hK _ _ ?_
    clear hK K
    with_reducible refine skip_other (want := true) (j := 3) (s := 64) ?_ ?_ ?_ ?_
    · exact rfl
    · exact rfl
    · exact rfl
    intro K hK
    simp only [Act.put, List.setIfInBounds_toArray, List.set_cons_zero, List.set_cons_succ]
    with_reducible refine hK _ _ ?_
    clear hK K
    with_reducible refine skip_other (want := true) (j := 3) (s := 64) ?_ ?_ ?_ ?_
    · exact rfl
    · exact rfl
    · exact rfl
    intro K hK
    simp only [Act.put, List.setIfInBounds_toArray, List.set_cons_zero, List.set_cons_succ]
    with_reducible refine hK _ _ ?_
    clear hK K
    with_reducible refine skip_other (want := true) (j := 3) (s := 64) ?_ ?_ ?_ ?_
    · exact rfl
    · exact rfl
    · exact rfl
    intro K hK
    simp only [Act.put, List.setIfInBounds_toArray, List.set_cons_zero, List.set_cons_succ]
    with_reducible refine hK _ _ ?_
    clear hK K
    with_reducible refine skip_undef (want := false) (j := 8) (s := 69) ?_ ?_ ?_ ?_
    · exact rfl
    · exact rfl
    · exact rfl
    intro K hK
    simp only [Act.put, List.setIfInBounds_toArray, List.set_cons_zero, List.set_cons_succ]
    with_reducible refine hK _ _ ?_
    clear hK K
    with_reducible refine skip_undef (want := false) (j := 8) (s := 69) ?_ ?_ ?_ ?_
    · exact rfl
    · exact rfl
    · exact rfl
    intro K hK
    simp only [Act.put, List.setIfInBounds_toArray, List.set_cons_zero, List.set_cons_succ]
    with_reducible refine hK _ _ ?_
    clear hK K
    with_reducible refine skip_undef (want := false) (j := 8) (s := 69) ?_ ?_ ?_ ?_
    · exact rfl
    · exact rfl
    · exact rfl
    intro K hK
    simp only [Act.put, List.setIfInBounds_toArray, List.set_cons_zero, List.set_cons_succ]
    with_reducible refine hK _ _ ?_
    clear hK K
    with_reducible refine skip_other (want := true) (j := 3) (s := 64) ?_ ?_ ?_ ?_
    · exact rfl
    · exact rfl
    · exact rfl
    intro K hK
    simp only [Act.put, List.setIfInBounds_toArray, List.set_cons_zero, List.set_cons_succ]
    with_reducible refine hK _ _ ?_
    clear hK K
    go_upto_region 10 with fail
    go_cut [17, 18] from 75 to 83 (fun v17 v18 wx => ∃ g17 h17, v17 = .pointer (some ⟨g17, 0, none⟩) ∧ v18 = .int .i64 0 ∧ EK h17 (ab (a * b)) ∧ Ow w wx [(g17, Blk 27 .u64 8 (NZ h17)), (g15, Blk 27 .u64 8 (NZ h15)), (g13, Blk 27 .u64 8 (NZ h)), (g11, Blk 27 .u64 8 (NZ k)), (g9, Blk 27 .u64 8 (NZ g)), (g7, Blk 27 .u64 8 (NZ f)), (g5, Blk 23 .u8 56 (UB z)), (g4, Blk 23 .u8 56 (UB v)), (g3, Blk 23 .u8 56 (UB u))])
    case first =>
      go_wp2_with fail
      refine wp_region_noPanic ?_
      refine wp_region_held_drew (S := fun W => W.heap[g7]? = some (Blk 27 .u64 8 (NZ f)) ∧ W.heap[g9]? = some (Blk 27 .u64 8 (NZ g))) (by kernel_rfl) (⟨H.out.drew.row 4 rfl, H.out.drew.row 3 rfl⟩) (fun hH => ?_)
      replace H := Lib.hid H.out.drew
      generalize World.drew _ = w8 at *
      refine held_row 0 76 rowE rfl rfl (by kernel_rfl) (by kernel_rfl) (by kernel_rfl) rfl hH rfl rfl (fun _ h => h.1) ?_
      try simp only [Act.put, List.setIfInBounds_toArray, List.set_cons_zero, List.set_cons_succ]
      refine held_row 2 78 rowE rfl rfl (by kernel_rfl) (by kernel_rfl) (by kernel_rfl) rfl hH rfl rfl (fun _ h => h.2) ?_
      try simp only [Act.put, List.setIfInBounds_toArray, List.set_cons_zero, List.set_cons_succ]
      refine wpAnyH_ready (rs := [1, 9]) (by kernel_rfl) (by simp) ?_
      refine AllReadyH.cons (o := _) rfl (fun K hK => ?_) (AllReadyH.cons (o := _) rfl (fun K hK => ?_) AllReadyH.nil)
      · skip
        go_simp
        refine (square_k _ HV1.out).mono ?_
        rintro e wc ⟨h77, rfl, hv, hb⟩
        replace H := Lib.hid (H.out.call hb)
        have HV77 := Lib.hid hv
        refine hK.out _ _ (⟨H.out.row 4 rfl, H.out.row 3 rfl⟩) (fun hN => ?_)
        clear hK K hH hb hv
        have hH := hN
        clear hN
        try simp only [Act.put, List.setIfInBounds_toArray, List.set_cons_zero, List.set_cons_succ]
        refine wpAnyH_ready (rs := [3, 9]) (by kernel_rfl) (by simp) ?_
        refine AllReadyH.cons (o := _) rfl (fun K hK => ?_) (AllReadyH.cons (o := _) rfl (fun K hK => ?_) AllReadyH.nil)
        · skip
          go_simp
          refine (square_k _ HV2.out).mono ?_
          rintro e wc ⟨h79, rfl, hv, hb⟩
          replace H := Lib.hid (H.out.call hb)
          have HV79 := Lib.hid hv
          refine hK.out _ _ (⟨H.out.row 4 rfl, H.out.row 3 rfl⟩) (fun hN => ?_)
          clear hK K hH hb hv
          have hH := hN
          clear hN
          try simp only [Act.put, List.setIfInBounds_toArray, List.set_cons_zero, List.set_cons_succ]
          refine wpAnyH_ready (rs := [4, 9]) (by kernel_rfl) (by simp) ?_
          refine AllReadyH.cons (o := _) rfl (fun K hK => ?_) (AllReadyH.cons (o := _) rfl (fun K hK => ?_) AllReadyH.nil)
          · skip
            go_simp
            refine (mul_k _ HV77.out HV79.out).mono ?_
            rintro e wc ⟨h80, rfl, hv, hb⟩
            replace H := Lib.hid (H.out.call hb)
            have HV80 := Lib.hid hv
            refine hK.out _ _ (⟨H.out.row 4 rfl, H.out.row 3 rfl⟩) (fun hN => ?_)
            clear hK K hH hb hv
            have hH := hN
            clear hN
            try simp only [Act.put, List.setIfInBounds_toArray, List.set_cons_zero, List.set_cons_succ]
            refine wpAnyH_ready (rs := [5, 9]) (by kernel_rfl) (by simp) ?_
            refine AllReadyH.cons (o := _) rfl (fun K hK => ?_) (AllReadyH.cons (o := _) rfl (fun K hK => ?_) AllReadyH.nil)
            · skip
              go_simp
              refine (root_sq_k _ (HT.out.below H.out.bel) (sq_prod a b) HV80.out).mono ?_
              rintro e wc ⟨h81, rfl, hv, hb⟩
              replace H := Lib.hid (H.out.call hb)
              have HV81 := Lib.hid hv
              refine hK.out _ _ (⟨H.out.row 4 rfl, H.out.row 3 rfl⟩) (fun hN => ?_)
              clear hK K hH hb hv
              have hH := hN
              clear hN
              try simp only [Act.put, List.setIfInBounds_toArray, List.set_cons_zero, List.set_cons_succ]
              refine held_value 6 75 (.tuple #[EV h81, .int .i64 0]) rfl rfl (by kernel_rfl) (by kernel_rfl) (by kernel_rfl) rfl hH (fun w hw => by go_simp) ?_
              try simp only [Act.put, List.setIfInBounds_toArray, List.set_cons_zero, List.set_cons_succ]
              refine held_value 7 82 (EV h81) rfl rfl (by kernel_rfl) (by kernel_rfl) (by kernel_rfl) rfl hH (fun w hw => by go_simp) ?_
              try simp only [Act.put, List.setIfInBounds_toArray, List.set_cons_zero, List.set_cons_succ]
              refine held_value 8 83 (.int .i64 0) rfl rfl (by kernel_rfl) (by kernel_rfl) (by kernel_rfl) rfl hH (fun w hw => by go_simp) ?_
              try simp only [Act.put, List.setIfInBounds_toArray, List.set_cons_zero, List.set_cons_succ]
              refine wpAnyH_ready (rs := [9]) (by kernel_rfl) (by simp) ?_
              refine AllReadyH.cons (o := _) rfl (fun K hK => ?_) AllReadyH.nil
              refine own_wp_allocB 17 rfl nilE H.out rfl ?_
              intro w17 g17 H3 hb
              replace H := Lib.hid H3
              refine hK.out _ _ (⟨H.out.row 5 rfl, H.out.row 4 rfl⟩) (fun hN => ?_)
              clear hK K hH H3 hb
              have hH := hN
              clear hN
              try simp only [Act.put, List.setIfInBounds_toArray, List.set_cons_zero, List.set_cons_succ]
              refine wpAnyH_ready (rs := [10]) (by kernel_rfl) (by simp) ?_
              refine AllReadyH.cons (o := _) rfl (fun K hK => ?_) AllReadyH.nil
              refine own_wp_store 0 rowE H.out rfl rfl rfl rfl ?_
              intro ws HS
              simp only [List.set_cons_zero] at HS
              replace H := Lib.hid HS
              refine hK.out _ _ (⟨H.out.row 5 rfl, H.out.row 4 rfl⟩) (fun hN => ?_)
              clear hK K HS hH
              have hH := hN
              clear hN
              try simp only [Act.put, List.setIfInBounds_toArray]
              refine held_value 11 18 (.int .i64 0) rfl rfl (by kernel_rfl) (by kernel_rfl) (by kernel_rfl) rfl hH (fun w hw => by go_simp) ?_
              try simp only [Act.put]
              try simp only [Act.put]
              refine wpAnyH_done (by kernel_rfl) ?_ _
              refine NoPanic.normal ?_
              clear hH
              replace H := Lib.hid (H.out.front (x := (g17, Blk 27 .u64 8 (NZ h81))) 0 rfl)
              go_wp2_with fail
              go_meet
              exact ⟨g17, h81, rfl, rfl, HV81.out, H.out⟩
            · skip
              refine own_wp_allocB 17 rfl nilE H.out rfl ?_
              intro w17 g17 H3 hb
              replace H := Lib.hid H3
              refine hK.out _ _ (⟨H.out.row 5 rfl, H.out.row 4 rfl⟩) (fun hN => ?_)
              clear hK K hH H3 hb
              have hH := hN
              clear hN
              try simp only [Act.put, List.setIfInBounds_toArray, List.set_cons_zero, List.set_cons_succ]
              refine wpAnyH_ready (rs := [5]) (by kernel_rfl) (by simp) ?_
              refine AllReadyH.cons (o := _) rfl (fun K hK => ?_) AllReadyH.nil
              go_simp
              refine (root_sq_k _ (HT.out.below H.out.bel) (sq_prod a b) HV80.out).mono ?_
              rintro e wc ⟨h81, rfl, hv, hb⟩
              replace H := Lib.hid (H.out.call hb)
              have HV81 := Lib.hid hv
              refine hK.out _ _ (⟨H.out.row 5 rfl, H.out.row 4 rfl⟩) (fun hN => ?_)
              clear hK K hH hb hv
              have hH := hN
              clear hN
              try simp only [Act.put, List.setIfInBounds_toArray, List.set_cons_zero, List.set_cons_succ]
              refine held_value 6 75 (.tuple #[EV h81, .int .i64 0]) rfl rfl (by kernel_rfl) (by kernel_rfl) (by kernel_rfl) rfl hH (fun w hw => by go_simp) ?_
              try simp only [Act.put, List.setIfInBounds_toArray, List.set_cons_zero, List.set_cons_succ]
              refine held_value 7 82 (EV h81) rfl rfl (by kernel_rfl) (by kernel_rfl) (by kernel_rfl) rfl hH (fun w hw => by go_simp) ?_
              try simp only [Act.put, List.setIfInBounds_toArray, List.set_cons_zero, List.set_cons_succ]
              refine held_value 8 83 (.int .i64 0) rfl rfl (by kernel_rfl) (by kernel_rfl) (by kernel_rfl) rfl hH (fun w hw => by go_simp) ?_
              try simp only [Act.put, List.setIfInBounds_toArray, List.set_cons_zero, List.set_cons_succ]
              refine wpAnyH_ready (rs := [10]) (by kernel_rfl) (by simp) ?_
              refine AllReadyH.cons (o := _) rfl (fun K hK => ?_) AllReadyH.nil
              refine own_wp_store 0 rowE H.out rfl rfl rfl rfl ?_
              intro ws HS
              simp only [List.set_cons_zero] at HS
              replace H := Lib.hid HS
              refine hK.out _ _ (⟨H.out.row 5 rfl, H.out.row 4 rfl⟩) (fun hN => ?_)
              clear hK K HS hH
              have hH := hN
              clear hN
              try simp only [Act.put, List.setIfInBounds_toArray]
              refine held_value 11 18 (.int .i64 0) rfl rfl (by kernel_rfl) (by kernel_rfl) (by kernel_rfl) rfl hH (fun w hw => by go_simp) ?_
              try simp only [Act.put]
              try simp only [Act.put]
              refine wpAnyH_done (by kernel_rfl) ?_ _
              refine NoPanic.normal ?_
              clear hH
              replace H := Lib.hid (H.out.front (x := (g17, Blk 27 .u64 8 (NZ h81))) 0 rfl)
              go_wp2_with fail
              go_meet
              exact ⟨g17, h81, rfl, rfl, HV81.out, H.out⟩
          · skip
            refine own_wp_allocB 17 rfl nilE H.out rfl ?_
            intro w17 g17 H3 hb
            replace H := Lib.hid H3
            refine hK.out _ _ (⟨H.out.row 5 rfl, H.out.row 4 rfl⟩) (fun hN => ?_)
            clear hK K hH H3 hb
            have hH := hN
            clear hN
            try simp only [Act.put, List.setIfInBounds_toArray, List.set_cons_zero, List.set_cons_succ]
            refine wpAnyH_ready (rs := [4]) (by kernel_rfl) (by simp) ?_
            refine AllReadyH.cons (o := _) rfl (fun K hK => ?_) AllReadyH.nil
            go_simp
            refine (mul_k _ HV77.out HV79.out).mono ?_
            rintro e wc ⟨h80, rfl, hv, hb⟩
            replace H := Lib.hid (H.out.call hb)
            have HV80 := Lib.hid hv
            refine hK.out _ _ (⟨H.out.row 5 rfl, H.out.row 4 rfl⟩) (fun hN => ?_)
            clear hK K hH hb hv
            have hH := hN
            clear hN
            try simp only [Act.put, List.setIfInBounds_toArray, List.set_cons_zero, List.set_cons_succ]
            refine wpAnyH_ready (rs := [5]) (by kernel_rfl) (by simp) ?_
            refine AllReadyH.cons (o := _) rfl (fun K hK => ?_) AllReadyH.nil
            go_simp
            refine (root_sq_k _ (HT.out.below H.out.bel) (sq_prod a b) HV80.out).mono ?_
            rintro e wc ⟨h81, rfl, hv, hb⟩
            replace H := Lib.hid (H.out.call hb)
            have HV81 := Lib.hid hv
            refine hK.out _ _ (⟨H.out.row 5 rfl, H.out.row 4 rfl⟩) (fun hN => ?_)
            clear hK K hH hb hv
            have hH := hN
            clear hN
            try simp only [Act.put, List.setIfInBounds_toArray, List.set_cons_zero, List.set_cons_succ]
            refine held_value 6 75 (.tuple #[EV h81, .int .i64 0]) rfl rfl (by kernel_rfl) (by kernel_rfl) (by kernel_rfl) rfl hH (fun w hw => by go_simp) ?_
            try simp only [Act.put, List.setIfInBounds_toArray, List.set_cons_zero, List.set_cons_succ]
            refine held_value 7 82 (EV h81) rfl rfl (by kernel_rfl) (by kernel_rfl) (by kernel_rfl) rfl hH (fun w hw => by go_simp) ?_
            try simp only [Act.put, List.setIfInBounds_toArray, List.set_cons_zero, List.set_cons_succ]
            refine held_value 8 83 (.int .i64 0) rfl rfl (by kernel_rfl) (by kernel_rfl) (by kernel_rfl) rfl hH (fun w hw => by go_simp) ?_
            try simp only [Act.put, List.setIfInBounds_toArray, List.set_cons_zero, List.set_cons_succ]
            refine wpAnyH_ready (rs := [10]) (by kernel_rfl) (by simp) ?_
            refine AllReadyH.cons (o := _) rfl (fun K hK => ?_) AllReadyH.nil
            refine own_wp_store 0 rowE H.out rfl rfl rfl rfl ?_
            intro ws HS
            simp only [List.set_cons_zero] at HS
            replace H := Lib.hid HS
            refine hK.out _ _ (⟨H.out.row 5 rfl, H.out.row 4 rfl⟩) (fun hN => ?_)
            clear hK K HS hH
            have hH := hN
            clear hN
            try simp only [Act.put, List.setIfInBounds_toArray]
            refine held_value 11 18 (.int .i64 0) rfl rfl (by kernel_rfl) (by kernel_rfl) (by kernel_rfl) rfl hH (fun w hw => by go_simp) ?_
            try simp only [Act.put]
            try simp only [Act.put]
            refine wpAnyH_done (by kernel_rfl) ?_ _
            refine NoPanic.normal ?_
            clear hH
            replace H := Lib.hid (H.out.front (x := (g17, Blk 27 .u64 8 (NZ h81))) 0 rfl)
            go_wp2_with fail
            go_meet
            exact ⟨g17, h81, rfl, rfl, HV81.out, H.out⟩
        · skip
          refine own_wp_allocB 17 rfl nilE H.out rfl ?_
          intro w17 g17 H3 hb
          replace H := Lib.hid H3
          refine hK.out _ _ (⟨H.out.row 5 rfl, H.out.row 4 rfl⟩) (fun hN => ?_)
          clear hK K hH H3 hb
          have hH := hN
          clear hN
          try simp only [Act.put, List.setIfInBounds_toArray, List.set_cons_zero, List.set_cons_succ]
          refine wpAnyH_ready (rs := [3]) (by kernel_rfl) (by simp) ?_
          refine AllReadyH.cons (o := _) rfl (fun K hK => ?_) AllReadyH.nil
          go_simp
          refine (square_k _ HV2.out).mono ?_
          rintro e wc ⟨h79, rfl, hv, hb⟩
          replace H := Lib.hid (H.out.call hb)
          have HV79 := Lib.hid hv
          refine hK.out _ _ (⟨H.out.row 5 rfl, H.out.row 4 rfl⟩) (fun hN => ?_)
          clear hK K hH hb hv
          have hH := hN
          clear hN
          try simp only [Act.put, List.setIfInBounds_toArray, List.set_cons_zero, List.set_cons_succ]
          refine wpAnyH_ready (rs := [4]) (by kernel_rfl) (by simp) ?_
          refine AllReadyH.cons (o := _) rfl (fun K hK => ?_) AllReadyH.nil
          go_simp
          refine (mul_k _ HV77.out HV79.out).mono ?_
          rintro e wc ⟨h80, rfl, hv, hb⟩
          replace H := Lib.hid (H.out.call hb)
          have HV80 := Lib.hid hv
          refine hK.out _ _ (⟨H.out.row 5 rfl, H.out.row 4 rfl⟩) (fun hN => ?_)
          clear hK K hH hb hv
          have hH := hN
          clear hN
          try simp only [Act.put, List.setIfInBounds_toArray, List.set_cons_zero, List.set_cons_succ]
          refine wpAnyH_ready (rs := [5]) (by kernel_rfl) (by simp) ?_
          refine AllReadyH.cons (o := _) rfl (fun K hK => ?_) AllReadyH.nil
          go_simp
          refine (root_sq_k _ (HT.out.below H.out.bel) (sq_prod a b) HV80.out).mono ?_
          rintro e wc ⟨h81, rfl, hv, hb⟩
          replace H := Lib.hid (H.out.call hb)
          have HV81 := Lib.hid hv
          refine hK.out _ _ (⟨H.out.row 5 rfl, H.out.row 4 rfl⟩) (fun hN => ?_)
          clear hK K hH hb hv
          have hH := hN
          clear hN
          try simp only [Act.put, List.setIfInBounds_toArray, List.set_cons_zero, List.set_cons_succ]
          refine held_value 6 75 (.tuple #[EV h81, .int .i64 0]) rfl rfl (by kernel_rfl) (by kernel_rfl) (by kernel_rfl) rfl hH (fun w hw => by go_simp) ?_
          try simp only [Act.put, List.setIfInBounds_toArray, List.set_cons_zero, List.set_cons_succ]
          refine held_value 7 82 (EV h81) rfl rfl (by kernel_rfl) (by kernel_rfl) (by kernel_rfl) rfl hH (fun w hw => by go_simp) ?_
          try simp only [Act.put, List.setIfInBounds_toArray, List.set_cons_zero, List.set_cons_succ]
          refine held_value 8 83 (.int .i64 0) rfl rfl (by kernel_rfl) (by kernel_rfl) (by kernel_rfl) rfl hH (fun w hw => by go_simp) ?_
          try simp only [Act.put, List.setIfInBounds_toArray, List.set_cons_zero, List.set_cons_succ]
          refine wpAnyH_ready (rs := [10]) (by kernel_rfl) (by simp) ?_
          refine AllReadyH.cons (o := _) rfl (fun K hK => ?_) AllReadyH.nil
          refine own_wp_store 0 rowE H.out rfl rfl rfl rfl ?_
          intro ws HS
          simp only [List.set_cons_zero] at HS
          replace H := Lib.hid HS
          refine hK.out _ _ (⟨H.out.row 5 rfl, H.out.row 4 rfl⟩) (fun hN => ?_)
          clear hK K HS hH
          have hH := hN
          clear hN
          try simp only [Act.put, List.setIfInBounds_toArray]
          refine held_value 11 18 (.int .i64 0) rfl rfl (by kernel_rfl) (by kernel_rfl) (by kernel_rfl) rfl hH (fun w hw => by go_simp) ?_
          try simp only [Act.put]
          try simp only [Act.put]
          refine wpAnyH_done (by kernel_rfl) ?_ _
          refine NoPanic.normal ?_
          clear hH
          replace H := Lib.hid (H.out.front (x := (g17, Blk 27 .u64 8 (NZ h81))) 0 rfl)
          go_wp2_with fail
          go_meet
          exact ⟨g17, h81, rfl, rfl, HV81.out, H.out⟩
      · skip
        refine own_wp_allocB 17 rfl nilE H.out rfl ?_
        intro w17 g17 H3 hb
        replace H := Lib.hid H3
        refine hK.out _ _ (⟨H.out.row 5 rfl, H.out.row 4 rfl⟩) (fun hN => ?_)
        clear hK K hH H3 hb
        have hH := hN
        clear hN
        try simp only [Act.put, List.setIfInBounds_toArray, List.set_cons_zero, List.set_cons_succ]
        refine wpAnyH_ready (rs := [1]) (by kernel_rfl) (by simp) ?_
        refine AllReadyH.cons (o := _) rfl (fun K hK => ?_) AllReadyH.nil
        go_simp
        refine (square_k _ HV1.out).mono ?_
        rintro e wc ⟨h77, rfl, hv, hb⟩
        replace H := Lib.hid (H.out.call hb)
        have HV77 := Lib.hid hv
        refine hK.out _ _ (⟨H.out.row 5 rfl, H.out.row 4 rfl⟩) (fun hN => ?_)
        clear hK K hH hb hv
        have hH := hN
        clear hN
        try simp only [Act.put, List.setIfInBounds_toArray, List.set_cons_zero, List.set_cons_succ]
        refine wpAnyH_ready (rs := [3]) (by kernel_rfl) (by simp) ?_
        refine AllReadyH.cons (o := _) rfl (fun K hK => ?_) AllReadyH.nil
        go_simp
        refine (square_k _ HV2.out).mono ?_
        rintro e wc ⟨h79, rfl, hv, hb⟩
        replace H := Lib.hid (H.out.call hb)
        have HV79 := Lib.hid hv
        refine hK.out _ _ (⟨H.out.row 5 rfl, H.out.row 4 rfl⟩) (fun hN => ?_)
        clear hK K hH hb hv
        have hH := hN
        clear hN
        try simp only [Act.put, List.setIfInBounds_toArray, List.set_cons_zero, List.set_cons_succ]
        refine wpAnyH_ready (rs := [4]) (by kernel_rfl) (by simp) ?_
        refine AllReadyH.cons (o := _) rfl (fun K hK => ?_) AllReadyH.nil
        go_simp
        refine (mul_k _ HV77.out HV79.out).mono ?_
        rintro e wc ⟨h80, rfl, hv, hb⟩
        replace H := Lib.hid (H.out.call hb)
        have HV80 := Lib.hid hv
        refine hK.out _ _ (⟨H.out.row 5 rfl, H.out.row 4 rfl⟩) (fun hN => ?_)
        clear hK K hH hb hv
        have hH := hN
        clear hN
        try simp only [Act.put, List.setIfInBounds_toArray, List.set_cons_zero, List.set_cons_succ]
        refine wpAnyH_ready (rs := [5]) (by kernel_rfl) (by simp) ?_
        refine AllReadyH.cons (o := _) rfl (fun K hK => ?_) AllReadyH.nil
        go_simp
        refine (root_sq_k _ (HT.out.below H.out.bel) (sq_prod a b) HV80.out).mono ?_
        rintro e wc ⟨h81, rfl, hv, hb⟩
        replace H := Lib.hid (H.out.call hb)
        have HV81 := Lib.hid hv
        refine hK.out _ _ (⟨H.out.row 5 rfl, H.out.row 4 rfl⟩) (fun hN => ?_)
        clear hK K hH hb hv
        have hH := hN
        clear hN
        try simp only [Act.put, List.setIfInBounds_toArray, List.set_cons_zero, List.set_cons_succ]
        refine held_value 6 75 (.tuple #[EV h81, .int .i64 0]) rfl rfl (by kernel_rfl) (by kernel_rfl) (by kernel_rfl) rfl hH (fun w hw => by go_simp) ?_
        try simp only [Act.put, List.setIfInBounds_toArray, List.set_cons_zero, List.set_cons_succ]
        refine held_value 7 82 (EV h81) rfl rfl (by kernel_rfl) (by kernel_rfl) (by kernel_rfl) rfl hH (fun w hw => by go_simp) ?_
        try simp only [Act.put, List.setIfInBounds_toArray, List.set_cons_zero, List.set_cons_succ]
        refine held_value 8 83 (.int .i64 0) rfl rfl (by kernel_rfl) (by kernel_rfl) (by kernel_rfl) rfl hH (fun w hw => by go_simp) ?_
        try simp only [Act.put, List.setIfInBounds_toArray, List.set_cons_zero, List.set_cons_succ]
        refine wpAnyH_ready (rs := [10]) (by kernel_rfl) (by simp) ?_
        refine AllReadyH.cons (o := _) rfl (fun K hK => ?_) AllReadyH.nil
        refine own_wp_store 0 rowE H.out rfl rfl rfl rfl ?_
        intro ws HS
        simp only [List.set_cons_zero] at HS
        replace H := Lib.hid HS
        refine hK.out _ _ (⟨H.out.row 5 rfl, H.out.row 4 rfl⟩) (fun hN => ?_)
        clear hK K HS hH
        have hH := hN
        clear hN
        try simp only [Act.put, List.setIfInBounds_toArray]
        refine held_value 11 18 (.int .i64 0) rfl rfl (by kernel_rfl) (by kernel_rfl) (by kernel_rfl) rfl hH (fun w hw => by go_simp) ?_
        try simp only [Act.put]
        try simp only [Act.put]
        refine wpAnyH_done (by kernel_rfl) ?_ _
        refine NoPanic.normal ?_
        clear hH
        replace H := Lib.hid (H.out.front (x := (g17, Blk 27 .u64 8 (NZ h81))) 0 rfl)
        go_wp2_with fail
        go_meet
        exact ⟨g17, h81, rfl, rfl, HV81.out, H.out⟩
    case rest =>
      clear H
      obtain ⟨g17, h17, rfl, rfl, hv17, HRR⟩ := hcut
      have H := Lib.hid HRR
      have HV6 := Lib.hid hv17
      clear HRR hv17
      go_wp2_with (first
        | ((with_reducible apply own_load rowE H); (case hgd => exact rfl); (case ho => exact rfl); (case hx => exact rfl); (case hi => first | exact at0 | exact at1 | exact at2 | exact at3 | exact at4 | exact at5 | exact at6 | exact at7 | exact at8 | exact at9); intro _ _; go_simp)
        | ((fail_if_success have := g19); (with_reducible apply own_alloc nilE H); (case hgd => exact rfl); (case ho => exact rfl); intro w19 g19 H' _ _; replace H := H'; clear H'; go_simp)
        | ((with_reducible apply own_store rowE H); (case hgd => exact rfl); (case ho => exact rfl); (case hx => exact rfl); (case hy => exact rfl); (case hi => first | exact at0 | exact at1 | exact at2 | exact at3 | exact at4 | exact at5 | exact at6 | exact at7 | exact at8 | exact at9); intro ws H' _ _; replace H := H'; clear H'; simp only [List.set_cons_zero] at H; go_simp)
        | ((with_reducible refine (inverse_k _ HV1.out).mono ?_); rintro e wc ⟨h19, rfl, hv, hb⟩; replace H := Lib.hid (H.out.call hb); clear hb; have HV7 := Lib.hid hv; clear hv))
      refine wp_region_noPanic ?_
      refine wp_region_held_drew (S := fun W => W.heap[g17]? = some (Blk 27 .u64 8 (NZ h17)) ∧ W.heap[g7]? = some (Blk 27 .u64 8 (NZ f)) ∧ W.heap[g9]? = some (Blk 27 .u64 8 (NZ g)) ∧ W.heap[g19]? = some (Blk 27 .u64 8 (NZ h19))) (by kernel_rfl) (⟨H.out.drew.row 1 rfl, H.out.drew.row 6 rfl, H.out.drew.row 5 rfl, H.out.drew.row 0 rfl⟩) (fun hH => ?_)
      replace H := Lib.hid H.out.drew
      generalize World.drew _ = w8 at *
      refine held_value 0 86 (.int .i64 0) rfl rfl (by kernel_rfl) (by kernel_rfl) (by kernel_rfl) rfl hH (fun w hw => by go_simp) ?_
      try simp only [Act.put, List.setIfInBounds_toArray, List.set_cons_zero, List.set_cons_succ]
      refine held_value 1 87 (.bool true) rfl rfl (by kernel_rfl) (by kernel_rfl) (by kernel_rfl) rfl hH (fun w hw => by go_simp) ?_
      try simp only [Act.put, List.setIfInBounds_toArray, List.set_cons_zero, List.set_cons_succ]
      refine held_value 2 88 (.bool true) rfl rfl (by kernel_rfl) (by kernel_rfl) (by kernel_rfl) rfl hH (fun w hw => by go_simp) ?_
      try simp only [Act.put, List.setIfInBounds_toArray, List.set_cons_zero, List.set_cons_succ]
      refine held_row 3 89 rowE rfl rfl (by kernel_rfl) (by kernel_rfl) (by kernel_rfl) rfl hH rfl rfl (fun _ h => h.1) ?_
      try simp only [Act.put, List.setIfInBounds_toArray, List.set_cons_zero, List.set_cons_succ]
      refine held_row 4 90 rowE rfl rfl (by kernel_rfl) (by kernel_rfl) (by kernel_rfl) rfl hH rfl rfl (fun _ h => h.2.1) ?_
      try simp only [Act.put, List.setIfInBounds_toArray, List.set_cons_zero, List.set_cons_succ]
      refine held_row 5 91 rowE rfl rfl (by kernel_rfl) (by kernel_rfl) (by kernel_rfl) rfl hH rfl rfl (fun _ h => h.2.2.1) ?_
      try simp only [Act.put, List.setIfInBounds_toArray, List.set_cons_zero, List.set_cons_succ]
      refine wpAnyH_ready (rs := [6]) (by kernel_rfl) (by simp) ?_
      refine AllReadyH.cons (o := _) rfl (fun K hK => ?_) AllReadyH.nil
      go_simp
      refine (mul_k _ HV1.out HV2.out).mono ?_
      rintro e wc ⟨h92, rfl, hv, hb⟩
      replace H := Lib.hid (H.out.call hb)
      have HV92 := Lib.hid hv
      refine hK.out _ _ (⟨H.out.row 1 rfl, H.out.row 6 rfl, H.out.row 5 rfl, H.out.row 0 rfl⟩) (fun hN => ?_)
      clear hK K hH hb hv
      have hH := hN
      clear hN
      try simp only [Act.put, List.setIfInBounds_toArray, List.set_cons_zero, List.set_cons_succ]
      refine wpAnyH_ready (rs := [7]) (by kernel_rfl) (by simp) ?_
      refine AllReadyH.cons (o := _) rfl (fun K hK => ?_) AllReadyH.nil
      go_simp
      refine (abs_k _ (HT.out.below H.out.bel) HV92.out).mono ?_
      rintro e wc ⟨h93, rfl, hv, hb⟩
      replace H := Lib.hid (H.out.call hb)
      have HV93 := Lib.hid hv
      refine hK.out _ _ (⟨H.out.row 1 rfl, H.out.row 6 rfl, H.out.row 5 rfl, H.out.row 0 rfl⟩) (fun hN => ?_)
      clear hK K hH hb hv
      have hH := hN
      clear hN
      try simp only [Act.put, List.setIfInBounds_toArray, List.set_cons_zero, List.set_cons_succ]
      refine wpAnyH_ready (rs := [8]) (by kernel_rfl) (by simp) ?_
      refine AllReadyH.cons (o := _) rfl (fun K hK => ?_) AllReadyH.nil
      go_simp
      refine (equal_kt _ (HT.out.below H.out.bel) HV6.out HV93.out (rfl)).mono ?_
      rintro e wc ⟨rfl, hb⟩
      replace H := Lib.hid (H.out.call hb)
      refine hK.out _ _ (⟨H.out.row 1 rfl, H.out.row 6 rfl, H.out.row 5 rfl, H.out.row 0 rfl⟩) (fun hN => ?_)
      clear hK K hH hb
      have hH := hN
      clear hN
      try simp only [Act.put, List.setIfInBounds_toArray, List.set_cons_zero, List.set_cons_succ]
      refine held_value 9 95 (.bool true) rfl rfl (by kernel_rfl) (by kernel_rfl) (by kernel_rfl) rfl hH (fun w hw => by go_simp) ?_
      try simp only [Act.put, List.setIfInBounds_toArray, List.set_cons_zero, List.set_cons_succ]
      refine held_value 10 96 (.bool true) rfl rfl (by kernel_rfl) (by kernel_rfl) (by kernel_rfl) rfl hH (fun w hw => by go_simp) ?_
      try simp only [Act.put, List.setIfInBounds_toArray, List.set_cons_zero, List.set_cons_succ]
      refine held_row 11 97 rowE rfl rfl (by kernel_rfl) (by kernel_rfl) (by kernel_rfl) rfl hH rfl rfl (fun _ h => h.2.2.2) ?_
      try simp only [Act.put, List.setIfInBounds_toArray, List.set_cons_zero, List.set_cons_succ]
      refine held_row 13 99 rowE rfl rfl (by kernel_rfl) (by kernel_rfl) (by kernel_rfl) rfl hH rfl rfl (fun _ h => h.2.1) ?_
      try simp only [Act.put, List.setIfInBounds_toArray, List.set_cons_zero, List.set_cons_succ]
      refine wpAnyH_ready (rs := [12]) (by kernel_rfl) (by simp) ?_
      refine AllReadyH.cons (o := _) rfl (fun K hK => ?_) AllReadyH.nil
      go_simp
      refine (inverse_k _ HV7.out).mono ?_
      rintro e wc ⟨h98, rfl, hv, hb⟩
      replace H := Lib.hid (H.out.call hb)
      have HV98 := Lib.hid hv
      refine hK.out _ _ (⟨H.out.row 1 rfl, H.out.row 6 rfl, H.out.row 5 rfl, H.out.row 0 rfl⟩) (fun hN => ?_)
      clear hK K hH hb hv
      have hH := hN
      clear hN
      try simp only [Act.put, List.setIfInBounds_toArray, List.set_cons_zero, List.set_cons_succ]
      refine wpAnyH_ready (rs := [14]) (by kernel_rfl) (by simp) ?_
      refine AllReadyH.cons (o := _) rfl (fun K hK => ?_) AllReadyH.nil
      go_simp
      refine (equal_kt _ (HT.out.below H.out.bel) HV98.out HV1.out (inv_inv prime_pN pN_two a)).mono ?_
      rintro e wc ⟨rfl, hb⟩
      replace H := Lib.hid (H.out.call hb)
      refine hK.out _ _ (⟨H.out.row 1 rfl, H.out.row 6 rfl, H.out.row 5 rfl, H.out.row 0 rfl⟩) (fun hN => ?_)
      clear hK K hH hb
      have hH := hN
      clear hN
      try simp only [Act.put, List.setIfInBounds_toArray, List.set_cons_zero, List.set_cons_succ]
      refine held_value 15 101 (.bool true) rfl rfl (by kernel_rfl) (by kernel_rfl) (by kernel_rfl) rfl hH (fun w hw => by go_simp) ?_
      try simp only [Act.put, List.setIfInBounds_toArray, List.set_cons_zero, List.set_cons_succ]
      refine held_value 16 102 (.bool true) rfl rfl (by kernel_rfl) (by kernel_rfl) (by kernel_rfl) rfl hH (fun w hw => by go_simp) ?_
      try simp only [Act.put, List.setIfInBounds_toArray, List.set_cons_zero, List.set_cons_succ]
      refine held_row 17 103 rowE rfl rfl (by kernel_rfl) (by kernel_rfl) (by kernel_rfl) rfl hH rfl rfl (fun _ h => h.2.1) ?_
      try simp only [Act.put, List.setIfInBounds_toArray, List.set_cons_zero, List.set_cons_succ]
      refine held_row 18 104 rowE rfl rfl (by kernel_rfl) (by kernel_rfl) (by kernel_rfl) rfl hH rfl rfl (fun _ h => h.2.2.1) ?_
      try simp only [Act.put, List.setIfInBounds_toArray, List.set_cons_zero, List.set_cons_succ]
      refine held_row 21 107 rowE rfl rfl (by kernel_rfl) (by kernel_rfl) (by kernel_rfl) rfl hH rfl rfl (fun _ h => h.2.2.2) ?_
      try simp only [Act.put, List.setIfInBounds_toArray, List.set_cons_zero, List.set_cons_succ]
      refine held_row 22 108 rowE rfl rfl (by kernel_rfl) (by kernel_rfl) (by kernel_rfl) rfl hH rfl rfl (fun _ h => h.2.2.1) ?_
      try simp only [Act.put, List.setIfInBounds_toArray, List.set_cons_zero, List.set_cons_succ]
      refine wpAnyH_ready (rs := [19]) (by kernel_rfl) (by simp) ?_
      refine AllReadyH.cons (o := _) rfl (fun K hK => ?_) AllReadyH.nil
      go_simp
      refine (mul_k _ HV1.out HV2.out).mono ?_
      rintro e wc ⟨h105, rfl, hv, hb⟩
      replace H := Lib.hid (H.out.call hb)
      have HV105 := Lib.hid hv
      refine hK.out _ _ (⟨H.out.row 1 rfl, H.out.row 6 rfl, H.out.row 5 rfl, H.out.row 0 rfl⟩) (fun hN => ?_)
      clear hK K hH hb hv
      have hH := hN
      clear hN
      try simp only [Act.put, List.setIfInBounds_toArray, List.set_cons_zero, List.set_cons_succ]
      refine wpAnyH_ready (rs := [20]) (by kernel_rfl) (by simp) ?_
      refine AllReadyH.cons (o := _) rfl (fun K hK => ?_) AllReadyH.nil
      go_simp
      refine (inverse_k _ HV105.out).mono ?_
      rintro e wc ⟨h106, rfl, hv, hb⟩
      replace H := Lib.hid (H.out.call hb)
      have HV106 := Lib.hid hv
      refine hK.out _ _ (⟨H.out.row 1 rfl, H.out.row 6 rfl, H.out.row 5 rfl, H.out.row 0 rfl⟩) (fun hN => ?_)
      clear hK K hH hb hv
      have hH := hN
      clear hN
      try simp only [Act.put, List.setIfInBounds_toArray, List.set_cons_zero, List.set_cons_succ]
      refine wpAnyH_ready (rs := [23]) (by kernel_rfl) (by simp) ?_
      refine AllReadyH.cons (o := _) rfl (fun K hK => ?_) AllReadyH.nil
      go_simp
      refine (inverse_k _ HV2.out).mono ?_
      rintro e wc ⟨h109, rfl, hv, hb⟩
      replace H := Lib.hid (H.out.call hb)
      have HV109 := Lib.hid hv
      refine hK.out _ _ (⟨H.out.row 1 rfl, H.out.row 6 rfl, H.out.row 5 rfl, H.out.row 0 rfl⟩) (fun hN => ?_)
      clear hK K hH hb hv
      have hH := hN
      clear hN
      try simp only [Act.put, List.setIfInBounds_toArray, List.set_cons_zero, List.set_cons_succ]
      refine wpAnyH_ready (rs := [24]) (by kernel_rfl) (by simp) ?_
      refine AllReadyH.cons (o := _) rfl (fun K hK => ?_) AllReadyH.nil
      go_simp
      refine (mul_k _ HV7.out HV109.out).mono ?_
      rintro e wc ⟨h110, rfl, hv, hb⟩
      replace H := Lib.hid (H.out.call hb)
      have HV110 := Lib.hid hv
      refine hK.out _ _ (⟨H.out.row 1 rfl, H.out.row 6 rfl, H.out.row 5 rfl, H.out.row 0 rfl⟩) (fun hN => ?_)
      clear hK K hH hb hv
      have hH := hN
      clear hN
      try simp only [Act.put, List.setIfInBounds_toArray, List.set_cons_zero, List.set_cons_succ]
      refine wpAnyH_ready (rs := [25]) (by kernel_rfl) (by simp) ?_
      refine AllReadyH.cons (o := _) rfl (fun K hK => ?_) AllReadyH.nil
      go_simp
      refine (equal_kt _ (HT.out.below H.out.bel) HV106.out HV110.out (inv_prod a b)).mono ?_
      rintro e wc ⟨rfl, hb⟩
      replace H := Lib.hid (H.out.call hb)
      refine hK.out _ _ (⟨H.out.row 1 rfl, H.out.row 6 rfl, H.out.row 5 rfl, H.out.row 0 rfl⟩) (fun hN => ?_)
      clear hK K hH hb
      have hH := hN
      clear hN
      try simp only [Act.put, List.setIfInBounds_toArray, List.set_cons_zero, List.set_cons_succ]
      refine held_value 26 112 (.bool true) rfl rfl (by kernel_rfl) (by kernel_rfl) (by kernel_rfl) rfl hH (fun w hw => by go_simp) ?_
      try simp only [Act.put, List.setIfInBounds_toArray, List.set_cons_zero, List.set_cons_succ]
      refine held_value 27 113 (.bool true) rfl rfl (by kernel_rfl) (by kernel_rfl) (by kernel_rfl) rfl hH (fun w hw => by go_simp) ?_
      try simp only [Act.put, List.setIfInBounds_toArray, List.set_cons_zero, List.set_cons_succ]
      refine wpAnyH_ready (rs := [28]) (by kernel_rfl) (by simp) ?_
      refine AllReadyH.cons (o := _) rfl (fun K hK => ?_) AllReadyH.nil
      go_simp
      refine (awake5 _ (HT.out.below H.out.bel)).mono ?_
      rintro e wc ⟨rfl, hb⟩
      replace H := Lib.hid (H.out.call hb)
      refine hK.out _ _ (⟨H.out.row 1 rfl, H.out.row 6 rfl, H.out.row 5 rfl, H.out.row 0 rfl⟩) (fun hN => ?_)
      clear hK K hH hb
      have hH := hN
      clear hN
      try simp only [Act.put, List.setIfInBounds_toArray, List.set_cons_zero, List.set_cons_succ]
      refine held_value 29 115 (.bool true) rfl rfl (by kernel_rfl) (by kernel_rfl) (by kernel_rfl) rfl hH (fun w hw => by go_simp) ?_
      try simp only [Act.put, List.setIfInBounds_toArray, List.set_cons_zero, List.set_cons_succ]
      refine held_value 30 6 (.bool true) rfl rfl (by kernel_rfl) (by kernel_rfl) (by kernel_rfl) rfl hH (fun w hw => by go_simp) ?_
      try simp only [Act.put, List.setIfInBounds_toArray, List.set_cons_zero, List.set_cons_succ]
      try simp only [Act.put]
      refine wpAnyH_done (by kernel_rfl) ?_ _
      refine NoPanic.normal ?_
      clear hH
      go_wp2_with fail
      go_ret
      exact ⟨rfl, H.out.bel⟩
end Go.Proofs.YtgcdahcmfniceaaDoor
