/-
  The walk of CodingEach, in one case. No statement is proved here: lemmas for the walks.
-/
import Derived.Test.YtanfobboeehiaaaDoorBuM
import Derived.Deep.CutRange
namespace Go.Proofs.YtanfobboeehiaaaDoor
open Go.RowKit

set_option maxRecDepth 20000 in
set_option maxHeartbeats 12800000 in
theorem each_walk_none {x n0 n64 n128 n129 : Nat} {y : K} (w : World) (hT : Tp w) (hx : x < 2 ^ (8 * 56)) (e0 : jn 56 0 x = n0) (e128 : jn 56 128 x = n128) (e64 : jn 56 64 x = n64) (e129 : jn 56 129 x = n129) (hi : cdIs y = false) (x0 : ∀ P, n0 ≠ cdN P) (x128 : ∀ P, n128 ≠ cdN P) (x64 : ∀ P, n64 ≠ cdN P) (x129 : ∀ P, n129 ≠ cdN P)
    (hD : ∀ (w : World) (a : Option Addr) (c : Nat), Sl w w.heap.size a 56 c (bt x) → Calls Tryd.prog 21 #[.slice a 56 c] w fun e w' => ∃ g, e = .returned (.tuple #[EV g, .int .i64 0]) ∧ EK g y ∧ Below w.heap.size w w') :
    Calls Tryd.prog 7 #[.agg (AZ .u8 56 (UB (bt x)))] w fun e w' => e = .returned (.bool true) ∧ Below w.heap.size w w' := by
  have H0 : Hid (∀ j, 56 ≤ j → bt x j = 0) := Lib.hid fun j hj => bt_over hx hj
  have HX := Lib.hid hx
  have N0 := Lib.hid e0
  have N128 := Lib.hid e128
  have N64 := Lib.hid e64
  have N129 := Lib.hid e129
  have X0 := Lib.hid x0
  have X128 := Lib.hid x128
  have X64 := Lib.hid x64
  have X129 := Lib.hid x129
  have HD := Lib.hid hD
  clear hx e0 e128 e64 e129 x0 x128 x64 x129 hD
  have HI := Lib.hid hi
  clear hi
  have HT := Lib.hid hT
  clear hT
  have H := Lib.hid (Ow.start w)
  go_enter Tryd.func7, Tryd.ntmps7
  go_upto_region 13 with (first
    | ((fail_if_success have := g1); (with_reducible apply own_box H); (case hgd => exact rfl); (case ho => exact rfl); (case hx => exact rfl); intro w1 g1 H' _ _; replace H := H'; clear H'; go_simp)
    | ((fail_if_success have := g3); (with_reducible apply own_new H); (case hgd => exact rfl); (case ho => exact rfl); (case hs => exact rfl); (case hx => exact rfl); (case hS => exact rawSl (H.out.row 0 rfl)); (case h0 => exact H0.out); (case hn => omega); (case hl => omega); intro w3 g3 c3 LC H' _ _; replace H := H'; clear H'; have F := Lib.hid (fun j (_ : j < 56) => (rfl : bt x j = bt x j)); go_simp)
    | ((fail_if_success have := D0); (with_reducible apply own_put1 (M := 57) 0#8 H); (case hgd => exact rfl); (case ho => exact rfl); (case hs => exact rfl); (case hy => exact rfl); (case hi => first | exact at0 | exact at1 | exact at2 | exact at3 | exact at4 | exact at5 | exact at6 | exact at7 | exact at8 | exact at9); (case hz => exact rfl); (case hf => exact F.out); (case hc => exact LC.out); (case hx => exact HX.out); (case hn => omega); (case hM => exact rfl); (case hN => exact N0.out); intro wp fr ar kr hf2 H' hs2 _ _; replace F := hf2; replace H := H'; clear H' hf2; have D0 := trivial; have SB := hs2; clear hs2; simp only [List.set_cons_zero] at H; go_simp)
    | ((fail_if_success have := D128); (with_reducible apply own_put1 (M := 57) 128#8 H); (case hgd => exact rfl); (case ho => exact rfl); (case hs => exact rfl); (case hy => exact rfl); (case hi => first | exact at0 | exact at1 | exact at2 | exact at3 | exact at4 | exact at5 | exact at6 | exact at7 | exact at8 | exact at9); (case hz => exact rfl); (case hf => exact F.out); (case hc => exact LC.out); (case hx => exact HX.out); (case hn => omega); (case hM => exact rfl); (case hN => exact N128.out); intro wp fr ar kr hf2 H' hs2 _ _; replace F := hf2; replace H := H'; clear H' hf2; have D128 := trivial; have SB := hs2; clear hs2; simp only [List.set_cons_zero, List.set_cons_succ] at H; go_simp)
    | ((fail_if_success have := D64); (with_reducible apply own_put1 (M := 57) 64#8 H); (case hgd => exact rfl); (case ho => exact rfl); (case hs => exact rfl); (case hy => exact rfl); (case hi => first | exact at0 | exact at1 | exact at2 | exact at3 | exact at4 | exact at5 | exact at6 | exact at7 | exact at8 | exact at9); (case hz => exact rfl); (case hf => exact F.out); (case hc => exact LC.out); (case hx => exact HX.out); (case hn => omega); (case hM => exact rfl); (case hN => exact N64.out); intro wp fr ar kr hf2 H' hs2 _ _; replace F := hf2; replace H := H'; clear H' hf2; have D64 := trivial; have SB := hs2; clear hs2; simp only [List.set_cons_zero, List.set_cons_succ] at H; go_simp)
    | ((fail_if_success have := D129); (with_reducible apply own_put1 (M := 57) 129#8 H); (case hgd => exact rfl); (case ho => exact rfl); (case hs => exact rfl); (case hy => exact rfl); (case hi => first | exact at0 | exact at1 | exact at2 | exact at3 | exact at4 | exact at5 | exact at6 | exact at7 | exact at8 | exact at9); (case hz => exact rfl); (case hf => exact F.out); (case hc => exact LC.out); (case hx => exact HX.out); (case hn => omega); (case hM => exact rfl); (case hN => exact N129.out); intro wp fr ar kr hf2 H' hs2 _ _; replace F := hf2; replace H := H'; clear H' hf2; have D129 := trivial; have SB := hs2; clear hs2; simp only [List.set_cons_zero, List.set_cons_succ] at H; go_simp)
    | ((with_reducible refine (decode_off _ (HT.out.below H.out.bel) SB.out X0.out).mono ?_); rintro e wc ⟨rfl, hb⟩; replace H := Lib.hid (H.out.call hb); clear hb SB)
    | ((with_reducible refine (decode_off _ (HT.out.below H.out.bel) SB.out X128.out).mono ?_); rintro e wc ⟨rfl, hb⟩; replace H := Lib.hid (H.out.call hb); clear hb SB)
    | ((with_reducible refine (decode_off _ (HT.out.below H.out.bel) SB.out X64.out).mono ?_); rintro e wc ⟨rfl, hb⟩; replace H := Lib.hid (H.out.call hb); clear hb SB)
    | ((with_reducible refine (decode_off _ (HT.out.below H.out.bel) SB.out X129.out).mono ?_); rintro e wc ⟨rfl, hb⟩; replace H := Lib.hid (H.out.call hb); clear hb SB)
    | ((fail_if_success have := g4); (fail_if_success have := g4); (with_reducible apply own_alloc nilPt H); (case hgd => exact rfl); (case ho => exact rfl); intro w4 g4 H' _ _; replace H := H'; clear H'; go_simp)
    | ((fail_if_success have := g6); (fail_if_success have := g6); (with_reducible apply own_alloc nilPt H); (case hgd => exact rfl); (case ho => exact rfl); intro w6 g6 H' _ _; replace H := H'; clear H'; go_simp)
    | ((fail_if_success have := g8); (fail_if_success have := g8); (with_reducible apply own_alloc nilPt H); (case hgd => exact rfl); (case ho => exact rfl); intro w8 g8 H' _ _; replace H := H'; clear H'; go_simp)
    | ((fail_if_success have := g10); (fail_if_success have := g10); (with_reducible apply own_alloc nilPt H); (case hgd => exact rfl); (case ho => exact rfl); intro w10 g10 H' _ _; replace H := H'; clear H'; go_simp)
    | ((with_reducible apply own_store rowPt H); (case hgd => exact rfl); (case ho => exact rfl); (case hx => exact rfl); (case hy => exact rfl); (case hi => first | exact at0 | exact at1 | exact at2 | exact at3 | exact at4 | exact at5 | exact at6 | exact at7 | exact at8 | exact at9); intro ws H' _ _; replace H := H'; clear H'; simp only [List.set_cons_zero] at H; go_simp)
    | ((fail_if_success have := VY); (with_reducible refine (HD.out _ _ _ (half_sl (H.out.row 4 rfl) LC.out F.out)).mono ?_); rintro e wc ⟨fy, rfl, hv, hb⟩; replace H := Lib.hid (H.out.call hb); have VY := Lib.hid hv; clear hb hv)
    | ((fail_if_success have := g12); (fail_if_success have := g12); (with_reducible apply own_alloc nilE H); (case hgd => exact rfl); (case ho => exact rfl); intro w12 g12 H' _ _; replace H := H'; clear H'; go_simp)
    | ((with_reducible apply own_store rowE H); (case hgd => exact rfl); (case ho => exact rfl); (case hx => exact rfl); (case hy => exact rfl); (case hi => first | exact at0 | exact at1 | exact at2 | exact at3 | exact at4 | exact at5 | exact at6 | exact at7 | exact at8 | exact at9); intro ws H' _ _; replace H := H'; clear H'; simp only [List.set_cons_zero] at H; go_simp)
    | ((with_reducible apply own_load rowE H); (case hgd => exact rfl); (case ho => exact rfl); (case hx => exact rfl); (case hi => first | exact at0 | exact at1 | exact at2 | exact at3 | exact at4 | exact at5 | exact at6 | exact at7 | exact at8 | exact at9); intro _ _; go_simp)
    | ((fail_if_success have := VS); (with_reducible refine (square_k _ VY.out).mono ?_); rintro e wc ⟨hs, rfl, hv, hb⟩; replace H := Lib.hid (H.out.call hb); clear hb; have VS := Lib.hid hv; clear hv)
    | ((fail_if_success have := g14); (fail_if_success have := g14); (with_reducible apply own_alloc nilE H); (case hgd => exact rfl); (case ho => exact rfl); intro w14 g14 H' _ _; replace H := H'; clear H'; go_simp))
  have EU : Hid (y * y - ofZ 1 = cdU y) := Lib.hid (by rw [ofZ_one]; rfl)
  have EW : Hid (y * y * ofZ (-39081) - ofZ 1 = cdV y) := Lib.hid (by rw [ofZ_one, dK_ofZ, Fin.mul_comm _ dK]; rfl)
  clear N0 N128 N64 N129 X0 X128 X64 X129 H0
  go_cut [15, 16] from 74 to 84 (fun v15 v16 wx => ∃ g15 h82, v15 = .pointer (some ⟨g15, 0, none⟩) ∧ v16 = .bool false ∧ EK h82 (ab (cdQ y)) ∧ Ow w wx [(g15, Blk 28 .u64 8 (NZ h82)), (g14, Blk 28 .u64 8 (NZ hs)), (g12, Blk 28 .u64 8 (NZ fy)), (g10, Blk 30 .u64 24 fun _ => 0), (g8, Blk 30 .u64 24 fun _ => 0), (g6, Blk 30 .u64 24 fun _ => 0), (g4, Blk 30 .u64 24 fun _ => 0), (g3, YB c3 fr), (g1, Blk 58 .u8 56 (UB (bt x)))])
  case first =>
    go_wp2_with fail
    refine wp_region_noPanic ?_
    refine wp_region_held_drew (S := fun W => W.heap[g14]? = some (Blk 28 .u64 8 (NZ hs))) (by kernel_rfl) (H.out.drew.row 0 rfl) (fun hH => ?_)
    replace H := Lib.hid H.out.drew
    generalize World.drew _ = w8 at *
    refine held_row 0 75 rowE rfl rfl (by kernel_rfl) (by kernel_rfl) (by kernel_rfl) rfl hH rfl rfl (fun _ h => h) ?_
    try simp only [Act.put, List.setIfInBounds_toArray, List.set_cons_zero, List.set_cons_succ]
    refine held_row 3 78 rowE rfl rfl (by kernel_rfl) (by kernel_rfl) (by kernel_rfl) rfl hH rfl rfl (fun _ h => h) ?_
    try simp only [Act.put, List.setIfInBounds_toArray, List.set_cons_zero, List.set_cons_succ]
    refine wpAnyH_ready (rs := [1, 11]) (by kernel_rfl) (by simp) ?_
    refine AllReadyH.cons (o := _) rfl (fun K hK => ?_) (AllReadyH.cons (o := _) rfl (fun K hK => ?_) AllReadyH.nil)
    · skip
      go_simp
      refine (int_k (1) _ (HT.out.below H.out.bel) (by omega) (by omega)).mono ?_
      rintro e wc ⟨h76, rfl, hv, hb⟩
      replace H := Lib.hid (H.out.call hb)
      have HV76 := Lib.hid hv
      refine hK.out _ _ (H.out.row 0 rfl) (fun hN => ?_)
      clear hK K hH hb hv
      have hH := hN
      clear hN
      try simp only [Act.put, List.setIfInBounds_toArray, List.set_cons_zero, List.set_cons_succ]
      refine wpAnyH_ready (rs := [2, 11]) (by kernel_rfl) (by simp) ?_
      refine AllReadyH.cons (o := _) rfl (fun K hK => ?_) (AllReadyH.cons (o := _) rfl (fun K hK => ?_) AllReadyH.nil)
      · skip
        go_simp
        refine (sub_k _ (HT.out.below H.out.bel) VS.out HV76.out).mono ?_
        rintro e wc ⟨h77, rfl, hv, hb⟩
        replace H := Lib.hid (H.out.call hb)
        have HV77 := Lib.hid hv
        refine hK.out _ _ (H.out.row 0 rfl) (fun hN => ?_)
        clear hK K hH hb hv
        have hH := hN
        clear hN
        try simp only [Act.put, List.setIfInBounds_toArray, List.set_cons_zero, List.set_cons_succ]
        refine wpAnyH_ready (rs := [4, 11]) (by kernel_rfl) (by simp) ?_
        refine AllReadyH.cons (o := _) rfl (fun K hK => ?_) (AllReadyH.cons (o := _) rfl (fun K hK => ?_) AllReadyH.nil)
        · skip
          go_simp
          refine (times_k (-39081) _ (HT.out.below H.out.bel) VS.out (by omega) (by omega)).mono ?_
          rintro e wc ⟨h79, rfl, hv, hb⟩
          replace H := Lib.hid (H.out.call hb)
          have HV79 := Lib.hid hv
          refine hK.out _ _ (H.out.row 0 rfl) (fun hN => ?_)
          clear hK K hH hb hv
          have hH := hN
          clear hN
          try simp only [Act.put, List.setIfInBounds_toArray, List.set_cons_zero, List.set_cons_succ]
          refine wpAnyH_ready (rs := [5, 11]) (by kernel_rfl) (by simp) ?_
          refine AllReadyH.cons (o := _) rfl (fun K hK => ?_) (AllReadyH.cons (o := _) rfl (fun K hK => ?_) AllReadyH.nil)
          · skip
            go_simp
            refine (int_k (1) _ (HT.out.below H.out.bel) (by omega) (by omega)).mono ?_
            rintro e wc ⟨h80, rfl, hv, hb⟩
            replace H := Lib.hid (H.out.call hb)
            have HV80 := Lib.hid hv
            refine hK.out _ _ (H.out.row 0 rfl) (fun hN => ?_)
            clear hK K hH hb hv
            have hH := hN
            clear hN
            try simp only [Act.put, List.setIfInBounds_toArray, List.set_cons_zero, List.set_cons_succ]
            refine wpAnyH_ready (rs := [6, 11]) (by kernel_rfl) (by simp) ?_
            refine AllReadyH.cons (o := _) rfl (fun K hK => ?_) (AllReadyH.cons (o := _) rfl (fun K hK => ?_) AllReadyH.nil)
            · skip
              go_simp
              refine (sub_k _ (HT.out.below H.out.bel) HV79.out HV80.out).mono ?_
              rintro e wc ⟨h81, rfl, hv, hb⟩
              replace H := Lib.hid (H.out.call hb)
              have HV81 := Lib.hid hv
              refine hK.out _ _ (H.out.row 0 rfl) (fun hN => ?_)
              clear hK K hH hb hv
              have hH := hN
              clear hN
              try simp only [Act.put, List.setIfInBounds_toArray, List.set_cons_zero, List.set_cons_succ]
              refine wpAnyH_ready (rs := [7, 11]) (by kernel_rfl) (by simp) ?_
              refine AllReadyH.cons (o := _) rfl (fun K hK => ?_) (AllReadyH.cons (o := _) rfl (fun K hK => ?_) AllReadyH.nil)
              · skip
                go_simp
                refine (ratio_d _ (HT.out.below H.out.bel) (HV77.out.eq EU.out) (HV81.out.eq EW.out) HI.out).mono ?_
                rintro e wc ⟨h82, rfl, hv, hb⟩
                replace H := Lib.hid (H.out.call hb)
                have HV82 := Lib.hid hv
                refine hK.out _ _ (H.out.row 0 rfl) (fun hN => ?_)
                clear hK K hH hb hv
                have hH := hN
                clear hN
                try simp only [Act.put, List.setIfInBounds_toArray, List.set_cons_zero, List.set_cons_succ]
                refine held_value 8 74 (.tuple #[EV h82, .bool false]) rfl rfl (by kernel_rfl) (by kernel_rfl) (by kernel_rfl) rfl hH (fun w hw => by go_simp) ?_
                try simp only [Act.put, List.setIfInBounds_toArray, List.set_cons_zero, List.set_cons_succ]
                refine held_value 9 83 (EV h82) rfl rfl (by kernel_rfl) (by kernel_rfl) (by kernel_rfl) rfl hH (fun w hw => by go_simp) ?_
                try simp only [Act.put, List.setIfInBounds_toArray, List.set_cons_zero, List.set_cons_succ]
                refine held_value 10 84 (.bool false) rfl rfl (by kernel_rfl) (by kernel_rfl) (by kernel_rfl) rfl hH (fun w hw => by go_simp) ?_
                try simp only [Act.put, List.setIfInBounds_toArray, List.set_cons_zero, List.set_cons_succ]
                refine wpAnyH_ready (rs := [11]) (by kernel_rfl) (by simp) ?_
                refine AllReadyH.cons (o := _) rfl (fun K hK => ?_) AllReadyH.nil
                refine own_wp_allocB 15 rfl nilE H.out rfl ?_
                intro w15 g15 H3 hb
                replace H := Lib.hid H3
                refine hK.out _ _ (H.out.row 1 rfl) (fun hN => ?_)
                clear hK K hH H3 hb
                have hH := hN
                clear hN
                try simp only [Act.put, List.setIfInBounds_toArray, List.set_cons_zero, List.set_cons_succ]
                refine wpAnyH_ready (rs := [12]) (by kernel_rfl) (by simp) ?_
                refine AllReadyH.cons (o := _) rfl (fun K hK => ?_) AllReadyH.nil
                refine own_wp_store 0 rowE H.out rfl rfl rfl rfl ?_
                intro ws HS
                simp only [List.set_cons_zero] at HS
                replace H := Lib.hid HS
                refine hK.out _ _ (H.out.row 1 rfl) (fun hN => ?_)
                clear hK K HS hH
                have hH := hN
                clear hN
                try simp only [Act.put, List.setIfInBounds_toArray]
                refine held_value 13 16 (.bool false) rfl rfl (by kernel_rfl) (by kernel_rfl) (by kernel_rfl) rfl hH (fun w hw => by go_simp) ?_
                try simp only [Act.put]
                try simp only [Act.put]
                refine wpAnyH_done (by kernel_rfl) ?_ _
                refine NoPanic.normal ?_
                clear hH
                clear EU EW HI
                go_wp2_with fail
                go_meet
                exact ⟨g15, h82, rfl, rfl, HV82.out, H.out⟩
              · skip
                refine own_wp_allocB 15 rfl nilE H.out rfl ?_
                intro w15 g15 H3 hb
                replace H := Lib.hid H3
                refine hK.out _ _ (H.out.row 1 rfl) (fun hN => ?_)
                clear hK K hH H3 hb
                have hH := hN
                clear hN
                try simp only [Act.put, List.setIfInBounds_toArray, List.set_cons_zero, List.set_cons_succ]
                refine wpAnyH_ready (rs := [7]) (by kernel_rfl) (by simp) ?_
                refine AllReadyH.cons (o := _) rfl (fun K hK => ?_) AllReadyH.nil
                go_simp
                refine (ratio_d _ (HT.out.below H.out.bel) (HV77.out.eq EU.out) (HV81.out.eq EW.out) HI.out).mono ?_
                rintro e wc ⟨h82, rfl, hv, hb⟩
                replace H := Lib.hid (H.out.call hb)
                have HV82 := Lib.hid hv
                refine hK.out _ _ (H.out.row 1 rfl) (fun hN => ?_)
                clear hK K hH hb hv
                have hH := hN
                clear hN
                try simp only [Act.put, List.setIfInBounds_toArray, List.set_cons_zero, List.set_cons_succ]
                refine held_value 8 74 (.tuple #[EV h82, .bool false]) rfl rfl (by kernel_rfl) (by kernel_rfl) (by kernel_rfl) rfl hH (fun w hw => by go_simp) ?_
                try simp only [Act.put, List.setIfInBounds_toArray, List.set_cons_zero, List.set_cons_succ]
                refine held_value 9 83 (EV h82) rfl rfl (by kernel_rfl) (by kernel_rfl) (by kernel_rfl) rfl hH (fun w hw => by go_simp) ?_
                try simp only [Act.put, List.setIfInBounds_toArray, List.set_cons_zero, List.set_cons_succ]
                refine held_value 10 84 (.bool false) rfl rfl (by kernel_rfl) (by kernel_rfl) (by kernel_rfl) rfl hH (fun w hw => by go_simp) ?_
                try simp only [Act.put, List.setIfInBounds_toArray, List.set_cons_zero, List.set_cons_succ]
                refine wpAnyH_ready (rs := [12]) (by kernel_rfl) (by simp) ?_
                refine AllReadyH.cons (o := _) rfl (fun K hK => ?_) AllReadyH.nil
                refine own_wp_store 0 rowE H.out rfl rfl rfl rfl ?_
                intro ws HS
                simp only [List.set_cons_zero] at HS
                replace H := Lib.hid HS
                refine hK.out _ _ (H.out.row 1 rfl) (fun hN => ?_)
                clear hK K HS hH
                have hH := hN
                clear hN
                try simp only [Act.put, List.setIfInBounds_toArray]
                refine held_value 13 16 (.bool false) rfl rfl (by kernel_rfl) (by kernel_rfl) (by kernel_rfl) rfl hH (fun w hw => by go_simp) ?_
                try simp only [Act.put]
                try simp only [Act.put]
                refine wpAnyH_done (by kernel_rfl) ?_ _
                refine NoPanic.normal ?_
                clear hH
                clear EU EW HI
                go_wp2_with fail
                go_meet
                exact ⟨g15, h82, rfl, rfl, HV82.out, H.out⟩
            · skip
              refine own_wp_allocB 15 rfl nilE H.out rfl ?_
              intro w15 g15 H3 hb
              replace H := Lib.hid H3
              refine hK.out _ _ (H.out.row 1 rfl) (fun hN => ?_)
              clear hK K hH H3 hb
              have hH := hN
              clear hN
              try simp only [Act.put, List.setIfInBounds_toArray, List.set_cons_zero, List.set_cons_succ]
              refine wpAnyH_ready (rs := [6]) (by kernel_rfl) (by simp) ?_
              refine AllReadyH.cons (o := _) rfl (fun K hK => ?_) AllReadyH.nil
              go_simp
              refine (sub_k _ (HT.out.below H.out.bel) HV79.out HV80.out).mono ?_
              rintro e wc ⟨h81, rfl, hv, hb⟩
              replace H := Lib.hid (H.out.call hb)
              have HV81 := Lib.hid hv
              refine hK.out _ _ (H.out.row 1 rfl) (fun hN => ?_)
              clear hK K hH hb hv
              have hH := hN
              clear hN
              try simp only [Act.put, List.setIfInBounds_toArray, List.set_cons_zero, List.set_cons_succ]
              refine wpAnyH_ready (rs := [7]) (by kernel_rfl) (by simp) ?_
              refine AllReadyH.cons (o := _) rfl (fun K hK => ?_) AllReadyH.nil
              go_simp
              refine (ratio_d _ (HT.out.below H.out.bel) (HV77.out.eq EU.out) (HV81.out.eq EW.out) HI.out).mono ?_
              rintro e wc ⟨h82, rfl, hv, hb⟩
              replace H := Lib.hid (H.out.call hb)
              have HV82 := Lib.hid hv
              refine hK.out _ _ (H.out.row 1 rfl) (fun hN => ?_)
              clear hK K hH hb hv
              have hH := hN
              clear hN
              try simp only [Act.put, List.setIfInBounds_toArray, List.set_cons_zero, List.set_cons_succ]
              refine held_value 8 74 (.tuple #[EV h82, .bool false]) rfl rfl (by kernel_rfl) (by kernel_rfl) (by kernel_rfl) rfl hH (fun w hw => by go_simp) ?_
              try simp only [Act.put, List.setIfInBounds_toArray, List.set_cons_zero, List.set_cons_succ]
              refine held_value 9 83 (EV h82) rfl rfl (by kernel_rfl) (by kernel_rfl) (by kernel_rfl) rfl hH (fun w hw => by go_simp) ?_
              try simp only [Act.put, List.setIfInBounds_toArray, List.set_cons_zero, List.set_cons_succ]
              refine held_value 10 84 (.bool false) rfl rfl (by kernel_rfl) (by kernel_rfl) (by kernel_rfl) rfl hH (fun w hw => by go_simp) ?_
              try simp only [Act.put, List.setIfInBounds_toArray, List.set_cons_zero, List.set_cons_succ]
              refine wpAnyH_ready (rs := [12]) (by kernel_rfl) (by simp) ?_
              refine AllReadyH.cons (o := _) rfl (fun K hK => ?_) AllReadyH.nil
              refine own_wp_store 0 rowE H.out rfl rfl rfl rfl ?_
              intro ws HS
              simp only [List.set_cons_zero] at HS
              replace H := Lib.hid HS
              refine hK.out _ _ (H.out.row 1 rfl) (fun hN => ?_)
              clear hK K HS hH
              have hH := hN
              clear hN
              try simp only [Act.put, List.setIfInBounds_toArray]
              refine held_value 13 16 (.bool false) rfl rfl (by kernel_rfl) (by kernel_rfl) (by kernel_rfl) rfl hH (fun w hw => by go_simp) ?_
              try simp only [Act.put]
              try simp only [Act.put]
              refine wpAnyH_done (by kernel_rfl) ?_ _
              refine NoPanic.normal ?_
              clear hH
              clear EU EW HI
              go_wp2_with fail
              go_meet
              exact ⟨g15, h82, rfl, rfl, HV82.out, H.out⟩
          · skip
            refine own_wp_allocB 15 rfl nilE H.out rfl ?_
            intro w15 g15 H3 hb
            replace H := Lib.hid H3
            refine hK.out _ _ (H.out.row 1 rfl) (fun hN => ?_)
            clear hK K hH H3 hb
            have hH := hN
            clear hN
            try simp only [Act.put, List.setIfInBounds_toArray, List.set_cons_zero, List.set_cons_succ]
            refine wpAnyH_ready (rs := [5]) (by kernel_rfl) (by simp) ?_
            refine AllReadyH.cons (o := _) rfl (fun K hK => ?_) AllReadyH.nil
            go_simp
            refine (int_k (1) _ (HT.out.below H.out.bel) (by omega) (by omega)).mono ?_
            rintro e wc ⟨h80, rfl, hv, hb⟩
            replace H := Lib.hid (H.out.call hb)
            have HV80 := Lib.hid hv
            refine hK.out _ _ (H.out.row 1 rfl) (fun hN => ?_)
            clear hK K hH hb hv
            have hH := hN
            clear hN
            try simp only [Act.put, List.setIfInBounds_toArray, List.set_cons_zero, List.set_cons_succ]
            refine wpAnyH_ready (rs := [6]) (by kernel_rfl) (by simp) ?_
            refine AllReadyH.cons (o := _) rfl (fun K hK => ?_) AllReadyH.nil
            go_simp
            refine (sub_k _ (HT.out.below H.out.bel) HV79.out HV80.out).mono ?_
            rintro e wc ⟨h81, rfl, hv, hb⟩
            replace H := Lib.hid (H.out.call hb)
            have HV81 := Lib.hid hv
            refine hK.out _ _ (H.out.row 1 rfl) (fun hN => ?_)
            clear hK K hH hb hv
            have hH := hN
            clear hN
            try simp only [Act.put, List.setIfInBounds_toArray, List.set_cons_zero, List.set_cons_succ]
            refine wpAnyH_ready (rs := [7]) (by kernel_rfl) (by simp) ?_
            refine AllReadyH.cons (o := _) rfl (fun K hK => ?_) AllReadyH.nil
            go_simp
            refine (ratio_d _ (HT.out.below H.out.bel) (HV77.out.eq EU.out) (HV81.out.eq EW.out) HI.out).mono ?_
            rintro e wc ⟨h82, rfl, hv, hb⟩
            replace H := Lib.hid (H.out.call hb)
            have HV82 := Lib.hid hv
            refine hK.out _ _ (H.out.row 1 rfl) (fun hN => ?_)
            clear hK K hH hb hv
            have hH := hN
            clear hN
            try simp only [Act.put, List.setIfInBounds_toArray, List.set_cons_zero, List.set_cons_succ]
            refine held_value 8 74 (.tuple #[EV h82, .bool false]) rfl rfl (by kernel_rfl) (by kernel_rfl) (by kernel_rfl) rfl hH (fun w hw => by go_simp) ?_
            try simp only [Act.put, List.setIfInBounds_toArray, List.set_cons_zero, List.set_cons_succ]
            refine held_value 9 83 (EV h82) rfl rfl (by kernel_rfl) (by kernel_rfl) (by kernel_rfl) rfl hH (fun w hw => by go_simp) ?_
            try simp only [Act.put, List.setIfInBounds_toArray, List.set_cons_zero, List.set_cons_succ]
            refine held_value 10 84 (.bool false) rfl rfl (by kernel_rfl) (by kernel_rfl) (by kernel_rfl) rfl hH (fun w hw => by go_simp) ?_
            try simp only [Act.put, List.setIfInBounds_toArray, List.set_cons_zero, List.set_cons_succ]
            refine wpAnyH_ready (rs := [12]) (by kernel_rfl) (by simp) ?_
            refine AllReadyH.cons (o := _) rfl (fun K hK => ?_) AllReadyH.nil
            refine own_wp_store 0 rowE H.out rfl rfl rfl rfl ?_
            intro ws HS
            simp only [List.set_cons_zero] at HS
            replace H := Lib.hid HS
            refine hK.out _ _ (H.out.row 1 rfl) (fun hN => ?_)
            clear hK K HS hH
            have hH := hN
            clear hN
            try simp only [Act.put, List.setIfInBounds_toArray]
            refine held_value 13 16 (.bool false) rfl rfl (by kernel_rfl) (by kernel_rfl) (by kernel_rfl) rfl hH (fun w hw => by go_simp) ?_
            try simp only [Act.put]
            try simp only [Act.put]
            refine wpAnyH_done (by kernel_rfl) ?_ _
            refine NoPanic.normal ?_
            clear hH
            clear EU EW HI
            go_wp2_with fail
            go_meet
            exact ⟨g15, h82, rfl, rfl, HV82.out, H.out⟩
        · skip
          refine own_wp_allocB 15 rfl nilE H.out rfl ?_
          intro w15 g15 H3 hb
          replace H := Lib.hid H3
          refine hK.out _ _ (H.out.row 1 rfl) (fun hN => ?_)
          clear hK K hH H3 hb
          have hH := hN
          clear hN
          try simp only [Act.put, List.setIfInBounds_toArray, List.set_cons_zero, List.set_cons_succ]
          refine wpAnyH_ready (rs := [4]) (by kernel_rfl) (by simp) ?_
          refine AllReadyH.cons (o := _) rfl (fun K hK => ?_) AllReadyH.nil
          go_simp
          refine (times_k (-39081) _ (HT.out.below H.out.bel) VS.out (by omega) (by omega)).mono ?_
          rintro e wc ⟨h79, rfl, hv, hb⟩
          replace H := Lib.hid (H.out.call hb)
          have HV79 := Lib.hid hv
          refine hK.out _ _ (H.out.row 1 rfl) (fun hN => ?_)
          clear hK K hH hb hv
          have hH := hN
          clear hN
          try simp only [Act.put, List.setIfInBounds_toArray, List.set_cons_zero, List.set_cons_succ]
          refine wpAnyH_ready (rs := [5]) (by kernel_rfl) (by simp) ?_
          refine AllReadyH.cons (o := _) rfl (fun K hK => ?_) AllReadyH.nil
          go_simp
          refine (int_k (1) _ (HT.out.below H.out.bel) (by omega) (by omega)).mono ?_
          rintro e wc ⟨h80, rfl, hv, hb⟩
          replace H := Lib.hid (H.out.call hb)
          have HV80 := Lib.hid hv
          refine hK.out _ _ (H.out.row 1 rfl) (fun hN => ?_)
          clear hK K hH hb hv
          have hH := hN
          clear hN
          try simp only [Act.put, List.setIfInBounds_toArray, List.set_cons_zero, List.set_cons_succ]
          refine wpAnyH_ready (rs := [6]) (by kernel_rfl) (by simp) ?_
          refine AllReadyH.cons (o := _) rfl (fun K hK => ?_) AllReadyH.nil
          go_simp
          refine (sub_k _ (HT.out.below H.out.bel) HV79.out HV80.out).mono ?_
          rintro e wc ⟨h81, rfl, hv, hb⟩
          replace H := Lib.hid (H.out.call hb)
          have HV81 := Lib.hid hv
          refine hK.out _ _ (H.out.row 1 rfl) (fun hN => ?_)
          clear hK K hH hb hv
          have hH := hN
          clear hN
          try simp only [Act.put, List.setIfInBounds_toArray, List.set_cons_zero, List.set_cons_succ]
          refine wpAnyH_ready (rs := [7]) (by kernel_rfl) (by simp) ?_
          refine AllReadyH.cons (o := _) rfl (fun K hK => ?_) AllReadyH.nil
          go_simp
          refine (ratio_d _ (HT.out.below H.out.bel) (HV77.out.eq EU.out) (HV81.out.eq EW.out) HI.out).mono ?_
          rintro e wc ⟨h82, rfl, hv, hb⟩
          replace H := Lib.hid (H.out.call hb)
          have HV82 := Lib.hid hv
          refine hK.out _ _ (H.out.row 1 rfl) (fun hN => ?_)
          clear hK K hH hb hv
          have hH := hN
          clear hN
          try simp only [Act.put, List.setIfInBounds_toArray, List.set_cons_zero, List.set_cons_succ]
          refine held_value 8 74 (.tuple #[EV h82, .bool false]) rfl rfl (by kernel_rfl) (by kernel_rfl) (by kernel_rfl) rfl hH (fun w hw => by go_simp) ?_
          try simp only [Act.put, List.setIfInBounds_toArray, List.set_cons_zero, List.set_cons_succ]
          refine held_value 9 83 (EV h82) rfl rfl (by kernel_rfl) (by kernel_rfl) (by kernel_rfl) rfl hH (fun w hw => by go_simp) ?_
          try simp only [Act.put, List.setIfInBounds_toArray, List.set_cons_zero, List.set_cons_succ]
          refine held_value 10 84 (.bool false) rfl rfl (by kernel_rfl) (by kernel_rfl) (by kernel_rfl) rfl hH (fun w hw => by go_simp) ?_
          try simp only [Act.put, List.setIfInBounds_toArray, List.set_cons_zero, List.set_cons_succ]
          refine wpAnyH_ready (rs := [12]) (by kernel_rfl) (by simp) ?_
          refine AllReadyH.cons (o := _) rfl (fun K hK => ?_) AllReadyH.nil
          refine own_wp_store 0 rowE H.out rfl rfl rfl rfl ?_
          intro ws HS
          simp only [List.set_cons_zero] at HS
          replace H := Lib.hid HS
          refine hK.out _ _ (H.out.row 1 rfl) (fun hN => ?_)
          clear hK K HS hH
          have hH := hN
          clear hN
          try simp only [Act.put, List.setIfInBounds_toArray]
          refine held_value 13 16 (.bool false) rfl rfl (by kernel_rfl) (by kernel_rfl) (by kernel_rfl) rfl hH (fun w hw => by go_simp) ?_
          try simp only [Act.put]
          try simp only [Act.put]
          refine wpAnyH_done (by kernel_rfl) ?_ _
          refine NoPanic.normal ?_
          clear hH
          clear EU EW HI
          go_wp2_with fail
          go_meet
          exact ⟨g15, h82, rfl, rfl, HV82.out, H.out⟩
      · skip
        refine own_wp_allocB 15 rfl nilE H.out rfl ?_
        intro w15 g15 H3 hb
        replace H := Lib.hid H3
        refine hK.out _ _ (H.out.row 1 rfl) (fun hN => ?_)
        clear hK K hH H3 hb
        have hH := hN
        clear hN
        try simp only [Act.put, List.setIfInBounds_toArray, List.set_cons_zero, List.set_cons_succ]
        refine wpAnyH_ready (rs := [2]) (by kernel_rfl) (by simp) ?_
        refine AllReadyH.cons (o := _) rfl (fun K hK => ?_) AllReadyH.nil
        go_simp
        refine (sub_k _ (HT.out.below H.out.bel) VS.out HV76.out).mono ?_
        rintro e wc ⟨h77, rfl, hv, hb⟩
        replace H := Lib.hid (H.out.call hb)
        have HV77 := Lib.hid hv
        refine hK.out _ _ (H.out.row 1 rfl) (fun hN => ?_)
        clear hK K hH hb hv
        have hH := hN
        clear hN
        try simp only [Act.put, List.setIfInBounds_toArray, List.set_cons_zero, List.set_cons_succ]
        refine wpAnyH_ready (rs := [4]) (by kernel_rfl) (by simp) ?_
        refine AllReadyH.cons (o := _) rfl (fun K hK => ?_) AllReadyH.nil
        go_simp
        refine (times_k (-39081) _ (HT.out.below H.out.bel) VS.out (by omega) (by omega)).mono ?_
        rintro e wc ⟨h79, rfl, hv, hb⟩
        replace H := Lib.hid (H.out.call hb)
        have HV79 := Lib.hid hv
        refine hK.out _ _ (H.out.row 1 rfl) (fun hN => ?_)
        clear hK K hH hb hv
        have hH := hN
        clear hN
        try simp only [Act.put, List.setIfInBounds_toArray, List.set_cons_zero, List.set_cons_succ]
        refine wpAnyH_ready (rs := [5]) (by kernel_rfl) (by simp) ?_
        refine AllReadyH.cons (o := _) rfl (fun K hK => ?_) AllReadyH.nil
        go_simp
        refine (int_k (1) _ (HT.out.below H.out.bel) (by omega) (by omega)).mono ?_
        rintro e wc ⟨h80, rfl, hv, hb⟩
        replace H := Lib.hid (H.out.call hb)
        have HV80 := Lib.hid hv
        refine hK.out _ _ (H.out.row 1 rfl) (fun hN => ?_)
        clear hK K hH hb hv
        have hH := hN
        clear hN
        try simp only [Act.put, List.setIfInBounds_toArray, List.set_cons_zero, List.set_cons_succ]
        refine wpAnyH_ready (rs := [6]) (by kernel_rfl) (by simp) ?_
        refine AllReadyH.cons (o := _) rfl (fun K hK => ?_) AllReadyH.nil
        go_simp
        refine (sub_k _ (HT.out.below H.out.bel) HV79.out HV80.out).mono ?_
        rintro e wc ⟨h81, rfl, hv, hb⟩
        replace H := Lib.hid (H.out.call hb)
        have HV81 := Lib.hid hv
        refine hK.out _ _ (H.out.row 1 rfl) (fun hN => ?_)
        clear hK K hH hb hv
        have hH := hN
        clear hN
        try simp only [Act.put, List.setIfInBounds_toArray, List.set_cons_zero, List.set_cons_succ]
        refine wpAnyH_ready (rs := [7]) (by kernel_rfl) (by simp) ?_
        refine AllReadyH.cons (o := _) rfl (fun K hK => ?_) AllReadyH.nil
        go_simp
        refine (ratio_d _ (HT.out.below H.out.bel) (HV77.out.eq EU.out) (HV81.out.eq EW.out) HI.out).mono ?_
        rintro e wc ⟨h82, rfl, hv, hb⟩
        replace H := Lib.hid (H.out.call hb)
        have HV82 := Lib.hid hv
        refine hK.out _ _ (H.out.row 1 rfl) (fun hN => ?_)
        clear hK K hH hb hv
        have hH := hN
        clear hN
        try simp only [Act.put, List.setIfInBounds_toArray, List.set_cons_zero, List.set_cons_succ]
        refine held_value 8 74 (.tuple #[EV h82, .bool false]) rfl rfl (by kernel_rfl) (by kernel_rfl) (by kernel_rfl) rfl hH (fun w hw => by go_simp) ?_
        try simp only [Act.put, List.setIfInBounds_toArray, List.set_cons_zero, List.set_cons_succ]
        refine held_value 9 83 (EV h82) rfl rfl (by kernel_rfl) (by kernel_rfl) (by kernel_rfl) rfl hH (fun w hw => by go_simp) ?_
        try simp only [Act.put, List.setIfInBounds_toArray, List.set_cons_zero, List.set_cons_succ]
        refine held_value 10 84 (.bool false) rfl rfl (by kernel_rfl) (by kernel_rfl) (by kernel_rfl) rfl hH (fun w hw => by go_simp) ?_
        try simp only [Act.put, List.setIfInBounds_toArray, List.set_cons_zero, List.set_cons_succ]
        refine wpAnyH_ready (rs := [12]) (by kernel_rfl) (by simp) ?_
        refine AllReadyH.cons (o := _) rfl (fun K hK => ?_) AllReadyH.nil
        refine own_wp_store 0 rowE H.out rfl rfl rfl rfl ?_
        intro ws HS
        simp only [List.set_cons_zero] at HS
        replace H := Lib.hid HS
        refine hK.out _ _ (H.out.row 1 rfl) (fun hN => ?_)
        clear hK K HS hH
        have hH := hN
        clear hN
        try simp only [Act.put, List.setIfInBounds_toArray]
        refine held_value 13 16 (.bool false) rfl rfl (by kernel_rfl) (by kernel_rfl) (by kernel_rfl) rfl hH (fun w hw => by go_simp) ?_
        try simp only [Act.put]
        try simp only [Act.put]
        refine wpAnyH_done (by kernel_rfl) ?_ _
        refine NoPanic.normal ?_
        clear hH
        clear EU EW HI
        go_wp2_with fail
        go_meet
        exact ⟨g15, h82, rfl, rfl, HV82.out, H.out⟩
    · skip
      refine own_wp_allocB 15 rfl nilE H.out rfl ?_
      intro w15 g15 H3 hb
      replace H := Lib.hid H3
      refine hK.out _ _ (H.out.row 1 rfl) (fun hN => ?_)
      clear hK K hH H3 hb
      have hH := hN
      clear hN
      try simp only [Act.put, List.setIfInBounds_toArray, List.set_cons_zero, List.set_cons_succ]
      refine wpAnyH_ready (rs := [1]) (by kernel_rfl) (by simp) ?_
      refine AllReadyH.cons (o := _) rfl (fun K hK => ?_) AllReadyH.nil
      go_simp
      refine (int_k (1) _ (HT.out.below H.out.bel) (by omega) (by omega)).mono ?_
      rintro e wc ⟨h76, rfl, hv, hb⟩
      replace H := Lib.hid (H.out.call hb)
      have HV76 := Lib.hid hv
      refine hK.out _ _ (H.out.row 1 rfl) (fun hN => ?_)
      clear hK K hH hb hv
      have hH := hN
      clear hN
      try simp only [Act.put, List.setIfInBounds_toArray, List.set_cons_zero, List.set_cons_succ]
      refine wpAnyH_ready (rs := [2]) (by kernel_rfl) (by simp) ?_
      refine AllReadyH.cons (o := _) rfl (fun K hK => ?_) AllReadyH.nil
      go_simp
      refine (sub_k _ (HT.out.below H.out.bel) VS.out HV76.out).mono ?_
      rintro e wc ⟨h77, rfl, hv, hb⟩
      replace H := Lib.hid (H.out.call hb)
      have HV77 := Lib.hid hv
      refine hK.out _ _ (H.out.row 1 rfl) (fun hN => ?_)
      clear hK K hH hb hv
      have hH := hN
      clear hN
      try simp only [Act.put, List.setIfInBounds_toArray, List.set_cons_zero, List.set_cons_succ]
      refine wpAnyH_ready (rs := [4]) (by kernel_rfl) (by simp) ?_
      refine AllReadyH.cons (o := _) rfl (fun K hK => ?_) AllReadyH.nil
      go_simp
      refine (times_k (-39081) _ (HT.out.below H.out.bel) VS.out (by omega) (by omega)).mono ?_
      rintro e wc ⟨h79, rfl, hv, hb⟩
      replace H := Lib.hid (H.out.call hb)
      have HV79 := Lib.hid hv
      refine hK.out _ _ (H.out.row 1 rfl) (fun hN => ?_)
      clear hK K hH hb hv
      have hH := hN
      clear hN
      try simp only [Act.put, List.setIfInBounds_toArray, List.set_cons_zero, List.set_cons_succ]
      refine wpAnyH_ready (rs := [5]) (by kernel_rfl) (by simp) ?_
      refine AllReadyH.cons (o := _) rfl (fun K hK => ?_) AllReadyH.nil
      go_simp
      refine (int_k (1) _ (HT.out.below H.out.bel) (by omega) (by omega)).mono ?_
      rintro e wc ⟨h80, rfl, hv, hb⟩
      replace H := Lib.hid (H.out.call hb)
      have HV80 := Lib.hid hv
      refine hK.out _ _ (H.out.row 1 rfl) (fun hN => ?_)
      clear hK K hH hb hv
      have hH := hN
      clear hN
      try simp only [Act.put, List.setIfInBounds_toArray, List.set_cons_zero, List.set_cons_succ]
      refine wpAnyH_ready (rs := [6]) (by kernel_rfl) (by simp) ?_
      refine AllReadyH.cons (o := _) rfl (fun K hK => ?_) AllReadyH.nil
      go_simp
      refine (sub_k _ (HT.out.below H.out.bel) HV79.out HV80.out).mono ?_
      rintro e wc ⟨h81, rfl, hv, hb⟩
      replace H := Lib.hid (H.out.call hb)
      have HV81 := Lib.hid hv
      refine hK.out _ _ (H.out.row 1 rfl) (fun hN => ?_)
      clear hK K hH hb hv
      have hH := hN
      clear hN
      try simp only [Act.put, List.setIfInBounds_toArray, List.set_cons_zero, List.set_cons_succ]
      refine wpAnyH_ready (rs := [7]) (by kernel_rfl) (by simp) ?_
      refine AllReadyH.cons (o := _) rfl (fun K hK => ?_) AllReadyH.nil
      go_simp
      refine (ratio_d _ (HT.out.below H.out.bel) (HV77.out.eq EU.out) (HV81.out.eq EW.out) HI.out).mono ?_
      rintro e wc ⟨h82, rfl, hv, hb⟩
      replace H := Lib.hid (H.out.call hb)
      have HV82 := Lib.hid hv
      refine hK.out _ _ (H.out.row 1 rfl) (fun hN => ?_)
      clear hK K hH hb hv
      have hH := hN
      clear hN
      try simp only [Act.put, List.setIfInBounds_toArray, List.set_cons_zero, List.set_cons_succ]
      refine held_value 8 74 (.tuple #[EV h82, .bool false]) rfl rfl (by kernel_rfl) (by kernel_rfl) (by kernel_rfl) rfl hH (fun w hw => by go_simp) ?_
      try simp only [Act.put, List.setIfInBounds_toArray, List.set_cons_zero, List.set_cons_succ]
      refine held_value 9 83 (EV h82) rfl rfl (by kernel_rfl) (by kernel_rfl) (by kernel_rfl) rfl hH (fun w hw => by go_simp) ?_
      try simp only [Act.put, List.setIfInBounds_toArray, List.set_cons_zero, List.set_cons_succ]
      refine held_value 10 84 (.bool false) rfl rfl (by kernel_rfl) (by kernel_rfl) (by kernel_rfl) rfl hH (fun w hw => by go_simp) ?_
      try simp only [Act.put, List.setIfInBounds_toArray, List.set_cons_zero, List.set_cons_succ]
      refine wpAnyH_ready (rs := [12]) (by kernel_rfl) (by simp) ?_
      refine AllReadyH.cons (o := _) rfl (fun K hK => ?_) AllReadyH.nil
      refine own_wp_store 0 rowE H.out rfl rfl rfl rfl ?_
      intro ws HS
      simp only [List.set_cons_zero] at HS
      replace H := Lib.hid HS
      refine hK.out _ _ (H.out.row 1 rfl) (fun hN => ?_)
      clear hK K HS hH
      have hH := hN
      clear hN
      try simp only [Act.put, List.setIfInBounds_toArray]
      refine held_value 13 16 (.bool false) rfl rfl (by kernel_rfl) (by kernel_rfl) (by kernel_rfl) rfl hH (fun w hw => by go_simp) ?_
      try simp only [Act.put]
      try simp only [Act.put]
      refine wpAnyH_done (by kernel_rfl) ?_ _
      refine NoPanic.normal ?_
      clear hH
      clear EU EW HI
      go_wp2_with fail
      go_meet
      exact ⟨g15, h82, rfl, rfl, HV82.out, H.out⟩
  clear H
  obtain ⟨g15, h82, rfl, rfl, hv82, HRR⟩ := hcut
  have HV82 := Lib.hid hv82
  have H := Lib.hid HRR
  clear HRR hv82
  clear EU EW HI
  go_wp2_with (first
    | ((with_reducible refine (awake9_k _ (HT.out.below H.out.bel)).mono ?_); rintro e wc ⟨rfl, hb⟩; replace H := Lib.hid (H.out.call hb); clear hb))
  go_ret
  exact ⟨rfl, H.out.bel⟩
end Go.Proofs.YtanfobboeehiaaaDoor
