/-
 The contracts of twist's Equal, Of, To and Back. No statement is proved here: lemmas for the walks.
-/
import Derived.Test.YtoeokhfhcpcjlaaGreatDoorZTwGo2
import Derived.Test.YtoeokhfhcpcjlaaGreatDoorZPtOf
import Derived.Deep.CutRange
set_option maxRecDepth 8000
set_option maxHeartbeats 3200000
namespace Go.Proofs.YtoeokhfhcpcjlaaGreatDoor
open Go.RowKit
theorem zero_kb13 {f : Nat → Nat} {a : K} {b : Bool} (w : World) (hf : EK f a) (h : decide (a = 0) = b) :
  Calls Tryz.prog 71 #[EV f] w fun e w' => e = .returned (.bool b) ∧ Below w.heap.size w w' := h ▸ zero_k w hf
theorem z17 {v1 v2 : Nat → Int} {X1 Y1 X2 Y2 : K} {b : Bool} (w : World) (hT : Tp w) (p1 : TwX v1 X1 Y1) (p2 : TwX v2 X2 Y2) (hb : decide (X1 = X2 ∧ Y1 = Y2) = b) :
  Calls Tryz.prog 28 #[TO v1, TO v2] w fun e w' => e = .returned (.bool b) ∧ Below w.heap.size w w' := by
 obtain ⟨x1, y1, rfl, e1x, e1y⟩ := p1.is
 have E1x := Lib.hid e1x
 have E1y := Lib.hid e1y
 clear p1 e1x e1y
 obtain ⟨x2, y2, rfl, e2x, e2y⟩ := p2.is
 have E2x := Lib.hid e2x
 have E2y := Lib.hid e2y
 clear p2 e2x e2y
 have HB := Lib.hid ((ax_equal X1 Y1 X2 Y2).trans hb)
 clear hb
 have HT := Lib.hid hT
 clear hT
 have H := Lib.hid (Ow.start w)
 go_enter Tryz.func28, Tryz.ntmps28
 go_wp2_with (first
  | ((fail_if_success have := g2); (with_reducible apply z0h H); (case hgd | ho | hx => exact rfl); clear H; intro w2 g2 H _ _; go_simp)
  | ((fail_if_success have := g3); (fail_if_success have := g3); (with_reducible apply z0h H); (case hgd | ho | hx => exact rfl); clear H; intro w3 g3 H _ _; go_simp))
 go_cut [5, 6] from 7 to 20 (fun v5 v6 wx => ∃ g5 g6 h18 k18, v5 = .pointer (some ⟨g5, 0, none⟩) ∧ v6 = .pointer (some ⟨g6, 0, none⟩) ∧ EK h18 ((Y1 - Y2) * (Y1 - Y2) + (X1 - X2) * (X1 - X2)) ∧ EK k18 ((Y1 - Y2) * (Y1 - Y2) - (X1 - X2) * (X1 - X2)) ∧ Ow w wx [(g5, Blk 29 .u64 8 (NZ h18)), (g6, Blk 29 .u64 8 (NZ k18)), (g3, Blk 46 .u64 16 ((t2 8 (NZ x2) (NZ y2)))), (g2, Blk 46 .u64 16 ((t2 8 (NZ x1) (NZ y1))))])
 case first =>
  go_wp2_with fail
  refine wp_region_noPanic ?_
  refine wp_region_held_drew (S := fun W => W.heap[g2]? = some (Blk 46 .u64 16 ((t2 8 (NZ x1) (NZ y1)))) ∧ W.heap[g3]? = some (Blk 46 .u64 16 ((t2 8 (NZ x2) (NZ y2))))) (by kernel_rfl) (⟨H.out.drew.row 1 rfl, H.out.drew.row 0 rfl⟩) (fun hH => ?_)
  replace H := Lib.hid H.out.drew
  generalize World.drew _ = w8 at *
  refine z0a 0 8 (.pointer (some ⟨g2, 0, none⟩)) rfl rfl rfl hH (fun w hw => by go_simp) ?_
  try simp only [Act.put, qa, qb, qc]
  refine z0k 1 9 rowE rfl rfl rfl hH rfl rfl y0n (fun _ h => h.1) ?_
  try simp only [Act.put, qa, qb, qc]
  refine z0a 2 10 (.pointer (some ⟨g3, 0, none⟩)) rfl rfl rfl hH (fun w hw => by go_simp) ?_
  try simp only [Act.put, qa, qb, qc]
  refine z0k 3 11 rowE rfl rfl rfl hH rfl rfl y0n (fun _ h => h.2) ?_
  try simp only [Act.put, qa, qb, qc]
  refine z0a 5 13 (.pointer (some ⟨g2, 8, none⟩)) rfl rfl rfl hH (fun w hw => by go_simp) ?_
  try simp only [Act.put, qa, qb, qc]
  refine z0k 6 14 rowE rfl rfl rfl hH rfl rfl y0m (fun _ h => h.1) ?_
  try simp only [Act.put, qa, qb, qc]
  refine z0a 7 15 (.pointer (some ⟨g3, 8, none⟩)) rfl rfl rfl hH (fun w hw => by go_simp) ?_
  try simp only [Act.put, qa, qb, qc]
  refine z0k 8 16 rowE rfl rfl rfl hH rfl rfl y0m (fun _ h => h.2) ?_
  try simp only [Act.put, qa, qb, qc]
  refine rdn [4, 14, 15] (rdc rfl (fun K hK => ?_) (rdc rfl (fun K hK => ?_) (rdc rfl (fun K hK => ?_) rdz)))
  ·skip
   go_simp
   refine (sub_k _ (HT.out.below H.out.bel) E1x.out E2x.out).mono ?_
   rintro e wc ⟨h12, rfl, hv, hb⟩
   replace H := hcall H hb
   have HV12 := Lib.hid hv
   clear hH
   refine hK.out _ _ ⟨H.out.row 1 rfl, H.out.row 0 rfl⟩ fun hH => ?_
   clear hK K hb hv
   try simp only [Act.put, qa, qb, qc]
   refine rdn [9, 14, 15] (rdc rfl (fun K hK => ?_) (rdc rfl (fun K hK => ?_) (rdc rfl (fun K hK => ?_) rdz)))
   ·skip
    go_simp
    refine (sub_k _ (HT.out.below H.out.bel) E1y.out E2y.out).mono ?_
    rintro e wc ⟨h17, rfl, hv, hb⟩
    replace H := hcall H hb
    have HV17 := Lib.hid hv
    clear hH
    refine hK.out _ _ ⟨H.out.row 1 rfl, H.out.row 0 rfl⟩ fun hH => ?_
    clear hK K hb hv
    try simp only [Act.put, qa, qb, qc]
    refine rdn [10, 14, 15] (rdc rfl (fun K hK => ?_) (rdc rfl (fun K hK => ?_) (rdc rfl (fun K hK => ?_) rdz)))
    ·skip
     go_simp
     refine (z0o _ (HT.out.below H.out.bel) HV12.out HV17.out).mono ?_
     rintro e wc ⟨h18, k18, rfl, hv, hu, hb⟩
     replace H := hcall H hb
     have HV18 := Lib.hid hv
     have HU18 := Lib.hid hu
     clear hH
     refine hK.out _ _ ⟨H.out.row 1 rfl, H.out.row 0 rfl⟩ fun hH => ?_
     clear hK K hb hv hu
     try simp only [Act.put, qa, qb, qc]
     refine z0a 11 7 (.tuple #[EV h18, EV k18]) rfl rfl rfl hH (fun w hw => by go_simp) ?_
     try simp only [Act.put, qa, qb, qc]
     refine z0a 12 19 (EV h18) rfl rfl rfl hH (fun w hw => by go_simp) ?_
     try simp only [Act.put, qa, qb, qc]
     refine z0a 13 20 (EV k18) rfl rfl rfl hH (fun w hw => by go_simp) ?_
     try simp only [Act.put, qa, qb, qc]
     refine rdn [14, 15] (rdc rfl (fun K hK => ?_) (rdc rfl (fun K hK => ?_) rdz))
     ·skip
      refine z0c 5 rfl nilE H.out rfl ?_
      intro w5 g5 H3 hb
      replace H := Lib.hid H3
      clear hH
      refine hK.out _ _ ⟨H.out.row 2 rfl, H.out.row 1 rfl⟩ fun hH => ?_
      clear hK K H3 hb
      try simp only [Act.put, qa, qb, qc]
      refine rd1 15 rfl fun K hK => ?_
      refine z0c 6 rfl nilE H.out rfl ?_
      intro w6 g6 H3 hb
      replace H := Lib.hid H3
      clear hH
      refine hK.out _ _ ⟨H.out.row 3 rfl, H.out.row 2 rfl⟩ fun hH => ?_
      clear hK K H3 hb
      try simp only [Act.put, qa, qb, qc]
      refine rd1 16 rfl fun K hK => ?_
      refine z0l 1 rfl rowE H.out rfl rfl rfl rfl ?_
      intro ws HS
      simp only [qb, qc] at HS
      replace H := Lib.hid HS
      clear hH
      refine hK.out _ _ ⟨H.out.row 3 rfl, H.out.row 2 rfl⟩ fun hH => ?_
      clear hK K HS
      try simp only [qa]
      refine rd1 17 rfl fun K hK => ?_
      refine z0l 0 rfl rowE H.out rfl rfl rfl rfl ?_
      intro ws HS
      simp only [qb] at HS
      replace H := Lib.hid HS
      clear hH
      refine hK.out _ _ ⟨H.out.row 3 rfl, H.out.row 2 rfl⟩ fun hH => ?_
      clear hK K HS
      try simp only [qa]
      try simp only [Act.put]
      refine wpAnyH_done (by kernel_rfl) ?_ _
      refine NoPanic.normal ?_
      clear hH
      replace H := Lib.hid (H.out.front (x := (g5, Blk 29 .u64 8 (NZ h18))) 1 rfl)
      go_wp2_with fail
      go_meet
      exact ⟨g5, g6, h18, k18, rfl, rfl, HV18.out, HU18.out, H.out⟩
     ·skip
      refine z0c 6 rfl nilE H.out rfl ?_
      intro w6 g6 H3 hb
      replace H := Lib.hid H3
      clear hH
      refine hK.out _ _ ⟨H.out.row 2 rfl, H.out.row 1 rfl⟩ fun hH => ?_
      clear hK K H3 hb
      try simp only [Act.put, qa, qb, qc]
      refine rd1 14 rfl fun K hK => ?_
      refine z0c 5 rfl nilE H.out rfl ?_
      intro w5 g5 H3 hb
      replace H := Lib.hid H3
      clear hH
      refine hK.out _ _ ⟨H.out.row 3 rfl, H.out.row 2 rfl⟩ fun hH => ?_
      clear hK K H3 hb
      try simp only [Act.put, qa, qb, qc]
      refine rd1 16 rfl fun K hK => ?_
      refine z0l 0 rfl rowE H.out rfl rfl rfl rfl ?_
      intro ws HS
      simp only [qb] at HS
      replace H := Lib.hid HS
      clear hH
      refine hK.out _ _ ⟨H.out.row 3 rfl, H.out.row 2 rfl⟩ fun hH => ?_
      clear hK K HS
      try simp only [qa]
      refine rd1 17 rfl fun K hK => ?_
      refine z0l 1 rfl rowE H.out rfl rfl rfl rfl ?_
      intro ws HS
      simp only [qb, qc] at HS
      replace H := Lib.hid HS
      clear hH
      refine hK.out _ _ ⟨H.out.row 3 rfl, H.out.row 2 rfl⟩ fun hH => ?_
      clear hK K HS
      try simp only [qa]
      try simp only [Act.put]
      refine wpAnyH_done (by kernel_rfl) ?_ _
      refine NoPanic.normal ?_
      clear hH
      replace H := Lib.hid (H.out.front (x := (g6, Blk 29 .u64 8 (NZ k18))) 1 rfl)
      replace H := Lib.hid (H.out.front (x := (g5, Blk 29 .u64 8 (NZ h18))) 1 rfl)
      go_wp2_with fail
      go_meet
      exact ⟨g5, g6, h18, k18, rfl, rfl, HV18.out, HU18.out, H.out⟩
    ·skip
     refine z0c 5 rfl nilE H.out rfl ?_
     intro w5 g5 H3 hb
     replace H := Lib.hid H3
     clear hH
     refine hK.out _ _ ⟨H.out.row 2 rfl, H.out.row 1 rfl⟩ fun hH => ?_
     clear hK K H3 hb
     try simp only [Act.put, qa, qb, qc]
     refine rdn [10, 15] (rdc rfl (fun K hK => ?_) (rdc rfl (fun K hK => ?_) rdz))
     ·skip
      go_simp
      refine (z0o _ (HT.out.below H.out.bel) HV12.out HV17.out).mono ?_
      rintro e wc ⟨h18, k18, rfl, hv, hu, hb⟩
      replace H := hcall H hb
      have HV18 := Lib.hid hv
      have HU18 := Lib.hid hu
      clear hH
      refine hK.out _ _ ⟨H.out.row 2 rfl, H.out.row 1 rfl⟩ fun hH => ?_
      clear hK K hb hv hu
      try simp only [Act.put, qa, qb, qc]
      refine z0a 11 7 (.tuple #[EV h18, EV k18]) rfl rfl rfl hH (fun w hw => by go_simp) ?_
      try simp only [Act.put, qa, qb, qc]
      refine z0a 12 19 (EV h18) rfl rfl rfl hH (fun w hw => by go_simp) ?_
      try simp only [Act.put, qa, qb, qc]
      refine z0a 13 20 (EV k18) rfl rfl rfl hH (fun w hw => by go_simp) ?_
      try simp only [Act.put, qa, qb, qc]
      refine rd1 15 rfl fun K hK => ?_
      refine z0c 6 rfl nilE H.out rfl ?_
      intro w6 g6 H3 hb
      replace H := Lib.hid H3
      clear hH
      refine hK.out _ _ ⟨H.out.row 3 rfl, H.out.row 2 rfl⟩ fun hH => ?_
      clear hK K H3 hb
      try simp only [Act.put, qa, qb, qc]
      refine rd1 16 rfl fun K hK => ?_
      refine z0l 1 rfl rowE H.out rfl rfl rfl rfl ?_
      intro ws HS
      simp only [qb, qc] at HS
      replace H := Lib.hid HS
      clear hH
      refine hK.out _ _ ⟨H.out.row 3 rfl, H.out.row 2 rfl⟩ fun hH => ?_
      clear hK K HS
      try simp only [qa]
      refine rd1 17 rfl fun K hK => ?_
      refine z0l 0 rfl rowE H.out rfl rfl rfl rfl ?_
      intro ws HS
      simp only [qb] at HS
      replace H := Lib.hid HS
      clear hH
      refine hK.out _ _ ⟨H.out.row 3 rfl, H.out.row 2 rfl⟩ fun hH => ?_
      clear hK K HS
      try simp only [qa]
      try simp only [Act.put]
      refine wpAnyH_done (by kernel_rfl) ?_ _
      refine NoPanic.normal ?_
      clear hH
      replace H := Lib.hid (H.out.front (x := (g5, Blk 29 .u64 8 (NZ h18))) 1 rfl)
      go_wp2_with fail
      go_meet
      exact ⟨g5, g6, h18, k18, rfl, rfl, HV18.out, HU18.out, H.out⟩
     ·skip
      refine z0c 6 rfl nilE H.out rfl ?_
      intro w6 g6 H3 hb
      replace H := Lib.hid H3
      clear hH
      refine hK.out _ _ ⟨H.out.row 3 rfl, H.out.row 2 rfl⟩ fun hH => ?_
      clear hK K H3 hb
      try simp only [Act.put, qa, qb, qc]
      refine rd1 10 rfl fun K hK => ?_
      go_simp
      refine (z0o _ (HT.out.below H.out.bel) HV12.out HV17.out).mono ?_
      rintro e wc ⟨h18, k18, rfl, hv, hu, hb⟩
      replace H := hcall H hb
      have HV18 := Lib.hid hv
      have HU18 := Lib.hid hu
      clear hH
      refine hK.out _ _ ⟨H.out.row 3 rfl, H.out.row 2 rfl⟩ fun hH => ?_
      clear hK K hb hv hu
      try simp only [Act.put, qa, qb, qc]
      refine z0a 11 7 (.tuple #[EV h18, EV k18]) rfl rfl rfl hH (fun w hw => by go_simp) ?_
      try simp only [Act.put, qa, qb, qc]
      refine z0a 12 19 (EV h18) rfl rfl rfl hH (fun w hw => by go_simp) ?_
      try simp only [Act.put, qa, qb, qc]
      refine z0a 13 20 (EV k18) rfl rfl rfl hH (fun w hw => by go_simp) ?_
      try simp only [Act.put, qa, qb, qc]
      refine rd1 16 rfl fun K hK => ?_
      refine z0l 1 rfl rowE H.out rfl rfl rfl rfl ?_
      intro ws HS
      simp only [qb, qc] at HS
      replace H := Lib.hid HS
      clear hH
      refine hK.out _ _ ⟨H.out.row 3 rfl, H.out.row 2 rfl⟩ fun hH => ?_
      clear hK K HS
      try simp only [qa]
      refine rd1 17 rfl fun K hK => ?_
      refine z0l 0 rfl rowE H.out rfl rfl rfl rfl ?_
      intro ws HS
      simp only [qb] at HS
      replace H := Lib.hid HS
      clear hH
      refine hK.out _ _ ⟨H.out.row 3 rfl, H.out.row 2 rfl⟩ fun hH => ?_
      clear hK K HS
      try simp only [qa]
      try simp only [Act.put]
      refine wpAnyH_done (by kernel_rfl) ?_ _
      refine NoPanic.normal ?_
      clear hH
      replace H := Lib.hid (H.out.front (x := (g5, Blk 29 .u64 8 (NZ h18))) 1 rfl)
      go_wp2_with fail
      go_meet
      exact ⟨g5, g6, h18, k18, rfl, rfl, HV18.out, HU18.out, H.out⟩
    ·skip
     refine z0c 6 rfl nilE H.out rfl ?_
     intro w6 g6 H3 hb
     replace H := Lib.hid H3
     clear hH
     refine hK.out _ _ ⟨H.out.row 2 rfl, H.out.row 1 rfl⟩ fun hH => ?_
     clear hK K H3 hb
     try simp only [Act.put, qa, qb, qc]
     refine rdn [10, 14] (rdc rfl (fun K hK => ?_) (rdc rfl (fun K hK => ?_) rdz))
     ·skip
      go_simp
      refine (z0o _ (HT.out.below H.out.bel) HV12.out HV17.out).mono ?_
      rintro e wc ⟨h18, k18, rfl, hv, hu, hb⟩
      replace H := hcall H hb
      have HV18 := Lib.hid hv
      have HU18 := Lib.hid hu
      clear hH
      refine hK.out _ _ ⟨H.out.row 2 rfl, H.out.row 1 rfl⟩ fun hH => ?_
      clear hK K hb hv hu
      try simp only [Act.put, qa, qb, qc]
      refine z0a 11 7 (.tuple #[EV h18, EV k18]) rfl rfl rfl hH (fun w hw => by go_simp) ?_
      try simp only [Act.put, qa, qb, qc]
      refine z0a 12 19 (EV h18) rfl rfl rfl hH (fun w hw => by go_simp) ?_
      try simp only [Act.put, qa, qb, qc]
      refine z0a 13 20 (EV k18) rfl rfl rfl hH (fun w hw => by go_simp) ?_
      try simp only [Act.put, qa, qb, qc]
      refine rd1 14 rfl fun K hK => ?_
      refine z0c 5 rfl nilE H.out rfl ?_
      intro w5 g5 H3 hb
      replace H := Lib.hid H3
      clear hH
      refine hK.out _ _ ⟨H.out.row 3 rfl, H.out.row 2 rfl⟩ fun hH => ?_
      clear hK K H3 hb
      try simp only [Act.put, qa, qb, qc]
      refine rd1 16 rfl fun K hK => ?_
      refine z0l 0 rfl rowE H.out rfl rfl rfl rfl ?_
      intro ws HS
      simp only [qb] at HS
      replace H := Lib.hid HS
      clear hH
      refine hK.out _ _ ⟨H.out.row 3 rfl, H.out.row 2 rfl⟩ fun hH => ?_
      clear hK K HS
      try simp only [qa]
      refine rd1 17 rfl fun K hK => ?_
      refine z0l 1 rfl rowE H.out rfl rfl rfl rfl ?_
      intro ws HS
      simp only [qb, qc] at HS
      replace H := Lib.hid HS
      clear hH
      refine hK.out _ _ ⟨H.out.row 3 rfl, H.out.row 2 rfl⟩ fun hH => ?_
      clear hK K HS
      try simp only [qa]
      try simp only [Act.put]
      refine wpAnyH_done (by kernel_rfl) ?_ _
      refine NoPanic.normal ?_
      clear hH
      replace H := Lib.hid (H.out.front (x := (g6, Blk 29 .u64 8 (NZ k18))) 1 rfl)
      replace H := Lib.hid (H.out.front (x := (g5, Blk 29 .u64 8 (NZ h18))) 1 rfl)
      go_wp2_with fail
      go_meet
      exact ⟨g5, g6, h18, k18, rfl, rfl, HV18.out, HU18.out, H.out⟩
     ·skip
      refine z0c 5 rfl nilE H.out rfl ?_
      intro w5 g5 H3 hb
      replace H := Lib.hid H3
      clear hH
      refine hK.out _ _ ⟨H.out.row 3 rfl, H.out.row 2 rfl⟩ fun hH => ?_
      clear hK K H3 hb
      try simp only [Act.put, qa, qb, qc]
      refine rd1 10 rfl fun K hK => ?_
      go_simp
      refine (z0o _ (HT.out.below H.out.bel) HV12.out HV17.out).mono ?_
      rintro e wc ⟨h18, k18, rfl, hv, hu, hb⟩
      replace H := hcall H hb
      have HV18 := Lib.hid hv
      have HU18 := Lib.hid hu
      clear hH
      refine hK.out _ _ ⟨H.out.row 3 rfl, H.out.row 2 rfl⟩ fun hH => ?_
      clear hK K hb hv hu
      try simp only [Act.put, qa, qb, qc]
      refine z0a 11 7 (.tuple #[EV h18, EV k18]) rfl rfl rfl hH (fun w hw => by go_simp) ?_
      try simp only [Act.put, qa, qb, qc]
      refine z0a 12 19 (EV h18) rfl rfl rfl hH (fun w hw => by go_simp) ?_
      try simp only [Act.put, qa, qb, qc]
      refine z0a 13 20 (EV k18) rfl rfl rfl hH (fun w hw => by go_simp) ?_
      try simp only [Act.put, qa, qb, qc]
      refine rd1 16 rfl fun K hK => ?_
      refine z0l 0 rfl rowE H.out rfl rfl rfl rfl ?_
      intro ws HS
      simp only [qb] at HS
      replace H := Lib.hid HS
      clear hH
      refine hK.out _ _ ⟨H.out.row 3 rfl, H.out.row 2 rfl⟩ fun hH => ?_
      clear hK K HS
      try simp only [qa]
      refine rd1 17 rfl fun K hK => ?_
      refine z0l 1 rfl rowE H.out rfl rfl rfl rfl ?_
      intro ws HS
      simp only [qb, qc] at HS
      replace H := Lib.hid HS
      clear hH
      refine hK.out _ _ ⟨H.out.row 3 rfl, H.out.row 2 rfl⟩ fun hH => ?_
      clear hK K HS
      try simp only [qa]
      try simp only [Act.put]
      refine wpAnyH_done (by kernel_rfl) ?_ _
      refine NoPanic.normal ?_
      clear hH
      replace H := Lib.hid (H.out.front (x := (g6, Blk 29 .u64 8 (NZ k18))) 1 rfl)
      replace H := Lib.hid (H.out.front (x := (g5, Blk 29 .u64 8 (NZ h18))) 1 rfl)
      go_wp2_with fail
      go_meet
      exact ⟨g5, g6, h18, k18, rfl, rfl, HV18.out, HU18.out, H.out⟩
   ·skip
    refine z0c 5 rfl nilE H.out rfl ?_
    intro w5 g5 H3 hb
    replace H := Lib.hid H3
    clear hH
    refine hK.out _ _ ⟨H.out.row 2 rfl, H.out.row 1 rfl⟩ fun hH => ?_
    clear hK K H3 hb
    try simp only [Act.put, qa, qb, qc]
    refine rdn [9, 15] (rdc rfl (fun K hK => ?_) (rdc rfl (fun K hK => ?_) rdz))
    ·skip
     go_simp
     refine (sub_k _ (HT.out.below H.out.bel) E1y.out E2y.out).mono ?_
     rintro e wc ⟨h17, rfl, hv, hb⟩
     replace H := hcall H hb
     have HV17 := Lib.hid hv
     clear hH
     refine hK.out _ _ ⟨H.out.row 2 rfl, H.out.row 1 rfl⟩ fun hH => ?_
     clear hK K hb hv
     try simp only [Act.put, qa, qb, qc]
     refine rdn [10, 15] (rdc rfl (fun K hK => ?_) (rdc rfl (fun K hK => ?_) rdz))
     ·skip
      go_simp
      refine (z0o _ (HT.out.below H.out.bel) HV12.out HV17.out).mono ?_
      rintro e wc ⟨h18, k18, rfl, hv, hu, hb⟩
      replace H := hcall H hb
      have HV18 := Lib.hid hv
      have HU18 := Lib.hid hu
      clear hH
      refine hK.out _ _ ⟨H.out.row 2 rfl, H.out.row 1 rfl⟩ fun hH => ?_
      clear hK K hb hv hu
      try simp only [Act.put, qa, qb, qc]
      refine z0a 11 7 (.tuple #[EV h18, EV k18]) rfl rfl rfl hH (fun w hw => by go_simp) ?_
      try simp only [Act.put, qa, qb, qc]
      refine z0a 12 19 (EV h18) rfl rfl rfl hH (fun w hw => by go_simp) ?_
      try simp only [Act.put, qa, qb, qc]
      refine z0a 13 20 (EV k18) rfl rfl rfl hH (fun w hw => by go_simp) ?_
      try simp only [Act.put, qa, qb, qc]
      refine rd1 15 rfl fun K hK => ?_
      refine z0c 6 rfl nilE H.out rfl ?_
      intro w6 g6 H3 hb
      replace H := Lib.hid H3
      clear hH
      refine hK.out _ _ ⟨H.out.row 3 rfl, H.out.row 2 rfl⟩ fun hH => ?_
      clear hK K H3 hb
      try simp only [Act.put, qa, qb, qc]
      refine rd1 16 rfl fun K hK => ?_
      refine z0l 1 rfl rowE H.out rfl rfl rfl rfl ?_
      intro ws HS
      simp only [qb, qc] at HS
      replace H := Lib.hid HS
      clear hH
      refine hK.out _ _ ⟨H.out.row 3 rfl, H.out.row 2 rfl⟩ fun hH => ?_
      clear hK K HS
      try simp only [qa]
      refine rd1 17 rfl fun K hK => ?_
      refine z0l 0 rfl rowE H.out rfl rfl rfl rfl ?_
      intro ws HS
      simp only [qb] at HS
      replace H := Lib.hid HS
      clear hH
      refine hK.out _ _ ⟨H.out.row 3 rfl, H.out.row 2 rfl⟩ fun hH => ?_
      clear hK K HS
      try simp only [qa]
      try simp only [Act.put]
      refine wpAnyH_done (by kernel_rfl) ?_ _
      refine NoPanic.normal ?_
      clear hH
      replace H := Lib.hid (H.out.front (x := (g5, Blk 29 .u64 8 (NZ h18))) 1 rfl)
      go_wp2_with fail
      go_meet
      exact ⟨g5, g6, h18, k18, rfl, rfl, HV18.out, HU18.out, H.out⟩
     ·skip
      refine z0c 6 rfl nilE H.out rfl ?_
      intro w6 g6 H3 hb
      replace H := Lib.hid H3
      clear hH
      refine hK.out _ _ ⟨H.out.row 3 rfl, H.out.row 2 rfl⟩ fun hH => ?_
      clear hK K H3 hb
      try simp only [Act.put, qa, qb, qc]
      refine rd1 10 rfl fun K hK => ?_
      go_simp
      refine (z0o _ (HT.out.below H.out.bel) HV12.out HV17.out).mono ?_
      rintro e wc ⟨h18, k18, rfl, hv, hu, hb⟩
      replace H := hcall H hb
      have HV18 := Lib.hid hv
      have HU18 := Lib.hid hu
      clear hH
      refine hK.out _ _ ⟨H.out.row 3 rfl, H.out.row 2 rfl⟩ fun hH => ?_
      clear hK K hb hv hu
      try simp only [Act.put, qa, qb, qc]
      refine z0a 11 7 (.tuple #[EV h18, EV k18]) rfl rfl rfl hH (fun w hw => by go_simp) ?_
      try simp only [Act.put, qa, qb, qc]
      refine z0a 12 19 (EV h18) rfl rfl rfl hH (fun w hw => by go_simp) ?_
      try simp only [Act.put, qa, qb, qc]
      refine z0a 13 20 (EV k18) rfl rfl rfl hH (fun w hw => by go_simp) ?_
      try simp only [Act.put, qa, qb, qc]
      refine rd1 16 rfl fun K hK => ?_
      refine z0l 1 rfl rowE H.out rfl rfl rfl rfl ?_
      intro ws HS
      simp only [qb, qc] at HS
      replace H := Lib.hid HS
      clear hH
      refine hK.out _ _ ⟨H.out.row 3 rfl, H.out.row 2 rfl⟩ fun hH => ?_
      clear hK K HS
      try simp only [qa]
      refine rd1 17 rfl fun K hK => ?_
      refine z0l 0 rfl rowE H.out rfl rfl rfl rfl ?_
      intro ws HS
      simp only [qb] at HS
      replace H := Lib.hid HS
      clear hH
      refine hK.out _ _ ⟨H.out.row 3 rfl, H.out.row 2 rfl⟩ fun hH => ?_
      clear hK K HS
      try simp only [qa]
      try simp only [Act.put]
      refine wpAnyH_done (by kernel_rfl) ?_ _
      refine NoPanic.normal ?_
      clear hH
      replace H := Lib.hid (H.out.front (x := (g5, Blk 29 .u64 8 (NZ h18))) 1 rfl)
      go_wp2_with fail
      go_meet
      exact ⟨g5, g6, h18, k18, rfl, rfl, HV18.out, HU18.out, H.out⟩
    ·skip
     refine z0c 6 rfl nilE H.out rfl ?_
     intro w6 g6 H3 hb
     replace H := Lib.hid H3
     clear hH
     refine hK.out _ _ ⟨H.out.row 3 rfl, H.out.row 2 rfl⟩ fun hH => ?_
     clear hK K H3 hb
     try simp only [Act.put, qa, qb, qc]
     refine rd1 9 rfl fun K hK => ?_
     go_simp
     refine (sub_k _ (HT.out.below H.out.bel) E1y.out E2y.out).mono ?_
     rintro e wc ⟨h17, rfl, hv, hb⟩
     replace H := hcall H hb
     have HV17 := Lib.hid hv
     clear hH
     refine hK.out _ _ ⟨H.out.row 3 rfl, H.out.row 2 rfl⟩ fun hH => ?_
     clear hK K hb hv
     try simp only [Act.put, qa, qb, qc]
     refine rd1 10 rfl fun K hK => ?_
     go_simp
     refine (z0o _ (HT.out.below H.out.bel) HV12.out HV17.out).mono ?_
     rintro e wc ⟨h18, k18, rfl, hv, hu, hb⟩
     replace H := hcall H hb
     have HV18 := Lib.hid hv
     have HU18 := Lib.hid hu
     clear hH
     refine hK.out _ _ ⟨H.out.row 3 rfl, H.out.row 2 rfl⟩ fun hH => ?_
     clear hK K hb hv hu
     try simp only [Act.put, qa, qb, qc]
     refine z0a 11 7 (.tuple #[EV h18, EV k18]) rfl rfl rfl hH (fun w hw => by go_simp) ?_
     try simp only [Act.put, qa, qb, qc]
     refine z0a 12 19 (EV h18) rfl rfl rfl hH (fun w hw => by go_simp) ?_
     try simp only [Act.put, qa, qb, qc]
     refine z0a 13 20 (EV k18) rfl rfl rfl hH (fun w hw => by go_simp) ?_
     try simp only [Act.put, qa, qb, qc]
     refine rd1 16 rfl fun K hK => ?_
     refine z0l 1 rfl rowE H.out rfl rfl rfl rfl ?_
     intro ws HS
     simp only [qb, qc] at HS
     replace H := Lib.hid HS
     clear hH
     refine hK.out _ _ ⟨H.out.row 3 rfl, H.out.row 2 rfl⟩ fun hH => ?_
     clear hK K HS
     try simp only [qa]
     refine rd1 17 rfl fun K hK => ?_
     refine z0l 0 rfl rowE H.out rfl rfl rfl rfl ?_
     intro ws HS
     simp only [qb] at HS
     replace H := Lib.hid HS
     clear hH
     refine hK.out _ _ ⟨H.out.row 3 rfl, H.out.row 2 rfl⟩ fun hH => ?_
     clear hK K HS
     try simp only [qa]
     try simp only [Act.put]
     refine wpAnyH_done (by kernel_rfl) ?_ _
     refine NoPanic.normal ?_
     clear hH
     replace H := Lib.hid (H.out.front (x := (g5, Blk 29 .u64 8 (NZ h18))) 1 rfl)
     go_wp2_with fail
     go_meet
     exact ⟨g5, g6, h18, k18, rfl, rfl, HV18.out, HU18.out, H.out⟩
   ·skip
    refine z0c 6 rfl nilE H.out rfl ?_
    intro w6 g6 H3 hb
    replace H := Lib.hid H3
    clear hH
    refine hK.out _ _ ⟨H.out.row 2 rfl, H.out.row 1 rfl⟩ fun hH => ?_
    clear hK K H3 hb
    try simp only [Act.put, qa, qb, qc]
    refine rdn [9, 14] (rdc rfl (fun K hK => ?_) (rdc rfl (fun K hK => ?_) rdz))
    ·skip
     go_simp
     refine (sub_k _ (HT.out.below H.out.bel) E1y.out E2y.out).mono ?_
     rintro e wc ⟨h17, rfl, hv, hb⟩
     replace H := hcall H hb
     have HV17 := Lib.hid hv
     clear hH
     refine hK.out _ _ ⟨H.out.row 2 rfl, H.out.row 1 rfl⟩ fun hH => ?_
     clear hK K hb hv
     try simp only [Act.put, qa, qb, qc]
     refine rdn [10, 14] (rdc rfl (fun K hK => ?_) (rdc rfl (fun K hK => ?_) rdz))
     ·skip
      go_simp
      refine (z0o _ (HT.out.below H.out.bel) HV12.out HV17.out).mono ?_
      rintro e wc ⟨h18, k18, rfl, hv, hu, hb⟩
      replace H := hcall H hb
      have HV18 := Lib.hid hv
      have HU18 := Lib.hid hu
      clear hH
      refine hK.out _ _ ⟨H.out.row 2 rfl, H.out.row 1 rfl⟩ fun hH => ?_
      clear hK K hb hv hu
      try simp only [Act.put, qa, qb, qc]
      refine z0a 11 7 (.tuple #[EV h18, EV k18]) rfl rfl rfl hH (fun w hw => by go_simp) ?_
      try simp only [Act.put, qa, qb, qc]
      refine z0a 12 19 (EV h18) rfl rfl rfl hH (fun w hw => by go_simp) ?_
      try simp only [Act.put, qa, qb, qc]
      refine z0a 13 20 (EV k18) rfl rfl rfl hH (fun w hw => by go_simp) ?_
      try simp only [Act.put, qa, qb, qc]
      refine rd1 14 rfl fun K hK => ?_
      refine z0c 5 rfl nilE H.out rfl ?_
      intro w5 g5 H3 hb
      replace H := Lib.hid H3
      clear hH
      refine hK.out _ _ ⟨H.out.row 3 rfl, H.out.row 2 rfl⟩ fun hH => ?_
      clear hK K H3 hb
      try simp only [Act.put, qa, qb, qc]
      refine rd1 16 rfl fun K hK => ?_
      refine z0l 0 rfl rowE H.out rfl rfl rfl rfl ?_
      intro ws HS
      simp only [qb] at HS
      replace H := Lib.hid HS
      clear hH
      refine hK.out _ _ ⟨H.out.row 3 rfl, H.out.row 2 rfl⟩ fun hH => ?_
      clear hK K HS
      try simp only [qa]
      refine rd1 17 rfl fun K hK => ?_
      refine z0l 1 rfl rowE H.out rfl rfl rfl rfl ?_
      intro ws HS
      simp only [qb, qc] at HS
      replace H := Lib.hid HS
      clear hH
      refine hK.out _ _ ⟨H.out.row 3 rfl, H.out.row 2 rfl⟩ fun hH => ?_
      clear hK K HS
      try simp only [qa]
      try simp only [Act.put]
      refine wpAnyH_done (by kernel_rfl) ?_ _
      refine NoPanic.normal ?_
      clear hH
      replace H := Lib.hid (H.out.front (x := (g6, Blk 29 .u64 8 (NZ k18))) 1 rfl)
      replace H := Lib.hid (H.out.front (x := (g5, Blk 29 .u64 8 (NZ h18))) 1 rfl)
      go_wp2_with fail
      go_meet
      exact ⟨g5, g6, h18, k18, rfl, rfl, HV18.out, HU18.out, H.out⟩
     ·skip
      refine z0c 5 rfl nilE H.out rfl ?_
      intro w5 g5 H3 hb
      replace H := Lib.hid H3
      clear hH
      refine hK.out _ _ ⟨H.out.row 3 rfl, H.out.row 2 rfl⟩ fun hH => ?_
      clear hK K H3 hb
      try simp only [Act.put, qa, qb, qc]
      refine rd1 10 rfl fun K hK => ?_
      go_simp
      refine (z0o _ (HT.out.below H.out.bel) HV12.out HV17.out).mono ?_
      rintro e wc ⟨h18, k18, rfl, hv, hu, hb⟩
      replace H := hcall H hb
      have HV18 := Lib.hid hv
      have HU18 := Lib.hid hu
      clear hH
      refine hK.out _ _ ⟨H.out.row 3 rfl, H.out.row 2 rfl⟩ fun hH => ?_
      clear hK K hb hv hu
      try simp only [Act.put, qa, qb, qc]
      refine z0a 11 7 (.tuple #[EV h18, EV k18]) rfl rfl rfl hH (fun w hw => by go_simp) ?_
      try simp only [Act.put, qa, qb, qc]
      refine z0a 12 19 (EV h18) rfl rfl rfl hH (fun w hw => by go_simp) ?_
      try simp only [Act.put, qa, qb, qc]
      refine z0a 13 20 (EV k18) rfl rfl rfl hH (fun w hw => by go_simp) ?_
      try simp only [Act.put, qa, qb, qc]
      refine rd1 16 rfl fun K hK => ?_
      refine z0l 0 rfl rowE H.out rfl rfl rfl rfl ?_
      intro ws HS
      simp only [qb] at HS
      replace H := Lib.hid HS
      clear hH
      refine hK.out _ _ ⟨H.out.row 3 rfl, H.out.row 2 rfl⟩ fun hH => ?_
      clear hK K HS
      try simp only [qa]
      refine rd1 17 rfl fun K hK => ?_
      refine z0l 1 rfl rowE H.out rfl rfl rfl rfl ?_
      intro ws HS
      simp only [qb, qc] at HS
      replace H := Lib.hid HS
      clear hH
      refine hK.out _ _ ⟨H.out.row 3 rfl, H.out.row 2 rfl⟩ fun hH => ?_
      clear hK K HS
      try simp only [qa]
      try simp only [Act.put]
      refine wpAnyH_done (by kernel_rfl) ?_ _
      refine NoPanic.normal ?_
      clear hH
      replace H := Lib.hid (H.out.front (x := (g6, Blk 29 .u64 8 (NZ k18))) 1 rfl)
      replace H := Lib.hid (H.out.front (x := (g5, Blk 29 .u64 8 (NZ h18))) 1 rfl)
      go_wp2_with fail
      go_meet
      exact ⟨g5, g6, h18, k18, rfl, rfl, HV18.out, HU18.out, H.out⟩
    ·skip
     refine z0c 5 rfl nilE H.out rfl ?_
     intro w5 g5 H3 hb
     replace H := Lib.hid H3
     clear hH
     refine hK.out _ _ ⟨H.out.row 3 rfl, H.out.row 2 rfl⟩ fun hH => ?_
     clear hK K H3 hb
     try simp only [Act.put, qa, qb, qc]
     refine rd1 9 rfl fun K hK => ?_
     go_simp
     refine (sub_k _ (HT.out.below H.out.bel) E1y.out E2y.out).mono ?_
     rintro e wc ⟨h17, rfl, hv, hb⟩
     replace H := hcall H hb
     have HV17 := Lib.hid hv
     clear hH
     refine hK.out _ _ ⟨H.out.row 3 rfl, H.out.row 2 rfl⟩ fun hH => ?_
     clear hK K hb hv
     try simp only [Act.put, qa, qb, qc]
     refine rd1 10 rfl fun K hK => ?_
     go_simp
     refine (z0o _ (HT.out.below H.out.bel) HV12.out HV17.out).mono ?_
     rintro e wc ⟨h18, k18, rfl, hv, hu, hb⟩
     replace H := hcall H hb
     have HV18 := Lib.hid hv
     have HU18 := Lib.hid hu
     clear hH
     refine hK.out _ _ ⟨H.out.row 3 rfl, H.out.row 2 rfl⟩ fun hH => ?_
     clear hK K hb hv hu
     try simp only [Act.put, qa, qb, qc]
     refine z0a 11 7 (.tuple #[EV h18, EV k18]) rfl rfl rfl hH (fun w hw => by go_simp) ?_
     try simp only [Act.put, qa, qb, qc]
     refine z0a 12 19 (EV h18) rfl rfl rfl hH (fun w hw => by go_simp) ?_
     try simp only [Act.put, qa, qb, qc]
     refine z0a 13 20 (EV k18) rfl rfl rfl hH (fun w hw => by go_simp) ?_
     try simp only [Act.put, qa, qb, qc]
     refine rd1 16 rfl fun K hK => ?_
     refine z0l 0 rfl rowE H.out rfl rfl rfl rfl ?_
     intro ws HS
     simp only [qb] at HS
     replace H := Lib.hid HS
     clear hH
     refine hK.out _ _ ⟨H.out.row 3 rfl, H.out.row 2 rfl⟩ fun hH => ?_
     clear hK K HS
     try simp only [qa]
     refine rd1 17 rfl fun K hK => ?_
     refine z0l 1 rfl rowE H.out rfl rfl rfl rfl ?_
     intro ws HS
     simp only [qb, qc] at HS
     replace H := Lib.hid HS
     clear hH
     refine hK.out _ _ ⟨H.out.row 3 rfl, H.out.row 2 rfl⟩ fun hH => ?_
     clear hK K HS
     try simp only [qa]
     try simp only [Act.put]
     refine wpAnyH_done (by kernel_rfl) ?_ _
     refine NoPanic.normal ?_
     clear hH
     replace H := Lib.hid (H.out.front (x := (g6, Blk 29 .u64 8 (NZ k18))) 1 rfl)
     replace H := Lib.hid (H.out.front (x := (g5, Blk 29 .u64 8 (NZ h18))) 1 rfl)
     go_wp2_with fail
     go_meet
     exact ⟨g5, g6, h18, k18, rfl, rfl, HV18.out, HU18.out, H.out⟩
  ·skip
   refine z0c 5 rfl nilE H.out rfl ?_
   intro w5 g5 H3 hb
   replace H := Lib.hid H3
   clear hH
   refine hK.out _ _ ⟨H.out.row 2 rfl, H.out.row 1 rfl⟩ fun hH => ?_
   clear hK K H3 hb
   try simp only [Act.put, qa, qb, qc]
   refine rdn [4, 15] (rdc rfl (fun K hK => ?_) (rdc rfl (fun K hK => ?_) rdz))
   ·skip
    go_simp
    refine (sub_k _ (HT.out.below H.out.bel) E1x.out E2x.out).mono ?_
    rintro e wc ⟨h12, rfl, hv, hb⟩
    replace H := hcall H hb
    have HV12 := Lib.hid hv
    clear hH
    refine hK.out _ _ ⟨H.out.row 2 rfl, H.out.row 1 rfl⟩ fun hH => ?_
    clear hK K hb hv
    try simp only [Act.put, qa, qb, qc]
    refine rdn [9, 15] (rdc rfl (fun K hK => ?_) (rdc rfl (fun K hK => ?_) rdz))
    ·skip
     go_simp
     refine (sub_k _ (HT.out.below H.out.bel) E1y.out E2y.out).mono ?_
     rintro e wc ⟨h17, rfl, hv, hb⟩
     replace H := hcall H hb
     have HV17 := Lib.hid hv
     clear hH
     refine hK.out _ _ ⟨H.out.row 2 rfl, H.out.row 1 rfl⟩ fun hH => ?_
     clear hK K hb hv
     try simp only [Act.put, qa, qb, qc]
     refine rdn [10, 15] (rdc rfl (fun K hK => ?_) (rdc rfl (fun K hK => ?_) rdz))
     ·skip
      go_simp
      refine (z0o _ (HT.out.below H.out.bel) HV12.out HV17.out).mono ?_
      rintro e wc ⟨h18, k18, rfl, hv, hu, hb⟩
      replace H := hcall H hb
      have HV18 := Lib.hid hv
      have HU18 := Lib.hid hu
      clear hH
      refine hK.out _ _ ⟨H.out.row 2 rfl, H.out.row 1 rfl⟩ fun hH => ?_
      clear hK K hb hv hu
      try simp only [Act.put, qa, qb, qc]
      refine z0a 11 7 (.tuple #[EV h18, EV k18]) rfl rfl rfl hH (fun w hw => by go_simp) ?_
      try simp only [Act.put, qa, qb, qc]
      refine z0a 12 19 (EV h18) rfl rfl rfl hH (fun w hw => by go_simp) ?_
      try simp only [Act.put, qa, qb, qc]
      refine z0a 13 20 (EV k18) rfl rfl rfl hH (fun w hw => by go_simp) ?_
      try simp only [Act.put, qa, qb, qc]
      refine rd1 15 rfl fun K hK => ?_
      refine z0c 6 rfl nilE H.out rfl ?_
      intro w6 g6 H3 hb
      replace H := Lib.hid H3
      clear hH
      refine hK.out _ _ ⟨H.out.row 3 rfl, H.out.row 2 rfl⟩ fun hH => ?_
      clear hK K H3 hb
      try simp only [Act.put, qa, qb, qc]
      refine rd1 16 rfl fun K hK => ?_
      refine z0l 1 rfl rowE H.out rfl rfl rfl rfl ?_
      intro ws HS
      simp only [qb, qc] at HS
      replace H := Lib.hid HS
      clear hH
      refine hK.out _ _ ⟨H.out.row 3 rfl, H.out.row 2 rfl⟩ fun hH => ?_
      clear hK K HS
      try simp only [qa]
      refine rd1 17 rfl fun K hK => ?_
      refine z0l 0 rfl rowE H.out rfl rfl rfl rfl ?_
      intro ws HS
      simp only [qb] at HS
      replace H := Lib.hid HS
      clear hH
      refine hK.out _ _ ⟨H.out.row 3 rfl, H.out.row 2 rfl⟩ fun hH => ?_
      clear hK K HS
      try simp only [qa]
      try simp only [Act.put]
      refine wpAnyH_done (by kernel_rfl) ?_ _
      refine NoPanic.normal ?_
      clear hH
      replace H := Lib.hid (H.out.front (x := (g5, Blk 29 .u64 8 (NZ h18))) 1 rfl)
      go_wp2_with fail
      go_meet
      exact ⟨g5, g6, h18, k18, rfl, rfl, HV18.out, HU18.out, H.out⟩
     ·skip
      refine z0c 6 rfl nilE H.out rfl ?_
      intro w6 g6 H3 hb
      replace H := Lib.hid H3
      clear hH
      refine hK.out _ _ ⟨H.out.row 3 rfl, H.out.row 2 rfl⟩ fun hH => ?_
      clear hK K H3 hb
      try simp only [Act.put, qa, qb, qc]
      refine rd1 10 rfl fun K hK => ?_
      go_simp
      refine (z0o _ (HT.out.below H.out.bel) HV12.out HV17.out).mono ?_
      rintro e wc ⟨h18, k18, rfl, hv, hu, hb⟩
      replace H := hcall H hb
      have HV18 := Lib.hid hv
      have HU18 := Lib.hid hu
      clear hH
      refine hK.out _ _ ⟨H.out.row 3 rfl, H.out.row 2 rfl⟩ fun hH => ?_
      clear hK K hb hv hu
      try simp only [Act.put, qa, qb, qc]
      refine z0a 11 7 (.tuple #[EV h18, EV k18]) rfl rfl rfl hH (fun w hw => by go_simp) ?_
      try simp only [Act.put, qa, qb, qc]
      refine z0a 12 19 (EV h18) rfl rfl rfl hH (fun w hw => by go_simp) ?_
      try simp only [Act.put, qa, qb, qc]
      refine z0a 13 20 (EV k18) rfl rfl rfl hH (fun w hw => by go_simp) ?_
      try simp only [Act.put, qa, qb, qc]
      refine rd1 16 rfl fun K hK => ?_
      refine z0l 1 rfl rowE H.out rfl rfl rfl rfl ?_
      intro ws HS
      simp only [qb, qc] at HS
      replace H := Lib.hid HS
      clear hH
      refine hK.out _ _ ⟨H.out.row 3 rfl, H.out.row 2 rfl⟩ fun hH => ?_
      clear hK K HS
      try simp only [qa]
      refine rd1 17 rfl fun K hK => ?_
      refine z0l 0 rfl rowE H.out rfl rfl rfl rfl ?_
      intro ws HS
      simp only [qb] at HS
      replace H := Lib.hid HS
      clear hH
      refine hK.out _ _ ⟨H.out.row 3 rfl, H.out.row 2 rfl⟩ fun hH => ?_
      clear hK K HS
      try simp only [qa]
      try simp only [Act.put]
      refine wpAnyH_done (by kernel_rfl) ?_ _
      refine NoPanic.normal ?_
      clear hH
      replace H := Lib.hid (H.out.front (x := (g5, Blk 29 .u64 8 (NZ h18))) 1 rfl)
      go_wp2_with fail
      go_meet
      exact ⟨g5, g6, h18, k18, rfl, rfl, HV18.out, HU18.out, H.out⟩
    ·skip
     refine z0c 6 rfl nilE H.out rfl ?_
     intro w6 g6 H3 hb
     replace H := Lib.hid H3
     clear hH
     refine hK.out _ _ ⟨H.out.row 3 rfl, H.out.row 2 rfl⟩ fun hH => ?_
     clear hK K H3 hb
     try simp only [Act.put, qa, qb, qc]
     refine rd1 9 rfl fun K hK => ?_
     go_simp
     refine (sub_k _ (HT.out.below H.out.bel) E1y.out E2y.out).mono ?_
     rintro e wc ⟨h17, rfl, hv, hb⟩
     replace H := hcall H hb
     have HV17 := Lib.hid hv
     clear hH
     refine hK.out _ _ ⟨H.out.row 3 rfl, H.out.row 2 rfl⟩ fun hH => ?_
     clear hK K hb hv
     try simp only [Act.put, qa, qb, qc]
     refine rd1 10 rfl fun K hK => ?_
     go_simp
     refine (z0o _ (HT.out.below H.out.bel) HV12.out HV17.out).mono ?_
     rintro e wc ⟨h18, k18, rfl, hv, hu, hb⟩
     replace H := hcall H hb
     have HV18 := Lib.hid hv
     have HU18 := Lib.hid hu
     clear hH
     refine hK.out _ _ ⟨H.out.row 3 rfl, H.out.row 2 rfl⟩ fun hH => ?_
     clear hK K hb hv hu
     try simp only [Act.put, qa, qb, qc]
     refine z0a 11 7 (.tuple #[EV h18, EV k18]) rfl rfl rfl hH (fun w hw => by go_simp) ?_
     try simp only [Act.put, qa, qb, qc]
     refine z0a 12 19 (EV h18) rfl rfl rfl hH (fun w hw => by go_simp) ?_
     try simp only [Act.put, qa, qb, qc]
     refine z0a 13 20 (EV k18) rfl rfl rfl hH (fun w hw => by go_simp) ?_
     try simp only [Act.put, qa, qb, qc]
     refine rd1 16 rfl fun K hK => ?_
     refine z0l 1 rfl rowE H.out rfl rfl rfl rfl ?_
     intro ws HS
     simp only [qb, qc] at HS
     replace H := Lib.hid HS
     clear hH
     refine hK.out _ _ ⟨H.out.row 3 rfl, H.out.row 2 rfl⟩ fun hH => ?_
     clear hK K HS
     try simp only [qa]
     refine rd1 17 rfl fun K hK => ?_
     refine z0l 0 rfl rowE H.out rfl rfl rfl rfl ?_
     intro ws HS
     simp only [qb] at HS
     replace H := Lib.hid HS
     clear hH
     refine hK.out _ _ ⟨H.out.row 3 rfl, H.out.row 2 rfl⟩ fun hH => ?_
     clear hK K HS
     try simp only [qa]
     try simp only [Act.put]
     refine wpAnyH_done (by kernel_rfl) ?_ _
     refine NoPanic.normal ?_
     clear hH
     replace H := Lib.hid (H.out.front (x := (g5, Blk 29 .u64 8 (NZ h18))) 1 rfl)
     go_wp2_with fail
     go_meet
     exact ⟨g5, g6, h18, k18, rfl, rfl, HV18.out, HU18.out, H.out⟩
   ·skip
    refine z0c 6 rfl nilE H.out rfl ?_
    intro w6 g6 H3 hb
    replace H := Lib.hid H3
    clear hH
    refine hK.out _ _ ⟨H.out.row 3 rfl, H.out.row 2 rfl⟩ fun hH => ?_
    clear hK K H3 hb
    try simp only [Act.put, qa, qb, qc]
    refine rd1 4 rfl fun K hK => ?_
    go_simp
    refine (sub_k _ (HT.out.below H.out.bel) E1x.out E2x.out).mono ?_
    rintro e wc ⟨h12, rfl, hv, hb⟩
    replace H := hcall H hb
    have HV12 := Lib.hid hv
    clear hH
    refine hK.out _ _ ⟨H.out.row 3 rfl, H.out.row 2 rfl⟩ fun hH => ?_
    clear hK K hb hv
    try simp only [Act.put, qa, qb, qc]
    refine rd1 9 rfl fun K hK => ?_
    go_simp
    refine (sub_k _ (HT.out.below H.out.bel) E1y.out E2y.out).mono ?_
    rintro e wc ⟨h17, rfl, hv, hb⟩
    replace H := hcall H hb
    have HV17 := Lib.hid hv
    clear hH
    refine hK.out _ _ ⟨H.out.row 3 rfl, H.out.row 2 rfl⟩ fun hH => ?_
    clear hK K hb hv
    try simp only [Act.put, qa, qb, qc]
    refine rd1 10 rfl fun K hK => ?_
    go_simp
    refine (z0o _ (HT.out.below H.out.bel) HV12.out HV17.out).mono ?_
    rintro e wc ⟨h18, k18, rfl, hv, hu, hb⟩
    replace H := hcall H hb
    have HV18 := Lib.hid hv
    have HU18 := Lib.hid hu
    clear hH
    refine hK.out _ _ ⟨H.out.row 3 rfl, H.out.row 2 rfl⟩ fun hH => ?_
    clear hK K hb hv hu
    try simp only [Act.put, qa, qb, qc]
    refine z0a 11 7 (.tuple #[EV h18, EV k18]) rfl rfl rfl hH (fun w hw => by go_simp) ?_
    try simp only [Act.put, qa, qb, qc]
    refine z0a 12 19 (EV h18) rfl rfl rfl hH (fun w hw => by go_simp) ?_
    try simp only [Act.put, qa, qb, qc]
    refine z0a 13 20 (EV k18) rfl rfl rfl hH (fun w hw => by go_simp) ?_
    try simp only [Act.put, qa, qb, qc]
    refine rd1 16 rfl fun K hK => ?_
    refine z0l 1 rfl rowE H.out rfl rfl rfl rfl ?_
    intro ws HS
    simp only [qb, qc] at HS
    replace H := Lib.hid HS
    clear hH
    refine hK.out _ _ ⟨H.out.row 3 rfl, H.out.row 2 rfl⟩ fun hH => ?_
    clear hK K HS
    try simp only [qa]
    refine rd1 17 rfl fun K hK => ?_
    refine z0l 0 rfl rowE H.out rfl rfl rfl rfl ?_
    intro ws HS
    simp only [qb] at HS
    replace H := Lib.hid HS
    clear hH
    refine hK.out _ _ ⟨H.out.row 3 rfl, H.out.row 2 rfl⟩ fun hH => ?_
    clear hK K HS
    try simp only [qa]
    try simp only [Act.put]
    refine wpAnyH_done (by kernel_rfl) ?_ _
    refine NoPanic.normal ?_
    clear hH
    replace H := Lib.hid (H.out.front (x := (g5, Blk 29 .u64 8 (NZ h18))) 1 rfl)
    go_wp2_with fail
    go_meet
    exact ⟨g5, g6, h18, k18, rfl, rfl, HV18.out, HU18.out, H.out⟩
  ·skip
   refine z0c 6 rfl nilE H.out rfl ?_
   intro w6 g6 H3 hb
   replace H := Lib.hid H3
   clear hH
   refine hK.out _ _ ⟨H.out.row 2 rfl, H.out.row 1 rfl⟩ fun hH => ?_
   clear hK K H3 hb
   try simp only [Act.put, qa, qb, qc]
   refine rdn [4, 14] (rdc rfl (fun K hK => ?_) (rdc rfl (fun K hK => ?_) rdz))
   ·skip
    go_simp
    refine (sub_k _ (HT.out.below H.out.bel) E1x.out E2x.out).mono ?_
    rintro e wc ⟨h12, rfl, hv, hb⟩
    replace H := hcall H hb
    have HV12 := Lib.hid hv
    clear hH
    refine hK.out _ _ ⟨H.out.row 2 rfl, H.out.row 1 rfl⟩ fun hH => ?_
    clear hK K hb hv
    try simp only [Act.put, qa, qb, qc]
    refine rdn [9, 14] (rdc rfl (fun K hK => ?_) (rdc rfl (fun K hK => ?_) rdz))
    ·skip
     go_simp
     refine (sub_k _ (HT.out.below H.out.bel) E1y.out E2y.out).mono ?_
     rintro e wc ⟨h17, rfl, hv, hb⟩
     replace H := hcall H hb
     have HV17 := Lib.hid hv
     clear hH
     refine hK.out _ _ ⟨H.out.row 2 rfl, H.out.row 1 rfl⟩ fun hH => ?_
     clear hK K hb hv
     try simp only [Act.put, qa, qb, qc]
     refine rdn [10, 14] (rdc rfl (fun K hK => ?_) (rdc rfl (fun K hK => ?_) rdz))
     ·skip
      go_simp
      refine (z0o _ (HT.out.below H.out.bel) HV12.out HV17.out).mono ?_
      rintro e wc ⟨h18, k18, rfl, hv, hu, hb⟩
      replace H := hcall H hb
      have HV18 := Lib.hid hv
      have HU18 := Lib.hid hu
      clear hH
      refine hK.out _ _ ⟨H.out.row 2 rfl, H.out.row 1 rfl⟩ fun hH => ?_
      clear hK K hb hv hu
      try simp only [Act.put, qa, qb, qc]
      refine z0a 11 7 (.tuple #[EV h18, EV k18]) rfl rfl rfl hH (fun w hw => by go_simp) ?_
      try simp only [Act.put, qa, qb, qc]
      refine z0a 12 19 (EV h18) rfl rfl rfl hH (fun w hw => by go_simp) ?_
      try simp only [Act.put, qa, qb, qc]
      refine z0a 13 20 (EV k18) rfl rfl rfl hH (fun w hw => by go_simp) ?_
      try simp only [Act.put, qa, qb, qc]
      refine rd1 14 rfl fun K hK => ?_
      refine z0c 5 rfl nilE H.out rfl ?_
      intro w5 g5 H3 hb
      replace H := Lib.hid H3
      clear hH
      refine hK.out _ _ ⟨H.out.row 3 rfl, H.out.row 2 rfl⟩ fun hH => ?_
      clear hK K H3 hb
      try simp only [Act.put, qa, qb, qc]
      refine rd1 16 rfl fun K hK => ?_
      refine z0l 0 rfl rowE H.out rfl rfl rfl rfl ?_
      intro ws HS
      simp only [qb] at HS
      replace H := Lib.hid HS
      clear hH
      refine hK.out _ _ ⟨H.out.row 3 rfl, H.out.row 2 rfl⟩ fun hH => ?_
      clear hK K HS
      try simp only [qa]
      refine rd1 17 rfl fun K hK => ?_
      refine z0l 1 rfl rowE H.out rfl rfl rfl rfl ?_
      intro ws HS
      simp only [qb, qc] at HS
      replace H := Lib.hid HS
      clear hH
      refine hK.out _ _ ⟨H.out.row 3 rfl, H.out.row 2 rfl⟩ fun hH => ?_
      clear hK K HS
      try simp only [qa]
      try simp only [Act.put]
      refine wpAnyH_done (by kernel_rfl) ?_ _
      refine NoPanic.normal ?_
      clear hH
      replace H := Lib.hid (H.out.front (x := (g6, Blk 29 .u64 8 (NZ k18))) 1 rfl)
      replace H := Lib.hid (H.out.front (x := (g5, Blk 29 .u64 8 (NZ h18))) 1 rfl)
      go_wp2_with fail
      go_meet
      exact ⟨g5, g6, h18, k18, rfl, rfl, HV18.out, HU18.out, H.out⟩
     ·skip
      refine z0c 5 rfl nilE H.out rfl ?_
      intro w5 g5 H3 hb
      replace H := Lib.hid H3
      clear hH
      refine hK.out _ _ ⟨H.out.row 3 rfl, H.out.row 2 rfl⟩ fun hH => ?_
      clear hK K H3 hb
      try simp only [Act.put, qa, qb, qc]
      refine rd1 10 rfl fun K hK => ?_
      go_simp
      refine (z0o _ (HT.out.below H.out.bel) HV12.out HV17.out).mono ?_
      rintro e wc ⟨h18, k18, rfl, hv, hu, hb⟩
      replace H := hcall H hb
      have HV18 := Lib.hid hv
      have HU18 := Lib.hid hu
      clear hH
      refine hK.out _ _ ⟨H.out.row 3 rfl, H.out.row 2 rfl⟩ fun hH => ?_
      clear hK K hb hv hu
      try simp only [Act.put, qa, qb, qc]
      refine z0a 11 7 (.tuple #[EV h18, EV k18]) rfl rfl rfl hH (fun w hw => by go_simp) ?_
      try simp only [Act.put, qa, qb, qc]
      refine z0a 12 19 (EV h18) rfl rfl rfl hH (fun w hw => by go_simp) ?_
      try simp only [Act.put, qa, qb, qc]
      refine z0a 13 20 (EV k18) rfl rfl rfl hH (fun w hw => by go_simp) ?_
      try simp only [Act.put, qa, qb, qc]
      refine rd1 16 rfl fun K hK => ?_
      refine z0l 0 rfl rowE H.out rfl rfl rfl rfl ?_
      intro ws HS
      simp only [qb] at HS
      replace H := Lib.hid HS
      clear hH
      refine hK.out _ _ ⟨H.out.row 3 rfl, H.out.row 2 rfl⟩ fun hH => ?_
      clear hK K HS
      try simp only [qa]
      refine rd1 17 rfl fun K hK => ?_
      refine z0l 1 rfl rowE H.out rfl rfl rfl rfl ?_
      intro ws HS
      simp only [qb, qc] at HS
      replace H := Lib.hid HS
      clear hH
      refine hK.out _ _ ⟨H.out.row 3 rfl, H.out.row 2 rfl⟩ fun hH => ?_
      clear hK K HS
      try simp only [qa]
      try simp only [Act.put]
      refine wpAnyH_done (by kernel_rfl) ?_ _
      refine NoPanic.normal ?_
      clear hH
      replace H := Lib.hid (H.out.front (x := (g6, Blk 29 .u64 8 (NZ k18))) 1 rfl)
      replace H := Lib.hid (H.out.front (x := (g5, Blk 29 .u64 8 (NZ h18))) 1 rfl)
      go_wp2_with fail
      go_meet
      exact ⟨g5, g6, h18, k18, rfl, rfl, HV18.out, HU18.out, H.out⟩
    ·skip
     refine z0c 5 rfl nilE H.out rfl ?_
     intro w5 g5 H3 hb
     replace H := Lib.hid H3
     clear hH
     refine hK.out _ _ ⟨H.out.row 3 rfl, H.out.row 2 rfl⟩ fun hH => ?_
     clear hK K H3 hb
     try simp only [Act.put, qa, qb, qc]
     refine rd1 9 rfl fun K hK => ?_
     go_simp
     refine (sub_k _ (HT.out.below H.out.bel) E1y.out E2y.out).mono ?_
     rintro e wc ⟨h17, rfl, hv, hb⟩
     replace H := hcall H hb
     have HV17 := Lib.hid hv
     clear hH
     refine hK.out _ _ ⟨H.out.row 3 rfl, H.out.row 2 rfl⟩ fun hH => ?_
     clear hK K hb hv
     try simp only [Act.put, qa, qb, qc]
     refine rd1 10 rfl fun K hK => ?_
     go_simp
     refine (z0o _ (HT.out.below H.out.bel) HV12.out HV17.out).mono ?_
     rintro e wc ⟨h18, k18, rfl, hv, hu, hb⟩
     replace H := hcall H hb
     have HV18 := Lib.hid hv
     have HU18 := Lib.hid hu
     clear hH
     refine hK.out _ _ ⟨H.out.row 3 rfl, H.out.row 2 rfl⟩ fun hH => ?_
     clear hK K hb hv hu
     try simp only [Act.put, qa, qb, qc]
     refine z0a 11 7 (.tuple #[EV h18, EV k18]) rfl rfl rfl hH (fun w hw => by go_simp) ?_
     try simp only [Act.put, qa, qb, qc]
     refine z0a 12 19 (EV h18) rfl rfl rfl hH (fun w hw => by go_simp) ?_
     try simp only [Act.put, qa, qb, qc]
     refine z0a 13 20 (EV k18) rfl rfl rfl hH (fun w hw => by go_simp) ?_
     try simp only [Act.put, qa, qb, qc]
     refine rd1 16 rfl fun K hK => ?_
     refine z0l 0 rfl rowE H.out rfl rfl rfl rfl ?_
     intro ws HS
     simp only [qb] at HS
     replace H := Lib.hid HS
     clear hH
     refine hK.out _ _ ⟨H.out.row 3 rfl, H.out.row 2 rfl⟩ fun hH => ?_
     clear hK K HS
     try simp only [qa]
     refine rd1 17 rfl fun K hK => ?_
     refine z0l 1 rfl rowE H.out rfl rfl rfl rfl ?_
     intro ws HS
     simp only [qb, qc] at HS
     replace H := Lib.hid HS
     clear hH
     refine hK.out _ _ ⟨H.out.row 3 rfl, H.out.row 2 rfl⟩ fun hH => ?_
     clear hK K HS
     try simp only [qa]
     try simp only [Act.put]
     refine wpAnyH_done (by kernel_rfl) ?_ _
     refine NoPanic.normal ?_
     clear hH
     replace H := Lib.hid (H.out.front (x := (g6, Blk 29 .u64 8 (NZ k18))) 1 rfl)
     replace H := Lib.hid (H.out.front (x := (g5, Blk 29 .u64 8 (NZ h18))) 1 rfl)
     go_wp2_with fail
     go_meet
     exact ⟨g5, g6, h18, k18, rfl, rfl, HV18.out, HU18.out, H.out⟩
   ·skip
    refine z0c 5 rfl nilE H.out rfl ?_
    intro w5 g5 H3 hb
    replace H := Lib.hid H3
    clear hH
    refine hK.out _ _ ⟨H.out.row 3 rfl, H.out.row 2 rfl⟩ fun hH => ?_
    clear hK K H3 hb
    try simp only [Act.put, qa, qb, qc]
    refine rd1 4 rfl fun K hK => ?_
    go_simp
    refine (sub_k _ (HT.out.below H.out.bel) E1x.out E2x.out).mono ?_
    rintro e wc ⟨h12, rfl, hv, hb⟩
    replace H := hcall H hb
    have HV12 := Lib.hid hv
    clear hH
    refine hK.out _ _ ⟨H.out.row 3 rfl, H.out.row 2 rfl⟩ fun hH => ?_
    clear hK K hb hv
    try simp only [Act.put, qa, qb, qc]
    refine rd1 9 rfl fun K hK => ?_
    go_simp
    refine (sub_k _ (HT.out.below H.out.bel) E1y.out E2y.out).mono ?_
    rintro e wc ⟨h17, rfl, hv, hb⟩
    replace H := hcall H hb
    have HV17 := Lib.hid hv
    clear hH
    refine hK.out _ _ ⟨H.out.row 3 rfl, H.out.row 2 rfl⟩ fun hH => ?_
    clear hK K hb hv
    try simp only [Act.put, qa, qb, qc]
    refine rd1 10 rfl fun K hK => ?_
    go_simp
    refine (z0o _ (HT.out.below H.out.bel) HV12.out HV17.out).mono ?_
    rintro e wc ⟨h18, k18, rfl, hv, hu, hb⟩
    replace H := hcall H hb
    have HV18 := Lib.hid hv
    have HU18 := Lib.hid hu
    clear hH
    refine hK.out _ _ ⟨H.out.row 3 rfl, H.out.row 2 rfl⟩ fun hH => ?_
    clear hK K hb hv hu
    try simp only [Act.put, qa, qb, qc]
    refine z0a 11 7 (.tuple #[EV h18, EV k18]) rfl rfl rfl hH (fun w hw => by go_simp) ?_
    try simp only [Act.put, qa, qb, qc]
    refine z0a 12 19 (EV h18) rfl rfl rfl hH (fun w hw => by go_simp) ?_
    try simp only [Act.put, qa, qb, qc]
    refine z0a 13 20 (EV k18) rfl rfl rfl hH (fun w hw => by go_simp) ?_
    try simp only [Act.put, qa, qb, qc]
    refine rd1 16 rfl fun K hK => ?_
    refine z0l 0 rfl rowE H.out rfl rfl rfl rfl ?_
    intro ws HS
    simp only [qb] at HS
    replace H := Lib.hid HS
    clear hH
    refine hK.out _ _ ⟨H.out.row 3 rfl, H.out.row 2 rfl⟩ fun hH => ?_
    clear hK K HS
    try simp only [qa]
    refine rd1 17 rfl fun K hK => ?_
    refine z0l 1 rfl rowE H.out rfl rfl rfl rfl ?_
    intro ws HS
    simp only [qb, qc] at HS
    replace H := Lib.hid HS
    clear hH
    refine hK.out _ _ ⟨H.out.row 3 rfl, H.out.row 2 rfl⟩ fun hH => ?_
    clear hK K HS
    try simp only [qa]
    try simp only [Act.put]
    refine wpAnyH_done (by kernel_rfl) ?_ _
    refine NoPanic.normal ?_
    clear hH
    replace H := Lib.hid (H.out.front (x := (g6, Blk 29 .u64 8 (NZ k18))) 1 rfl)
    replace H := Lib.hid (H.out.front (x := (g5, Blk 29 .u64 8 (NZ h18))) 1 rfl)
    go_wp2_with fail
    go_meet
    exact ⟨g5, g6, h18, k18, rfl, rfl, HV18.out, HU18.out, H.out⟩
 clear H
 obtain ⟨g5, g6, h18, k18, rfl, rfl, hv18, hu18, HRR⟩ := hcut
 have HV18 := Lib.hid hv18
 have HU18 := Lib.hid hu18
 have H := Lib.hid HRR
 clear HRR hv18 hu18
 go_wp2_with (first
  | ((with_reducible apply z0g rowE H); (case hgd | ho | hx => exact rfl); (case hi => repeat first|exact at0|apply atS); intro _ _; go_simp)
  | ((fail_if_success have := mk1); (with_reducible refine (zero_kb13 _ HV18.out HB.out).mono ?_); rintro e wc ⟨rfl, hb⟩; replace H := hcall H hb; clear hb; have mk1 := trivial))
 go_ret
 exact ⟨rfl, H.out.bel⟩
theorem twOf_off {f g : Nat → Nat} {X Y : K} (w : World) (hT : Tp w) (hf : EK f X) (hg : EK g Y) (hc : ¬ tOn X Y) :
  Calls Tryz.prog 14 #[EV f, EV g] w fun e w' => e = .returned (.tuple #[TO fun _ => 0, .int .i64 13]) ∧ Below w.heap.size w w' := by
 have HC : Hid (¬ (Y * Y - X * X = ofZ 1 - X * X * Y * Y * ofZ 39082)) := Lib.hid (by rw [ax_on]; exact hc)
 clear hc
 have EX := Lib.hid hf
 have EY := Lib.hid hg
 clear hf hg
 have HT := Lib.hid hT
 clear hT
 have H := Lib.hid (Ow.start w)
 go_enter Tryz.func14, Tryz.ntmps14
 go_upto_region 2 with (first
  | ((fail_if_success have := g2); (with_reducible apply z0h H); (case hgd | ho | hx => exact rfl); clear H; intro w2 g2 H _ _; go_simp)
  | ((fail_if_success have := g3); (fail_if_success have := g3); (with_reducible apply z0h H); (case hgd | ho | hx => exact rfl); clear H; intro w3 g3 H _ _; go_simp)
  | ((fail_if_success have := g4); (with_reducible apply z0b nilTO H); (case hgd | ho => exact rfl); clear H; intro w4 g4 H _ _; go_simp)
  | ((with_reducible apply z0g rowE H); (case hgd | ho | hx => exact rfl); (case hi => repeat first|exact at0|apply atS); intro _ _; go_simp)
  | ((fail_if_success have := VS); (with_reducible refine (z0o _ (HT.out.below H.out.bel) EX.out EY.out).mono ?_); rintro e wc ⟨hs, ks, rfl, hv, hu, hb⟩; replace H := hcall H hb; clear hb; have VS := Lib.hid hv; have US := Lib.hid hu; clear hv hu)
  | ((fail_if_success have := g6); (fail_if_success have := g6); (with_reducible apply z0b nilE H); (case hgd | ho => exact rfl); clear H; intro w6 g6 H _ _; go_simp)
  | ((fail_if_success have := g7); (fail_if_success have := g7); (with_reducible apply z0b nilE H); (case hgd | ho => exact rfl); clear H; intro w7 g7 H _ _; go_simp)
  | ((with_reducible apply z0e rowE H); (case hgd | ho | hx | hy => exact rfl); (case hi => repeat first|exact at0|apply atS); clear H; intro ws H _ _; simp only [qb, qc] at H; go_simp))
 refine wp_region_noPanic ?_
 refine wp_region_held_drew (S := fun W => W.heap[g7]? = some (Blk 29 .u64 8 (NZ ks)) ∧ W.heap[g2]? = some (Blk 29 .u64 8 (NZ f)) ∧ W.heap[g3]? = some (Blk 29 .u64 8 (NZ g))) (by kernel_rfl) (⟨H.out.drew.row 0 rfl, H.out.drew.row 4 rfl, H.out.drew.row 3 rfl⟩) (fun hH => ?_)
 replace H := Lib.hid H.out.drew
 generalize World.drew _ = w8 at *
 refine z0f 0 14 rowE rfl rfl rfl hH rfl rfl (fun _ h => h.1) ?_
 try simp only [Act.put, qa, qb, qc]
 refine z0f 2 16 rowE rfl rfl rfl hH rfl rfl (fun _ h => h.2.1) ?_
 try simp only [Act.put, qa, qb, qc]
 refine z0f 3 17 rowE rfl rfl rfl hH rfl rfl (fun _ h => h.2.1) ?_
 try simp only [Act.put, qa, qb, qc]
 refine z0f 4 18 rowE rfl rfl rfl hH rfl rfl (fun _ h => h.2.2) ?_
 try simp only [Act.put, qa, qb, qc]
 refine z0f 5 19 rowE rfl rfl rfl hH rfl rfl (fun _ h => h.2.2) ?_
 try simp only [Act.put, qa, qb, qc]
 refine rd1 1 rfl fun K hK => ?_
 go_simp
 refine (int_k (1) _ (HT.out.below H.out.bel) (by omega) (by omega)).mono ?_
 rintro e wc ⟨h15, rfl, hv, hb⟩
 replace H := hcall H hb
 have HV15 := Lib.hid hv
 clear hH
 refine hK.out _ _ ⟨H.out.row 0 rfl, H.out.row 4 rfl, H.out.row 3 rfl⟩ fun hH => ?_
 clear hK K hb hv
 try simp only [Act.put, qa, qb, qc]
 refine rd1 6 rfl fun K hK => ?_
 go_simp
 refine (bent13_k _ (HT.out.below H.out.bel) EX.out EX.out EY.out EY.out).mono ?_
 rintro e wc ⟨h20, rfl, hv, hb⟩
 replace H := hcall H hb
 have HV20 := Lib.hid hv
 clear hH
 refine hK.out _ _ ⟨H.out.row 0 rfl, H.out.row 4 rfl, H.out.row 3 rfl⟩ fun hH => ?_
 clear hK K hb hv
 try simp only [Act.put, qa, qb, qc]
 refine rd1 7 rfl fun K hK => ?_
 go_simp
 refine (sub_k _ (HT.out.below H.out.bel) HV15.out HV20.out).mono ?_
 rintro e wc ⟨h21, rfl, hv, hb⟩
 replace H := hcall H hb
 have HV21 := Lib.hid hv
 clear hH
 refine hK.out _ _ ⟨H.out.row 0 rfl, H.out.row 4 rfl, H.out.row 3 rfl⟩ fun hH => ?_
 clear hK K hb hv
 try simp only [Act.put, qa, qb, qc]
 refine rd1 8 rfl fun K hK => ?_
 go_simp
 refine (equal_kf _ (HT.out.below H.out.bel) US.out HV21.out HC.out).mono ?_
 rintro e wc ⟨rfl, hb⟩
 replace H := hcall H hb
 clear hH
 refine hK.out _ _ ⟨H.out.row 0 rfl, H.out.row 4 rfl, H.out.row 3 rfl⟩ fun hH => ?_
 clear hK K hb
 try simp only [Act.put, qa, qb, qc]
 refine z0a 9 23 (.bool true) rfl rfl rfl hH (fun w hw => by go_simp) ?_
 try simp only [Act.put, qa, qb, qc]
 try simp only [Act.put]
 refine wpAnyH_done (by kernel_rfl) ?_ _
 refine NoPanic.normal ?_
 clear hH
 go_wp2_with (first
  | ((with_reducible apply lay_build_TO0); (case hgd | ho => exact rfl); intro _ _; go_simp)
  | ((with_reducible apply z0e rowTO H); (case hgd | ho | hx | hy => exact rfl); (case hi => repeat first|exact at0|apply atS); clear H; intro ws H _ _; simp only [qb, qc] at H; go_simp))
 exact bodyPost_ret (z0n 2 rowTO rfl _ H rfl rfl rfl) rfl ⟨rfl, H.out.bel⟩
theorem z3s {v : Nat → Int} {P : Pt pN dK} (w : World) (hT : Tp w) (p : PtK v P) :
  Calls Tryz.prog 12 #[PO v] w fun e w' => ∃ r, e = .returned (TO r) ∧ TwK r P ∧ Below w.heap.size w w' := by
 have V := Lib.hid p
 clear p
 have HT := Lib.hid hT
 clear hT
 have H := Lib.hid (Ow.start w)
 go_enter Tryz.func12, Tryz.ntmps12
 go_wp2_with (first
  | ((fail_if_success have := g1); (with_reducible apply z0h H); (case hgd | ho | hx => exact rfl); clear H; intro w1 g1 H _ _; go_simp)
  | ((fail_if_success have := g2); (with_reducible apply z0b nilTO H); (case hgd | ho => exact rfl); clear H; intro w2 g2 H _ _; go_simp)
  | ((with_reducible apply z0g rowPt H); (case hgd | ho | hx => exact rfl); (case hi => repeat first|exact at0|apply atS); intro _ _; go_simp)
  | ((fail_if_success have := VX); (with_reducible refine (ptAffine_k _ V.out).mono ?_); rintro e wc ⟨hx, hy, rfl, hv, hu, hb⟩; replace H := hcall H hb; clear hb; have VX := Lib.hid hv; have VY := Lib.hid hu; clear hv hu)
  | ((fail_if_success have := g3); (fail_if_success have := g3); (with_reducible apply z0b nilE H); (case hgd | ho => exact rfl); clear H; intro w3 g3 H _ _; go_simp)
  | ((fail_if_success have := g4); (fail_if_success have := g4); (with_reducible apply z0b nilE H); (case hgd | ho => exact rfl); clear H; intro w4 g4 H _ _; go_simp)
  | ((fail_if_success have := g5); (fail_if_success have := g5); (with_reducible apply z0b nilE H); (case hgd | ho => exact rfl); clear H; intro w5 g5 H _ _; go_simp)
  | ((fail_if_success have := g6); (fail_if_success have := g6); (with_reducible apply z0b nilE H); (case hgd | ho => exact rfl); clear H; intro w6 g6 H _ _; go_simp)
  | ((with_reducible apply z0e rowE H); (case hgd | ho | hx | hy => exact rfl); (case hi => repeat first|exact at0|apply atS); clear H; intro ws H _ _; simp only [qb, qc] at H; go_simp)
  | ((with_reducible apply z0g rowE H); (case hgd | ho | hx => exact rfl); (case hi => repeat first|exact at0|apply atS); intro _ _; go_simp)
  | ((fail_if_success have := VS); (with_reducible refine (z0o _ (HT.out.below H.out.bel) VX.out VY.out).mono ?_); rintro e wc ⟨hs, ks, rfl, hv, hu, hb⟩; replace H := hcall H hb; clear hb; have VS := Lib.hid hv; have US := Lib.hid hu; clear hv hu)
  | ((fail_if_success have := VC); (with_reducible refine (cross13_k _ (HT.out.below H.out.bel) VX.out VY.out US.out VS.out).mono ?_); rintro e wc ⟨hc, kc, rfl, hv, hu, hb⟩; replace H := hcall H hb; clear hb; have VC := Lib.hid hv; have UC := Lib.hid hu; clear hv hu)
  | ((with_reducible apply z4w); (case hgd | ho | hx | hy => exact rfl); intro _ _; go_simp)
  | ((with_reducible apply z0e rowTO H); (case hgd | ho | hx | hy => exact rfl); (case hi => repeat first|exact at0|apply atS); clear H; intro ws H _ _; simp only [qb, qc] at H; go_simp))
 exact bodyPost_ret (z0i 4 rowTO rfl _ H rfl rfl) rfl ⟨_, rfl, (TwX.mk2 VC.out UC.out).eq (ax_to_x P) (ax_to_y P), H.out.bel⟩
end Go.Proofs.YtoeokhfhcpcjlaaGreatDoor
