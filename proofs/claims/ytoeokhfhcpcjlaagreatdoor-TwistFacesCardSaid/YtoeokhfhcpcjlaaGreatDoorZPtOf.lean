/-
 The contracts of package point's Of and Affine. No statement is proved here: lemmas for the walks.
-/
import Derived.Test.YtoeokhfhcpcjlaaGreatDoorBuH
import Derived.Deep.CutRange
set_option maxRecDepth 8000
set_option maxHeartbeats 3200000
namespace Go.Proofs.YtoeokhfhcpcjlaaGreatDoor
open Go.RowKit
theorem z76 {f g : Nat → Nat} {X Y : K} (w : World) (hT : Tp w) (hf : EK f X) (hg : EK g Y) (hc : X * X + Y * Y = 1 + dK * (X * X * (Y * Y))) :
  Calls Tryz.prog 38 #[EV f, EV g] w fun e w' => ∃ r, e = .returned (.tuple #[PO r, .int .i64 0]) ∧ PtK r ⟨X, Y, hc⟩ ∧ Below w.heap.size w w' := by
 have HF := Lib.hid hf
 have HG := Lib.hid hg
 have HC : Hid (X * X + Y * Y = ofZ 1 + X * X * (Y * Y) * dK) := Lib.hid (by rw [z0t, Fin.mul_comm _ dK]; exact hc)
 have HON := Lib.hid hc
 clear hf hg
 have HT := Lib.hid hT
 clear hT
 have H := Lib.hid (Ow.start w)
 go_enter Tryz.func38, Tryz.ntmps38
 go_upto_region 1 with (first
  | ((fail_if_success have := g1); (with_reducible apply z0h H); (case hgd | ho | hx => exact rfl); clear H; intro w1 g1 H _ _; go_simp)
  | ((fail_if_success have := g2); (fail_if_success have := g2); (with_reducible apply z0h H); (case hgd | ho | hx => exact rfl); clear H; intro w2 g2 H _ _; go_simp)
  | ((fail_if_success have := g4); (with_reducible apply z0b nilPt H); (case hgd | ho => exact rfl); clear H; intro w4 g4 H _ _; go_simp))
 go_cut [6, 7] from 8 to 11 (fun v6 v7 wx => ∃ g6 g7 h9 h11, v6 = .pointer (some ⟨g6, 0, none⟩) ∧ v7 = .pointer (some ⟨g7, 0, none⟩) ∧ EK h9 (X * X) ∧ EK h11 (Y * Y) ∧ Ow w wx [(g6, Blk 29 .u64 8 (NZ h9)), (g7, Blk 29 .u64 8 (NZ h11)), (g4, Blk 38 .u64 24 fun _ => 0), (g2, Blk 29 .u64 8 (NZ g)), (g1, Blk 29 .u64 8 (NZ f))])
 case first =>
  go_wp2_with fail
  refine wp_region_noPanic ?_
  refine wp_region_held_drew (S := fun W => W.heap[g1]? = some (Blk 29 .u64 8 (NZ f)) ∧ W.heap[g2]? = some (Blk 29 .u64 8 (NZ g))) (by kernel_rfl) (⟨H.out.drew.row 2 rfl, H.out.drew.row 1 rfl⟩) (fun hH => ?_)
  replace H := Lib.hid H.out.drew
  generalize World.drew _ = w8 at *
  refine z0f 0 8 rowE rfl rfl rfl hH rfl rfl (fun _ h => h.1) ?_
  try simp only [Act.put, qa, qb, qc]
  refine z0f 2 10 rowE rfl rfl rfl hH rfl rfl (fun _ h => h.2) ?_
  try simp only [Act.put, qa, qb, qc]
  refine rdn [1, 4, 5] (rdc rfl (fun K hK => ?_) (rdc rfl (fun K hK => ?_) (rdc rfl (fun K hK => ?_) rdz)))
  ·skip
   go_simp
   refine (z0m _ HF.out).mono ?_
   rintro e wc ⟨h9, rfl, hv, hb⟩
   replace H := hcall H hb
   have HV9 := Lib.hid hv
   clear hH
   refine hK.out _ _ ⟨H.out.row 2 rfl, H.out.row 1 rfl⟩ fun hH => ?_
   clear hK K hb hv
   try simp only [Act.put, qa, qb, qc]
   refine rdn [3, 4, 5] (rdc rfl (fun K hK => ?_) (rdc rfl (fun K hK => ?_) (rdc rfl (fun K hK => ?_) rdz)))
   ·skip
    go_simp
    refine (z0m _ HG.out).mono ?_
    rintro e wc ⟨h11, rfl, hv, hb⟩
    replace H := hcall H hb
    have HV11 := Lib.hid hv
    clear hH
    refine hK.out _ _ ⟨H.out.row 2 rfl, H.out.row 1 rfl⟩ fun hH => ?_
    clear hK K hb hv
    try simp only [Act.put, qa, qb, qc]
    refine rdn [4, 5] (rdc rfl (fun K hK => ?_) (rdc rfl (fun K hK => ?_) rdz))
    ·skip
     refine z0c 6 rfl nilE H.out rfl ?_
     intro w6 g6 H3 hb
     replace H := Lib.hid H3
     clear hH
     refine hK.out _ _ ⟨H.out.row 3 rfl, H.out.row 2 rfl⟩ fun hH => ?_
     clear hK K H3 hb
     try simp only [Act.put, qa, qb, qc]
     refine rd1 5 rfl fun K hK => ?_
     refine z0c 7 rfl nilE H.out rfl ?_
     intro w7 g7 H3 hb
     replace H := Lib.hid H3
     clear hH
     refine hK.out _ _ ⟨H.out.row 4 rfl, H.out.row 3 rfl⟩ fun hH => ?_
     clear hK K H3 hb
     try simp only [Act.put, qa, qb, qc]
     refine rd1 6 rfl fun K hK => ?_
     refine z0d 1 rowE H.out rfl rfl rfl rfl ?_
     intro ws HS
     simp only [qb, qc] at HS
     replace H := Lib.hid HS
     clear hH
     refine hK.out _ _ ⟨H.out.row 4 rfl, H.out.row 3 rfl⟩ fun hH => ?_
     clear hK K HS
     try simp only [Act.put, qa]
     refine rd1 7 rfl fun K hK => ?_
     refine z0d 0 rowE H.out rfl rfl rfl rfl ?_
     intro ws HS
     simp only [qb] at HS
     replace H := Lib.hid HS
     clear hH
     refine hK.out _ _ ⟨H.out.row 4 rfl, H.out.row 3 rfl⟩ fun hH => ?_
     clear hK K HS
     try simp only [Act.put]
     try simp only [Act.put]
     refine wpAnyH_done (by kernel_rfl) ?_ _
     refine NoPanic.normal ?_
     clear hH
     replace H := Lib.hid (H.out.front (x := (g6, Blk 29 .u64 8 (NZ h9))) 1 rfl)
     go_wp2_with fail
     go_meet
     exact ⟨g6, g7, h9, h11, rfl, rfl, HV9.out, HV11.out, H.out⟩
    ·skip
     refine z0c 7 rfl nilE H.out rfl ?_
     intro w7 g7 H3 hb
     replace H := Lib.hid H3
     clear hH
     refine hK.out _ _ ⟨H.out.row 3 rfl, H.out.row 2 rfl⟩ fun hH => ?_
     clear hK K H3 hb
     try simp only [Act.put, qa, qb, qc]
     refine rd1 4 rfl fun K hK => ?_
     refine z0c 6 rfl nilE H.out rfl ?_
     intro w6 g6 H3 hb
     replace H := Lib.hid H3
     clear hH
     refine hK.out _ _ ⟨H.out.row 4 rfl, H.out.row 3 rfl⟩ fun hH => ?_
     clear hK K H3 hb
     try simp only [Act.put, qa, qb, qc]
     refine rd1 6 rfl fun K hK => ?_
     refine z0d 0 rowE H.out rfl rfl rfl rfl ?_
     intro ws HS
     simp only [qb] at HS
     replace H := Lib.hid HS
     clear hH
     refine hK.out _ _ ⟨H.out.row 4 rfl, H.out.row 3 rfl⟩ fun hH => ?_
     clear hK K HS
     try simp only [Act.put, qa]
     refine rd1 7 rfl fun K hK => ?_
     refine z0d 1 rowE H.out rfl rfl rfl rfl ?_
     intro ws HS
     simp only [qb, qc] at HS
     replace H := Lib.hid HS
     clear hH
     refine hK.out _ _ ⟨H.out.row 4 rfl, H.out.row 3 rfl⟩ fun hH => ?_
     clear hK K HS
     try simp only [Act.put]
     try simp only [Act.put]
     refine wpAnyH_done (by kernel_rfl) ?_ _
     refine NoPanic.normal ?_
     clear hH
     replace H := Lib.hid (H.out.front (x := (g7, Blk 29 .u64 8 (NZ h11))) 1 rfl)
     replace H := Lib.hid (H.out.front (x := (g6, Blk 29 .u64 8 (NZ h9))) 1 rfl)
     go_wp2_with fail
     go_meet
     exact ⟨g6, g7, h9, h11, rfl, rfl, HV9.out, HV11.out, H.out⟩
   ·skip
    refine z0c 6 rfl nilE H.out rfl ?_
    intro w6 g6 H3 hb
    replace H := Lib.hid H3
    clear hH
    refine hK.out _ _ ⟨H.out.row 3 rfl, H.out.row 2 rfl⟩ fun hH => ?_
    clear hK K H3 hb
    try simp only [Act.put, qa, qb, qc]
    refine rdn [3, 5] (rdc rfl (fun K hK => ?_) (rdc rfl (fun K hK => ?_) rdz))
    ·skip
     go_simp
     refine (z0m _ HG.out).mono ?_
     rintro e wc ⟨h11, rfl, hv, hb⟩
     replace H := hcall H hb
     have HV11 := Lib.hid hv
     clear hH
     refine hK.out _ _ ⟨H.out.row 3 rfl, H.out.row 2 rfl⟩ fun hH => ?_
     clear hK K hb hv
     try simp only [Act.put, qa, qb, qc]
     refine rd1 5 rfl fun K hK => ?_
     refine z0c 7 rfl nilE H.out rfl ?_
     intro w7 g7 H3 hb
     replace H := Lib.hid H3
     clear hH
     refine hK.out _ _ ⟨H.out.row 4 rfl, H.out.row 3 rfl⟩ fun hH => ?_
     clear hK K H3 hb
     try simp only [Act.put, qa, qb, qc]
     refine rd1 6 rfl fun K hK => ?_
     refine z0d 1 rowE H.out rfl rfl rfl rfl ?_
     intro ws HS
     simp only [qb, qc] at HS
     replace H := Lib.hid HS
     clear hH
     refine hK.out _ _ ⟨H.out.row 4 rfl, H.out.row 3 rfl⟩ fun hH => ?_
     clear hK K HS
     try simp only [Act.put, qa]
     refine rd1 7 rfl fun K hK => ?_
     refine z0d 0 rowE H.out rfl rfl rfl rfl ?_
     intro ws HS
     simp only [qb] at HS
     replace H := Lib.hid HS
     clear hH
     refine hK.out _ _ ⟨H.out.row 4 rfl, H.out.row 3 rfl⟩ fun hH => ?_
     clear hK K HS
     try simp only [Act.put]
     try simp only [Act.put]
     refine wpAnyH_done (by kernel_rfl) ?_ _
     refine NoPanic.normal ?_
     clear hH
     replace H := Lib.hid (H.out.front (x := (g6, Blk 29 .u64 8 (NZ h9))) 1 rfl)
     go_wp2_with fail
     go_meet
     exact ⟨g6, g7, h9, h11, rfl, rfl, HV9.out, HV11.out, H.out⟩
    ·skip
     refine z0c 7 rfl nilE H.out rfl ?_
     intro w7 g7 H3 hb
     replace H := Lib.hid H3
     clear hH
     refine hK.out _ _ ⟨H.out.row 4 rfl, H.out.row 3 rfl⟩ fun hH => ?_
     clear hK K H3 hb
     try simp only [Act.put, qa, qb, qc]
     refine rd1 3 rfl fun K hK => ?_
     go_simp
     refine (z0m _ HG.out).mono ?_
     rintro e wc ⟨h11, rfl, hv, hb⟩
     replace H := hcall H hb
     have HV11 := Lib.hid hv
     clear hH
     refine hK.out _ _ ⟨H.out.row 4 rfl, H.out.row 3 rfl⟩ fun hH => ?_
     clear hK K hb hv
     try simp only [Act.put, qa, qb, qc]
     refine rd1 6 rfl fun K hK => ?_
     refine z0d 1 rowE H.out rfl rfl rfl rfl ?_
     intro ws HS
     simp only [qb, qc] at HS
     replace H := Lib.hid HS
     clear hH
     refine hK.out _ _ ⟨H.out.row 4 rfl, H.out.row 3 rfl⟩ fun hH => ?_
     clear hK K HS
     try simp only [Act.put, qa]
     refine rd1 7 rfl fun K hK => ?_
     refine z0d 0 rowE H.out rfl rfl rfl rfl ?_
     intro ws HS
     simp only [qb] at HS
     replace H := Lib.hid HS
     clear hH
     refine hK.out _ _ ⟨H.out.row 4 rfl, H.out.row 3 rfl⟩ fun hH => ?_
     clear hK K HS
     try simp only [Act.put]
     try simp only [Act.put]
     refine wpAnyH_done (by kernel_rfl) ?_ _
     refine NoPanic.normal ?_
     clear hH
     replace H := Lib.hid (H.out.front (x := (g6, Blk 29 .u64 8 (NZ h9))) 1 rfl)
     go_wp2_with fail
     go_meet
     exact ⟨g6, g7, h9, h11, rfl, rfl, HV9.out, HV11.out, H.out⟩
   ·skip
    refine z0c 7 rfl nilE H.out rfl ?_
    intro w7 g7 H3 hb
    replace H := Lib.hid H3
    clear hH
    refine hK.out _ _ ⟨H.out.row 3 rfl, H.out.row 2 rfl⟩ fun hH => ?_
    clear hK K H3 hb
    try simp only [Act.put, qa, qb, qc]
    refine rdn [3, 4] (rdc rfl (fun K hK => ?_) (rdc rfl (fun K hK => ?_) rdz))
    ·skip
     go_simp
     refine (z0m _ HG.out).mono ?_
     rintro e wc ⟨h11, rfl, hv, hb⟩
     replace H := hcall H hb
     have HV11 := Lib.hid hv
     clear hH
     refine hK.out _ _ ⟨H.out.row 3 rfl, H.out.row 2 rfl⟩ fun hH => ?_
     clear hK K hb hv
     try simp only [Act.put, qa, qb, qc]
     refine rd1 4 rfl fun K hK => ?_
     refine z0c 6 rfl nilE H.out rfl ?_
     intro w6 g6 H3 hb
     replace H := Lib.hid H3
     clear hH
     refine hK.out _ _ ⟨H.out.row 4 rfl, H.out.row 3 rfl⟩ fun hH => ?_
     clear hK K H3 hb
     try simp only [Act.put, qa, qb, qc]
     refine rd1 6 rfl fun K hK => ?_
     refine z0d 0 rowE H.out rfl rfl rfl rfl ?_
     intro ws HS
     simp only [qb] at HS
     replace H := Lib.hid HS
     clear hH
     refine hK.out _ _ ⟨H.out.row 4 rfl, H.out.row 3 rfl⟩ fun hH => ?_
     clear hK K HS
     try simp only [Act.put, qa]
     refine rd1 7 rfl fun K hK => ?_
     refine z0d 1 rowE H.out rfl rfl rfl rfl ?_
     intro ws HS
     simp only [qb, qc] at HS
     replace H := Lib.hid HS
     clear hH
     refine hK.out _ _ ⟨H.out.row 4 rfl, H.out.row 3 rfl⟩ fun hH => ?_
     clear hK K HS
     try simp only [Act.put]
     try simp only [Act.put]
     refine wpAnyH_done (by kernel_rfl) ?_ _
     refine NoPanic.normal ?_
     clear hH
     replace H := Lib.hid (H.out.front (x := (g7, Blk 29 .u64 8 (NZ h11))) 1 rfl)
     replace H := Lib.hid (H.out.front (x := (g6, Blk 29 .u64 8 (NZ h9))) 1 rfl)
     go_wp2_with fail
     go_meet
     exact ⟨g6, g7, h9, h11, rfl, rfl, HV9.out, HV11.out, H.out⟩
    ·skip
     refine z0c 6 rfl nilE H.out rfl ?_
     intro w6 g6 H3 hb
     replace H := Lib.hid H3
     clear hH
     refine hK.out _ _ ⟨H.out.row 4 rfl, H.out.row 3 rfl⟩ fun hH => ?_
     clear hK K H3 hb
     try simp only [Act.put, qa, qb, qc]
     refine rd1 3 rfl fun K hK => ?_
     go_simp
     refine (z0m _ HG.out).mono ?_
     rintro e wc ⟨h11, rfl, hv, hb⟩
     replace H := hcall H hb
     have HV11 := Lib.hid hv
     clear hH
     refine hK.out _ _ ⟨H.out.row 4 rfl, H.out.row 3 rfl⟩ fun hH => ?_
     clear hK K hb hv
     try simp only [Act.put, qa, qb, qc]
     refine rd1 6 rfl fun K hK => ?_
     refine z0d 0 rowE H.out rfl rfl rfl rfl ?_
     intro ws HS
     simp only [qb] at HS
     replace H := Lib.hid HS
     clear hH
     refine hK.out _ _ ⟨H.out.row 4 rfl, H.out.row 3 rfl⟩ fun hH => ?_
     clear hK K HS
     try simp only [Act.put, qa]
     refine rd1 7 rfl fun K hK => ?_
     refine z0d 1 rowE H.out rfl rfl rfl rfl ?_
     intro ws HS
     simp only [qb, qc] at HS
     replace H := Lib.hid HS
     clear hH
     refine hK.out _ _ ⟨H.out.row 4 rfl, H.out.row 3 rfl⟩ fun hH => ?_
     clear hK K HS
     try simp only [Act.put]
     try simp only [Act.put]
     refine wpAnyH_done (by kernel_rfl) ?_ _
     refine NoPanic.normal ?_
     clear hH
     replace H := Lib.hid (H.out.front (x := (g7, Blk 29 .u64 8 (NZ h11))) 1 rfl)
     replace H := Lib.hid (H.out.front (x := (g6, Blk 29 .u64 8 (NZ h9))) 1 rfl)
     go_wp2_with fail
     go_meet
     exact ⟨g6, g7, h9, h11, rfl, rfl, HV9.out, HV11.out, H.out⟩
  ·skip
   refine z0c 6 rfl nilE H.out rfl ?_
   intro w6 g6 H3 hb
   replace H := Lib.hid H3
   clear hH
   refine hK.out _ _ ⟨H.out.row 3 rfl, H.out.row 2 rfl⟩ fun hH => ?_
   clear hK K H3 hb
   try simp only [Act.put, qa, qb, qc]
   refine rdn [1, 5] (rdc rfl (fun K hK => ?_) (rdc rfl (fun K hK => ?_) rdz))
   ·skip
    go_simp
    refine (z0m _ HF.out).mono ?_
    rintro e wc ⟨h9, rfl, hv, hb⟩
    replace H := hcall H hb
    have HV9 := Lib.hid hv
    clear hH
    refine hK.out _ _ ⟨H.out.row 3 rfl, H.out.row 2 rfl⟩ fun hH => ?_
    clear hK K hb hv
    try simp only [Act.put, qa, qb, qc]
    refine rdn [3, 5] (rdc rfl (fun K hK => ?_) (rdc rfl (fun K hK => ?_) rdz))
    ·skip
     go_simp
     refine (z0m _ HG.out).mono ?_
     rintro e wc ⟨h11, rfl, hv, hb⟩
     replace H := hcall H hb
     have HV11 := Lib.hid hv
     clear hH
     refine hK.out _ _ ⟨H.out.row 3 rfl, H.out.row 2 rfl⟩ fun hH => ?_
     clear hK K hb hv
     try simp only [Act.put, qa, qb, qc]
     refine rd1 5 rfl fun K hK => ?_
     refine z0c 7 rfl nilE H.out rfl ?_
     intro w7 g7 H3 hb
     replace H := Lib.hid H3
     clear hH
     refine hK.out _ _ ⟨H.out.row 4 rfl, H.out.row 3 rfl⟩ fun hH => ?_
     clear hK K H3 hb
     try simp only [Act.put, qa, qb, qc]
     refine rd1 6 rfl fun K hK => ?_
     refine z0d 1 rowE H.out rfl rfl rfl rfl ?_
     intro ws HS
     simp only [qb, qc] at HS
     replace H := Lib.hid HS
     clear hH
     refine hK.out _ _ ⟨H.out.row 4 rfl, H.out.row 3 rfl⟩ fun hH => ?_
     clear hK K HS
     try simp only [Act.put, qa]
     refine rd1 7 rfl fun K hK => ?_
     refine z0d 0 rowE H.out rfl rfl rfl rfl ?_
     intro ws HS
     simp only [qb] at HS
     replace H := Lib.hid HS
     clear hH
     refine hK.out _ _ ⟨H.out.row 4 rfl, H.out.row 3 rfl⟩ fun hH => ?_
     clear hK K HS
     try simp only [Act.put]
     try simp only [Act.put]
     refine wpAnyH_done (by kernel_rfl) ?_ _
     refine NoPanic.normal ?_
     clear hH
     replace H := Lib.hid (H.out.front (x := (g6, Blk 29 .u64 8 (NZ h9))) 1 rfl)
     go_wp2_with fail
     go_meet
     exact ⟨g6, g7, h9, h11, rfl, rfl, HV9.out, HV11.out, H.out⟩
    ·skip
     refine z0c 7 rfl nilE H.out rfl ?_
     intro w7 g7 H3 hb
     replace H := Lib.hid H3
     clear hH
     refine hK.out _ _ ⟨H.out.row 4 rfl, H.out.row 3 rfl⟩ fun hH => ?_
     clear hK K H3 hb
     try simp only [Act.put, qa, qb, qc]
     refine rd1 3 rfl fun K hK => ?_
     go_simp
     refine (z0m _ HG.out).mono ?_
     rintro e wc ⟨h11, rfl, hv, hb⟩
     replace H := hcall H hb
     have HV11 := Lib.hid hv
     clear hH
     refine hK.out _ _ ⟨H.out.row 4 rfl, H.out.row 3 rfl⟩ fun hH => ?_
     clear hK K hb hv
     try simp only [Act.put, qa, qb, qc]
     refine rd1 6 rfl fun K hK => ?_
     refine z0d 1 rowE H.out rfl rfl rfl rfl ?_
     intro ws HS
     simp only [qb, qc] at HS
     replace H := Lib.hid HS
     clear hH
     refine hK.out _ _ ⟨H.out.row 4 rfl, H.out.row 3 rfl⟩ fun hH => ?_
     clear hK K HS
     try simp only [Act.put, qa]
     refine rd1 7 rfl fun K hK => ?_
     refine z0d 0 rowE H.out rfl rfl rfl rfl ?_
     intro ws HS
     simp only [qb] at HS
     replace H := Lib.hid HS
     clear hH
     refine hK.out _ _ ⟨H.out.row 4 rfl, H.out.row 3 rfl⟩ fun hH => ?_
     clear hK K HS
     try simp only [Act.put]
     try simp only [Act.put]
     refine wpAnyH_done (by kernel_rfl) ?_ _
     refine NoPanic.normal ?_
     clear hH
     replace H := Lib.hid (H.out.front (x := (g6, Blk 29 .u64 8 (NZ h9))) 1 rfl)
     go_wp2_with fail
     go_meet
     exact ⟨g6, g7, h9, h11, rfl, rfl, HV9.out, HV11.out, H.out⟩
   ·skip
    refine z0c 7 rfl nilE H.out rfl ?_
    intro w7 g7 H3 hb
    replace H := Lib.hid H3
    clear hH
    refine hK.out _ _ ⟨H.out.row 4 rfl, H.out.row 3 rfl⟩ fun hH => ?_
    clear hK K H3 hb
    try simp only [Act.put, qa, qb, qc]
    refine rd1 1 rfl fun K hK => ?_
    go_simp
    refine (z0m _ HF.out).mono ?_
    rintro e wc ⟨h9, rfl, hv, hb⟩
    replace H := hcall H hb
    have HV9 := Lib.hid hv
    clear hH
    refine hK.out _ _ ⟨H.out.row 4 rfl, H.out.row 3 rfl⟩ fun hH => ?_
    clear hK K hb hv
    try simp only [Act.put, qa, qb, qc]
    refine rd1 3 rfl fun K hK => ?_
    go_simp
    refine (z0m _ HG.out).mono ?_
    rintro e wc ⟨h11, rfl, hv, hb⟩
    replace H := hcall H hb
    have HV11 := Lib.hid hv
    clear hH
    refine hK.out _ _ ⟨H.out.row 4 rfl, H.out.row 3 rfl⟩ fun hH => ?_
    clear hK K hb hv
    try simp only [Act.put, qa, qb, qc]
    refine rd1 6 rfl fun K hK => ?_
    refine z0d 1 rowE H.out rfl rfl rfl rfl ?_
    intro ws HS
    simp only [qb, qc] at HS
    replace H := Lib.hid HS
    clear hH
    refine hK.out _ _ ⟨H.out.row 4 rfl, H.out.row 3 rfl⟩ fun hH => ?_
    clear hK K HS
    try simp only [Act.put, qa]
    refine rd1 7 rfl fun K hK => ?_
    refine z0d 0 rowE H.out rfl rfl rfl rfl ?_
    intro ws HS
    simp only [qb] at HS
    replace H := Lib.hid HS
    clear hH
    refine hK.out _ _ ⟨H.out.row 4 rfl, H.out.row 3 rfl⟩ fun hH => ?_
    clear hK K HS
    try simp only [Act.put]
    try simp only [Act.put]
    refine wpAnyH_done (by kernel_rfl) ?_ _
    refine NoPanic.normal ?_
    clear hH
    replace H := Lib.hid (H.out.front (x := (g6, Blk 29 .u64 8 (NZ h9))) 1 rfl)
    go_wp2_with fail
    go_meet
    exact ⟨g6, g7, h9, h11, rfl, rfl, HV9.out, HV11.out, H.out⟩
  ·skip
   refine z0c 7 rfl nilE H.out rfl ?_
   intro w7 g7 H3 hb
   replace H := Lib.hid H3
   clear hH
   refine hK.out _ _ ⟨H.out.row 3 rfl, H.out.row 2 rfl⟩ fun hH => ?_
   clear hK K H3 hb
   try simp only [Act.put, qa, qb, qc]
   refine rdn [1, 4] (rdc rfl (fun K hK => ?_) (rdc rfl (fun K hK => ?_) rdz))
   ·skip
    go_simp
    refine (z0m _ HF.out).mono ?_
    rintro e wc ⟨h9, rfl, hv, hb⟩
    replace H := hcall H hb
    have HV9 := Lib.hid hv
    clear hH
    refine hK.out _ _ ⟨H.out.row 3 rfl, H.out.row 2 rfl⟩ fun hH => ?_
    clear hK K hb hv
    try simp only [Act.put, qa, qb, qc]
    refine rdn [3, 4] (rdc rfl (fun K hK => ?_) (rdc rfl (fun K hK => ?_) rdz))
    ·skip
     go_simp
     refine (z0m _ HG.out).mono ?_
     rintro e wc ⟨h11, rfl, hv, hb⟩
     replace H := hcall H hb
     have HV11 := Lib.hid hv
     clear hH
     refine hK.out _ _ ⟨H.out.row 3 rfl, H.out.row 2 rfl⟩ fun hH => ?_
     clear hK K hb hv
     try simp only [Act.put, qa, qb, qc]
     refine rd1 4 rfl fun K hK => ?_
     refine z0c 6 rfl nilE H.out rfl ?_
     intro w6 g6 H3 hb
     replace H := Lib.hid H3
     clear hH
     refine hK.out _ _ ⟨H.out.row 4 rfl, H.out.row 3 rfl⟩ fun hH => ?_
     clear hK K H3 hb
     try simp only [Act.put, qa, qb, qc]
     refine rd1 6 rfl fun K hK => ?_
     refine z0d 0 rowE H.out rfl rfl rfl rfl ?_
     intro ws HS
     simp only [qb] at HS
     replace H := Lib.hid HS
     clear hH
     refine hK.out _ _ ⟨H.out.row 4 rfl, H.out.row 3 rfl⟩ fun hH => ?_
     clear hK K HS
     try simp only [Act.put, qa]
     refine rd1 7 rfl fun K hK => ?_
     refine z0d 1 rowE H.out rfl rfl rfl rfl ?_
     intro ws HS
     simp only [qb, qc] at HS
     replace H := Lib.hid HS
     clear hH
     refine hK.out _ _ ⟨H.out.row 4 rfl, H.out.row 3 rfl⟩ fun hH => ?_
     clear hK K HS
     try simp only [Act.put]
     try simp only [Act.put]
     refine wpAnyH_done (by kernel_rfl) ?_ _
     refine NoPanic.normal ?_
     clear hH
     replace H := Lib.hid (H.out.front (x := (g7, Blk 29 .u64 8 (NZ h11))) 1 rfl)
     replace H := Lib.hid (H.out.front (x := (g6, Blk 29 .u64 8 (NZ h9))) 1 rfl)
     go_wp2_with fail
     go_meet
     exact ⟨g6, g7, h9, h11, rfl, rfl, HV9.out, HV11.out, H.out⟩
    ·skip
     refine z0c 6 rfl nilE H.out rfl ?_
     intro w6 g6 H3 hb
     replace H := Lib.hid H3
     clear hH
     refine hK.out _ _ ⟨H.out.row 4 rfl, H.out.row 3 rfl⟩ fun hH => ?_
     clear hK K H3 hb
     try simp only [Act.put, qa, qb, qc]
     refine rd1 3 rfl fun K hK => ?_
     go_simp
     refine (z0m _ HG.out).mono ?_
     rintro e wc ⟨h11, rfl, hv, hb⟩
     replace H := hcall H hb
     have HV11 := Lib.hid hv
     clear hH
     refine hK.out _ _ ⟨H.out.row 4 rfl, H.out.row 3 rfl⟩ fun hH => ?_
     clear hK K hb hv
     try simp only [Act.put, qa, qb, qc]
     refine rd1 6 rfl fun K hK => ?_
     refine z0d 0 rowE H.out rfl rfl rfl rfl ?_
     intro ws HS
     simp only [qb] at HS
     replace H := Lib.hid HS
     clear hH
     refine hK.out _ _ ⟨H.out.row 4 rfl, H.out.row 3 rfl⟩ fun hH => ?_
     clear hK K HS
     try simp only [Act.put, qa]
     refine rd1 7 rfl fun K hK => ?_
     refine z0d 1 rowE H.out rfl rfl rfl rfl ?_
     intro ws HS
     simp only [qb, qc] at HS
     replace H := Lib.hid HS
     clear hH
     refine hK.out _ _ ⟨H.out.row 4 rfl, H.out.row 3 rfl⟩ fun hH => ?_
     clear hK K HS
     try simp only [Act.put]
     try simp only [Act.put]
     refine wpAnyH_done (by kernel_rfl) ?_ _
     refine NoPanic.normal ?_
     clear hH
     replace H := Lib.hid (H.out.front (x := (g7, Blk 29 .u64 8 (NZ h11))) 1 rfl)
     replace H := Lib.hid (H.out.front (x := (g6, Blk 29 .u64 8 (NZ h9))) 1 rfl)
     go_wp2_with fail
     go_meet
     exact ⟨g6, g7, h9, h11, rfl, rfl, HV9.out, HV11.out, H.out⟩
   ·skip
    refine z0c 6 rfl nilE H.out rfl ?_
    intro w6 g6 H3 hb
    replace H := Lib.hid H3
    clear hH
    refine hK.out _ _ ⟨H.out.row 4 rfl, H.out.row 3 rfl⟩ fun hH => ?_
    clear hK K H3 hb
    try simp only [Act.put, qa, qb, qc]
    refine rd1 1 rfl fun K hK => ?_
    go_simp
    refine (z0m _ HF.out).mono ?_
    rintro e wc ⟨h9, rfl, hv, hb⟩
    replace H := hcall H hb
    have HV9 := Lib.hid hv
    clear hH
    refine hK.out _ _ ⟨H.out.row 4 rfl, H.out.row 3 rfl⟩ fun hH => ?_
    clear hK K hb hv
    try simp only [Act.put, qa, qb, qc]
    refine rd1 3 rfl fun K hK => ?_
    go_simp
    refine (z0m _ HG.out).mono ?_
    rintro e wc ⟨h11, rfl, hv, hb⟩
    replace H := hcall H hb
    have HV11 := Lib.hid hv
    clear hH
    refine hK.out _ _ ⟨H.out.row 4 rfl, H.out.row 3 rfl⟩ fun hH => ?_
    clear hK K hb hv
    try simp only [Act.put, qa, qb, qc]
    refine rd1 6 rfl fun K hK => ?_
    refine z0d 0 rowE H.out rfl rfl rfl rfl ?_
    intro ws HS
    simp only [qb] at HS
    replace H := Lib.hid HS
    clear hH
    refine hK.out _ _ ⟨H.out.row 4 rfl, H.out.row 3 rfl⟩ fun hH => ?_
    clear hK K HS
    try simp only [Act.put, qa]
    refine rd1 7 rfl fun K hK => ?_
    refine z0d 1 rowE H.out rfl rfl rfl rfl ?_
    intro ws HS
    simp only [qb, qc] at HS
    replace H := Lib.hid HS
    clear hH
    refine hK.out _ _ ⟨H.out.row 4 rfl, H.out.row 3 rfl⟩ fun hH => ?_
    clear hK K HS
    try simp only [Act.put]
    try simp only [Act.put]
    refine wpAnyH_done (by kernel_rfl) ?_ _
    refine NoPanic.normal ?_
    clear hH
    replace H := Lib.hid (H.out.front (x := (g7, Blk 29 .u64 8 (NZ h11))) 1 rfl)
    replace H := Lib.hid (H.out.front (x := (g6, Blk 29 .u64 8 (NZ h9))) 1 rfl)
    go_wp2_with fail
    go_meet
    exact ⟨g6, g7, h9, h11, rfl, rfl, HV9.out, HV11.out, H.out⟩
 clear H
 obtain ⟨g6, g7, h9, h11, rfl, rfl, hv9, hv11, HRR⟩ := hcut
 have HV9 := Lib.hid hv9
 have HV11 := Lib.hid hv11
 have H := Lib.hid HRR
 clear HRR hv9 hv11
 go_upto_region 2 with fail
 go_wp2_with fail
 refine wp_region_noPanic ?_
 refine wp_region_held_drew (S := fun W => W.heap[g6]? = some (Blk 29 .u64 8 (NZ h9)) ∧ W.heap[g7]? = some (Blk 29 .u64 8 (NZ h11))) (by kernel_rfl) (⟨H.out.drew.row 0 rfl, H.out.drew.row 1 rfl⟩) (fun hH => ?_)
 replace H := Lib.hid H.out.drew
 generalize World.drew _ = w8 at *
 refine z0f 0 12 rowE rfl rfl rfl hH rfl rfl (fun _ h => h.1) ?_
 try simp only [Act.put, qa, qb, qc]
 refine z0f 1 13 rowE rfl rfl rfl hH rfl rfl (fun _ h => h.2) ?_
 try simp only [Act.put, qa, qb, qc]
 refine z0f 4 16 rowE rfl rfl rfl hH rfl rfl (fun _ h => h.1) ?_
 try simp only [Act.put, qa, qb, qc]
 refine z0f 5 17 rowE rfl rfl rfl hH rfl rfl (fun _ h => h.2) ?_
 try simp only [Act.put, qa, qb, qc]
 refine rd1 2 rfl fun K hK => ?_
 go_simp
 refine (add_k _ HV9.out HV11.out).mono ?_
 rintro e wc ⟨h14, rfl, hv, hb⟩
 replace H := hcall H hb
 have HV14 := Lib.hid hv
 clear hH
 refine hK.out _ _ ⟨H.out.row 0 rfl, H.out.row 1 rfl⟩ fun hH => ?_
 clear hK K hb hv
 try simp only [Act.put, qa, qb, qc]
 refine rd1 3 rfl fun K hK => ?_
 go_simp
 refine (int_k (1) _ (HT.out.below H.out.bel) (by omega) (by omega)).mono ?_
 rintro e wc ⟨h15, rfl, hv, hb⟩
 replace H := hcall H hb
 have HV15 := Lib.hid hv
 clear hH
 refine hK.out _ _ ⟨H.out.row 0 rfl, H.out.row 1 rfl⟩ fun hH => ?_
 clear hK K hb hv
 try simp only [Act.put, qa, qb, qc]
 refine rd1 6 rfl fun K hK => ?_
 go_simp
 refine (z2p _ (HT.out.below H.out.bel) HV9.out HV11.out).mono ?_
 rintro e wc ⟨h18, rfl, hv, hb⟩
 replace H := hcall H hb
 have HV18 := Lib.hid hv
 clear hH
 refine hK.out _ _ ⟨H.out.row 0 rfl, H.out.row 1 rfl⟩ fun hH => ?_
 clear hK K hb hv
 try simp only [Act.put, qa, qb, qc]
 refine rd1 7 rfl fun K hK => ?_
 go_simp
 refine (add_k _ HV15.out HV18.out).mono ?_
 rintro e wc ⟨h19, rfl, hv, hb⟩
 replace H := hcall H hb
 have HV19 := Lib.hid hv
 clear hH
 refine hK.out _ _ ⟨H.out.row 0 rfl, H.out.row 1 rfl⟩ fun hH => ?_
 clear hK K hb hv
 try simp only [Act.put, qa, qb, qc]
 refine rd1 8 rfl fun K hK => ?_
 go_simp
 refine (equal_kt _ (HT.out.below H.out.bel) HV14.out HV19.out HC.out).mono ?_
 rintro e wc ⟨rfl, hb⟩
 replace H := hcall H hb
 clear hH
 refine hK.out _ _ ⟨H.out.row 0 rfl, H.out.row 1 rfl⟩ fun hH => ?_
 clear hK K hb
 try simp only [Act.put, qa, qb, qc]
 refine z0a 9 21 (.bool false) rfl rfl rfl hH (fun w hw => by go_simp) ?_
 try simp only [Act.put, qa, qb, qc]
 try simp only [Act.put]
 refine wpAnyH_done (by kernel_rfl) ?_ _
 refine NoPanic.normal ?_
 clear hH
 go_wp2_with fail
 refine wp_region_noPanic ?_
 refine wp_region_held_drew (S := fun W => W.heap[g1]? = some (Blk 29 .u64 8 (NZ f)) ∧ W.heap[g2]? = some (Blk 29 .u64 8 (NZ g))) (by kernel_rfl) (⟨H.out.drew.row 4 rfl, H.out.drew.row 3 rfl⟩) (fun hH => ?_)
 replace H := Lib.hid H.out.drew
 generalize World.drew _ = w8 at *
 refine z0f 0 23 rowE rfl rfl rfl hH rfl rfl (fun _ h => h.1) ?_
 try simp only [Act.put, qa, qb, qc]
 refine z0f 1 24 rowE rfl rfl rfl hH rfl rfl (fun _ h => h.2) ?_
 try simp only [Act.put, qa, qb, qc]
 refine rd1 2 rfl fun K hK => ?_
 go_simp
 refine (int_k (1) _ (HT.out.below H.out.bel) (by omega) (by omega)).mono ?_
 rintro e wc ⟨h25, rfl, hv, hb⟩
 replace H := hcall H hb
 have HV25 := Lib.hid hv
 clear hH
 refine hK.out _ _ ⟨H.out.row 4 rfl, H.out.row 3 rfl⟩ fun hH => ?_
 clear hK K hb hv
 try simp only [Act.put, qa, qb, qc]
 refine z6v 3 26 rfl rfl rfl hH rfl rfl rfl rfl ?_
 try simp only [Act.put, qa, qb, qc]
 refine rd1 4 rfl fun K hK => ?_
 refine z0d 2 rowPt H.out rfl rfl rfl rfl ?_
 intro ws HS
 simp only [qb, qc] at HS
 replace H := Lib.hid HS
 clear hH
 refine hK.out _ _ ⟨H.out.row 4 rfl, H.out.row 3 rfl⟩ fun hH => ?_
 clear hK K HS
 try simp only [Act.put, qa]
 refine z0a 5 5 (.int .i64 0) rfl rfl rfl hH (fun w hw => by go_simp) ?_
 try simp only [Act.put]
 try simp only [Act.put]
 refine wpAnyH_done (by kernel_rfl) ?_ _
 refine NoPanic.normal ?_
 clear hH
 go_wp2_with fail
 exact bodyPost_ret (z0n 2 rowPt rfl _ H rfl rfl rfl) rfl ⟨_, rfl, ⟨_, _, _, _, _, _, rfl, HF.out, HG.out, HV25.out.eq z0t, Rp.one edK ⟨X, Y, HON.out⟩⟩, H.out.bel⟩
theorem ptAffine_k {v1 : Nat → Int} {P1 : Pt pN dK} (w : World) (p1 : PtK v1 P1) :
  Calls Tryz.prog 25 #[PO v1] w fun e w' => ∃ f g, e = .returned (.tuple #[EV f, EV g]) ∧ EK f P1.x ∧ EK g P1.y ∧ Below w.heap.size w w' := by
 obtain ⟨x1, y1, z1, X1, Y1, Z1, rfl, e1x, e1y, e1z, r1⟩ := p1.is
 have E1x := Lib.hid e1x
 have E1y := Lib.hid e1y
 have E1z := Lib.hid e1z
 have R1 := Lib.hid r1
 clear p1 e1x e1y e1z r1
 have H := Lib.hid (Ow.start w)
 go_enter Tryz.func25, Tryz.ntmps25
 go_wp2_with (first
  | ((fail_if_success have := g1); (with_reducible apply z0h H); (case hgd | ho | hx => exact rfl); clear H; intro w1 g1 H _ _; go_simp)
  | ((fail_if_success have := g2); (with_reducible apply z0b nilE H); (case hgd | ho => exact rfl); clear H; intro w2 g2 H _ _; go_simp)
  | ((fail_if_success have := g3); (fail_if_success have := g3); (with_reducible apply z0b nilE H); (case hgd | ho => exact rfl); clear H; intro w3 g3 H _ _; go_simp)
  | ((with_reducible apply z4j rowE H); (case hgd | ho | hx => exact rfl); (case hi => repeat first|exact at0|apply atS); (case hp => first | exact z11 | exact z10 | exact z2v); intro _ _; go_simp)
  | ((fail_if_success have := V1); (with_reducible refine (z7m _ E1z.out).mono ?_); rintro e wc ⟨k1, rfl, hv, hb⟩; replace H := hcall H hb; clear hb; have V1 := Lib.hid hv; clear hv)
  | ((fail_if_success have := g4); (fail_if_success have := g4); (with_reducible apply z0b nilE H); (case hgd | ho => exact rfl); clear H; intro w4 g4 H _ _; go_simp)
  | ((with_reducible apply z0e rowE H); (case hgd | ho | hx | hy => exact rfl); (case hi => repeat first|exact at0|apply atS); clear H; intro ws H _ _; simp only [qb] at H; go_simp))
 refine wp_region_noPanic ?_
 refine wp_region_held_drew (S := fun W => W.heap[g1]? = some (Blk 38 .u64 24 ((t3 8 (NZ x1) (NZ y1) (NZ z1)))) ∧ W.heap[g4]? = some (Blk 29 .u64 8 (NZ k1))) (by kernel_rfl) (⟨H.out.drew.row 3 rfl, H.out.drew.row 0 rfl⟩) (fun hH => ?_)
 replace H := Lib.hid H.out.drew
 generalize World.drew _ = w8 at *
 refine z0a 0 8 (.pointer (some ⟨g1, 0, none⟩)) rfl rfl rfl hH (fun w hw => by go_simp) ?_
 try simp only [Act.put, qa, qb, qc]
 refine z0k 1 9 rowE rfl rfl rfl hH rfl rfl z11 (fun _ h => h.1) ?_
 try simp only [Act.put, qa, qb, qc]
 refine z0f 2 10 rowE rfl rfl rfl hH rfl rfl (fun _ h => h.2) ?_
 try simp only [Act.put, qa, qb, qc]
 refine z0a 4 12 (.pointer (some ⟨g1, 8, none⟩)) rfl rfl rfl hH (fun w hw => by go_simp) ?_
 try simp only [Act.put, qa, qb, qc]
 refine z0k 5 13 rowE rfl rfl rfl hH rfl rfl z10 (fun _ h => h.1) ?_
 try simp only [Act.put, qa, qb, qc]
 refine z0f 6 14 rowE rfl rfl rfl hH rfl rfl (fun _ h => h.2) ?_
 try simp only [Act.put, qa, qb, qc]
 refine rd1 3 rfl fun K hK => ?_
 go_simp
 refine (mul_k _ E1x.out V1.out).mono ?_
 rintro e wc ⟨h11, rfl, hv, hb⟩
 replace H := hcall H hb
 have HV11 := Lib.hid hv
 clear hH
 refine hK.out _ _ ⟨H.out.row 3 rfl, H.out.row 0 rfl⟩ fun hH => ?_
 clear hK K hb hv
 try simp only [Act.put, qa, qb, qc]
 refine rd1 7 rfl fun K hK => ?_
 go_simp
 refine (mul_k _ E1y.out V1.out).mono ?_
 rintro e wc ⟨h15, rfl, hv, hb⟩
 replace H := hcall H hb
 have HV15 := Lib.hid hv
 clear hH
 refine hK.out _ _ ⟨H.out.row 3 rfl, H.out.row 0 rfl⟩ fun hH => ?_
 clear hK K hb hv
 try simp only [Act.put, qa, qb, qc]
 refine rd1 8 rfl fun K hK => ?_
 refine z0d 2 rowE H.out rfl rfl rfl rfl ?_
 intro ws HS
 simp only [qb, qc] at HS
 replace H := Lib.hid HS
 clear hH
 refine hK.out _ _ ⟨H.out.row 3 rfl, H.out.row 0 rfl⟩ fun hH => ?_
 clear hK K HS
 try simp only [Act.put, qa]
 refine rd1 9 rfl fun K hK => ?_
 refine z0d 1 rowE H.out rfl rfl rfl rfl ?_
 intro ws HS
 simp only [qb, qc] at HS
 replace H := Lib.hid HS
 clear hH
 refine hK.out _ _ ⟨H.out.row 3 rfl, H.out.row 0 rfl⟩ fun hH => ?_
 clear hK K HS
 try simp only [Act.put]
 try simp only [Act.put]
 refine wpAnyH_done (by kernel_rfl) ?_ _
 refine NoPanic.normal ?_
 clear hH
 go_wp2_with fail
 exact bodyPost_ret (z5l 2 1 rowE rfl _ H rfl rfl rfl rfl) rfl ⟨_, _, rfl, HV11.out.eq (R1.out.affine edK).1, HV15.out.eq (R1.out.affine edK).2, H.out.bel⟩
end Go.Proofs.YtoeokhfhcpcjlaaGreatDoor
