/- Lemmas; no statement is proved here. -/
import Derived.Test.YtgjbonikbmgfmaaGreatDoorBuH
set_option maxRecDepth 8000
set_option maxHeartbeats 3200000
namespace Go.Proofs.YtgjbonikbmgfmaaGreatDoor
open Go.RowKit
theorem y32 {f g : Nat → Nat} {X Y : K} (w : World) (hT : Tp w) (hf : EK f X) (hg : EK g Y) (hc : X * X + Y * Y = 1 + dK * (X * X * (Y * Y))) :
  Calls Tryz.prog 60 #[EV f, EV g] w fun e w' => ∃ r, e = .returned (.tuple #[PO r, .int .i64 0]) ∧ PtK r ⟨X, Y, hc⟩ ∧ Below w.heap.size w w' := by
 have HF := za hf
 have HG := za hg
 have HC : Hid (X * X + Y * Y = zC 1 + X * X * (Y * Y) * dK) := za (by rw [z00, Fin.mul_comm _ dK]; exact hc)
 have HON := za hc
 clear hf hg
 have HT := za hT
 clear hT
 have H := za (Ow.start w)
 go_enter Tryz.func60, Tryz.ntmps60
 go_upto_region 1 with (first
  | ((fail_if_success have := g1); (with_reducible apply zw H); (case hgd | ho | hx => exact rfl); clear H; intro w1 g1 H _ _; go_simp)
  | ((fail_if_success have := g2); (with_reducible apply zw H); (case hgd | ho | hx => exact rfl); clear H; intro w2 g2 H _ _; go_simp)
  | ((fail_if_success have := g4); (with_reducible apply ze z1d H); (case hgd | ho => exact rfl); clear H; intro w4 g4 H _ _; go_simp))
 go_cut [6, 7] from 8 to 11 (fun v6 v7 wx => ∃ g6 g7 h9 h11, v6 = .pointer (some ⟨g6, 0, none⟩) ∧ v7 = .pointer (some ⟨g7, 0, none⟩) ∧ EK h9 (X * X) ∧ EK h11 (Y * Y) ∧ Ow w wx [(g6, zv 30 .u64 8 (NZ h9)), (g7, zv 30 .u64 8 (NZ h11)), (g4, zv 32 .u64 24 fun _ => 0), (g2, zv 30 .u64 8 (NZ g)), (g1, zv 30 .u64 8 (NZ f))])
 case first =>
  go_wp2_with fail
  refine wp_region_noPanic ?_
  refine wp_region_held_drew (S := fun W => W.heap[g1]? = some (zv 30 .u64 8 (NZ f)) ∧ W.heap[g2]? = some (zv 30 .u64 8 (NZ g))) (by kernel_rfl) (⟨H.out.drew.row 2 rfl, H.out.drew.row 1 rfl⟩) (fun hH => ?_)
  replace H := za H.out.drew
  generalize World.drew _ = w8 at *
  refine zk 0 8 zt rfl rfl rfl hH rfl rfl (fun _ h => h.1) ?_
  refine zk 2 10 zt rfl rfl rfl hH rfl rfl (fun _ h => h.2) ?_
  refine zK [1, 4, 5] (zG rfl (fun K hK => ?_) (zG rfl (fun K hK => ?_) (zG rfl (fun K hK => ?_) zJ)))
  ·skip
   go_simp
   refine (z0f _ HF.out).mono ?_
   rintro e wc ⟨h9, rfl, hv, hb⟩
   replace H := zd H hb
   have HV9 := za hv
   refine zc hK ⟨zb H 2, zb H 1⟩ fun hH => ?_
   try simp only [Act.put, qa, qb, qc]
   refine zK [3, 4, 5] (zG rfl (fun K hK => ?_) (zG rfl (fun K hK => ?_) (zG rfl (fun K hK => ?_) zJ)))
   ·skip
    go_simp
    refine (z0f _ HG.out).mono ?_
    rintro e wc ⟨h11, rfl, hv, hb⟩
    replace H := zd H hb
    have HV11 := za hv
    refine zc hK ⟨zb H 2, zb H 1⟩ fun hH => zK [4, 5] (zG rfl (fun K hK => ?_) (zG rfl (fun K hK => ?_) zJ))
    ·skip
     refine zg 6 rfl z9 H.out rfl ?_
     intro w6 g6 H3 hb
     replace H := za H3
     refine zc hK ⟨zb H 3, zb H 2⟩ fun hH => zn 5 rfl fun K hK => ?_
     refine zg 7 rfl z9 H.out rfl ?_
     intro w7 g7 H3 hb
     replace H := za H3
     refine zc hK ⟨zb H 4, zb H 3⟩ fun hH => ?_
     try simp only [Act.put, qa, qb, qc]
     refine zn 6 rfl fun K hK => ?_
     refine zl 1 zt H.out rfl rfl rfl rfl ?_
     intro ws HS
     simp only [qb, qc] at HS
     replace H := za HS
     refine zc hK ⟨zb H 4, zb H 3⟩ fun hH => ?_
     try simp only [Act.put, qa]
     refine zn 7 rfl fun K hK => ?_
     refine zl 0 zt H.out rfl rfl rfl rfl ?_
     intro ws HS
     simp only [qb] at HS
     replace H := za HS
     refine zc hK ⟨zb H 4, zb H 3⟩ fun hH => ?_
     try simp only [Act.put]
     refine zm ?_
     replace H := za (H.out.front (x := (g6, zv 30 .u64 8 (NZ h9))) 1 rfl)
     go_wp2_with fail
     go_meet
     exact ⟨g6, g7, h9, h11, rfl, rfl, HV9.out, HV11.out, H.out⟩
    ·skip
     refine zg 7 rfl z9 H.out rfl ?_
     intro w7 g7 H3 hb
     replace H := za H3
     refine zc hK ⟨zb H 3, zb H 2⟩ fun hH => zn 4 rfl fun K hK => ?_
     refine zg 6 rfl z9 H.out rfl ?_
     intro w6 g6 H3 hb
     replace H := za H3
     refine zc hK ⟨zb H 4, zb H 3⟩ fun hH => zn 6 rfl fun K hK => ?_
     refine zl 0 zt H.out rfl rfl rfl rfl ?_
     intro ws HS
     simp only [qb] at HS
     replace H := za HS
     refine zc hK ⟨zb H 4, zb H 3⟩ fun hH => ?_
     try simp only [Act.put, qa]
     refine zn 7 rfl fun K hK => ?_
     refine zl 1 zt H.out rfl rfl rfl rfl ?_
     intro ws HS
     simp only [qb, qc] at HS
     replace H := za HS
     refine zc hK ⟨zb H 4, zb H 3⟩ fun hH => ?_
     try simp only [Act.put]
     refine zm ?_
     replace H := za (H.out.front (x := (g7, zv 30 .u64 8 (NZ h11))) 1 rfl)
     replace H := za (H.out.front (x := (g6, zv 30 .u64 8 (NZ h9))) 1 rfl)
     go_wp2_with fail
     go_meet
     exact ⟨g6, g7, h9, h11, rfl, rfl, HV9.out, HV11.out, H.out⟩
   ·skip
    refine zg 6 rfl z9 H.out rfl ?_
    intro w6 g6 H3 hb
    replace H := za H3
    refine zc hK ⟨zb H 3, zb H 2⟩ fun hH => ?_
    try simp only [Act.put, qa, qb, qc]
    refine zK [3, 5] (zG rfl (fun K hK => ?_) (zG rfl (fun K hK => ?_) zJ))
    ·skip
     go_simp
     refine (z0f _ HG.out).mono ?_
     rintro e wc ⟨h11, rfl, hv, hb⟩
     replace H := zd H hb
     have HV11 := za hv
     refine zc hK ⟨zb H 3, zb H 2⟩ fun hH => zn 5 rfl fun K hK => ?_
     refine zg 7 rfl z9 H.out rfl ?_
     intro w7 g7 H3 hb
     replace H := za H3
     refine zc hK ⟨zb H 4, zb H 3⟩ fun hH => zn 6 rfl fun K hK => ?_
     refine zl 1 zt H.out rfl rfl rfl rfl ?_
     intro ws HS
     simp only [qb, qc] at HS
     replace H := za HS
     refine zc hK ⟨zb H 4, zb H 3⟩ fun hH => ?_
     try simp only [Act.put, qa]
     refine zn 7 rfl fun K hK => ?_
     refine zl 0 zt H.out rfl rfl rfl rfl ?_
     intro ws HS
     simp only [qb] at HS
     replace H := za HS
     refine zc hK ⟨zb H 4, zb H 3⟩ fun hH => ?_
     try simp only [Act.put]
     refine zm ?_
     replace H := za (H.out.front (x := (g6, zv 30 .u64 8 (NZ h9))) 1 rfl)
     go_wp2_with fail
     go_meet
     exact ⟨g6, g7, h9, h11, rfl, rfl, HV9.out, HV11.out, H.out⟩
    ·skip
     refine zg 7 rfl z9 H.out rfl ?_
     intro w7 g7 H3 hb
     replace H := za H3
     refine zc hK ⟨zb H 4, zb H 3⟩ fun hH => ?_
     try simp only [Act.put, qa, qb, qc]
     refine zn 3 rfl fun K hK => ?_
     go_simp
     refine (z0f _ HG.out).mono ?_
     rintro e wc ⟨h11, rfl, hv, hb⟩
     replace H := zd H hb
     have HV11 := za hv
     refine zc hK ⟨zb H 4, zb H 3⟩ fun hH => zn 6 rfl fun K hK => ?_
     refine zl 1 zt H.out rfl rfl rfl rfl ?_
     intro ws HS
     simp only [qb, qc] at HS
     replace H := za HS
     refine zc hK ⟨zb H 4, zb H 3⟩ fun hH => ?_
     try simp only [Act.put, qa]
     refine zn 7 rfl fun K hK => ?_
     refine zl 0 zt H.out rfl rfl rfl rfl ?_
     intro ws HS
     simp only [qb] at HS
     replace H := za HS
     refine zc hK ⟨zb H 4, zb H 3⟩ fun hH => ?_
     try simp only [Act.put]
     refine zm ?_
     replace H := za (H.out.front (x := (g6, zv 30 .u64 8 (NZ h9))) 1 rfl)
     go_wp2_with fail
     go_meet
     exact ⟨g6, g7, h9, h11, rfl, rfl, HV9.out, HV11.out, H.out⟩
   ·skip
    refine zg 7 rfl z9 H.out rfl ?_
    intro w7 g7 H3 hb
    replace H := za H3
    refine zc hK ⟨zb H 3, zb H 2⟩ fun hH => zK [3, 4] (zG rfl (fun K hK => ?_) (zG rfl (fun K hK => ?_) zJ))
    ·skip
     go_simp
     refine (z0f _ HG.out).mono ?_
     rintro e wc ⟨h11, rfl, hv, hb⟩
     replace H := zd H hb
     have HV11 := za hv
     refine zc hK ⟨zb H 3, zb H 2⟩ fun hH => ?_
     try simp only [Act.put, qa, qb, qc]
     refine zn 4 rfl fun K hK => ?_
     refine zg 6 rfl z9 H.out rfl ?_
     intro w6 g6 H3 hb
     replace H := za H3
     refine zc hK ⟨zb H 4, zb H 3⟩ fun hH => zn 6 rfl fun K hK => ?_
     refine zl 0 zt H.out rfl rfl rfl rfl ?_
     intro ws HS
     simp only [qb] at HS
     replace H := za HS
     refine zc hK ⟨zb H 4, zb H 3⟩ fun hH => ?_
     try simp only [Act.put, qa]
     refine zn 7 rfl fun K hK => ?_
     refine zl 1 zt H.out rfl rfl rfl rfl ?_
     intro ws HS
     simp only [qb, qc] at HS
     replace H := za HS
     refine zc hK ⟨zb H 4, zb H 3⟩ fun hH => ?_
     try simp only [Act.put]
     refine zm ?_
     replace H := za (H.out.front (x := (g7, zv 30 .u64 8 (NZ h11))) 1 rfl)
     replace H := za (H.out.front (x := (g6, zv 30 .u64 8 (NZ h9))) 1 rfl)
     go_wp2_with fail
     go_meet
     exact ⟨g6, g7, h9, h11, rfl, rfl, HV9.out, HV11.out, H.out⟩
    ·skip
     refine zg 6 rfl z9 H.out rfl ?_
     intro w6 g6 H3 hb
     replace H := za H3
     refine zc hK ⟨zb H 4, zb H 3⟩ fun hH => zn 3 rfl fun K hK => ?_
     go_simp
     refine (z0f _ HG.out).mono ?_
     rintro e wc ⟨h11, rfl, hv, hb⟩
     replace H := zd H hb
     have HV11 := za hv
     refine zc hK ⟨zb H 4, zb H 3⟩ fun hH => ?_
     try simp only [Act.put, qa, qb, qc]
     refine zn 6 rfl fun K hK => ?_
     refine zl 0 zt H.out rfl rfl rfl rfl ?_
     intro ws HS
     simp only [qb] at HS
     replace H := za HS
     refine zc hK ⟨zb H 4, zb H 3⟩ fun hH => ?_
     try simp only [Act.put, qa]
     refine zn 7 rfl fun K hK => ?_
     refine zl 1 zt H.out rfl rfl rfl rfl ?_
     intro ws HS
     simp only [qb, qc] at HS
     replace H := za HS
     refine zc hK ⟨zb H 4, zb H 3⟩ fun hH => ?_
     try simp only [Act.put]
     refine zm ?_
     replace H := za (H.out.front (x := (g7, zv 30 .u64 8 (NZ h11))) 1 rfl)
     replace H := za (H.out.front (x := (g6, zv 30 .u64 8 (NZ h9))) 1 rfl)
     go_wp2_with fail
     go_meet
     exact ⟨g6, g7, h9, h11, rfl, rfl, HV9.out, HV11.out, H.out⟩
  ·skip
   refine zg 6 rfl z9 H.out rfl ?_
   intro w6 g6 H3 hb
   replace H := za H3
   refine zc hK ⟨zb H 3, zb H 2⟩ fun hH => zK [1, 5] (zG rfl (fun K hK => ?_) (zG rfl (fun K hK => ?_) zJ))
   ·skip
    go_simp
    refine (z0f _ HF.out).mono ?_
    rintro e wc ⟨h9, rfl, hv, hb⟩
    replace H := zd H hb
    have HV9 := za hv
    refine zc hK ⟨zb H 3, zb H 2⟩ fun hH => zK [3, 5] (zG rfl (fun K hK => ?_) (zG rfl (fun K hK => ?_) zJ))
    ·skip
     go_simp
     refine (z0f _ HG.out).mono ?_
     rintro e wc ⟨h11, rfl, hv, hb⟩
     replace H := zd H hb
     have HV11 := za hv
     refine zc hK ⟨zb H 3, zb H 2⟩ fun hH => ?_
     try simp only [Act.put, qa, qb, qc]
     refine zn 5 rfl fun K hK => ?_
     refine zg 7 rfl z9 H.out rfl ?_
     intro w7 g7 H3 hb
     replace H := za H3
     refine zc hK ⟨zb H 4, zb H 3⟩ fun hH => zn 6 rfl fun K hK => ?_
     refine zl 1 zt H.out rfl rfl rfl rfl ?_
     intro ws HS
     simp only [qb, qc] at HS
     replace H := za HS
     refine zc hK ⟨zb H 4, zb H 3⟩ fun hH => ?_
     try simp only [Act.put, qa]
     refine zn 7 rfl fun K hK => ?_
     refine zl 0 zt H.out rfl rfl rfl rfl ?_
     intro ws HS
     simp only [qb] at HS
     replace H := za HS
     refine zc hK ⟨zb H 4, zb H 3⟩ fun hH => ?_
     try simp only [Act.put]
     refine zm ?_
     replace H := za (H.out.front (x := (g6, zv 30 .u64 8 (NZ h9))) 1 rfl)
     go_wp2_with fail
     go_meet
     exact ⟨g6, g7, h9, h11, rfl, rfl, HV9.out, HV11.out, H.out⟩
    ·skip
     refine zg 7 rfl z9 H.out rfl ?_
     intro w7 g7 H3 hb
     replace H := za H3
     refine zc hK ⟨zb H 4, zb H 3⟩ fun hH => zn 3 rfl fun K hK => ?_
     go_simp
     refine (z0f _ HG.out).mono ?_
     rintro e wc ⟨h11, rfl, hv, hb⟩
     replace H := zd H hb
     have HV11 := za hv
     refine zc hK ⟨zb H 4, zb H 3⟩ fun hH => ?_
     try simp only [Act.put, qa, qb, qc]
     refine zn 6 rfl fun K hK => ?_
     refine zl 1 zt H.out rfl rfl rfl rfl ?_
     intro ws HS
     simp only [qb, qc] at HS
     replace H := za HS
     refine zc hK ⟨zb H 4, zb H 3⟩ fun hH => ?_
     try simp only [Act.put, qa]
     refine zn 7 rfl fun K hK => ?_
     refine zl 0 zt H.out rfl rfl rfl rfl ?_
     intro ws HS
     simp only [qb] at HS
     replace H := za HS
     refine zc hK ⟨zb H 4, zb H 3⟩ fun hH => ?_
     try simp only [Act.put]
     refine zm ?_
     replace H := za (H.out.front (x := (g6, zv 30 .u64 8 (NZ h9))) 1 rfl)
     go_wp2_with fail
     go_meet
     exact ⟨g6, g7, h9, h11, rfl, rfl, HV9.out, HV11.out, H.out⟩
   ·skip
    refine zg 7 rfl z9 H.out rfl ?_
    intro w7 g7 H3 hb
    replace H := za H3
    refine zc hK ⟨zb H 4, zb H 3⟩ fun hH => zn 1 rfl fun K hK => ?_
    go_simp
    refine (z0f _ HF.out).mono ?_
    rintro e wc ⟨h9, rfl, hv, hb⟩
    replace H := zd H hb
    have HV9 := za hv
    refine zc hK ⟨zb H 4, zb H 3⟩ fun hH => zn 3 rfl fun K hK => ?_
    go_simp
    refine (z0f _ HG.out).mono ?_
    rintro e wc ⟨h11, rfl, hv, hb⟩
    replace H := zd H hb
    have HV11 := za hv
    refine zc hK ⟨zb H 4, zb H 3⟩ fun hH => ?_
    try simp only [Act.put, qa, qb, qc]
    refine zn 6 rfl fun K hK => ?_
    refine zl 1 zt H.out rfl rfl rfl rfl ?_
    intro ws HS
    simp only [qb, qc] at HS
    replace H := za HS
    refine zc hK ⟨zb H 4, zb H 3⟩ fun hH => ?_
    try simp only [Act.put, qa]
    refine zn 7 rfl fun K hK => ?_
    refine zl 0 zt H.out rfl rfl rfl rfl ?_
    intro ws HS
    simp only [qb] at HS
    replace H := za HS
    refine zc hK ⟨zb H 4, zb H 3⟩ fun hH => ?_
    try simp only [Act.put]
    refine zm ?_
    replace H := za (H.out.front (x := (g6, zv 30 .u64 8 (NZ h9))) 1 rfl)
    go_wp2_with fail
    go_meet
    exact ⟨g6, g7, h9, h11, rfl, rfl, HV9.out, HV11.out, H.out⟩
  ·skip
   refine zg 7 rfl z9 H.out rfl ?_
   intro w7 g7 H3 hb
   replace H := za H3
   refine zc hK ⟨zb H 3, zb H 2⟩ fun hH => zK [1, 4] (zG rfl (fun K hK => ?_) (zG rfl (fun K hK => ?_) zJ))
   ·skip
    go_simp
    refine (z0f _ HF.out).mono ?_
    rintro e wc ⟨h9, rfl, hv, hb⟩
    replace H := zd H hb
    have HV9 := za hv
    refine zc hK ⟨zb H 3, zb H 2⟩ fun hH => zK [3, 4] (zG rfl (fun K hK => ?_) (zG rfl (fun K hK => ?_) zJ))
    ·skip
     go_simp
     refine (z0f _ HG.out).mono ?_
     rintro e wc ⟨h11, rfl, hv, hb⟩
     replace H := zd H hb
     have HV11 := za hv
     refine zc hK ⟨zb H 3, zb H 2⟩ fun hH => ?_
     try simp only [Act.put, qa, qb, qc]
     refine zn 4 rfl fun K hK => ?_
     refine zg 6 rfl z9 H.out rfl ?_
     intro w6 g6 H3 hb
     replace H := za H3
     refine zc hK ⟨zb H 4, zb H 3⟩ fun hH => zn 6 rfl fun K hK => ?_
     refine zl 0 zt H.out rfl rfl rfl rfl ?_
     intro ws HS
     simp only [qb] at HS
     replace H := za HS
     refine zc hK ⟨zb H 4, zb H 3⟩ fun hH => ?_
     try simp only [Act.put, qa]
     refine zn 7 rfl fun K hK => ?_
     refine zl 1 zt H.out rfl rfl rfl rfl ?_
     intro ws HS
     simp only [qb, qc] at HS
     replace H := za HS
     refine zc hK ⟨zb H 4, zb H 3⟩ fun hH => ?_
     try simp only [Act.put]
     refine zm ?_
     replace H := za (H.out.front (x := (g7, zv 30 .u64 8 (NZ h11))) 1 rfl)
     replace H := za (H.out.front (x := (g6, zv 30 .u64 8 (NZ h9))) 1 rfl)
     go_wp2_with fail
     go_meet
     exact ⟨g6, g7, h9, h11, rfl, rfl, HV9.out, HV11.out, H.out⟩
    ·skip
     refine zg 6 rfl z9 H.out rfl ?_
     intro w6 g6 H3 hb
     replace H := za H3
     refine zc hK ⟨zb H 4, zb H 3⟩ fun hH => zn 3 rfl fun K hK => ?_
     go_simp
     refine (z0f _ HG.out).mono ?_
     rintro e wc ⟨h11, rfl, hv, hb⟩
     replace H := zd H hb
     have HV11 := za hv
     refine zc hK ⟨zb H 4, zb H 3⟩ fun hH => ?_
     try simp only [Act.put, qa, qb, qc]
     refine zn 6 rfl fun K hK => ?_
     refine zl 0 zt H.out rfl rfl rfl rfl ?_
     intro ws HS
     simp only [qb] at HS
     replace H := za HS
     refine zc hK ⟨zb H 4, zb H 3⟩ fun hH => ?_
     try simp only [Act.put, qa]
     refine zn 7 rfl fun K hK => ?_
     refine zl 1 zt H.out rfl rfl rfl rfl ?_
     intro ws HS
     simp only [qb, qc] at HS
     replace H := za HS
     refine zc hK ⟨zb H 4, zb H 3⟩ fun hH => ?_
     try simp only [Act.put]
     refine zm ?_
     replace H := za (H.out.front (x := (g7, zv 30 .u64 8 (NZ h11))) 1 rfl)
     replace H := za (H.out.front (x := (g6, zv 30 .u64 8 (NZ h9))) 1 rfl)
     go_wp2_with fail
     go_meet
     exact ⟨g6, g7, h9, h11, rfl, rfl, HV9.out, HV11.out, H.out⟩
   ·skip
    refine zg 6 rfl z9 H.out rfl ?_
    intro w6 g6 H3 hb
    replace H := za H3
    refine zc hK ⟨zb H 4, zb H 3⟩ fun hH => zn 1 rfl fun K hK => ?_
    go_simp
    refine (z0f _ HF.out).mono ?_
    rintro e wc ⟨h9, rfl, hv, hb⟩
    replace H := zd H hb
    have HV9 := za hv
    refine zc hK ⟨zb H 4, zb H 3⟩ fun hH => zn 3 rfl fun K hK => ?_
    go_simp
    refine (z0f _ HG.out).mono ?_
    rintro e wc ⟨h11, rfl, hv, hb⟩
    replace H := zd H hb
    have HV11 := za hv
    refine zc hK ⟨zb H 4, zb H 3⟩ fun hH => ?_
    try simp only [Act.put, qa, qb, qc]
    refine zn 6 rfl fun K hK => ?_
    refine zl 0 zt H.out rfl rfl rfl rfl ?_
    intro ws HS
    simp only [qb] at HS
    replace H := za HS
    refine zc hK ⟨zb H 4, zb H 3⟩ fun hH => ?_
    try simp only [Act.put, qa]
    refine zn 7 rfl fun K hK => ?_
    refine zl 1 zt H.out rfl rfl rfl rfl ?_
    intro ws HS
    simp only [qb, qc] at HS
    replace H := za HS
    refine zc hK ⟨zb H 4, zb H 3⟩ fun hH => ?_
    try simp only [Act.put]
    refine zm ?_
    replace H := za (H.out.front (x := (g7, zv 30 .u64 8 (NZ h11))) 1 rfl)
    replace H := za (H.out.front (x := (g6, zv 30 .u64 8 (NZ h9))) 1 rfl)
    go_wp2_with fail
    go_meet
    exact ⟨g6, g7, h9, h11, rfl, rfl, HV9.out, HV11.out, H.out⟩
 clear H
 obtain ⟨g6, g7, h9, h11, rfl, rfl, hv9, hv11, HRR⟩ := hcut
 have HV9 := za hv9
 have HV11 := za hv11
 have H := za HRR
 clear HRR hv9 hv11
 go_upto_region 2 with fail
 go_wp2_with fail
 refine wp_region_noPanic ?_
 refine wp_region_held_drew (S := fun W => W.heap[g6]? = some (zv 30 .u64 8 (NZ h9)) ∧ W.heap[g7]? = some (zv 30 .u64 8 (NZ h11))) (by kernel_rfl) (⟨H.out.drew.row 0 rfl, H.out.drew.row 1 rfl⟩) (fun hH => ?_)
 replace H := za H.out.drew
 generalize World.drew _ = w8 at *
 refine zk 0 12 zt rfl rfl rfl hH rfl rfl (fun _ h => h.1) ?_
 refine zk 1 13 zt rfl rfl rfl hH rfl rfl (fun _ h => h.2) ?_
 refine zk 4 16 zt rfl rfl rfl hH rfl rfl (fun _ h => h.1) ?_
 try simp only [Act.put, qa, qb, qc]
 refine zk 5 17 zt rfl rfl rfl hH rfl rfl (fun _ h => h.2) ?_
 refine zn 2 rfl fun K hK => ?_
 go_simp
 refine (z6o _ HV9.out HV11.out).mono ?_
 rintro e wc ⟨h14, rfl, hv, hb⟩
 replace H := zd H hb
 have HV14 := za hv
 refine zc hK ⟨zb H 0, zb H 1⟩ fun hH => zn 3 rfl fun K hK => ?_
 go_simp
 refine (z3w (1) _ (HT.out.below H.out.bel) (by omega) (by omega)).mono ?_
 rintro e wc ⟨h15, rfl, hv, hb⟩
 replace H := zd H hb
 have HV15 := za hv
 refine zc hK ⟨zb H 0, zb H 1⟩ fun hH => ?_
 try simp only [Act.put, qa, qb, qc]
 refine zn 6 rfl fun K hK => ?_
 go_simp
 refine (z42 _ (HT.out.below H.out.bel) HV9.out HV11.out).mono ?_
 rintro e wc ⟨h18, rfl, hv, hb⟩
 replace H := zd H hb
 have HV18 := za hv
 refine zc hK ⟨zb H 0, zb H 1⟩ fun hH => zn 7 rfl fun K hK => ?_
 go_simp
 refine (z6o _ HV15.out HV18.out).mono ?_
 rintro e wc ⟨h19, rfl, hv, hb⟩
 replace H := zd H hb
 have HV19 := za hv
 refine zc hK ⟨zb H 0, zb H 1⟩ fun hH => zn 8 rfl fun K hK => ?_
 go_simp
 refine (equal_kt _ (HT.out.below H.out.bel) HV14.out HV19.out HC.out).mono ?_
 rintro e wc ⟨rfl, hb⟩
 replace H := zd H hb
 refine zc hK ⟨zb H 0, zb H 1⟩ fun hH => ?_
 try simp only [Act.put, qa, qb, qc]
 refine zh 9 21 (.bool false) hH ?_
 refine zm ?_
 go_wp2_with fail
 refine wp_region_noPanic ?_
 refine wp_region_held_drew (S := fun W => W.heap[g1]? = some (zv 30 .u64 8 (NZ f)) ∧ W.heap[g2]? = some (zv 30 .u64 8 (NZ g))) (by kernel_rfl) (⟨H.out.drew.row 4 rfl, H.out.drew.row 3 rfl⟩) (fun hH => ?_)
 replace H := za H.out.drew
 generalize World.drew _ = w8 at *
 refine zk 0 23 zt rfl rfl rfl hH rfl rfl (fun _ h => h.1) ?_
 refine zk 1 24 zt rfl rfl rfl hH rfl rfl (fun _ h => h.2) ?_
 refine zn 2 rfl fun K hK => ?_
 go_simp
 refine (z3w (1) _ (HT.out.below H.out.bel) (by omega) (by omega)).mono ?_
 rintro e wc ⟨h25, rfl, hv, hb⟩
 replace H := zd H hb
 have HV25 := za hv
 refine zc hK ⟨zb H 4, zb H 3⟩ fun hH => ?_
 try simp only [Act.put, qa, qb, qc]
 refine y10 3 26 rfl rfl rfl hH rfl rfl rfl rfl ?_
 refine zn 4 rfl fun K hK => ?_
 refine zl 2 zH H.out rfl rfl rfl rfl ?_
 intro ws HS
 simp only [qb, qc] at HS
 replace H := za HS
 refine zc hK ⟨zb H 4, zb H 3⟩ fun hH => ?_
 try simp only [Act.put, qa]
 refine zh 5 5 (.int .i64 0) hH ?_
 refine zm ?_
 go_wp2_with fail
 exact bodyPost_ret (z0c 2 zH rfl _ H rfl rfl rfl) rfl ⟨_, rfl, ⟨_, _, _, _, _, _, rfl, HF.out, HG.out, HV25.out.eq z00, Rp.one zB ⟨X, Y, HON.out⟩⟩, H.out.bel⟩
theorem z75 {v1 : Nat → Int} {P1 : Pt pN dK} (w : World) (p1 : PtK v1 P1) :
  Calls Tryz.prog 69 #[PO v1] w fun e w' => ∃ f g, e = .returned (.tuple #[EV f, EV g]) ∧ EK f P1.x ∧ EK g P1.y ∧ Below w.heap.size w w' := by
 obtain ⟨x1, y1, z1, X1, Y1, Z1, rfl, e1x, e1y, e1z, r1⟩ := p1.is
 have E1x := za e1x
 have E1y := za e1y
 have E1z := za e1z
 have R1 := za r1
 clear p1 e1x e1y e1z r1
 have H := za (Ow.start w)
 go_enter Tryz.func69, Tryz.ntmps69
 go_wp2_with (first
  | ((fail_if_success have := g1); (with_reducible apply zw H); (case hgd | ho | hx => exact rfl); clear H; intro w1 g1 H _ _; go_simp)
  | ((fail_if_success have := g2); (with_reducible apply ze z9 H); (case hgd | ho => exact rfl); clear H; intro w2 g2 H _ _; go_simp)
  | ((fail_if_success have := g3); (with_reducible apply ze z9 H); (case hgd | ho => exact rfl); clear H; intro w3 g3 H _ _; go_simp)
  | ((with_reducible apply z78 zt H); (case hgd | ho | hx => exact rfl); (case hi => repeat first|exact z5|apply z8); (case hp => first | exact z39 | exact z37 | exact z5u); intro _ _; go_simp)
  | ((fail_if_success have := V1); (with_reducible refine (inverse_k _ E1z.out).mono ?_); rintro e wc ⟨k1, rfl, hv, hb⟩; replace H := zd H hb; clear hb; have V1 := za hv; clear hv)
  | ((fail_if_success have := g4); (with_reducible apply ze z9 H); (case hgd | ho => exact rfl); clear H; intro w4 g4 H _ _; go_simp)
  | ((with_reducible apply zj zt H); (case hgd | ho | hx | hy => exact rfl); (case hi => repeat first|exact z5|apply z8); clear H; intro ws H _ _; simp only [qb] at H; go_simp))
 refine wp_region_noPanic ?_
 refine wp_region_held_drew (S := fun W => W.heap[g1]? = some (zv 32 .u64 24 ((t3 8 (NZ x1) (NZ y1) (NZ z1)))) ∧ W.heap[g4]? = some (zv 30 .u64 8 (NZ k1))) (by kernel_rfl) (⟨H.out.drew.row 3 rfl, H.out.drew.row 0 rfl⟩) (fun hH => ?_)
 replace H := za H.out.drew
 generalize World.drew _ = w8 at *
 refine zh 0 8 (.pointer (some ⟨g1, 0, none⟩)) hH ?_
 refine z0i 1 9 zt rfl rfl rfl hH rfl rfl z39 (fun _ h => h.1) ?_
 refine zk 2 10 zt rfl rfl rfl hH rfl rfl (fun _ h => h.2) ?_
 refine zh 4 12 (.pointer (some ⟨g1, 8, none⟩)) hH ?_
 refine z0i 5 13 zt rfl rfl rfl hH rfl rfl z37 (fun _ h => h.1) ?_
 refine zk 6 14 zt rfl rfl rfl hH rfl rfl (fun _ h => h.2) ?_
 refine zn 3 rfl fun K hK => ?_
 go_simp
 refine (z16 _ E1x.out V1.out).mono ?_
 rintro e wc ⟨h11, rfl, hv, hb⟩
 replace H := zd H hb
 have HV11 := za hv
 refine zc hK ⟨zb H 3, zb H 0⟩ fun hH => ?_
 try simp only [Act.put, qa, qb, qc]
 refine zn 7 rfl fun K hK => ?_
 go_simp
 refine (z16 _ E1y.out V1.out).mono ?_
 rintro e wc ⟨h15, rfl, hv, hb⟩
 replace H := zd H hb
 have HV15 := za hv
 refine zc hK ⟨zb H 3, zb H 0⟩ fun hH => zn 8 rfl fun K hK => ?_
 refine zl 2 zt H.out rfl rfl rfl rfl ?_
 intro ws HS
 simp only [qb, qc] at HS
 replace H := za HS
 refine zc hK ⟨zb H 3, zb H 0⟩ fun hH => ?_
 try simp only [Act.put, qa]
 refine zn 9 rfl fun K hK => ?_
 refine zl 1 zt H.out rfl rfl rfl rfl ?_
 intro ws HS
 simp only [qb, qc] at HS
 replace H := za HS
 refine zc hK ⟨zb H 3, zb H 0⟩ fun hH => ?_
 try simp only [Act.put]
 refine zm ?_
 go_wp2_with fail
 exact bodyPost_ret (z6z 2 1 zt rfl _ H rfl rfl rfl rfl) rfl ⟨_, _, rfl, HV11.out.eq (R1.out.affine zB).1, HV15.out.eq (R1.out.affine zB).2, H.out.bel⟩
end Go.Proofs.YtgjbonikbmgfmaaGreatDoor
