/- Lemmas; no statement is proved here. -/
import Derived.Test.YtgjbonikbmgfmaaGreatDoorBuZ
set_option maxRecDepth 8000
set_option maxHeartbeats 12800000
namespace Go.Proofs.YtgjbonikbmgfmaaGreatDoor
open Go.RowKit
theorem y4i {f : Nat → Nat} {S : K} {b : Bool} (w : World) (hT : Tp w) (hf : EK f S) (ok : b = true ↔ dfOk eC dK S) :
  Calls Tryz.prog 59 #[EV f] w fun e w' => ∃ x y, e = .returned (.tuple #[EV x, EV y, .bool b]) ∧ EK x (dfX eC dK eR fR S) ∧ EK y (dfY eC dK S) ∧ Below w.heap.size w w' := by
 have HOK : Hid (decide ((((((zC (1)) + (S * S)) * ((zC (1)) + (S * S))) - ((S * S) * zC (-156324))) * ((zC (1)) + (S * S)) * ((zC (1)) + (S * S))) * (zL eC (zC (1)) (((((zC (1)) + (S * S)) * ((zC (1)) + (S * S))) - ((S * S) * zC (-156324))) * ((zC (1)) + (S * S)) * ((zC (1)) + (S * S))) * zL eC (zC (1)) (((((zC (1)) + (S * S)) * ((zC (1)) + (S * S))) - ((S * S) * zC (-156324))) * ((zC (1)) + (S * S)) * ((zC (1)) + (S * S)))) = zC (1)) = b) := za (by
  cases b with
  | true => exact decide_eq_true (by rw [dfg_ok]; exact ok.1 rfl)
  | false => exact decide_eq_false fun e => Bool.noConfusion (ok.2 ((dfg_ok S).mp e)))
 obtain ⟨R, hR⟩ : ∃ R, ab (zL eC (zC (1)) (((((zC (1)) + (S * S)) * ((zC (1)) + (S * S))) - ((S * S) * zC (-156324))) * ((zC (1)) + (S * S)) * ((zC (1)) + (S * S)))) = R := ⟨_, rfl⟩
 have HR := za hR
 have hq : dfQ eC dK S = R := (dfg_q S).symm.trans hR
 have HX := za (dfg_x S R _ hq (dfg_w S R hq).symm)
 have HY := za (dfg_y S R hq)
 have V0 := za hf
 clear hR hq hf ok
 have HT := za hT
 clear hT
 have H := za (Ow.start w)
 go_enter Tryz.func59, Tryz.ntmps59
 go_upto_region 1 with (first
  | ((fail_if_success have := g1); (with_reducible apply zw H); (case hgd | ho | hx => exact rfl); clear H; intro w1 g1 H _ _; go_simp)
  | ((fail_if_success have := g2); (with_reducible apply ze z9 H); (case hgd | ho => exact rfl); clear H; intro w2 g2 H _ _; go_simp)
  | ((fail_if_success have := g3); (with_reducible apply ze z9 H); (case hgd | ho => exact rfl); clear H; intro w3 g3 H _ _; go_simp))
 go_cut [5, 6] from 11 to 13 (fun v5 v6 wx => ∃ g5 g6 h11 h13, v5 = .pointer (some ⟨g5, 0, none⟩) ∧ v6 = .pointer (some ⟨g6, 0, none⟩) ∧ EK h11 (zC (1)) ∧ EK h13 (S * S) ∧ Ow w wx [(g5, zv 30 .u64 8 (NZ h11)), (g6, zv 30 .u64 8 (NZ h13)), (g3, zv 30 .u64 8 fun _ => 0), (g2, zv 30 .u64 8 fun _ => 0), (g1, zv 30 .u64 8 (NZ f))])
 case first =>
  go_wp2_with fail
  refine wp_region_noPanic ?_
  refine wp_region_held_drew (S := fun W => W.heap[g1]? = some (zv 30 .u64 8 (NZ f))) (by kernel_rfl) (H.out.drew.row 2 rfl) (fun hH => ?_)
  replace H := za H.out.drew
  generalize World.drew _ = w8 at *
  refine zk 1 12 zt rfl rfl rfl hH rfl rfl (fun _ h => h) ?_
  refine zK [0, 3, 4] (zG rfl (fun K hK => ?_) (zG rfl (fun K hK => ?_) (zG rfl (fun K hK => ?_) zJ)))
  ·skip
   go_simp
   refine (z3w (1) _ (HT.out.below H.out.bel) (by omega) (by omega)).mono ?_
   rintro e wc ⟨h11, rfl, hv, hb⟩
   replace H := zd H hb
   have HV11 := za hv
   refine zc hK (zb H 2) fun hH => zK [2, 3, 4] (zG rfl (fun K hK => ?_) (zG rfl (fun K hK => ?_) (zG rfl (fun K hK => ?_) zJ)))
   ·skip
    go_simp
    refine (z0f _ V0.out).mono ?_
    rintro e wc ⟨h13, rfl, hv, hb⟩
    replace H := zd H hb
    have HV13 := za hv
    refine zc hK (zb H 2) fun hH => ?_
    try simp only [Act.put, qa, qb, qc]
    refine zK [3, 4] (zG rfl (fun K hK => ?_) (zG rfl (fun K hK => ?_) zJ))
    ·skip
     refine zg 5 rfl z9 H.out rfl ?_
     intro w5 g5 H3 hb
     replace H := za H3
     refine zc hK (zb H 3) fun hH => zn 4 rfl fun K hK => ?_
     refine zg 6 rfl z9 H.out rfl ?_
     intro w6 g6 H3 hb
     replace H := za H3
     refine zc hK (zb H 4) fun hH => zn 5 rfl fun K hK => ?_
     refine zu 1 rfl zt H.out rfl rfl rfl rfl ?_
     intro ws HS
     simp only [qb, qc] at HS
     replace H := za HS
     refine zc hK (zb H 4) fun hH => ?_
     try simp only [qa]
     refine zn 6 rfl fun K hK => ?_
     refine zu 0 rfl zt H.out rfl rfl rfl rfl ?_
     intro ws HS
     simp only [qb] at HS
     replace H := za HS
     refine zc hK (zb H 4) fun hH => ?_
     try simp only [qa]
     try simp only [Act.put]
     refine zm ?_
     replace H := za (H.out.front (x := (g5, zv 30 .u64 8 (NZ h11))) 1 rfl)
     go_wp2_with fail
     go_meet
     exact ⟨g5, g6, h11, h13, rfl, rfl, HV11.out, HV13.out, H.out⟩
    ·skip
     refine zg 6 rfl z9 H.out rfl ?_
     intro w6 g6 H3 hb
     replace H := za H3
     refine zc hK (zb H 3) fun hH => ?_
     try simp only [Act.put, qa, qb, qc]
     refine zn 3 rfl fun K hK => ?_
     refine zg 5 rfl z9 H.out rfl ?_
     intro w5 g5 H3 hb
     replace H := za H3
     refine zc hK (zb H 4) fun hH => zn 5 rfl fun K hK => ?_
     refine zu 0 rfl zt H.out rfl rfl rfl rfl ?_
     intro ws HS
     simp only [qb] at HS
     replace H := za HS
     refine zc hK (zb H 4) fun hH => ?_
     try simp only [qa]
     refine zn 6 rfl fun K hK => ?_
     refine zu 1 rfl zt H.out rfl rfl rfl rfl ?_
     intro ws HS
     simp only [qb, qc] at HS
     replace H := za HS
     refine zc hK (zb H 4) fun hH => ?_
     try simp only [qa]
     try simp only [Act.put]
     refine zm ?_
     replace H := za (H.out.front (x := (g6, zv 30 .u64 8 (NZ h13))) 1 rfl)
     replace H := za (H.out.front (x := (g5, zv 30 .u64 8 (NZ h11))) 1 rfl)
     go_wp2_with fail
     go_meet
     exact ⟨g5, g6, h11, h13, rfl, rfl, HV11.out, HV13.out, H.out⟩
   ·skip
    refine zg 5 rfl z9 H.out rfl ?_
    intro w5 g5 H3 hb
    replace H := za H3
    refine zc hK (zb H 3) fun hH => zK [2, 4] (zG rfl (fun K hK => ?_) (zG rfl (fun K hK => ?_) zJ))
    ·skip
     go_simp
     refine (z0f _ V0.out).mono ?_
     rintro e wc ⟨h13, rfl, hv, hb⟩
     replace H := zd H hb
     have HV13 := za hv
     refine zc hK (zb H 3) fun hH => ?_
     try simp only [Act.put, qa, qb, qc]
     refine zn 4 rfl fun K hK => ?_
     refine zg 6 rfl z9 H.out rfl ?_
     intro w6 g6 H3 hb
     replace H := za H3
     refine zc hK (zb H 4) fun hH => zn 5 rfl fun K hK => ?_
     refine zu 1 rfl zt H.out rfl rfl rfl rfl ?_
     intro ws HS
     simp only [qb, qc] at HS
     replace H := za HS
     refine zc hK (zb H 4) fun hH => ?_
     try simp only [qa]
     refine zn 6 rfl fun K hK => ?_
     refine zu 0 rfl zt H.out rfl rfl rfl rfl ?_
     intro ws HS
     simp only [qb] at HS
     replace H := za HS
     refine zc hK (zb H 4) fun hH => ?_
     try simp only [qa]
     try simp only [Act.put]
     refine zm ?_
     replace H := za (H.out.front (x := (g5, zv 30 .u64 8 (NZ h11))) 1 rfl)
     go_wp2_with fail
     go_meet
     exact ⟨g5, g6, h11, h13, rfl, rfl, HV11.out, HV13.out, H.out⟩
    ·skip
     refine zg 6 rfl z9 H.out rfl ?_
     intro w6 g6 H3 hb
     replace H := za H3
     refine zc hK (zb H 4) fun hH => zn 2 rfl fun K hK => ?_
     go_simp
     refine (z0f _ V0.out).mono ?_
     rintro e wc ⟨h13, rfl, hv, hb⟩
     replace H := zd H hb
     have HV13 := za hv
     refine zc hK (zb H 4) fun hH => ?_
     try simp only [Act.put, qa, qb, qc]
     refine zn 5 rfl fun K hK => ?_
     refine zu 1 rfl zt H.out rfl rfl rfl rfl ?_
     intro ws HS
     simp only [qb, qc] at HS
     replace H := za HS
     refine zc hK (zb H 4) fun hH => ?_
     try simp only [qa]
     refine zn 6 rfl fun K hK => ?_
     refine zu 0 rfl zt H.out rfl rfl rfl rfl ?_
     intro ws HS
     simp only [qb] at HS
     replace H := za HS
     refine zc hK (zb H 4) fun hH => ?_
     try simp only [qa]
     try simp only [Act.put]
     refine zm ?_
     replace H := za (H.out.front (x := (g5, zv 30 .u64 8 (NZ h11))) 1 rfl)
     go_wp2_with fail
     go_meet
     exact ⟨g5, g6, h11, h13, rfl, rfl, HV11.out, HV13.out, H.out⟩
   ·skip
    refine zg 6 rfl z9 H.out rfl ?_
    intro w6 g6 H3 hb
    replace H := za H3
    refine zc hK (zb H 3) fun hH => zK [2, 3] (zG rfl (fun K hK => ?_) (zG rfl (fun K hK => ?_) zJ))
    ·skip
     go_simp
     refine (z0f _ V0.out).mono ?_
     rintro e wc ⟨h13, rfl, hv, hb⟩
     replace H := zd H hb
     have HV13 := za hv
     refine zc hK (zb H 3) fun hH => zn 3 rfl fun K hK => ?_
     refine zg 5 rfl z9 H.out rfl ?_
     intro w5 g5 H3 hb
     replace H := za H3
     refine zc hK (zb H 4) fun hH => ?_
     try simp only [Act.put, qa, qb, qc]
     refine zn 5 rfl fun K hK => ?_
     refine zu 0 rfl zt H.out rfl rfl rfl rfl ?_
     intro ws HS
     simp only [qb] at HS
     replace H := za HS
     refine zc hK (zb H 4) fun hH => ?_
     try simp only [qa]
     refine zn 6 rfl fun K hK => ?_
     refine zu 1 rfl zt H.out rfl rfl rfl rfl ?_
     intro ws HS
     simp only [qb, qc] at HS
     replace H := za HS
     refine zc hK (zb H 4) fun hH => ?_
     try simp only [qa]
     try simp only [Act.put]
     refine zm ?_
     replace H := za (H.out.front (x := (g6, zv 30 .u64 8 (NZ h13))) 1 rfl)
     replace H := za (H.out.front (x := (g5, zv 30 .u64 8 (NZ h11))) 1 rfl)
     go_wp2_with fail
     go_meet
     exact ⟨g5, g6, h11, h13, rfl, rfl, HV11.out, HV13.out, H.out⟩
    ·skip
     refine zg 5 rfl z9 H.out rfl ?_
     intro w5 g5 H3 hb
     replace H := za H3
     refine zc hK (zb H 4) fun hH => zn 2 rfl fun K hK => ?_
     go_simp
     refine (z0f _ V0.out).mono ?_
     rintro e wc ⟨h13, rfl, hv, hb⟩
     replace H := zd H hb
     have HV13 := za hv
     refine zc hK (zb H 4) fun hH => zn 5 rfl fun K hK => ?_
     refine zu 0 rfl zt H.out rfl rfl rfl rfl ?_
     intro ws HS
     simp only [qb] at HS
     replace H := za HS
     refine zc hK (zb H 4) fun hH => ?_
     try simp only [qa]
     refine zn 6 rfl fun K hK => ?_
     refine zu 1 rfl zt H.out rfl rfl rfl rfl ?_
     intro ws HS
     simp only [qb, qc] at HS
     replace H := za HS
     refine zc hK (zb H 4) fun hH => ?_
     try simp only [qa]
     try simp only [Act.put]
     refine zm ?_
     replace H := za (H.out.front (x := (g6, zv 30 .u64 8 (NZ h13))) 1 rfl)
     replace H := za (H.out.front (x := (g5, zv 30 .u64 8 (NZ h11))) 1 rfl)
     go_wp2_with fail
     go_meet
     exact ⟨g5, g6, h11, h13, rfl, rfl, HV11.out, HV13.out, H.out⟩
  ·skip
   refine zg 5 rfl z9 H.out rfl ?_
   intro w5 g5 H3 hb
   replace H := za H3
   refine zc hK (zb H 3) fun hH => ?_
   try simp only [Act.put, qa, qb, qc]
   refine zK [0, 4] (zG rfl (fun K hK => ?_) (zG rfl (fun K hK => ?_) zJ))
   ·skip
    go_simp
    refine (z3w (1) _ (HT.out.below H.out.bel) (by omega) (by omega)).mono ?_
    rintro e wc ⟨h11, rfl, hv, hb⟩
    replace H := zd H hb
    have HV11 := za hv
    refine zc hK (zb H 3) fun hH => zK [2, 4] (zG rfl (fun K hK => ?_) (zG rfl (fun K hK => ?_) zJ))
    ·skip
     go_simp
     refine (z0f _ V0.out).mono ?_
     rintro e wc ⟨h13, rfl, hv, hb⟩
     replace H := zd H hb
     have HV13 := za hv
     refine zc hK (zb H 3) fun hH => zn 4 rfl fun K hK => ?_
     refine zg 6 rfl z9 H.out rfl ?_
     intro w6 g6 H3 hb
     replace H := za H3
     refine zc hK (zb H 4) fun hH => ?_
     try simp only [Act.put, qa, qb, qc]
     refine zn 5 rfl fun K hK => ?_
     refine zu 1 rfl zt H.out rfl rfl rfl rfl ?_
     intro ws HS
     simp only [qb, qc] at HS
     replace H := za HS
     refine zc hK (zb H 4) fun hH => ?_
     try simp only [qa]
     refine zn 6 rfl fun K hK => ?_
     refine zu 0 rfl zt H.out rfl rfl rfl rfl ?_
     intro ws HS
     simp only [qb] at HS
     replace H := za HS
     refine zc hK (zb H 4) fun hH => ?_
     try simp only [qa]
     try simp only [Act.put]
     refine zm ?_
     replace H := za (H.out.front (x := (g5, zv 30 .u64 8 (NZ h11))) 1 rfl)
     go_wp2_with fail
     go_meet
     exact ⟨g5, g6, h11, h13, rfl, rfl, HV11.out, HV13.out, H.out⟩
    ·skip
     refine zg 6 rfl z9 H.out rfl ?_
     intro w6 g6 H3 hb
     replace H := za H3
     refine zc hK (zb H 4) fun hH => zn 2 rfl fun K hK => ?_
     go_simp
     refine (z0f _ V0.out).mono ?_
     rintro e wc ⟨h13, rfl, hv, hb⟩
     replace H := zd H hb
     have HV13 := za hv
     refine zc hK (zb H 4) fun hH => zn 5 rfl fun K hK => ?_
     refine zu 1 rfl zt H.out rfl rfl rfl rfl ?_
     intro ws HS
     simp only [qb, qc] at HS
     replace H := za HS
     refine zc hK (zb H 4) fun hH => ?_
     try simp only [qa]
     refine zn 6 rfl fun K hK => ?_
     refine zu 0 rfl zt H.out rfl rfl rfl rfl ?_
     intro ws HS
     simp only [qb] at HS
     replace H := za HS
     refine zc hK (zb H 4) fun hH => ?_
     try simp only [qa]
     try simp only [Act.put]
     refine zm ?_
     replace H := za (H.out.front (x := (g5, zv 30 .u64 8 (NZ h11))) 1 rfl)
     go_wp2_with fail
     go_meet
     exact ⟨g5, g6, h11, h13, rfl, rfl, HV11.out, HV13.out, H.out⟩
   ·skip
    refine zg 6 rfl z9 H.out rfl ?_
    intro w6 g6 H3 hb
    replace H := za H3
    refine zc hK (zb H 4) fun hH => ?_
    try simp only [Act.put, qa, qb, qc]
    refine zn 0 rfl fun K hK => ?_
    go_simp
    refine (z3w (1) _ (HT.out.below H.out.bel) (by omega) (by omega)).mono ?_
    rintro e wc ⟨h11, rfl, hv, hb⟩
    replace H := zd H hb
    have HV11 := za hv
    refine zc hK (zb H 4) fun hH => zn 2 rfl fun K hK => ?_
    go_simp
    refine (z0f _ V0.out).mono ?_
    rintro e wc ⟨h13, rfl, hv, hb⟩
    replace H := zd H hb
    have HV13 := za hv
    refine zc hK (zb H 4) fun hH => zn 5 rfl fun K hK => ?_
    refine zu 1 rfl zt H.out rfl rfl rfl rfl ?_
    intro ws HS
    simp only [qb, qc] at HS
    replace H := za HS
    refine zc hK (zb H 4) fun hH => ?_
    try simp only [qa]
    refine zn 6 rfl fun K hK => ?_
    refine zu 0 rfl zt H.out rfl rfl rfl rfl ?_
    intro ws HS
    simp only [qb] at HS
    replace H := za HS
    refine zc hK (zb H 4) fun hH => ?_
    try simp only [qa]
    try simp only [Act.put]
    refine zm ?_
    replace H := za (H.out.front (x := (g5, zv 30 .u64 8 (NZ h11))) 1 rfl)
    go_wp2_with fail
    go_meet
    exact ⟨g5, g6, h11, h13, rfl, rfl, HV11.out, HV13.out, H.out⟩
  ·skip
   refine zg 6 rfl z9 H.out rfl ?_
   intro w6 g6 H3 hb
   replace H := za H3
   refine zc hK (zb H 3) fun hH => ?_
   try simp only [Act.put, qa, qb, qc]
   refine zK [0, 3] (zG rfl (fun K hK => ?_) (zG rfl (fun K hK => ?_) zJ))
   ·skip
    go_simp
    refine (z3w (1) _ (HT.out.below H.out.bel) (by omega) (by omega)).mono ?_
    rintro e wc ⟨h11, rfl, hv, hb⟩
    replace H := zd H hb
    have HV11 := za hv
    refine zc hK (zb H 3) fun hH => zK [2, 3] (zG rfl (fun K hK => ?_) (zG rfl (fun K hK => ?_) zJ))
    ·skip
     go_simp
     refine (z0f _ V0.out).mono ?_
     rintro e wc ⟨h13, rfl, hv, hb⟩
     replace H := zd H hb
     have HV13 := za hv
     refine zc hK (zb H 3) fun hH => zn 3 rfl fun K hK => ?_
     refine zg 5 rfl z9 H.out rfl ?_
     intro w5 g5 H3 hb
     replace H := za H3
     refine zc hK (zb H 4) fun hH => ?_
     try simp only [Act.put, qa, qb, qc]
     refine zn 5 rfl fun K hK => ?_
     refine zu 0 rfl zt H.out rfl rfl rfl rfl ?_
     intro ws HS
     simp only [qb] at HS
     replace H := za HS
     refine zc hK (zb H 4) fun hH => ?_
     try simp only [qa]
     refine zn 6 rfl fun K hK => ?_
     refine zu 1 rfl zt H.out rfl rfl rfl rfl ?_
     intro ws HS
     simp only [qb, qc] at HS
     replace H := za HS
     refine zc hK (zb H 4) fun hH => ?_
     try simp only [qa]
     try simp only [Act.put]
     refine zm ?_
     replace H := za (H.out.front (x := (g6, zv 30 .u64 8 (NZ h13))) 1 rfl)
     replace H := za (H.out.front (x := (g5, zv 30 .u64 8 (NZ h11))) 1 rfl)
     go_wp2_with fail
     go_meet
     exact ⟨g5, g6, h11, h13, rfl, rfl, HV11.out, HV13.out, H.out⟩
    ·skip
     refine zg 5 rfl z9 H.out rfl ?_
     intro w5 g5 H3 hb
     replace H := za H3
     refine zc hK (zb H 4) fun hH => zn 2 rfl fun K hK => ?_
     go_simp
     refine (z0f _ V0.out).mono ?_
     rintro e wc ⟨h13, rfl, hv, hb⟩
     replace H := zd H hb
     have HV13 := za hv
     refine zc hK (zb H 4) fun hH => zn 5 rfl fun K hK => ?_
     refine zu 0 rfl zt H.out rfl rfl rfl rfl ?_
     intro ws HS
     simp only [qb] at HS
     replace H := za HS
     refine zc hK (zb H 4) fun hH => ?_
     try simp only [qa]
     refine zn 6 rfl fun K hK => ?_
     refine zu 1 rfl zt H.out rfl rfl rfl rfl ?_
     intro ws HS
     simp only [qb, qc] at HS
     replace H := za HS
     refine zc hK (zb H 4) fun hH => ?_
     try simp only [qa]
     try simp only [Act.put]
     refine zm ?_
     replace H := za (H.out.front (x := (g6, zv 30 .u64 8 (NZ h13))) 1 rfl)
     replace H := za (H.out.front (x := (g5, zv 30 .u64 8 (NZ h11))) 1 rfl)
     go_wp2_with fail
     go_meet
     exact ⟨g5, g6, h11, h13, rfl, rfl, HV11.out, HV13.out, H.out⟩
   ·skip
    refine zg 5 rfl z9 H.out rfl ?_
    intro w5 g5 H3 hb
    replace H := za H3
    refine zc hK (zb H 4) fun hH => ?_
    try simp only [Act.put, qa, qb, qc]
    refine zn 0 rfl fun K hK => ?_
    go_simp
    refine (z3w (1) _ (HT.out.below H.out.bel) (by omega) (by omega)).mono ?_
    rintro e wc ⟨h11, rfl, hv, hb⟩
    replace H := zd H hb
    have HV11 := za hv
    refine zc hK (zb H 4) fun hH => zn 2 rfl fun K hK => ?_
    go_simp
    refine (z0f _ V0.out).mono ?_
    rintro e wc ⟨h13, rfl, hv, hb⟩
    replace H := zd H hb
    have HV13 := za hv
    refine zc hK (zb H 4) fun hH => zn 5 rfl fun K hK => ?_
    refine zu 0 rfl zt H.out rfl rfl rfl rfl ?_
    intro ws HS
    simp only [qb] at HS
    replace H := za HS
    refine zc hK (zb H 4) fun hH => ?_
    try simp only [qa]
    refine zn 6 rfl fun K hK => ?_
    refine zu 1 rfl zt H.out rfl rfl rfl rfl ?_
    intro ws HS
    simp only [qb, qc] at HS
    replace H := za HS
    refine zc hK (zb H 4) fun hH => ?_
    try simp only [qa]
    try simp only [Act.put]
    refine zm ?_
    replace H := za (H.out.front (x := (g6, zv 30 .u64 8 (NZ h13))) 1 rfl)
    replace H := za (H.out.front (x := (g5, zv 30 .u64 8 (NZ h11))) 1 rfl)
    go_wp2_with fail
    go_meet
    exact ⟨g5, g6, h11, h13, rfl, rfl, HV11.out, HV13.out, H.out⟩
 clear H
 obtain ⟨g5, g6, h11, h13, rfl, rfl, hv11, hv13, HRR⟩ := hcut
 have HV11 := za hv11
 have HV13 := za hv13
 have H := za HRR
 clear HRR hv11 hv13
 go_upto_region 3 with (first
  | ((with_reducible apply zr zt H); (case hgd | ho | hx => exact rfl); (case hi => repeat first|exact z5|apply z8); intro _ _; go_simp)
  | ((fail_if_success have := VU); (with_reducible refine (z6o _ HV11.out HV13.out).mono ?_); rintro e wc ⟨hu, rfl, hv, hb⟩; replace H := zd H hb; clear hb; have VU := za hv; clear hv)
  | ((fail_if_success have := g7); (with_reducible apply ze z9 H); (case hgd | ho => exact rfl); clear H; intro w7 g7 H _ _; go_simp)
  | ((with_reducible apply zj zt H); (case hgd | ho | hx | hy => exact rfl); (case hi => repeat first|exact z5|apply z8); clear H; intro ws H _ _; simp only [qb] at H; go_simp))
 go_cut [8] from 17 to 21 (fun v8 wx => ∃ g8 h21, v8 = .pointer (some ⟨g8, 0, none⟩) ∧ EK h21 ((((zC (1)) + (S * S)) * ((zC (1)) + (S * S))) - ((S * S) * zC (-156324))) ∧ Ow w wx [(g8, zv 30 .u64 8 (NZ h21)), (g7, zv 30 .u64 8 (NZ hu)), (g5, zv 30 .u64 8 (NZ h11)), (g6, zv 30 .u64 8 (NZ h13)), (g3, zv 30 .u64 8 fun _ => 0), (g2, zv 30 .u64 8 fun _ => 0), (g1, zv 30 .u64 8 (NZ f))])
 case first =>
  go_wp2_with fail
  refine wp_region_noPanic ?_
  refine wp_region_held_drew (S := fun W => W.heap[g7]? = some (zv 30 .u64 8 (NZ hu)) ∧ W.heap[g6]? = some (zv 30 .u64 8 (NZ h13))) (by kernel_rfl) (⟨H.out.drew.row 0 rfl, H.out.drew.row 2 rfl⟩) (fun hH => ?_)
  replace H := za H.out.drew
  generalize World.drew _ = w8 at *
  refine zk 0 17 zt rfl rfl rfl hH rfl rfl (fun _ h => h.1) ?_
  try simp only [Act.put, qa, qb, qc]
  refine zk 2 19 zt rfl rfl rfl hH rfl rfl (fun _ h => h.2) ?_
  refine zK [1, 5] (zG rfl (fun K hK => ?_) (zG rfl (fun K hK => ?_) zJ))
  ·skip
   go_simp
   refine (z0f _ VU.out).mono ?_
   rintro e wc ⟨h18, rfl, hv, hb⟩
   replace H := zd H hb
   have HV18 := za hv
   refine zc hK ⟨zb H 0, zb H 2⟩ fun hH => zK [3, 5] (zG rfl (fun K hK => ?_) (zG rfl (fun K hK => ?_) zJ))
   ·skip
    go_simp
    refine (z07 (-156324) _ (HT.out.below H.out.bel) HV13.out (by omega) (by omega)).mono ?_
    rintro e wc ⟨h20, rfl, hv, hb⟩
    replace H := zd H hb
    have HV20 := za hv
    refine zc hK ⟨zb H 0, zb H 2⟩ fun hH => ?_
    try simp only [Act.put, qa, qb, qc]
    refine zK [4, 5] (zG rfl (fun K hK => ?_) (zG rfl (fun K hK => ?_) zJ))
    ·skip
     go_simp
     refine (z1t _ (HT.out.below H.out.bel) HV18.out HV20.out).mono ?_
     rintro e wc ⟨h21, rfl, hv, hb⟩
     replace H := zd H hb
     have HV21 := za hv
     refine zc hK ⟨zb H 0, zb H 2⟩ fun hH => zn 5 rfl fun K hK => ?_
     refine zg 8 rfl z9 H.out rfl ?_
     intro w8 g8 H3 hb
     replace H := za H3
     refine zc hK ⟨zb H 1, zb H 3⟩ fun hH => zn 6 rfl fun K hK => ?_
     refine zu 0 rfl zt H.out rfl rfl rfl rfl ?_
     intro ws HS
     simp only [qb] at HS
     replace H := za HS
     refine zc hK ⟨zb H 1, zb H 3⟩ fun hH => ?_
     try simp only [qa]
     try simp only [Act.put]
     refine zm ?_
     go_wp2_with fail
     go_meet
     exact ⟨g8, h21, rfl, HV21.out, H.out⟩
    ·skip
     refine zg 8 rfl z9 H.out rfl ?_
     intro w8 g8 H3 hb
     replace H := za H3
     refine zc hK ⟨zb H 1, zb H 3⟩ fun hH => ?_
     try simp only [Act.put, qa, qb, qc]
     refine zn 4 rfl fun K hK => ?_
     go_simp
     refine (z1t _ (HT.out.below H.out.bel) HV18.out HV20.out).mono ?_
     rintro e wc ⟨h21, rfl, hv, hb⟩
     replace H := zd H hb
     have HV21 := za hv
     refine zc hK ⟨zb H 1, zb H 3⟩ fun hH => zn 6 rfl fun K hK => ?_
     refine zu 0 rfl zt H.out rfl rfl rfl rfl ?_
     intro ws HS
     simp only [qb] at HS
     replace H := za HS
     refine zc hK ⟨zb H 1, zb H 3⟩ fun hH => ?_
     try simp only [qa]
     try simp only [Act.put]
     refine zm ?_
     go_wp2_with fail
     go_meet
     exact ⟨g8, h21, rfl, HV21.out, H.out⟩
   ·skip
    refine zg 8 rfl z9 H.out rfl ?_
    intro w8 g8 H3 hb
    replace H := za H3
    refine zc hK ⟨zb H 1, zb H 3⟩ fun hH => zn 3 rfl fun K hK => ?_
    go_simp
    refine (z07 (-156324) _ (HT.out.below H.out.bel) HV13.out (by omega) (by omega)).mono ?_
    rintro e wc ⟨h20, rfl, hv, hb⟩
    replace H := zd H hb
    have HV20 := za hv
    refine zc hK ⟨zb H 1, zb H 3⟩ fun hH => ?_
    try simp only [Act.put, qa, qb, qc]
    refine zn 4 rfl fun K hK => ?_
    go_simp
    refine (z1t _ (HT.out.below H.out.bel) HV18.out HV20.out).mono ?_
    rintro e wc ⟨h21, rfl, hv, hb⟩
    replace H := zd H hb
    have HV21 := za hv
    refine zc hK ⟨zb H 1, zb H 3⟩ fun hH => zn 6 rfl fun K hK => ?_
    refine zu 0 rfl zt H.out rfl rfl rfl rfl ?_
    intro ws HS
    simp only [qb] at HS
    replace H := za HS
    refine zc hK ⟨zb H 1, zb H 3⟩ fun hH => ?_
    try simp only [qa]
    try simp only [Act.put]
    refine zm ?_
    go_wp2_with fail
    go_meet
    exact ⟨g8, h21, rfl, HV21.out, H.out⟩
  ·skip
   refine zg 8 rfl z9 H.out rfl ?_
   intro w8 g8 H3 hb
   replace H := za H3
   refine zc hK ⟨zb H 1, zb H 3⟩ fun hH => zn 1 rfl fun K hK => ?_
   go_simp
   refine (z0f _ VU.out).mono ?_
   rintro e wc ⟨h18, rfl, hv, hb⟩
   replace H := zd H hb
   have HV18 := za hv
   refine zc hK ⟨zb H 1, zb H 3⟩ fun hH => ?_
   try simp only [Act.put, qa, qb, qc]
   refine zn 3 rfl fun K hK => ?_
   go_simp
   refine (z07 (-156324) _ (HT.out.below H.out.bel) HV13.out (by omega) (by omega)).mono ?_
   rintro e wc ⟨h20, rfl, hv, hb⟩
   replace H := zd H hb
   have HV20 := za hv
   refine zc hK ⟨zb H 1, zb H 3⟩ fun hH => zn 4 rfl fun K hK => ?_
   go_simp
   refine (z1t _ (HT.out.below H.out.bel) HV18.out HV20.out).mono ?_
   rintro e wc ⟨h21, rfl, hv, hb⟩
   replace H := zd H hb
   have HV21 := za hv
   refine zc hK ⟨zb H 1, zb H 3⟩ fun hH => zn 6 rfl fun K hK => ?_
   refine zu 0 rfl zt H.out rfl rfl rfl rfl ?_
   intro ws HS
   simp only [qb] at HS
   replace H := za HS
   refine zc hK ⟨zb H 1, zb H 3⟩ fun hH => ?_
   try simp only [qa]
   try simp only [Act.put]
   refine zm ?_
   go_wp2_with fail
   go_meet
   exact ⟨g8, h21, rfl, HV21.out, H.out⟩
 clear H
 obtain ⟨g8, h21, rfl, hv21, HRR⟩ := hcut
 have HV21 := za hv21
 have H := za HRR
 clear HRR hv21
 go_upto_region 4 with fail
 go_cut [9, 4] from 22 to 31 (fun v9 v4 wx => ∃ g9 h29, v9 = .pointer (some ⟨g9, 0, none⟩) ∧ v4 = .bool b ∧ EK h29 R ∧ Ow w wx [(g9, zv 30 .u64 8 (NZ h29)), (g8, zv 30 .u64 8 (NZ h21)), (g7, zv 30 .u64 8 (NZ hu)), (g5, zv 30 .u64 8 (NZ h11)), (g6, zv 30 .u64 8 (NZ h13)), (g3, zv 30 .u64 8 fun _ => 0), (g2, zv 30 .u64 8 fun _ => 0), (g1, zv 30 .u64 8 (NZ f))])
 case first =>
  go_wp2_with fail
  refine wp_region_noPanic ?_
  refine wp_region_held_drew (S := fun W => W.heap[g5]? = some (zv 30 .u64 8 (NZ h11)) ∧ W.heap[g8]? = some (zv 30 .u64 8 (NZ h21)) ∧ W.heap[g7]? = some (zv 30 .u64 8 (NZ hu))) (by kernel_rfl) (⟨H.out.drew.row 2 rfl, H.out.drew.row 0 rfl, H.out.drew.row 1 rfl⟩) (fun hH => ?_)
  replace H := za H.out.drew
  generalize World.drew _ = w8 at *
  refine zk 0 23 zt rfl rfl rfl hH rfl rfl (fun _ h => h.1) ?_
  try simp only [Act.put, qa, qb, qc]
  refine zk 1 24 zt rfl rfl rfl hH rfl rfl (fun _ h => h.2.1) ?_
  refine zk 2 25 zt rfl rfl rfl hH rfl rfl (fun _ h => h.2.2) ?_
  refine zk 3 26 zt rfl rfl rfl hH rfl rfl (fun _ h => h.2.2) ?_
  try simp only [Act.put, qa, qb, qc]
  refine zK [4, 10] (zG rfl (fun K hK => ?_) (zG rfl (fun K hK => ?_) zJ))
  ·skip
   refine z0l 27 rfl H.out rfl rfl rfl ?_
   intro w27 g27 H3 hb
   replace H := za H3
   refine zc hK ⟨zb H 3, zb H 1, zb H 2⟩ fun hH => zK [5, 10] (zG rfl (fun K hK => ?_) (zG rfl (fun K hK => ?_) zJ))
   ·skip
    go_simp
    refine (z0x _ HV21.out (H.out.row 0 rfl) VU.out VU.out).mono ?_
    rintro e wc ⟨h28, rfl, hv, hb⟩
    replace H := zd H hb
    have HV28 := za hv
    refine zc hK ⟨zb H 3, zb H 1, zb H 2⟩ fun hH => zK [6, 10] (zG rfl (fun K hK => ?_) (zG rfl (fun K hK => ?_) zJ))
    ·skip
     go_simp
     refine (z1k HR.out HOK.out _ (HT.out.below H.out.bel) HV11.out HV28.out).mono ?_
     rintro e wc ⟨h29, rfl, hv, hb⟩
     replace H := zd H hb
     have HV29 := za hv
     refine zc hK ⟨zb H 3, zb H 1, zb H 2⟩ fun hH => ?_
     try simp only [Act.put, qa, qb, qc]
     refine zh 7 22 (.tuple #[EV h29, .bool b]) hH ?_
     refine zh 8 30 (EV h29) hH ?_
     refine zh 9 31 (.bool b) hH ?_
     refine zn 10 rfl fun K hK => ?_
     refine zg 9 rfl z9 H.out rfl ?_
     intro w9 g9 H3 hb
     replace H := za H3
     refine zc hK ⟨zb H 4, zb H 2, zb H 3⟩ fun hH => zn 11 rfl fun K hK => ?_
     refine zu 0 rfl zt H.out rfl rfl rfl rfl ?_
     intro ws HS
     simp only [qb] at HS
     replace H := za HS
     refine zc hK ⟨zb H 4, zb H 2, zb H 3⟩ fun hH => ?_
     try simp only [qa]
     refine zh 12 4 (.bool b) hH ?_
     refine zm ?_
     replace H := za (H.out.erase 1)
     go_wp2_with fail
     go_meet
     exact ⟨g9, h29, rfl, rfl, HV29.out, H.out⟩
    ·skip
     refine zg 9 rfl z9 H.out rfl ?_
     intro w9 g9 H3 hb
     replace H := za H3
     refine zc hK ⟨zb H 4, zb H 2, zb H 3⟩ fun hH => zn 6 rfl fun K hK => ?_
     go_simp
     refine (z1k HR.out HOK.out _ (HT.out.below H.out.bel) HV11.out HV28.out).mono ?_
     rintro e wc ⟨h29, rfl, hv, hb⟩
     replace H := zd H hb
     have HV29 := za hv
     refine zc hK ⟨zb H 4, zb H 2, zb H 3⟩ fun hH => ?_
     refine zh 7 22 (.tuple #[EV h29, .bool b]) hH ?_
     refine zh 8 30 (EV h29) hH ?_
     refine zh 9 31 (.bool b) hH ?_
     refine zn 11 rfl fun K hK => ?_
     refine zu 0 rfl zt H.out rfl rfl rfl rfl ?_
     intro ws HS
     simp only [qb] at HS
     replace H := za HS
     refine zc hK ⟨zb H 4, zb H 2, zb H 3⟩ fun hH => ?_
     try simp only [qa]
     refine zh 12 4 (.bool b) hH ?_
     refine zm ?_
     replace H := za (H.out.erase 1)
     go_wp2_with fail
     go_meet
     exact ⟨g9, h29, rfl, rfl, HV29.out, H.out⟩
   ·skip
    refine zg 9 rfl z9 H.out rfl ?_
    intro w9 g9 H3 hb
    replace H := za H3
    refine zc hK ⟨zb H 4, zb H 2, zb H 3⟩ fun hH => zn 5 rfl fun K hK => ?_
    go_simp
    refine (z0x _ HV21.out (H.out.row 1 rfl) VU.out VU.out).mono ?_
    rintro e wc ⟨h28, rfl, hv, hb⟩
    replace H := zd H hb
    have HV28 := za hv
    refine zc hK ⟨zb H 4, zb H 2, zb H 3⟩ fun hH => zn 6 rfl fun K hK => ?_
    go_simp
    refine (z1k HR.out HOK.out _ (HT.out.below H.out.bel) HV11.out HV28.out).mono ?_
    rintro e wc ⟨h29, rfl, hv, hb⟩
    replace H := zd H hb
    have HV29 := za hv
    refine zc hK ⟨zb H 4, zb H 2, zb H 3⟩ fun hH => ?_
    try simp only [Act.put, qa, qb, qc]
    refine zh 7 22 (.tuple #[EV h29, .bool b]) hH ?_
    refine zh 8 30 (EV h29) hH ?_
    refine zh 9 31 (.bool b) hH ?_
    refine zn 11 rfl fun K hK => ?_
    refine zu 0 rfl zt H.out rfl rfl rfl rfl ?_
    intro ws HS
    simp only [qb] at HS
    replace H := za HS
    refine zc hK ⟨zb H 4, zb H 2, zb H 3⟩ fun hH => ?_
    try simp only [qa]
    refine zh 12 4 (.bool b) hH ?_
    refine zm ?_
    replace H := za (H.out.erase 1)
    go_wp2_with fail
    go_meet
    exact ⟨g9, h29, rfl, rfl, HV29.out, H.out⟩
  ·skip
   refine zg 9 rfl z9 H.out rfl ?_
   intro w9 g9 H3 hb
   replace H := za H3
   refine zc hK ⟨zb H 3, zb H 1, zb H 2⟩ fun hH => zn 4 rfl fun K hK => ?_
   refine z0l 27 rfl H.out rfl rfl rfl ?_
   intro w27 g27 H3 hb
   replace H := za H3
   refine zc hK ⟨zb H 4, zb H 2, zb H 3⟩ fun hH => zn 5 rfl fun K hK => ?_
   go_simp
   refine (z0x _ HV21.out (H.out.row 0 rfl) VU.out VU.out).mono ?_
   rintro e wc ⟨h28, rfl, hv, hb⟩
   replace H := zd H hb
   have HV28 := za hv
   refine zc hK ⟨zb H 4, zb H 2, zb H 3⟩ fun hH => ?_
   try simp only [Act.put, qa, qb, qc]
   refine zn 6 rfl fun K hK => ?_
   go_simp
   refine (z1k HR.out HOK.out _ (HT.out.below H.out.bel) HV11.out HV28.out).mono ?_
   rintro e wc ⟨h29, rfl, hv, hb⟩
   replace H := zd H hb
   have HV29 := za hv
   refine zc hK ⟨zb H 4, zb H 2, zb H 3⟩ fun hH => ?_
   refine zh 7 22 (.tuple #[EV h29, .bool b]) hH ?_
   refine zh 8 30 (EV h29) hH ?_
   refine zh 9 31 (.bool b) hH ?_
   refine zn 11 rfl fun K hK => ?_
   refine zu 1 rfl zt H.out rfl rfl rfl rfl ?_
   intro ws HS
   simp only [qb, qc] at HS
   replace H := za HS
   refine zc hK ⟨zb H 4, zb H 2, zb H 3⟩ fun hH => ?_
   try simp only [qa]
   refine zh 12 4 (.bool b) hH ?_
   refine zm ?_
   replace H := za (H.out.erase 0)
   go_wp2_with fail
   go_meet
   exact ⟨g9, h29, rfl, rfl, HV29.out, H.out⟩
 clear H
 obtain ⟨g9, h29, rfl, rfl, hv29, HRR⟩ := hcut
 have HV29 := za hv29
 have H := za HRR
 clear HRR hv29
 go_upto_region 5 with fail
 go_cut [10] from 32 to 37 (fun v10 wx => ∃ g10 h37, v10 = .pointer (some ⟨g10, 0, none⟩) ∧ EK h37 (ab (fR * (S * zC (2)) * R * ((zC (1)) + (S * S)) * zC (39081))) ∧ Ow w wx [(g10, zv 30 .u64 8 (NZ h37)), (g9, zv 30 .u64 8 (NZ h29)), (g8, zv 30 .u64 8 (NZ h21)), (g7, zv 30 .u64 8 (NZ hu)), (g5, zv 30 .u64 8 (NZ h11)), (g6, zv 30 .u64 8 (NZ h13)), (g3, zv 30 .u64 8 fun _ => 0), (g2, zv 30 .u64 8 fun _ => 0), (g1, zv 30 .u64 8 (NZ f))])
 case first =>
  go_wp2_with fail
  refine wp_region_noPanic ?_
  refine wp_region_held_drew (S := fun W => W.heap[g1]? = some (zv 30 .u64 8 (NZ f)) ∧ W.heap[g9]? = some (zv 30 .u64 8 (NZ h29)) ∧ W.heap[g7]? = some (zv 30 .u64 8 (NZ hu))) (by kernel_rfl) (⟨H.out.drew.row 7 rfl, H.out.drew.row 0 rfl, H.out.drew.row 2 rfl⟩) (fun hH => ?_)
  replace H := za H.out.drew
  generalize World.drew _ = w8 at *
  refine zk 0 32 zt rfl rfl rfl hH rfl rfl (fun _ h => h.1) ?_
  refine zk 2 34 zt rfl rfl rfl hH rfl rfl (fun _ h => h.2.1) ?_
  refine zk 3 35 zt rfl rfl rfl hH rfl rfl (fun _ h => h.2.2) ?_
  try simp only [Act.put, qa, qb, qc]
  refine zK [1, 6] (zG rfl (fun K hK => ?_) (zG rfl (fun K hK => ?_) zJ))
  ·skip
   go_simp
   refine (z07 (2) _ (HT.out.below H.out.bel) V0.out (by omega) (by omega)).mono ?_
   rintro e wc ⟨h33, rfl, hv, hb⟩
   replace H := zd H hb
   have HV33 := za hv
   refine zc hK ⟨zb H 7, zb H 0, zb H 2⟩ fun hH => zK [4, 6] (zG rfl (fun K hK => ?_) (zG rfl (fun K hK => ?_) zJ))
   ·skip
    refine z18 36 rfl H.out rfl rfl rfl rfl ?_
    intro w36 g36 H3 hb
    replace H := za H3
    refine zc hK ⟨zb H 8, zb H 1, zb H 3⟩ fun hH => zK [5, 6] (zG rfl (fun K hK => ?_) (zG rfl (fun K hK => ?_) zJ))
    ·skip
     go_simp
     refine (z57 _ (HT.out.below H.out.bel) (H.out.row 0 rfl) HV33.out HV29.out VU.out).mono ?_
     rintro e wc ⟨h37, rfl, hv, hb⟩
     replace H := zd H hb
     have HV37 := za hv
     refine zc hK ⟨zb H 8, zb H 1, zb H 3⟩ fun hH => ?_
     try simp only [Act.put, qa, qb, qc]
     refine zn 6 rfl fun K hK => ?_
     refine zg 10 rfl z9 H.out rfl ?_
     intro w10 g10 H3 hb
     replace H := za H3
     refine zc hK ⟨zb H 9, zb H 2, zb H 4⟩ fun hH => zn 7 rfl fun K hK => ?_
     refine zu 0 rfl zt H.out rfl rfl rfl rfl ?_
     intro ws HS
     simp only [qb] at HS
     replace H := za HS
     refine zc hK ⟨zb H 9, zb H 2, zb H 4⟩ fun hH => ?_
     try simp only [qa]
     try simp only [Act.put]
     refine zm ?_
     replace H := za (H.out.erase 1)
     go_wp2_with fail
     go_meet
     exact ⟨g10, h37, rfl, HV37.out, H.out⟩
    ·skip
     refine zg 10 rfl z9 H.out rfl ?_
     intro w10 g10 H3 hb
     replace H := za H3
     refine zc hK ⟨zb H 9, zb H 2, zb H 4⟩ fun hH => zn 5 rfl fun K hK => ?_
     go_simp
     refine (z57 _ (HT.out.below H.out.bel) (H.out.row 1 rfl) HV33.out HV29.out VU.out).mono ?_
     rintro e wc ⟨h37, rfl, hv, hb⟩
     replace H := zd H hb
     have HV37 := za hv
     refine zc hK ⟨zb H 9, zb H 2, zb H 4⟩ fun hH => ?_
     try simp only [Act.put, qa, qb, qc]
     refine zn 7 rfl fun K hK => ?_
     refine zu 0 rfl zt H.out rfl rfl rfl rfl ?_
     intro ws HS
     simp only [qb] at HS
     replace H := za HS
     refine zc hK ⟨zb H 9, zb H 2, zb H 4⟩ fun hH => ?_
     try simp only [qa]
     try simp only [Act.put]
     refine zm ?_
     replace H := za (H.out.erase 1)
     go_wp2_with fail
     go_meet
     exact ⟨g10, h37, rfl, HV37.out, H.out⟩
   ·skip
    refine zg 10 rfl z9 H.out rfl ?_
    intro w10 g10 H3 hb
    replace H := za H3
    refine zc hK ⟨zb H 8, zb H 1, zb H 3⟩ fun hH => zn 4 rfl fun K hK => ?_
    refine z18 36 rfl H.out rfl rfl rfl rfl ?_
    intro w36 g36 H3 hb
    replace H := za H3
    refine zc hK ⟨zb H 9, zb H 2, zb H 4⟩ fun hH => zn 5 rfl fun K hK => ?_
    go_simp
    refine (z57 _ (HT.out.below H.out.bel) (H.out.row 0 rfl) HV33.out HV29.out VU.out).mono ?_
    rintro e wc ⟨h37, rfl, hv, hb⟩
    replace H := zd H hb
    have HV37 := za hv
    refine zc hK ⟨zb H 9, zb H 2, zb H 4⟩ fun hH => ?_
    try simp only [Act.put, qa, qb, qc]
    refine zn 7 rfl fun K hK => ?_
    refine zu 1 rfl zt H.out rfl rfl rfl rfl ?_
    intro ws HS
    simp only [qb, qc] at HS
    replace H := za HS
    refine zc hK ⟨zb H 9, zb H 2, zb H 4⟩ fun hH => ?_
    try simp only [qa]
    try simp only [Act.put]
    refine zm ?_
    replace H := za (H.out.erase 0)
    go_wp2_with fail
    go_meet
    exact ⟨g10, h37, rfl, HV37.out, H.out⟩
  ·skip
   refine zg 10 rfl z9 H.out rfl ?_
   intro w10 g10 H3 hb
   replace H := za H3
   refine zc hK ⟨zb H 8, zb H 1, zb H 3⟩ fun hH => zn 1 rfl fun K hK => ?_
   go_simp
   refine (z07 (2) _ (HT.out.below H.out.bel) V0.out (by omega) (by omega)).mono ?_
   rintro e wc ⟨h33, rfl, hv, hb⟩
   replace H := zd H hb
   have HV33 := za hv
   refine zc hK ⟨zb H 8, zb H 1, zb H 3⟩ fun hH => zn 4 rfl fun K hK => ?_
   refine z18 36 rfl H.out rfl rfl rfl rfl ?_
   intro w36 g36 H3 hb
   replace H := za H3
   refine zc hK ⟨zb H 9, zb H 2, zb H 4⟩ fun hH => ?_
   try simp only [Act.put, qa, qb, qc]
   refine zn 5 rfl fun K hK => ?_
   go_simp
   refine (z57 _ (HT.out.below H.out.bel) (H.out.row 0 rfl) HV33.out HV29.out VU.out).mono ?_
   rintro e wc ⟨h37, rfl, hv, hb⟩
   replace H := zd H hb
   have HV37 := za hv
   refine zc hK ⟨zb H 9, zb H 2, zb H 4⟩ fun hH => zn 7 rfl fun K hK => ?_
   refine zu 1 rfl zt H.out rfl rfl rfl rfl ?_
   intro ws HS
   simp only [qb, qc] at HS
   replace H := za HS
   refine zc hK ⟨zb H 9, zb H 2, zb H 4⟩ fun hH => ?_
   try simp only [qa]
   try simp only [Act.put]
   refine zm ?_
   replace H := za (H.out.erase 0)
   go_wp2_with fail
   go_meet
   exact ⟨g10, h37, rfl, HV37.out, H.out⟩
 clear H
 obtain ⟨g10, h37, rfl, hv37, HRR⟩ := hcut
 have HV37 := za hv37
 have H := za HRR
 clear HRR hv37
 go_upto_region 6 with fail
 refine wp_region_noPanic ?_
 refine wp_region_held_drew (S := fun W => W.heap[g10]? = some (zv 30 .u64 8 (NZ h37)) ∧ W.heap[g9]? = some (zv 30 .u64 8 (NZ h29)) ∧ W.heap[g8]? = some (zv 30 .u64 8 (NZ h21)) ∧ W.heap[g5]? = some (zv 30 .u64 8 (NZ h11)) ∧ W.heap[g6]? = some (zv 30 .u64 8 (NZ h13)) ∧ W.heap[g7]? = some (zv 30 .u64 8 (NZ hu))) (by kernel_rfl) (⟨H.out.drew.row 0 rfl, H.out.drew.row 1 rfl, H.out.drew.row 2 rfl, H.out.drew.row 4 rfl, H.out.drew.row 5 rfl, H.out.drew.row 3 rfl⟩) (fun hH => ?_)
 replace H := za H.out.drew
 generalize World.drew _ = w8 at *
 refine zk 0 38 zt rfl rfl rfl hH rfl rfl (fun _ h => h.1) ?_
 refine zk 1 39 zt rfl rfl rfl hH rfl rfl (fun _ h => h.2.1) ?_
 try simp only [Act.put, qa, qb, qc]
 refine zk 2 40 zt rfl rfl rfl hH rfl rfl (fun _ h => h.2.2.1) ?_
 refine zk 6 44 zt rfl rfl rfl hH rfl rfl (fun _ h => h.2.2.2.1) ?_
 refine zk 7 45 zt rfl rfl rfl hH rfl rfl (fun _ h => h.2.2.2.2.1) ?_
 try simp only [Act.put, qa, qb, qc]
 refine zk 9 47 zt rfl rfl rfl hH rfl rfl (fun _ h => h.2.1) ?_
 refine zk 10 48 zt rfl rfl rfl hH rfl rfl (fun _ h => h.2.2.2.2.2) ?_
 refine zh 13 51 (.bool b) hH ?_
 refine zK [3, 11] (zG rfl (fun K hK => ?_) (zG rfl (fun K hK => ?_) zJ))
 ·skip
  go_simp
  refine (z2s _).mono ?_
  rintro e wc ⟨h41, rfl, hv, hb⟩
  replace H := zd H hb
  have HV41 := za hv
  refine zc hK ⟨zb H 0, zb H 1, zb H 2, zb H 4, zb H 5, zb H 3⟩ fun hH => zK [4, 11] (zG rfl (fun K hK => ?_) (zG rfl (fun K hK => ?_) zJ))
  ·skip
   refine z18 42 rfl H.out rfl rfl rfl rfl ?_
   intro w42 g42 H3 hb
   replace H := za H3
   refine zc hK ⟨zb H 1, zb H 2, zb H 3, zb H 5, zb H 6, zb H 4⟩ fun hH => zK [5, 11] (zG rfl (fun K hK => ?_) (zG rfl (fun K hK => ?_) zJ))
   ·skip
    go_simp
    refine (z43 _ HV37.out (H.out.row 0 rfl) HV29.out HV21.out HV41.out).mono ?_
    rintro e wc ⟨h43, rfl, hv, hb⟩
    replace H := zd H hb
    have HV43 := za hv
    refine zc hK ⟨zb H 1, zb H 2, zb H 3, zb H 5, zb H 6, zb H 4⟩ fun hH => ?_
    try simp only [Act.put, qa, qb, qc]
    refine zK [8, 11] (zG rfl (fun K hK => ?_) (zG rfl (fun K hK => ?_) zJ))
    ·skip
     go_simp
     refine (z1t _ (HT.out.below H.out.bel) HV11.out HV13.out).mono ?_
     rintro e wc ⟨h46, rfl, hv, hb⟩
     replace H := zd H hb
     have HV46 := za hv
     refine zc hK ⟨zb H 1, zb H 2, zb H 3, zb H 5, zb H 6, zb H 4⟩ fun hH => zn 11 rfl fun K hK => ?_
     refine z0l 49 rfl H.out rfl rfl rfl ?_
     intro w49 g49 H3 hb
     replace H := za H3
     refine zc hK ⟨zb H 2, zb H 3, zb H 4, zb H 6, zb H 7, zb H 5⟩ fun hH => zn 12 rfl fun K hK => ?_
     go_simp
     refine (z0x _ HV46.out (H.out.row 0 rfl) HV29.out VU.out).mono ?_
     rintro e wc ⟨h50, rfl, hv, hb⟩
     replace H := zd H hb
     have HV50 := za hv
     refine zc hK ⟨zb H 2, zb H 3, zb H 4, zb H 6, zb H 7, zb H 5⟩ fun hH => ?_
     try simp only [Act.put, qa, qb, qc]
     refine zn 14 rfl fun K hK => ?_
     refine zu 9 rfl zt H.out rfl rfl rfl rfl ?_
     intro ws HS
     simp only [qb, qc] at HS
     replace H := za HS
     refine zc hK ⟨zb H 2, zb H 3, zb H 4, zb H 6, zb H 7, zb H 5⟩ fun hH => ?_
     try simp only [qa]
     refine zn 15 rfl fun K hK => ?_
     refine zu 8 rfl zt H.out rfl rfl rfl rfl ?_
     intro ws HS
     simp only [qb, qc] at HS
     replace H := za HS
     refine zc hK ⟨zb H 2, zb H 3, zb H 4, zb H 6, zb H 7, zb H 5⟩ fun hH => ?_
     try simp only [qa]
     refine zh 16 4 (.bool b) hH ?_
     refine zm ?_
     go_wp2_with fail
     exact bodyPost_ret (z1f 9 8 zt zt rfl _ H rfl rfl rfl rfl rfl) rfl ⟨_, _, rfl, HX.out ▸ HV43.out, HY.out ▸ HV50.out, H.out.bel⟩
    ·skip
     refine z0l 49 rfl H.out rfl rfl rfl ?_
     intro w49 g49 H3 hb
     replace H := za H3
     refine zc hK ⟨zb H 2, zb H 3, zb H 4, zb H 6, zb H 7, zb H 5⟩ fun hH => zn 8 rfl fun K hK => ?_
     go_simp
     refine (z1t _ (HT.out.below H.out.bel) HV11.out HV13.out).mono ?_
     rintro e wc ⟨h46, rfl, hv, hb⟩
     replace H := zd H hb
     have HV46 := za hv
     refine zc hK ⟨zb H 2, zb H 3, zb H 4, zb H 6, zb H 7, zb H 5⟩ fun hH => zn 12 rfl fun K hK => ?_
     go_simp
     refine (z0x _ HV46.out (H.out.row 0 rfl) HV29.out VU.out).mono ?_
     rintro e wc ⟨h50, rfl, hv, hb⟩
     replace H := zd H hb
     have HV50 := za hv
     refine zc hK ⟨zb H 2, zb H 3, zb H 4, zb H 6, zb H 7, zb H 5⟩ fun hH => ?_
     try simp only [Act.put, qa, qb, qc]
     refine zn 14 rfl fun K hK => ?_
     refine zu 9 rfl zt H.out rfl rfl rfl rfl ?_
     intro ws HS
     simp only [qb, qc] at HS
     replace H := za HS
     refine zc hK ⟨zb H 2, zb H 3, zb H 4, zb H 6, zb H 7, zb H 5⟩ fun hH => ?_
     try simp only [qa]
     refine zn 15 rfl fun K hK => ?_
     refine zu 8 rfl zt H.out rfl rfl rfl rfl ?_
     intro ws HS
     simp only [qb, qc] at HS
     replace H := za HS
     refine zc hK ⟨zb H 2, zb H 3, zb H 4, zb H 6, zb H 7, zb H 5⟩ fun hH => ?_
     try simp only [qa]
     refine zh 16 4 (.bool b) hH ?_
     refine zm ?_
     go_wp2_with fail
     exact bodyPost_ret (z1f 9 8 zt zt rfl _ H rfl rfl rfl rfl rfl) rfl ⟨_, _, rfl, HX.out ▸ HV43.out, HY.out ▸ HV50.out, H.out.bel⟩
   ·skip
    refine z0l 49 rfl H.out rfl rfl rfl ?_
    intro w49 g49 H3 hb
    replace H := za H3
    refine zc hK ⟨zb H 2, zb H 3, zb H 4, zb H 6, zb H 7, zb H 5⟩ fun hH => zn 5 rfl fun K hK => ?_
    go_simp
    refine (z43 _ HV37.out (H.out.row 1 rfl) HV29.out HV21.out HV41.out).mono ?_
    rintro e wc ⟨h43, rfl, hv, hb⟩
    replace H := zd H hb
    have HV43 := za hv
    refine zc hK ⟨zb H 2, zb H 3, zb H 4, zb H 6, zb H 7, zb H 5⟩ fun hH => zn 8 rfl fun K hK => ?_
    go_simp
    refine (z1t _ (HT.out.below H.out.bel) HV11.out HV13.out).mono ?_
    rintro e wc ⟨h46, rfl, hv, hb⟩
    replace H := zd H hb
    have HV46 := za hv
    refine zc hK ⟨zb H 2, zb H 3, zb H 4, zb H 6, zb H 7, zb H 5⟩ fun hH => ?_
    try simp only [Act.put, qa, qb, qc]
    refine zn 12 rfl fun K hK => ?_
    go_simp
    refine (z0x _ HV46.out (H.out.row 0 rfl) HV29.out VU.out).mono ?_
    rintro e wc ⟨h50, rfl, hv, hb⟩
    replace H := zd H hb
    have HV50 := za hv
    refine zc hK ⟨zb H 2, zb H 3, zb H 4, zb H 6, zb H 7, zb H 5⟩ fun hH => zn 14 rfl fun K hK => ?_
    refine zu 9 rfl zt H.out rfl rfl rfl rfl ?_
    intro ws HS
    simp only [qb, qc] at HS
    replace H := za HS
    refine zc hK ⟨zb H 2, zb H 3, zb H 4, zb H 6, zb H 7, zb H 5⟩ fun hH => ?_
    try simp only [qa]
    refine zn 15 rfl fun K hK => ?_
    refine zu 8 rfl zt H.out rfl rfl rfl rfl ?_
    intro ws HS
    simp only [qb, qc] at HS
    replace H := za HS
    refine zc hK ⟨zb H 2, zb H 3, zb H 4, zb H 6, zb H 7, zb H 5⟩ fun hH => ?_
    try simp only [qa]
    refine zh 16 4 (.bool b) hH ?_
    refine zm ?_
    go_wp2_with fail
    exact bodyPost_ret (z1f 9 8 zt zt rfl _ H rfl rfl rfl rfl rfl) rfl ⟨_, _, rfl, HX.out ▸ HV43.out, HY.out ▸ HV50.out, H.out.bel⟩
  ·skip
   refine z0l 49 rfl H.out rfl rfl rfl ?_
   intro w49 g49 H3 hb
   replace H := za H3
   refine zc hK ⟨zb H 1, zb H 2, zb H 3, zb H 5, zb H 6, zb H 4⟩ fun hH => zn 4 rfl fun K hK => ?_
   refine z18 42 rfl H.out rfl rfl rfl rfl ?_
   intro w42 g42 H3 hb
   replace H := za H3
   refine zc hK ⟨zb H 2, zb H 3, zb H 4, zb H 6, zb H 7, zb H 5⟩ fun hH => zn 5 rfl fun K hK => ?_
   go_simp
   refine (z43 _ HV37.out (H.out.row 0 rfl) HV29.out HV21.out HV41.out).mono ?_
   rintro e wc ⟨h43, rfl, hv, hb⟩
   replace H := zd H hb
   have HV43 := za hv
   refine zc hK ⟨zb H 2, zb H 3, zb H 4, zb H 6, zb H 7, zb H 5⟩ fun hH => ?_
   try simp only [Act.put, qa, qb, qc]
   refine zn 8 rfl fun K hK => ?_
   go_simp
   refine (z1t _ (HT.out.below H.out.bel) HV11.out HV13.out).mono ?_
   rintro e wc ⟨h46, rfl, hv, hb⟩
   replace H := zd H hb
   have HV46 := za hv
   refine zc hK ⟨zb H 2, zb H 3, zb H 4, zb H 6, zb H 7, zb H 5⟩ fun hH => zn 12 rfl fun K hK => ?_
   go_simp
   refine (z0x _ HV46.out (H.out.row 1 rfl) HV29.out VU.out).mono ?_
   rintro e wc ⟨h50, rfl, hv, hb⟩
   replace H := zd H hb
   have HV50 := za hv
   refine zc hK ⟨zb H 2, zb H 3, zb H 4, zb H 6, zb H 7, zb H 5⟩ fun hH => zn 14 rfl fun K hK => ?_
   refine zu 9 rfl zt H.out rfl rfl rfl rfl ?_
   intro ws HS
   simp only [qb, qc] at HS
   replace H := za HS
   refine zc hK ⟨zb H 2, zb H 3, zb H 4, zb H 6, zb H 7, zb H 5⟩ fun hH => ?_
   try simp only [qa]
   refine zn 15 rfl fun K hK => ?_
   refine zu 8 rfl zt H.out rfl rfl rfl rfl ?_
   intro ws HS
   simp only [qb, qc] at HS
   replace H := za HS
   refine zc hK ⟨zb H 2, zb H 3, zb H 4, zb H 6, zb H 7, zb H 5⟩ fun hH => ?_
   try simp only [qa]
   refine zh 16 4 (.bool b) hH ?_
   refine zm ?_
   go_wp2_with fail
   exact bodyPost_ret (z1f 9 8 zt zt rfl _ H rfl rfl rfl rfl rfl) rfl ⟨_, _, rfl, HX.out ▸ HV43.out, HY.out ▸ HV50.out, H.out.bel⟩
 ·skip
  refine z0l 49 rfl H.out rfl rfl rfl ?_
  intro w49 g49 H3 hb
  replace H := za H3
  refine zc hK ⟨zb H 1, zb H 2, zb H 3, zb H 5, zb H 6, zb H 4⟩ fun hH => zn 3 rfl fun K hK => ?_
  go_simp
  refine (z2s _).mono ?_
  rintro e wc ⟨h41, rfl, hv, hb⟩
  replace H := zd H hb
  have HV41 := za hv
  refine zc hK ⟨zb H 1, zb H 2, zb H 3, zb H 5, zb H 6, zb H 4⟩ fun hH => zn 4 rfl fun K hK => ?_
  refine z18 42 rfl H.out rfl rfl rfl rfl ?_
  intro w42 g42 H3 hb
  replace H := za H3
  refine zc hK ⟨zb H 2, zb H 3, zb H 4, zb H 6, zb H 7, zb H 5⟩ fun hH => ?_
  try simp only [Act.put, qa, qb, qc]
  refine zn 5 rfl fun K hK => ?_
  go_simp
  refine (z43 _ HV37.out (H.out.row 0 rfl) HV29.out HV21.out HV41.out).mono ?_
  rintro e wc ⟨h43, rfl, hv, hb⟩
  replace H := zd H hb
  have HV43 := za hv
  refine zc hK ⟨zb H 2, zb H 3, zb H 4, zb H 6, zb H 7, zb H 5⟩ fun hH => zn 8 rfl fun K hK => ?_
  go_simp
  refine (z1t _ (HT.out.below H.out.bel) HV11.out HV13.out).mono ?_
  rintro e wc ⟨h46, rfl, hv, hb⟩
  replace H := zd H hb
  have HV46 := za hv
  refine zc hK ⟨zb H 2, zb H 3, zb H 4, zb H 6, zb H 7, zb H 5⟩ fun hH => zn 12 rfl fun K hK => ?_
  go_simp
  refine (z0x _ HV46.out (H.out.row 1 rfl) HV29.out VU.out).mono ?_
  rintro e wc ⟨h50, rfl, hv, hb⟩
  replace H := zd H hb
  have HV50 := za hv
  refine zc hK ⟨zb H 2, zb H 3, zb H 4, zb H 6, zb H 7, zb H 5⟩ fun hH => ?_
  try simp only [Act.put, qa, qb, qc]
  refine zn 14 rfl fun K hK => ?_
  refine zu 9 rfl zt H.out rfl rfl rfl rfl ?_
  intro ws HS
  simp only [qb, qc] at HS
  replace H := za HS
  refine zc hK ⟨zb H 2, zb H 3, zb H 4, zb H 6, zb H 7, zb H 5⟩ fun hH => ?_
  try simp only [qa]
  refine zn 15 rfl fun K hK => ?_
  refine zu 8 rfl zt H.out rfl rfl rfl rfl ?_
  intro ws HS
  simp only [qb, qc] at HS
  replace H := za HS
  refine zc hK ⟨zb H 2, zb H 3, zb H 4, zb H 6, zb H 7, zb H 5⟩ fun hH => ?_
  try simp only [qa]
  refine zh 16 4 (.bool b) hH ?_
  refine zm ?_
  go_wp2_with fail
  exact bodyPost_ret (z1f 9 8 zt zt rfl _ H rfl rfl rfl rfl rfl) rfl ⟨_, _, rfl, HX.out ▸ HV43.out, HY.out ▸ HV50.out, H.out.bel⟩
end Go.Proofs.YtgjbonikbmgfmaaGreatDoor
