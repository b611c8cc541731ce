/- Lemmas; no statement is proved here. -/
import Derived.Test.YtgjbonikbmgfmaaGreatDoorBuH
set_option maxRecDepth 8000
set_option maxHeartbeats 3200000
namespace Go.Proofs.YtgjbonikbmgfmaaGreatDoor
open Go.RowKit
theorem y8c (fn : FuncId) (prod : K → K → K) (hF : ∀ args w, (callFunc fn args).run Tryz.prog w = .ok (.enter fn args) w) (hP : ∀ (f g : Nat → Nat) (a b : K) (w : World), EK f a → EK g b → Calls Tryz.prog fn #[EV f, EV g] w fun e w' => ∃ h, e = .returned (EV h) ∧ EK h (prod a b) ∧ Below w.heap.size w w')
  {x1 y1 z1 x2 y2 z2 : Nat → Nat} {X1 Y1 Z1 X2 Y2 Z2 : K} (w : World) (hT : Tp w) (a1 : EK x1 X1) (a2 : EK y1 Y1) (a3 : EK z1 Z1) (a4 : EK x2 X2) (a5 : EK y2 Y2) (a6 : EK z2 Z2) :
  Calls Tryz.prog 110 #[PO (t3 8 (NZ x1) (NZ y1) (NZ z1)), PO (t3 8 (NZ x2) (NZ y2) (NZ z2)), .func (.func fn) #[] #[]] w fun e w' => ∃ f1 f2 f3 f4, e = .returned (.tuple #[EV f1, EV f2, EV f3, EV f4]) ∧
   EK f1 (prod X1 X2) ∧ EK f2 (prod Y1 Y2) ∧ EK f3 (prod Z1 Z2) ∧ EK f4 (prod (X1 + Y1) (X2 + Y2) - (prod X1 X2 + prod Y1 Y2)) ∧ Below w.heap.size w w' := by
 have HP := za hP
 have A1 := za a1
 have A2 := za a2
 have A3 := za a3
 have A4 := za a4
 have A5 := za a5
 have A6 := za a6
 clear hP a1 a2 a3 a4 a5 a6
 have HT := za hT
 clear hT
 have H := za (Ow.start w)
 go_enter Tryz.func110, Tryz.ntmps110
 go_upto_region 1 with (first
  | ((fail_if_success have := g3); (with_reducible apply zw H); (case hgd | ho | hx => exact rfl); clear H; intro w3 g3 H _ _; go_simp)
  | ((fail_if_success have := g4); (with_reducible apply zw H); (case hgd | ho | hx => exact rfl); clear H; intro w4 g4 H _ _; go_simp)
  | ((fail_if_success have := g6); (with_reducible apply ze z9 H); (case hgd | ho => exact rfl); clear H; intro w6 g6 H _ _; go_simp)
  | ((fail_if_success have := g7); (with_reducible apply ze z9 H); (case hgd | ho => exact rfl); clear H; intro w7 g7 H _ _; go_simp)
  | ((fail_if_success have := g8); (with_reducible apply ze z9 H); (case hgd | ho => exact rfl); clear H; intro w8 g8 H _ _; go_simp)
  | ((fail_if_success have := g9); (with_reducible apply ze z9 H); (case hgd | ho => exact rfl); clear H; intro w9 g9 H _ _; go_simp))
 refine wp_region_noPanic ?_
 refine wp_region_held_drew (S := fun W => W.heap[g3]? = some (zv 32 .u64 24 ((t3 8 (NZ x1) (NZ y1) (NZ z1)))) ∧ W.heap[g4]? = some (zv 32 .u64 24 ((t3 8 (NZ x2) (NZ y2) (NZ z2))))) (by kernel_rfl) (⟨H.out.drew.row 5 rfl, H.out.drew.row 4 rfl⟩) (fun hH => ?_)
 replace H := za H.out.drew
 generalize World.drew _ = w8 at *
 refine zh 0 11 (.func (.func fn) #[] #[]) hH ?_
 refine zh 1 12 (.pointer (some ⟨g3, 0, none⟩)) hH ?_
 refine z0i 2 13 zt rfl rfl rfl hH rfl rfl z39 (fun _ h => h.1) ?_
 refine zh 3 14 (.pointer (some ⟨g4, 0, none⟩)) hH ?_
 refine z0i 4 15 zt rfl rfl rfl hH rfl rfl z39 (fun _ h => h.2) ?_
 refine zh 6 17 (.func (.func fn) #[] #[]) hH ?_
 refine zh 7 18 (.pointer (some ⟨g3, 8, none⟩)) hH ?_
 refine z0i 8 19 zt rfl rfl rfl hH rfl rfl z37 (fun _ h => h.1) ?_
 refine zh 9 20 (.pointer (some ⟨g4, 8, none⟩)) hH ?_
 refine z0i 10 21 zt rfl rfl rfl hH rfl rfl z37 (fun _ h => h.2) ?_
 refine zh 12 23 (.func (.func fn) #[] #[]) hH ?_
 refine zh 13 24 (.pointer (some ⟨g3, 16, none⟩)) hH ?_
 refine z0i 14 25 zt rfl rfl rfl hH rfl rfl z5u (fun _ h => h.1) ?_
 refine zh 15 26 (.pointer (some ⟨g4, 16, none⟩)) hH ?_
 refine z0i 16 27 zt rfl rfl rfl hH rfl rfl z5u (fun _ h => h.2) ?_
 refine zn 5 rfl fun K hK => ?_
 go_simp
 refine (HP.out _ _ _ _ _ A1.out A4.out).mono ?_
 rintro e wc ⟨h16, rfl, hv, hb⟩
 replace H := zd H hb
 have HV16 := za hv
 refine zc hK ⟨zb H 5, zb H 4⟩ fun hH => zn 11 rfl fun K hK => ?_
 go_simp
 refine (HP.out _ _ _ _ _ A2.out A5.out).mono ?_
 rintro e wc ⟨h22, rfl, hv, hb⟩
 replace H := zd H hb
 have HV22 := za hv
 refine zc hK ⟨zb H 5, zb H 4⟩ fun hH => ?_
 try simp only [Act.put, qa, qb, qc]
 refine zn 17 rfl fun K hK => ?_
 go_simp
 refine (HP.out _ _ _ _ _ A3.out A6.out).mono ?_
 rintro e wc ⟨h28, rfl, hv, hb⟩
 replace H := zd H hb
 have HV28 := za hv
 refine zc hK ⟨zb H 5, zb H 4⟩ fun hH => zn 18 rfl fun K hK => ?_
 refine zl 3 zt H.out rfl rfl rfl rfl ?_
 intro ws HS
 simp only [qb, qc] at HS
 replace H := za HS
 refine zc hK ⟨zb H 5, zb H 4⟩ fun hH => ?_
 try simp only [Act.put, qa]
 refine zn 19 rfl fun K hK => ?_
 refine zl 2 zt H.out rfl rfl rfl rfl ?_
 intro ws HS
 simp only [qb, qc] at HS
 replace H := za HS
 refine zc hK ⟨zb H 5, zb H 4⟩ fun hH => ?_
 try simp only [Act.put]
 refine zn 20 rfl fun K hK => ?_
 refine zl 1 zt H.out rfl rfl rfl rfl ?_
 intro ws HS
 simp only [qb, qc] at HS
 replace H := za HS
 refine zc hK ⟨zb H 5, zb H 4⟩ fun hH => ?_
 try simp only [Act.put]
 refine zm ?_
 go_upto_region 2 with fail
 go_simp
 go_cut [10] from 29 to 40 (fun v10 wx => ∃ g10 h40, v10 = .pointer (some ⟨g10, 0, none⟩) ∧ EK h40 (prod (X1 + Y1) (X2 + Y2)) ∧ Ow w wx [(g10, zv 30 .u64 8 (NZ h40)), (g9, zv 30 .u64 8 fun _ => 0), (g8, zv 30 .u64 8 (NZ h28)), (g7, zv 30 .u64 8 (NZ h22)), (g6, zv 30 .u64 8 (NZ h16)), (g4, zv 32 .u64 24 ((t3 8 (NZ x2) (NZ y2) (NZ z2)))), (g3, zv 32 .u64 24 ((t3 8 (NZ x1) (NZ y1) (NZ z1))))])
 case first =>
  go_wp2_with fail
  refine wp_region_noPanic ?_
  refine wp_region_held_drew (S := fun W => W.heap[g3]? = some (zv 32 .u64 24 ((t3 8 (NZ x1) (NZ y1) (NZ z1)))) ∧ W.heap[g4]? = some (zv 32 .u64 24 ((t3 8 (NZ x2) (NZ y2) (NZ z2))))) (by kernel_rfl) (⟨H.out.drew.row 5 rfl, H.out.drew.row 4 rfl⟩) (fun hH => ?_)
  replace H := za H.out.drew
  generalize World.drew _ = w8 at *
  refine zh 0 29 (.func (.func fn) #[] #[]) hH ?_
  refine zh 1 30 (.pointer (some ⟨g3, 0, none⟩)) hH ?_
  refine z0i 2 31 zt rfl rfl rfl hH rfl rfl z39 (fun _ h => h.1) ?_
  refine zh 3 32 (.pointer (some ⟨g3, 8, none⟩)) hH ?_
  refine z0i 4 33 zt rfl rfl rfl hH rfl rfl z37 (fun _ h => h.1) ?_
  refine zh 6 35 (.pointer (some ⟨g4, 0, none⟩)) hH ?_
  refine z0i 7 36 zt rfl rfl rfl hH rfl rfl z39 (fun _ h => h.2) ?_
  refine zh 8 37 (.pointer (some ⟨g4, 8, none⟩)) hH ?_
  refine z0i 9 38 zt rfl rfl rfl hH rfl rfl z37 (fun _ h => h.2) ?_
  refine zK [5, 12] (zG rfl (fun K hK => ?_) (zG rfl (fun K hK => ?_) zJ))
  ·skip
   go_simp
   refine (z6o _ A1.out A2.out).mono ?_
   rintro e wc ⟨h34, rfl, hv, hb⟩
   replace H := zd H hb
   have HV34 := za hv
   refine zc hK ⟨zb H 5, zb H 4⟩ fun hH => zK [10, 12] (zG rfl (fun K hK => ?_) (zG rfl (fun K hK => ?_) zJ))
   ·skip
    go_simp
    refine (z6o _ A4.out A5.out).mono ?_
    rintro e wc ⟨h39, rfl, hv, hb⟩
    replace H := zd H hb
    have HV39 := za hv
    refine zc hK ⟨zb H 5, zb H 4⟩ fun hH => ?_
    try simp only [Act.put, qa, qb, qc]
    refine zK [11, 12] (zG rfl (fun K hK => ?_) (zG rfl (fun K hK => ?_) zJ))
    ·skip
     go_simp
     refine (HP.out _ _ _ _ _ HV34.out HV39.out).mono ?_
     rintro e wc ⟨h40, rfl, hv, hb⟩
     replace H := zd H hb
     have HV40 := za hv
     refine zc hK ⟨zb H 5, zb H 4⟩ fun hH => zn 12 rfl fun K hK => ?_
     refine zg 10 rfl z9 H.out rfl ?_
     intro w10 g10 H3 hb
     replace H := za H3
     refine zc hK ⟨zb H 6, zb H 5⟩ fun hH => zn 13 rfl fun K hK => ?_
     refine zl 0 zt H.out rfl rfl rfl rfl ?_
     intro ws HS
     simp only [qb] at HS
     replace H := za HS
     refine zc hK ⟨zb H 6, zb H 5⟩ fun hH => ?_
     try simp only [Act.put, qa]
     refine zm ?_
     go_wp2_with fail
     go_meet
     exact ⟨g10, h40, rfl, HV40.out, H.out⟩
    ·skip
     refine zg 10 rfl z9 H.out rfl ?_
     intro w10 g10 H3 hb
     replace H := za H3
     refine zc hK ⟨zb H 6, zb H 5⟩ fun hH => ?_
     try simp only [Act.put, qa, qb, qc]
     refine zn 11 rfl fun K hK => ?_
     go_simp
     refine (HP.out _ _ _ _ _ HV34.out HV39.out).mono ?_
     rintro e wc ⟨h40, rfl, hv, hb⟩
     replace H := zd H hb
     have HV40 := za hv
     refine zc hK ⟨zb H 6, zb H 5⟩ fun hH => zn 13 rfl fun K hK => ?_
     refine zl 0 zt H.out rfl rfl rfl rfl ?_
     intro ws HS
     simp only [qb] at HS
     replace H := za HS
     refine zc hK ⟨zb H 6, zb H 5⟩ fun hH => ?_
     try simp only [Act.put, qa]
     refine zm ?_
     go_wp2_with fail
     go_meet
     exact ⟨g10, h40, rfl, HV40.out, H.out⟩
   ·skip
    refine zg 10 rfl z9 H.out rfl ?_
    intro w10 g10 H3 hb
    replace H := za H3
    refine zc hK ⟨zb H 6, zb H 5⟩ fun hH => zn 10 rfl fun K hK => ?_
    go_simp
    refine (z6o _ A4.out A5.out).mono ?_
    rintro e wc ⟨h39, rfl, hv, hb⟩
    replace H := zd H hb
    have HV39 := za hv
    refine zc hK ⟨zb H 6, zb H 5⟩ fun hH => ?_
    try simp only [Act.put, qa, qb, qc]
    refine zn 11 rfl fun K hK => ?_
    go_simp
    refine (HP.out _ _ _ _ _ HV34.out HV39.out).mono ?_
    rintro e wc ⟨h40, rfl, hv, hb⟩
    replace H := zd H hb
    have HV40 := za hv
    refine zc hK ⟨zb H 6, zb H 5⟩ fun hH => zn 13 rfl fun K hK => ?_
    refine zl 0 zt H.out rfl rfl rfl rfl ?_
    intro ws HS
    simp only [qb] at HS
    replace H := za HS
    refine zc hK ⟨zb H 6, zb H 5⟩ fun hH => ?_
    try simp only [Act.put, qa]
    refine zm ?_
    go_wp2_with fail
    go_meet
    exact ⟨g10, h40, rfl, HV40.out, H.out⟩
  ·skip
   refine zg 10 rfl z9 H.out rfl ?_
   intro w10 g10 H3 hb
   replace H := za H3
   refine zc hK ⟨zb H 6, zb H 5⟩ fun hH => zn 5 rfl fun K hK => ?_
   go_simp
   refine (z6o _ A1.out A2.out).mono ?_
   rintro e wc ⟨h34, rfl, hv, hb⟩
   replace H := zd H hb
   have HV34 := za hv
   refine zc hK ⟨zb H 6, zb H 5⟩ fun hH => ?_
   try simp only [Act.put, qa, qb, qc]
   refine zn 10 rfl fun K hK => ?_
   go_simp
   refine (z6o _ A4.out A5.out).mono ?_
   rintro e wc ⟨h39, rfl, hv, hb⟩
   replace H := zd H hb
   have HV39 := za hv
   refine zc hK ⟨zb H 6, zb H 5⟩ fun hH => zn 11 rfl fun K hK => ?_
   go_simp
   refine (HP.out _ _ _ _ _ HV34.out HV39.out).mono ?_
   rintro e wc ⟨h40, rfl, hv, hb⟩
   replace H := zd H hb
   have HV40 := za hv
   refine zc hK ⟨zb H 6, zb H 5⟩ fun hH => zn 13 rfl fun K hK => ?_
   refine zl 0 zt H.out rfl rfl rfl rfl ?_
   intro ws HS
   simp only [qb] at HS
   replace H := za HS
   refine zc hK ⟨zb H 6, zb H 5⟩ fun hH => ?_
   try simp only [Act.put, qa]
   refine zm ?_
   go_wp2_with fail
   go_meet
   exact ⟨g10, h40, rfl, HV40.out, H.out⟩
 clear H
 obtain ⟨g10, h40, rfl, hv40, HRR⟩ := hcut
 have HV40 := za hv40
 have H := za HRR
 clear HRR hv40
 go_upto_region 3 with fail
 refine wp_region_noPanic ?_
 refine wp_region_held_drew (S := fun W => W.heap[g6]? = some (zv 30 .u64 8 (NZ h16)) ∧ W.heap[g7]? = some (zv 30 .u64 8 (NZ h22)) ∧ W.heap[g8]? = some (zv 30 .u64 8 (NZ h28)) ∧ W.heap[g10]? = some (zv 30 .u64 8 (NZ h40))) (by kernel_rfl) (⟨H.out.drew.row 4 rfl, H.out.drew.row 3 rfl, H.out.drew.row 2 rfl, H.out.drew.row 0 rfl⟩) (fun hH => ?_)
 replace H := za H.out.drew
 generalize World.drew _ = w8 at *
 refine zk 0 41 zt rfl rfl rfl hH rfl rfl (fun _ h => h.1) ?_
 try simp only [Act.put, qa, qb, qc]
 refine zk 1 42 zt rfl rfl rfl hH rfl rfl (fun _ h => h.2.1) ?_
 refine zk 2 43 zt rfl rfl rfl hH rfl rfl (fun _ h => h.2.2.1) ?_
 refine zk 3 44 zt rfl rfl rfl hH rfl rfl (fun _ h => h.2.2.2) ?_
 try simp only [Act.put, qa, qb, qc]
 refine zk 4 45 zt rfl rfl rfl hH rfl rfl (fun _ h => h.1) ?_
 refine zk 5 46 zt rfl rfl rfl hH rfl rfl (fun _ h => h.2.1) ?_
 refine zn 6 rfl fun K hK => ?_
 go_simp
 refine (z6o _ HV16.out HV22.out).mono ?_
 rintro e wc ⟨h47, rfl, hv, hb⟩
 replace H := zd H hb
 have HV47 := za hv
 refine zc hK ⟨zb H 4, zb H 3, zb H 2, zb H 0⟩ fun hH => ?_
 try simp only [Act.put, qa, qb, qc]
 refine zn 7 rfl fun K hK => ?_
 go_simp
 refine (z1t _ (HT.out.below H.out.bel) HV40.out HV47.out).mono ?_
 rintro e wc ⟨h48, rfl, hv, hb⟩
 replace H := zd H hb
 have HV48 := za hv
 refine zc hK ⟨zb H 4, zb H 3, zb H 2, zb H 0⟩ fun hH => zn 8 rfl fun K hK => ?_
 refine zl 4 zt H.out rfl rfl rfl rfl ?_
 intro ws HS
 simp only [qb, qc] at HS
 replace H := za HS
 refine zc hK ⟨zb H 4, zb H 3, zb H 2, zb H 0⟩ fun hH => ?_
 try simp only [Act.put, qa]
 refine zn 9 rfl fun K hK => ?_
 refine zl 3 zt H.out rfl rfl rfl rfl ?_
 intro ws HS
 simp only [qb, qc] at HS
 replace H := za HS
 refine zc hK ⟨zb H 4, zb H 3, zb H 2, zb H 0⟩ fun hH => ?_
 try simp only [Act.put]
 refine zn 10 rfl fun K hK => ?_
 refine zl 2 zt H.out rfl rfl rfl rfl ?_
 intro ws HS
 simp only [qb, qc] at HS
 replace H := za HS
 refine zc hK ⟨zb H 4, zb H 3, zb H 2, zb H 0⟩ fun hH => ?_
 try simp only [Act.put]
 refine zn 11 rfl fun K hK => ?_
 refine zl 1 zt H.out rfl rfl rfl rfl ?_
 intro ws HS
 simp only [qb, qc] at HS
 replace H := za HS
 refine zc hK ⟨zb H 4, zb H 3, zb H 2, zb H 0⟩ fun hH => ?_
 try simp only [Act.put]
 refine zm ?_
 go_wp2_with fail
 exact bodyPost_ret (own_result4 4 3 2 1 zt rfl _ H rfl rfl rfl rfl rfl rfl rfl rfl) rfl ⟨_, _, _, _, rfl, HV16.out, HV22.out, HV28.out, HV48.out, H.out.bel⟩
end Go.Proofs.YtgjbonikbmgfmaaGreatDoor
