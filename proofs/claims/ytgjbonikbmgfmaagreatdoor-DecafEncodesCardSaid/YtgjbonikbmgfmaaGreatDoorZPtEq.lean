/- Lemmas; no statement is proved here. -/
import Derived.Test.YtgjbonikbmgfmaaGreatDoorBuH
set_option maxRecDepth 8000
set_option maxHeartbeats 3200000
namespace Go.Proofs.YtgjbonikbmgfmaaGreatDoor
open Go.RowKit
theorem zero_kb {f : Nat → Nat} {a : K} {b : Bool} (w : World) (hf : EK f a) (h : decide (a = 0) = b) :
  Calls Tryz.prog 115 #[EV f] w fun e w' => e = .returned (.bool b) ∧ Below w.heap.size w w' := h ▸ zero_k w hf
theorem y9r {f g x1 y1 z1 x2 y2 z2 : Nat → Nat} {a b Z1 Z2 : K} (gp gq : Nat) (W w : World) (hT : Tp W) (h0 : Ow W w [(gq, zv 32 .u64 24 (t3 8 (NZ x2) (NZ y2) (NZ z2))), (gp, zv 32 .u64 24 (t3 8 (NZ x1) (NZ y1) (NZ z1)))]) (hf : EK f a) (hg : EK g b) (h1 : EK z1 Z1) (h2 : EK z2 Z2) :
  Calls Tryz.prog 114 #[EV f, EV g, .pointer (some ⟨gq, 0, none⟩), .pointer (some ⟨gp, 0, none⟩)] w fun e w' => ∃ h, e = .returned (EV h) ∧ EK h ((a * Z2 - b * Z1) * (a * Z2 - b * Z1)) ∧ Ow W w' [(gq, zv 32 .u64 24 (t3 8 (NZ x2) (NZ y2) (NZ z2))), (gp, zv 32 .u64 24 (t3 8 (NZ x1) (NZ y1) (NZ z1)))] := by
 have HF := za hf
 have HG := za hg
 have E1 := za h1
 have E2 := za h2
 have H := za h0
 have HT := za hT
 clear hf hg h0 h1 h2 hT
 go_enter Tryz.func114, Tryz.ntmps114
 go_wp2_with (first
  | ((fail_if_success have := g4); (with_reducible apply zw H); (case hgd | ho | hx => exact rfl); clear H; intro w4 g4 H _ _; go_simp)
  | ((fail_if_success have := g5); (with_reducible apply zw H); (case hgd | ho | hx => exact rfl); clear H; intro w5 g5 H _ _; go_simp)
  | ((with_reducible apply ze z9 H); (case hgd | ho => exact rfl); clear H; intro _ _ H _ _; go_simp))
 refine wp_region_noPanic ?_
 refine wp_region_held_drew (S := fun W => W.heap[g4]? = some (zv 30 .u64 8 (NZ f)) ∧ W.heap[gq]? = some (zv 32 .u64 24 ((t3 8 (NZ x2) (NZ y2) (NZ z2)))) ∧ W.heap[g5]? = some (zv 30 .u64 8 (NZ g)) ∧ W.heap[gp]? = some (zv 32 .u64 24 ((t3 8 (NZ x1) (NZ y1) (NZ z1))))) (by kernel_rfl) (⟨H.out.drew.row 2 rfl, H.out.drew.row 3 rfl, H.out.drew.row 1 rfl, H.out.drew.row 4 rfl⟩) (fun hH => ?_)
 replace H := za H.out.drew
 generalize World.drew _ = w8 at *
 refine zk 0 7 zt rfl rfl rfl hH rfl rfl (fun _ h => h.1) ?_
 refine zh 1 8 (.pointer (some ⟨gq, 16, none⟩)) hH ?_
 refine z0i 2 9 zt rfl rfl rfl hH rfl rfl z5u (fun _ h => h.2.1) ?_
 refine zk 4 11 zt rfl rfl rfl hH rfl rfl (fun _ h => h.2.2.1) ?_
 refine zh 5 12 (.pointer (some ⟨gp, 16, none⟩)) hH ?_
 refine z0i 6 13 zt rfl rfl rfl hH rfl rfl z5u (fun _ h => h.2.2.2) ?_
 refine zn 3 rfl fun K hK => ?_
 go_simp
 refine (z16 _ HF.out E2.out).mono ?_
 rintro e wc ⟨h10, rfl, hv, hb⟩
 replace H := zd H hb
 have HV10 := za hv
 refine zc hK ⟨zb H 2, zb H 3, zb H 1, zb H 4⟩ fun hH => zn 7 rfl fun K hK => ?_
 go_simp
 refine (z16 _ HG.out E1.out).mono ?_
 rintro e wc ⟨h14, rfl, hv, hb⟩
 replace H := zd H hb
 have HV14 := za hv
 refine zc hK ⟨zb H 2, zb H 3, zb H 1, zb H 4⟩ fun hH => ?_
 try simp only [Act.put, qa, qb, qc]
 refine zn 8 rfl fun K hK => ?_
 go_simp
 refine (z1t _ (HT.out.below H.out.bel) HV10.out HV14.out).mono ?_
 rintro e wc ⟨h15, rfl, hv, hb⟩
 replace H := zd H hb
 have HV15 := za hv
 refine zc hK ⟨zb H 2, zb H 3, zb H 1, zb H 4⟩ fun hH => zn 9 rfl fun K hK => ?_
 go_simp
 refine (z0f _ HV15.out).mono ?_
 rintro e wc ⟨h16, rfl, hv, hb⟩
 replace H := zd H hb
 have HV16 := za hv
 refine zc hK ⟨zb H 2, zb H 3, zb H 1, zb H 4⟩ fun hH => zn 10 rfl fun K hK => ?_
 refine zl 0 zt H.out rfl rfl rfl rfl ?_
 intro ws HS
 simp only [qb] at HS
 replace H := za HS
 refine zc hK ⟨zb H 2, zb H 3, zb H 1, zb H 4⟩ fun hH => ?_
 try simp only [Act.put, qa]
 refine zm ?_
 go_wp2_with fail
 exact bodyPost_ret (zy 0 zt rfl _ H rfl rfl) rfl ⟨_, rfl, HV16.out, H.out.pop.pop.pop⟩
theorem z9w {v1 v2 : Nat → Int} {P1 P2 : Pt pN dK} (w : World) (hT : Tp w) (p1 : PtK v1 P1) (p2 : PtK v2 P2) {b : Bool} (hb : decide (P1 = P2) = b) :
  Calls Tryz.prog 44 #[PO v1, PO v2] w fun e w' => e = .returned (.bool b) ∧ Below w.heap.size w w' := by
 obtain ⟨x1, y1, z1, X1, Y1, Z1, rfl, e1x, e1y, e1z, r1⟩ := p1.is
 have E1x := za e1x
 have E1y := za e1y
 have E1z := za e1z
 have R1 := za r1
 clear p1 e1x e1y e1z r1
 obtain ⟨x2, y2, z2, X2, Y2, Z2, rfl, e2x, e2y, e2z, r2⟩ := p2.is
 have E2x := za e2x
 have E2y := za e2y
 have E2z := za e2z
 have R2 := za r2
 clear p2 e2x e2y e2z r2
 have HE : Hid (decide ((X1 * Z2 - X2 * Z1) * (X1 * Z2 - X2 * Z1) + (Y1 * Z2 - Y2 * Z1) * (Y1 * Z2 - Y2 * Z1) = 0) = b) := za ((decide_eq_decide.2 (R1.out.equal R2.out)).trans hb)
 clear hb
 have HT := za hT
 clear hT
 have H := za (Ow.start w)
 go_enter Tryz.func44, Tryz.ntmps44
 go_wp2_with (first
  | ((fail_if_success have := g2); (with_reducible apply zw H); (case hgd | ho | hx => exact rfl); clear H; intro w2 g2 H _ _; go_simp)
  | ((fail_if_success have := g3); (with_reducible apply zw H); (case hgd | ho | hx => exact rfl); clear H; intro w3 g3 H _ _; go_simp))
 refine wp_region_noPanic ?_
 refine wp_region_held_drew (S := fun W => W.heap[g2]? = some (zv 32 .u64 24 ((t3 8 (NZ x1) (NZ y1) (NZ z1)))) ∧ W.heap[g3]? = some (zv 32 .u64 24 ((t3 8 (NZ x2) (NZ y2) (NZ z2))))) (by kernel_rfl) (⟨H.out.drew.row 1 rfl, H.out.drew.row 0 rfl⟩) (fun hH => ?_)
 replace H := za H.out.drew
 generalize World.drew _ = w8 at *
 refine zh 0 7 (.func (.func 114) #[] #[.pointer (some ⟨g3, 0, none⟩), .pointer (some ⟨g2, 0, none⟩)]) hH ?_
 refine zh 1 8 (.pointer (some ⟨g2, 0, none⟩)) hH ?_
 refine z0i 2 9 zt rfl rfl rfl hH rfl rfl z39 (fun _ h => h.1) ?_
 refine zh 3 10 (.pointer (some ⟨g3, 0, none⟩)) hH ?_
 refine z0i 4 11 zt rfl rfl rfl hH rfl rfl z39 (fun _ h => h.2) ?_
 refine zh 6 13 (.func (.func 114) #[] #[.pointer (some ⟨g3, 0, none⟩), .pointer (some ⟨g2, 0, none⟩)]) hH ?_
 refine zh 7 14 (.pointer (some ⟨g2, 8, none⟩)) hH ?_
 refine z0i 8 15 zt rfl rfl rfl hH rfl rfl z37 (fun _ h => h.1) ?_
 refine zh 9 16 (.pointer (some ⟨g3, 8, none⟩)) hH ?_
 refine z0i 10 17 zt rfl rfl rfl hH rfl rfl z37 (fun _ h => h.2) ?_
 refine zn 5 rfl fun K hK => ?_
 go_simp
 refine (y9r _ _ _ _ HT.out H.out E1x.out E2x.out E1z.out E2z.out).mono ?_
 rintro e wc ⟨h12, rfl, hv, H2⟩
 replace H := za (H2)
 have HV12 := za hv
 refine zc hK ⟨zb H 1, zb H 0⟩ fun hH => zn 11 rfl fun K hK => ?_
 go_simp
 refine (y9r _ _ _ _ HT.out H.out E1y.out E2y.out E1z.out E2z.out).mono ?_
 rintro e wc ⟨h18, rfl, hv, H2⟩
 replace H := za (H2)
 have HV18 := za hv
 refine zc hK ⟨zb H 1, zb H 0⟩ fun hH => ?_
 try simp only [Act.put, qa, qb, qc]
 refine zn 12 rfl fun K hK => ?_
 go_simp
 refine (z6o _ HV12.out HV18.out).mono ?_
 rintro e wc ⟨h19, rfl, hv, hb⟩
 replace H := zd H hb
 have HV19 := za hv
 refine zc hK ⟨zb H 1, zb H 0⟩ fun hH => zn 13 rfl fun K hK => ?_
 go_simp
 refine (zero_kb _ HV19.out HE.out).mono ?_
 rintro e wc ⟨rfl, hb⟩
 replace H := zd H hb
 refine zc hK ⟨zb H 1, zb H 0⟩ fun hH => ?_
 refine zh 14 4 (.bool b) hH ?_
 refine zm ?_
 go_wp2_with fail
 go_ret
 exact ⟨rfl, H.out.bel⟩
theorem z6a {v1 v2 : Nat → Int} {P1 P2 : Pt pN dK} (n : Int) (w : World) (p1 : PtK v1 P1) (p2 : PtK v2 P2) {R : Pt pN dK} (hR : (if n % 2 = 0 then P1 else P2) = R) :
  Calls Tryz.prog 91 #[.int .i64 n, PO v1, PO v2] w fun e w' => ∃ r, e = .returned (PO r) ∧ PtK r R ∧ Below w.heap.size w w' := by
 obtain ⟨x1, y1, z1, X1, Y1, Z1, rfl, e1x, e1y, e1z, r1⟩ := p1.is
 have E1x := za e1x
 have E1y := za e1y
 have E1z := za e1z
 have R1 := za r1
 clear p1 e1x e1y e1z r1
 obtain ⟨x2, y2, z2, X2, Y2, Z2, rfl, e2x, e2y, e2z, r2⟩ := p2.is
 have E2x := za e2x
 have E2y := za e2y
 have E2z := za e2z
 have R2 := za r2
 clear p2 e2x e2y e2z r2
 obtain ⟨A, hA⟩ : ∃ A, (if n % 2 = 0 then X1 else X2) = A := ⟨_, rfl⟩
 obtain ⟨B, hB⟩ : ∃ B, (if n % 2 = 0 then Y1 else Y2) = B := ⟨_, rfl⟩
 obtain ⟨D, hD⟩ : ∃ D, (if n % 2 = 0 then Z1 else Z2) = D := ⟨_, rfl⟩
 have HR : Hid (Rp A B D R) := za (by
  by_cases h : n % 2 = 0
  ·rw [if_pos h] at hA hB hD hR
   subst hA hB hD hR
   exact R1.out
  ·rw [if_neg h] at hA hB hD hR
   subst hA hB hD hR
   exact R2.out)
 have PA := za (fun (w : World) => hA ▸ y36 n w E1x.out E2x.out)
 have PB := za (fun (w : World) => hB ▸ y36 n w E1y.out E2y.out)
 have PD := za (fun (w : World) => hD ▸ y36 n w E1z.out E2z.out)
 clear hA hB hD hR
 have H := za (Ow.start w)
 go_enter Tryz.func91, Tryz.ntmps91
 go_wp2_with (first
  | ((fail_if_success have := g4); (with_reducible apply zw H); (case hgd | ho | hx => exact rfl); clear H; intro w4 g4 H _ _; go_simp)
  | ((fail_if_success have := g5); (with_reducible apply zw H); (case hgd | ho | hx => exact rfl); clear H; intro w5 g5 H _ _; go_simp)
  | ((with_reducible apply ze z1d H); (case hgd | ho => exact rfl); clear H; intro _ _ H _ _; go_simp))
 refine wp_region_noPanic ?_
 refine wp_region_held_drew (S := fun W => W.heap[g4]? = some (zv 32 .u64 24 ((t3 8 (NZ x1) (NZ y1) (NZ z1)))) ∧ W.heap[g5]? = some (zv 32 .u64 24 ((t3 8 (NZ x2) (NZ y2) (NZ z2))))) (by kernel_rfl) (⟨H.out.drew.row 2 rfl, H.out.drew.row 1 rfl⟩) (fun hH => ?_)
 replace H := za H.out.drew
 generalize World.drew _ = w8 at *
 refine zh 0 10 (.func (.func 150) #[.int .i64 n] #[]) hH ?_
 refine zh 1 11 (.pointer (some ⟨g4, 0, none⟩)) hH ?_
 refine z0i 2 12 zt rfl rfl rfl hH rfl rfl z39 (fun _ h => h.1) ?_
 refine zh 3 13 (.pointer (some ⟨g5, 0, none⟩)) hH ?_
 refine z0i 4 14 zt rfl rfl rfl hH rfl rfl z39 (fun _ h => h.2) ?_
 refine zh 6 16 (.func (.func 150) #[.int .i64 n] #[]) hH ?_
 refine zh 7 17 (.pointer (some ⟨g4, 8, none⟩)) hH ?_
 refine z0i 8 18 zt rfl rfl rfl hH rfl rfl z37 (fun _ h => h.1) ?_
 refine zh 9 19 (.pointer (some ⟨g5, 8, none⟩)) hH ?_
 refine z0i 10 20 zt rfl rfl rfl hH rfl rfl z37 (fun _ h => h.2) ?_
 refine zh 12 22 (.func (.func 150) #[.int .i64 n] #[]) hH ?_
 refine zh 13 23 (.pointer (some ⟨g4, 16, none⟩)) hH ?_
 refine z0i 14 24 zt rfl rfl rfl hH rfl rfl z5u (fun _ h => h.1) ?_
 refine zh 15 25 (.pointer (some ⟨g5, 16, none⟩)) hH ?_
 refine z0i 16 26 zt rfl rfl rfl hH rfl rfl z5u (fun _ h => h.2) ?_
 refine zn 5 rfl fun K hK => ?_
 go_simp
 refine (PA.out _).mono ?_
 rintro e wc ⟨h15, rfl, hv, hb⟩
 replace H := zd H hb
 have HV15 := za hv
 refine zc hK ⟨zb H 2, zb H 1⟩ fun hH => zn 11 rfl fun K hK => ?_
 go_simp
 refine (PB.out _).mono ?_
 rintro e wc ⟨h21, rfl, hv, hb⟩
 replace H := zd H hb
 have HV21 := za hv
 refine zc hK ⟨zb H 2, zb H 1⟩ fun hH => ?_
 try simp only [Act.put, qa, qb, qc]
 refine zn 17 rfl fun K hK => ?_
 go_simp
 refine (PD.out _).mono ?_
 rintro e wc ⟨h27, rfl, hv, hb⟩
 replace H := zd H hb
 have HV27 := za hv
 refine zc hK ⟨zb H 2, zb H 1⟩ fun hH => ?_
 refine y10 18 28 rfl rfl rfl hH rfl rfl rfl rfl ?_
 refine zn 19 rfl fun K hK => ?_
 refine zl 0 zH H.out rfl rfl rfl rfl ?_
 intro ws HS
 simp only [qb] at HS
 replace H := za HS
 refine zc hK ⟨zb H 2, zb H 1⟩ fun hH => ?_
 try simp only [Act.put, qa]
 refine zm ?_
 go_wp2_with fail
 exact bodyPost_ret (zy 0 zH rfl _ H rfl rfl) rfl ⟨_, rfl, ⟨_, _, _, _, _, _, rfl, HV15.out, HV21.out, HV27.out, HR.out⟩, H.out.bel⟩
end Go.Proofs.YtgjbonikbmgfmaaGreatDoor
