/-
 The contracts of package point's Equal and Select. No statement is proved here: lemmas for the walks.
-/
import Derived.Test.YtoeokhfhcpcjlaaGreatDoorBuH
import Derived.Deep.CutRange
set_option maxRecDepth 8000
set_option maxHeartbeats 3200000
namespace Go.Proofs.YtoeokhfhcpcjlaaGreatDoor
open Go.RowKit
theorem zero_kb {f : Nat → Nat} {a : K} {b : Bool} (w : World) (hf : EK f a) (h : decide (a = 0) = b) :
  Calls Tryz.prog 71 #[EV f] w fun e w' => e = .returned (.bool b) ∧ Below w.heap.size w w' := h ▸ zero_k w hf
theorem y1i {f g x1 y1 z1 x2 y2 z2 : Nat → Nat} {a b Z1 Z2 : K} (gp gq : Nat) (W w : World) (hT : Tp W) (h0 : Ow W w [(gq, Blk 38 .u64 24 (t3 8 (NZ x2) (NZ y2) (NZ z2))), (gp, Blk 38 .u64 24 (t3 8 (NZ x1) (NZ y1) (NZ z1)))]) (hf : EK f a) (hg : EK g b) (h1 : EK z1 Z1) (h2 : EK z2 Z2) :
  Calls Tryz.prog 72 #[EV f, EV g, .pointer (some ⟨gq, 0, none⟩), .pointer (some ⟨gp, 0, none⟩)] w fun e w' => ∃ h, e = .returned (EV h) ∧ EK h ((a * Z2 - b * Z1) * (a * Z2 - b * Z1)) ∧ Ow W w' [(gq, Blk 38 .u64 24 (t3 8 (NZ x2) (NZ y2) (NZ z2))), (gp, Blk 38 .u64 24 (t3 8 (NZ x1) (NZ y1) (NZ z1)))] := by
 have HF := Lib.hid hf
 have HG := Lib.hid hg
 have E1 := Lib.hid h1
 have E2 := Lib.hid h2
 have H := Lib.hid h0
 have HT := Lib.hid hT
 clear hf hg h0 h1 h2 hT
 go_enter Tryz.func72, Tryz.ntmps72
 go_wp2_with (first
  | ((fail_if_success have := g4); (with_reducible apply z0h H); (case hgd | ho | hx => exact rfl); clear H; intro w4 g4 H _ _; go_simp)
  | ((fail_if_success have := g5); (fail_if_success have := g5); (with_reducible apply z0h H); (case hgd | ho | hx => exact rfl); clear H; intro w5 g5 H _ _; go_simp)
  | ((fail_if_success have := g6); (with_reducible apply z0b nilE H); (case hgd | ho => exact rfl); clear H; intro w6 g6 H _ _; go_simp))
 refine wp_region_noPanic ?_
 refine wp_region_held_drew (S := fun W => W.heap[g4]? = some (Blk 29 .u64 8 (NZ f)) ∧ W.heap[gq]? = some (Blk 38 .u64 24 ((t3 8 (NZ x2) (NZ y2) (NZ z2)))) ∧ W.heap[g5]? = some (Blk 29 .u64 8 (NZ g)) ∧ W.heap[gp]? = some (Blk 38 .u64 24 ((t3 8 (NZ x1) (NZ y1) (NZ z1))))) (by kernel_rfl) (⟨H.out.drew.row 2 rfl, H.out.drew.row 3 rfl, H.out.drew.row 1 rfl, H.out.drew.row 4 rfl⟩) (fun hH => ?_)
 replace H := Lib.hid H.out.drew
 generalize World.drew _ = w8 at *
 refine z0f 0 7 rowE rfl rfl rfl hH rfl rfl (fun _ h => h.1) ?_
 try simp only [Act.put, qa, qb, qc]
 refine z0a 1 8 (.pointer (some ⟨gq, 16, none⟩)) rfl rfl rfl hH (fun w hw => by go_simp) ?_
 try simp only [Act.put, qa, qb, qc]
 refine z0k 2 9 rowE rfl rfl rfl hH rfl rfl z2v (fun _ h => h.2.1) ?_
 try simp only [Act.put, qa, qb, qc]
 refine z0f 4 11 rowE rfl rfl rfl hH rfl rfl (fun _ h => h.2.2.1) ?_
 try simp only [Act.put, qa, qb, qc]
 refine z0a 5 12 (.pointer (some ⟨gp, 16, none⟩)) rfl rfl rfl hH (fun w hw => by go_simp) ?_
 try simp only [Act.put, qa, qb, qc]
 refine z0k 6 13 rowE rfl rfl rfl hH rfl rfl z2v (fun _ h => h.2.2.2) ?_
 try simp only [Act.put, qa, qb, qc]
 refine rd1 3 rfl fun K hK => ?_
 go_simp
 refine (mul_k _ HF.out E2.out).mono ?_
 rintro e wc ⟨h10, rfl, hv, hb⟩
 replace H := hcall H hb
 have HV10 := Lib.hid hv
 clear hH
 refine hK.out _ _ ⟨H.out.row 2 rfl, H.out.row 3 rfl, H.out.row 1 rfl, H.out.row 4 rfl⟩ fun hH => ?_
 clear hK K hb hv
 try simp only [Act.put, qa, qb, qc]
 refine rd1 7 rfl fun K hK => ?_
 go_simp
 refine (mul_k _ HG.out E1.out).mono ?_
 rintro e wc ⟨h14, rfl, hv, hb⟩
 replace H := hcall H hb
 have HV14 := Lib.hid hv
 clear hH
 refine hK.out _ _ ⟨H.out.row 2 rfl, H.out.row 3 rfl, H.out.row 1 rfl, H.out.row 4 rfl⟩ fun hH => ?_
 clear hK K hb hv
 try simp only [Act.put, qa, qb, qc]
 refine rd1 8 rfl fun K hK => ?_
 go_simp
 refine (sub_k _ (HT.out.below H.out.bel) HV10.out HV14.out).mono ?_
 rintro e wc ⟨h15, rfl, hv, hb⟩
 replace H := hcall H hb
 have HV15 := Lib.hid hv
 clear hH
 refine hK.out _ _ ⟨H.out.row 2 rfl, H.out.row 3 rfl, H.out.row 1 rfl, H.out.row 4 rfl⟩ fun hH => ?_
 clear hK K hb hv
 try simp only [Act.put, qa, qb, qc]
 refine rd1 9 rfl fun K hK => ?_
 go_simp
 refine (z0m _ HV15.out).mono ?_
 rintro e wc ⟨h16, rfl, hv, hb⟩
 replace H := hcall H hb
 have HV16 := Lib.hid hv
 clear hH
 refine hK.out _ _ ⟨H.out.row 2 rfl, H.out.row 3 rfl, H.out.row 1 rfl, H.out.row 4 rfl⟩ fun hH => ?_
 clear hK K hb hv
 try simp only [Act.put, qa, qb, qc]
 refine rd1 10 rfl fun K hK => ?_
 refine z0d 0 rowE H.out rfl rfl rfl rfl ?_
 intro ws HS
 simp only [qb] at HS
 replace H := Lib.hid HS
 clear hH
 refine hK.out _ _ ⟨H.out.row 2 rfl, H.out.row 3 rfl, H.out.row 1 rfl, H.out.row 4 rfl⟩ fun hH => ?_
 clear hK K HS
 try simp only [Act.put, qa]
 try simp only [Act.put]
 refine wpAnyH_done (by kernel_rfl) ?_ _
 refine NoPanic.normal ?_
 clear hH
 go_wp2_with fail
 exact bodyPost_ret (z0i 0 rowE rfl _ H rfl rfl) rfl ⟨_, rfl, HV16.out, H.out.pop.pop.pop⟩
theorem z69 {v1 v2 : Nat → Int} {P1 P2 : Pt pN dK} (w : World) (hT : Tp w) (p1 : PtK v1 P1) (p2 : PtK v2 P2) {b : Bool} (hb : decide (P1 = P2) = b) :
  Calls Tryz.prog 29 #[PO v1, PO v2] w fun e w' => e = .returned (.bool b) ∧ Below w.heap.size w w' := by
 obtain ⟨x1, y1, z1, X1, Y1, Z1, rfl, e1x, e1y, e1z, r1⟩ := p1.is
 have E1x := Lib.hid e1x
 have E1y := Lib.hid e1y
 have E1z := Lib.hid e1z
 have R1 := Lib.hid r1
 clear p1 e1x e1y e1z r1
 obtain ⟨x2, y2, z2, X2, Y2, Z2, rfl, e2x, e2y, e2z, r2⟩ := p2.is
 have E2x := Lib.hid e2x
 have E2y := Lib.hid e2y
 have E2z := Lib.hid e2z
 have R2 := Lib.hid r2
 clear p2 e2x e2y e2z r2
 have HE : Hid (decide ((X1 * Z2 - X2 * Z1) * (X1 * Z2 - X2 * Z1) + (Y1 * Z2 - Y2 * Z1) * (Y1 * Z2 - Y2 * Z1) = 0) = b) := Lib.hid ((decide_eq_decide.2 (R1.out.equal R2.out)).trans hb)
 clear hb
 have HT := Lib.hid hT
 clear hT
 have H := Lib.hid (Ow.start w)
 go_enter Tryz.func29, Tryz.ntmps29
 go_wp2_with (first
  | ((fail_if_success have := g2); (with_reducible apply z0h H); (case hgd | ho | hx => exact rfl); clear H; intro w2 g2 H _ _; go_simp)
  | ((fail_if_success have := g3); (fail_if_success have := g3); (with_reducible apply z0h H); (case hgd | ho | hx => exact rfl); clear H; intro w3 g3 H _ _; go_simp))
 refine wp_region_noPanic ?_
 refine wp_region_held_drew (S := fun W => W.heap[g2]? = some (Blk 38 .u64 24 ((t3 8 (NZ x1) (NZ y1) (NZ z1)))) ∧ W.heap[g3]? = some (Blk 38 .u64 24 ((t3 8 (NZ x2) (NZ y2) (NZ z2))))) (by kernel_rfl) (⟨H.out.drew.row 1 rfl, H.out.drew.row 0 rfl⟩) (fun hH => ?_)
 replace H := Lib.hid H.out.drew
 generalize World.drew _ = w8 at *
 refine z0a 0 7 (.func (.func 72) #[] #[.pointer (some ⟨g3, 0, none⟩), .pointer (some ⟨g2, 0, none⟩)]) rfl rfl rfl hH (fun w hw => by go_simp) ?_
 try simp only [Act.put, qa, qb, qc]
 refine z0a 1 8 (.pointer (some ⟨g2, 0, none⟩)) rfl rfl rfl hH (fun w hw => by go_simp) ?_
 try simp only [Act.put, qa, qb, qc]
 refine z0k 2 9 rowE rfl rfl rfl hH rfl rfl z11 (fun _ h => h.1) ?_
 try simp only [Act.put, qa, qb, qc]
 refine z0a 3 10 (.pointer (some ⟨g3, 0, none⟩)) rfl rfl rfl hH (fun w hw => by go_simp) ?_
 try simp only [Act.put, qa, qb, qc]
 refine z0k 4 11 rowE rfl rfl rfl hH rfl rfl z11 (fun _ h => h.2) ?_
 try simp only [Act.put, qa, qb, qc]
 refine z0a 6 13 (.func (.func 72) #[] #[.pointer (some ⟨g3, 0, none⟩), .pointer (some ⟨g2, 0, none⟩)]) rfl rfl rfl hH (fun w hw => by go_simp) ?_
 try simp only [Act.put, qa, qb, qc]
 refine z0a 7 14 (.pointer (some ⟨g2, 8, none⟩)) rfl rfl rfl hH (fun w hw => by go_simp) ?_
 try simp only [Act.put, qa, qb, qc]
 refine z0k 8 15 rowE rfl rfl rfl hH rfl rfl z10 (fun _ h => h.1) ?_
 try simp only [Act.put, qa, qb, qc]
 refine z0a 9 16 (.pointer (some ⟨g3, 8, none⟩)) rfl rfl rfl hH (fun w hw => by go_simp) ?_
 try simp only [Act.put, qa, qb, qc]
 refine z0k 10 17 rowE rfl rfl rfl hH rfl rfl z10 (fun _ h => h.2) ?_
 try simp only [Act.put, qa, qb, qc]
 refine rd1 5 rfl fun K hK => ?_
 go_simp
 refine (y1i _ _ _ _ HT.out H.out E1x.out E2x.out E1z.out E2z.out).mono ?_
 rintro e wc ⟨h12, rfl, hv, H2⟩
 replace H := Lib.hid (H2)
 have HV12 := Lib.hid hv
 clear hH
 refine hK.out _ _ ⟨H.out.row 1 rfl, H.out.row 0 rfl⟩ fun hH => ?_
 clear hK K H2 hv
 try simp only [Act.put, qa, qb, qc]
 refine rd1 11 rfl fun K hK => ?_
 go_simp
 refine (y1i _ _ _ _ HT.out H.out E1y.out E2y.out E1z.out E2z.out).mono ?_
 rintro e wc ⟨h18, rfl, hv, H2⟩
 replace H := Lib.hid (H2)
 have HV18 := Lib.hid hv
 clear hH
 refine hK.out _ _ ⟨H.out.row 1 rfl, H.out.row 0 rfl⟩ fun hH => ?_
 clear hK K H2 hv
 try simp only [Act.put, qa, qb, qc]
 refine rd1 12 rfl fun K hK => ?_
 go_simp
 refine (add_k _ HV12.out HV18.out).mono ?_
 rintro e wc ⟨h19, rfl, hv, hb⟩
 replace H := hcall H hb
 have HV19 := Lib.hid hv
 clear hH
 refine hK.out _ _ ⟨H.out.row 1 rfl, H.out.row 0 rfl⟩ fun hH => ?_
 clear hK K hb hv
 try simp only [Act.put, qa, qb, qc]
 refine rd1 13 rfl fun K hK => ?_
 go_simp
 refine (zero_kb _ HV19.out HE.out).mono ?_
 rintro e wc ⟨rfl, hb⟩
 replace H := hcall H hb
 clear hH
 refine hK.out _ _ ⟨H.out.row 1 rfl, H.out.row 0 rfl⟩ fun hH => ?_
 clear hK K hb
 try simp only [Act.put, qa, qb, qc]
 refine z0a 14 4 (.bool b) rfl rfl rfl hH (fun w hw => by go_simp) ?_
 try simp only [Act.put, qa, qb, qc]
 try simp only [Act.put]
 refine wpAnyH_done (by kernel_rfl) ?_ _
 refine NoPanic.normal ?_
 clear hH
 go_wp2_with fail
 go_ret
 exact ⟨rfl, H.out.bel⟩
theorem z4g {v1 v2 : Nat → Int} {P1 P2 : Pt pN dK} (n : Int) (w : World) (p1 : PtK v1 P1) (p2 : PtK v2 P2) {R : Pt pN dK} (hR : (if n % 2 = 0 then P1 else P2) = R) :
  Calls Tryz.prog 111 #[.int .i64 n, PO v1, PO v2] w fun e w' => ∃ r, e = .returned (PO r) ∧ PtK r R ∧ Below w.heap.size w w' := by
 obtain ⟨x1, y1, z1, X1, Y1, Z1, rfl, e1x, e1y, e1z, r1⟩ := p1.is
 have E1x := Lib.hid e1x
 have E1y := Lib.hid e1y
 have E1z := Lib.hid e1z
 have R1 := Lib.hid r1
 clear p1 e1x e1y e1z r1
 obtain ⟨x2, y2, z2, X2, Y2, Z2, rfl, e2x, e2y, e2z, r2⟩ := p2.is
 have E2x := Lib.hid e2x
 have E2y := Lib.hid e2y
 have E2z := Lib.hid e2z
 have R2 := Lib.hid r2
 clear p2 e2x e2y e2z r2
 obtain ⟨A, hA⟩ : ∃ A, (if n % 2 = 0 then X1 else X2) = A := ⟨_, rfl⟩
 obtain ⟨B, hB⟩ : ∃ B, (if n % 2 = 0 then Y1 else Y2) = B := ⟨_, rfl⟩
 obtain ⟨D, hD⟩ : ∃ D, (if n % 2 = 0 then Z1 else Z2) = D := ⟨_, rfl⟩
 have HR : Hid (Rp A B D R) := Lib.hid (by
  by_cases h : n % 2 = 0
  ·rw [if_pos h] at hA hB hD hR
   subst hA hB hD hR
   exact R1.out
  ·rw [if_neg h] at hA hB hD hR
   subst hA hB hD hR
   exact R2.out)
 have PA := Lib.hid (fun (w : World) => hA ▸ z8a n w E1x.out E2x.out)
 have PB := Lib.hid (fun (w : World) => hB ▸ z8a n w E1y.out E2y.out)
 have PD := Lib.hid (fun (w : World) => hD ▸ z8a n w E1z.out E2z.out)
 clear hA hB hD hR
 have H := Lib.hid (Ow.start w)
 go_enter Tryz.func111, Tryz.ntmps111
 go_wp2_with (first
  | ((fail_if_success have := g4); (with_reducible apply z0h H); (case hgd | ho | hx => exact rfl); clear H; intro w4 g4 H _ _; go_simp)
  | ((fail_if_success have := g5); (fail_if_success have := g5); (with_reducible apply z0h H); (case hgd | ho | hx => exact rfl); clear H; intro w5 g5 H _ _; go_simp)
  | ((fail_if_success have := g6); (with_reducible apply z0b nilPt H); (case hgd | ho => exact rfl); clear H; intro w6 g6 H _ _; go_simp))
 refine wp_region_noPanic ?_
 refine wp_region_held_drew (S := fun W => W.heap[g4]? = some (Blk 38 .u64 24 ((t3 8 (NZ x1) (NZ y1) (NZ z1)))) ∧ W.heap[g5]? = some (Blk 38 .u64 24 ((t3 8 (NZ x2) (NZ y2) (NZ z2))))) (by kernel_rfl) (⟨H.out.drew.row 2 rfl, H.out.drew.row 1 rfl⟩) (fun hH => ?_)
 replace H := Lib.hid H.out.drew
 generalize World.drew _ = w8 at *
 refine z0a 0 10 (.func (.func 130) #[.int .i64 n] #[]) rfl rfl rfl hH (fun w hw => by go_simp) ?_
 try simp only [Act.put, qa, qb, qc]
 refine z0a 1 11 (.pointer (some ⟨g4, 0, none⟩)) rfl rfl rfl hH (fun w hw => by go_simp) ?_
 try simp only [Act.put, qa, qb, qc]
 refine z0k 2 12 rowE rfl rfl rfl hH rfl rfl z11 (fun _ h => h.1) ?_
 try simp only [Act.put, qa, qb, qc]
 refine z0a 3 13 (.pointer (some ⟨g5, 0, none⟩)) rfl rfl rfl hH (fun w hw => by go_simp) ?_
 try simp only [Act.put, qa, qb, qc]
 refine z0k 4 14 rowE rfl rfl rfl hH rfl rfl z11 (fun _ h => h.2) ?_
 try simp only [Act.put, qa, qb, qc]
 refine z0a 6 16 (.func (.func 130) #[.int .i64 n] #[]) rfl rfl rfl hH (fun w hw => by go_simp) ?_
 try simp only [Act.put, qa, qb, qc]
 refine z0a 7 17 (.pointer (some ⟨g4, 8, none⟩)) rfl rfl rfl hH (fun w hw => by go_simp) ?_
 try simp only [Act.put, qa, qb, qc]
 refine z0k 8 18 rowE rfl rfl rfl hH rfl rfl z10 (fun _ h => h.1) ?_
 try simp only [Act.put, qa, qb, qc]
 refine z0a 9 19 (.pointer (some ⟨g5, 8, none⟩)) rfl rfl rfl hH (fun w hw => by go_simp) ?_
 try simp only [Act.put, qa, qb, qc]
 refine z0k 10 20 rowE rfl rfl rfl hH rfl rfl z10 (fun _ h => h.2) ?_
 try simp only [Act.put, qa, qb, qc]
 refine z0a 12 22 (.func (.func 130) #[.int .i64 n] #[]) rfl rfl rfl hH (fun w hw => by go_simp) ?_
 try simp only [Act.put, qa, qb, qc]
 refine z0a 13 23 (.pointer (some ⟨g4, 16, none⟩)) rfl rfl rfl hH (fun w hw => by go_simp) ?_
 try simp only [Act.put, qa, qb, qc]
 refine z0k 14 24 rowE rfl rfl rfl hH rfl rfl z2v (fun _ h => h.1) ?_
 try simp only [Act.put, qa, qb, qc]
 refine z0a 15 25 (.pointer (some ⟨g5, 16, none⟩)) rfl rfl rfl hH (fun w hw => by go_simp) ?_
 try simp only [Act.put, qa, qb, qc]
 refine z0k 16 26 rowE rfl rfl rfl hH rfl rfl z2v (fun _ h => h.2) ?_
 try simp only [Act.put, qa, qb, qc]
 refine rd1 5 rfl fun K hK => ?_
 go_simp
 refine (PA.out _).mono ?_
 rintro e wc ⟨h15, rfl, hv, hb⟩
 replace H := hcall H hb
 have HV15 := Lib.hid hv
 clear hH
 refine hK.out _ _ ⟨H.out.row 2 rfl, H.out.row 1 rfl⟩ fun hH => ?_
 clear hK K hb hv
 try simp only [Act.put, qa, qb, qc]
 refine rd1 11 rfl fun K hK => ?_
 go_simp
 refine (PB.out _).mono ?_
 rintro e wc ⟨h21, rfl, hv, hb⟩
 replace H := hcall H hb
 have HV21 := Lib.hid hv
 clear hH
 refine hK.out _ _ ⟨H.out.row 2 rfl, H.out.row 1 rfl⟩ fun hH => ?_
 clear hK K hb hv
 try simp only [Act.put, qa, qb, qc]
 refine rd1 17 rfl fun K hK => ?_
 go_simp
 refine (PD.out _).mono ?_
 rintro e wc ⟨h27, rfl, hv, hb⟩
 replace H := hcall H hb
 have HV27 := Lib.hid hv
 clear hH
 refine hK.out _ _ ⟨H.out.row 2 rfl, H.out.row 1 rfl⟩ fun hH => ?_
 clear hK K hb hv
 try simp only [Act.put, qa, qb, qc]
 refine z6v 18 28 rfl rfl rfl hH rfl rfl rfl rfl ?_
 try simp only [Act.put, qa, qb, qc]
 refine rd1 19 rfl fun K hK => ?_
 refine z0d 0 rowPt H.out rfl rfl rfl rfl ?_
 intro ws HS
 simp only [qb] at HS
 replace H := Lib.hid HS
 clear hH
 refine hK.out _ _ ⟨H.out.row 2 rfl, H.out.row 1 rfl⟩ fun hH => ?_
 clear hK K HS
 try simp only [Act.put, qa]
 try simp only [Act.put]
 refine wpAnyH_done (by kernel_rfl) ?_ _
 refine NoPanic.normal ?_
 clear hH
 go_wp2_with fail
 exact bodyPost_ret (z0i 0 rowPt rfl _ H rfl rfl) rfl ⟨_, rfl, ⟨_, _, _, _, _, _, rfl, HV15.out, HV21.out, HV27.out, HR.out⟩, H.out.bel⟩
end Go.Proofs.YtoeokhfhcpcjlaaGreatDoor
