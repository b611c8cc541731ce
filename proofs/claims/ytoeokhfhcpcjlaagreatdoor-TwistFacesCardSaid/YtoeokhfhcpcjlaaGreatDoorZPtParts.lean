/-
 The contract of package point's parts. No statement is proved here: lemmas for the walks.
-/
import Derived.Test.YtoeokhfhcpcjlaaGreatDoorBuH
import Derived.Deep.CutRange
set_option maxRecDepth 8000
set_option maxHeartbeats 3200000
namespace Go.Proofs.YtoeokhfhcpcjlaaGreatDoor
open Go.RowKit
theorem y0l (fn : FuncId) (prod : K → K → K) (hF : ∀ args w, (callFunc fn args).run Tryz.prog w = .ok (.enter fn args) w) (hP : ∀ (f g : Nat → Nat) (a b : K) (w : World), EK f a → EK g b → Calls Tryz.prog fn #[EV f, EV g] w fun e w' => ∃ h, e = .returned (EV h) ∧ EK h (prod a b) ∧ Below w.heap.size w w')
  {x1 y1 z1 x2 y2 z2 : Nat → Nat} {X1 Y1 Z1 X2 Y2 Z2 : K} (w : World) (hT : Tp w) (a1 : EK x1 X1) (a2 : EK y1 Y1) (a3 : EK z1 Z1) (a4 : EK x2 X2) (a5 : EK y2 Y2) (a6 : EK z2 Z2) :
  Calls Tryz.prog 75 #[PO (t3 8 (NZ x1) (NZ y1) (NZ z1)), PO (t3 8 (NZ x2) (NZ y2) (NZ z2)), .func (.func fn) #[] #[]] w fun e w' => ∃ f1 f2 f3 f4, e = .returned (.tuple #[EV f1, EV f2, EV f3, EV f4]) ∧
   EK f1 (prod X1 X2) ∧ EK f2 (prod Y1 Y2) ∧ EK f3 (prod Z1 Z2) ∧ EK f4 (prod (X1 + Y1) (X2 + Y2) - (prod X1 X2 + prod Y1 Y2)) ∧ Below w.heap.size w w' := by
 have HP := Lib.hid hP
 have A1 := Lib.hid a1
 have A2 := Lib.hid a2
 have A3 := Lib.hid a3
 have A4 := Lib.hid a4
 have A5 := Lib.hid a5
 have A6 := Lib.hid a6
 clear hP a1 a2 a3 a4 a5 a6
 have HT := Lib.hid hT
 clear hT
 have H := Lib.hid (Ow.start w)
 go_enter Tryz.func75, Tryz.ntmps75
 go_upto_region 1 with (first
  | ((fail_if_success have := g3); (with_reducible apply z0h H); (case hgd | ho | hx => exact rfl); clear H; intro w3 g3 H _ _; go_simp)
  | ((fail_if_success have := g4); (fail_if_success have := g4); (with_reducible apply z0h H); (case hgd | ho | hx => exact rfl); clear H; intro w4 g4 H _ _; go_simp)
  | ((fail_if_success have := g6); (fail_if_success have := g6); (with_reducible apply z0b nilE H); (case hgd | ho => exact rfl); clear H; intro w6 g6 H _ _; go_simp)
  | ((fail_if_success have := g7); (fail_if_success have := g7); (with_reducible apply z0b nilE H); (case hgd | ho => exact rfl); clear H; intro w7 g7 H _ _; go_simp)
  | ((fail_if_success have := g8); (fail_if_success have := g8); (with_reducible apply z0b nilE H); (case hgd | ho => exact rfl); clear H; intro w8 g8 H _ _; go_simp)
  | ((fail_if_success have := g9); (fail_if_success have := g9); (with_reducible apply z0b nilE H); (case hgd | ho => exact rfl); clear H; intro w9 g9 H _ _; go_simp))
 refine wp_region_noPanic ?_
 refine wp_region_held_drew (S := fun W => W.heap[g3]? = some (Blk 38 .u64 24 ((t3 8 (NZ x1) (NZ y1) (NZ z1)))) ∧ W.heap[g4]? = some (Blk 38 .u64 24 ((t3 8 (NZ x2) (NZ y2) (NZ z2))))) (by kernel_rfl) (⟨H.out.drew.row 5 rfl, H.out.drew.row 4 rfl⟩) (fun hH => ?_)
 replace H := Lib.hid H.out.drew
 generalize World.drew _ = w8 at *
 refine z0a 0 11 (.func (.func fn) #[] #[]) rfl rfl rfl hH (fun w hw => by go_simp) ?_
 try simp only [Act.put, qa, qb, qc]
 refine z0a 1 12 (.pointer (some ⟨g3, 0, none⟩)) rfl rfl rfl hH (fun w hw => by go_simp) ?_
 try simp only [Act.put, qa, qb, qc]
 refine z0k 2 13 rowE rfl rfl rfl hH rfl rfl z11 (fun _ h => h.1) ?_
 try simp only [Act.put, qa, qb, qc]
 refine z0a 3 14 (.pointer (some ⟨g4, 0, none⟩)) rfl rfl rfl hH (fun w hw => by go_simp) ?_
 try simp only [Act.put, qa, qb, qc]
 refine z0k 4 15 rowE rfl rfl rfl hH rfl rfl z11 (fun _ h => h.2) ?_
 try simp only [Act.put, qa, qb, qc]
 refine z0a 6 17 (.func (.func fn) #[] #[]) rfl rfl rfl hH (fun w hw => by go_simp) ?_
 try simp only [Act.put, qa, qb, qc]
 refine z0a 7 18 (.pointer (some ⟨g3, 8, none⟩)) rfl rfl rfl hH (fun w hw => by go_simp) ?_
 try simp only [Act.put, qa, qb, qc]
 refine z0k 8 19 rowE rfl rfl rfl hH rfl rfl z10 (fun _ h => h.1) ?_
 try simp only [Act.put, qa, qb, qc]
 refine z0a 9 20 (.pointer (some ⟨g4, 8, none⟩)) rfl rfl rfl hH (fun w hw => by go_simp) ?_
 try simp only [Act.put, qa, qb, qc]
 refine z0k 10 21 rowE rfl rfl rfl hH rfl rfl z10 (fun _ h => h.2) ?_
 try simp only [Act.put, qa, qb, qc]
 refine z0a 12 23 (.func (.func fn) #[] #[]) rfl rfl rfl hH (fun w hw => by go_simp) ?_
 try simp only [Act.put, qa, qb, qc]
 refine z0a 13 24 (.pointer (some ⟨g3, 16, none⟩)) rfl rfl rfl hH (fun w hw => by go_simp) ?_
 try simp only [Act.put, qa, qb, qc]
 refine z0k 14 25 rowE rfl rfl rfl hH rfl rfl z2v (fun _ h => h.1) ?_
 try simp only [Act.put, qa, qb, qc]
 refine z0a 15 26 (.pointer (some ⟨g4, 16, none⟩)) rfl rfl rfl hH (fun w hw => by go_simp) ?_
 try simp only [Act.put, qa, qb, qc]
 refine z0k 16 27 rowE rfl rfl rfl hH rfl rfl z2v (fun _ h => h.2) ?_
 try simp only [Act.put, qa, qb, qc]
 refine rd1 5 rfl fun K hK => ?_
 go_simp
 refine (HP.out _ _ _ _ _ A1.out A4.out).mono ?_
 rintro e wc ⟨h16, rfl, hv, hb⟩
 replace H := hcall H hb
 have HV16 := Lib.hid hv
 clear hH
 refine hK.out _ _ ⟨H.out.row 5 rfl, H.out.row 4 rfl⟩ fun hH => ?_
 clear hK K hb hv
 try simp only [Act.put, qa, qb, qc]
 refine rd1 11 rfl fun K hK => ?_
 go_simp
 refine (HP.out _ _ _ _ _ A2.out A5.out).mono ?_
 rintro e wc ⟨h22, rfl, hv, hb⟩
 replace H := hcall H hb
 have HV22 := Lib.hid hv
 clear hH
 refine hK.out _ _ ⟨H.out.row 5 rfl, H.out.row 4 rfl⟩ fun hH => ?_
 clear hK K hb hv
 try simp only [Act.put, qa, qb, qc]
 refine rd1 17 rfl fun K hK => ?_
 go_simp
 refine (HP.out _ _ _ _ _ A3.out A6.out).mono ?_
 rintro e wc ⟨h28, rfl, hv, hb⟩
 replace H := hcall H hb
 have HV28 := Lib.hid hv
 clear hH
 refine hK.out _ _ ⟨H.out.row 5 rfl, H.out.row 4 rfl⟩ fun hH => ?_
 clear hK K hb hv
 try simp only [Act.put, qa, qb, qc]
 refine rd1 18 rfl fun K hK => ?_
 refine z0d 3 rowE H.out rfl rfl rfl rfl ?_
 intro ws HS
 simp only [qb, qc] at HS
 replace H := Lib.hid HS
 clear hH
 refine hK.out _ _ ⟨H.out.row 5 rfl, H.out.row 4 rfl⟩ fun hH => ?_
 clear hK K HS
 try simp only [Act.put, qa]
 refine rd1 19 rfl fun K hK => ?_
 refine z0d 2 rowE H.out rfl rfl rfl rfl ?_
 intro ws HS
 simp only [qb, qc] at HS
 replace H := Lib.hid HS
 clear hH
 refine hK.out _ _ ⟨H.out.row 5 rfl, H.out.row 4 rfl⟩ fun hH => ?_
 clear hK K HS
 try simp only [Act.put]
 refine rd1 20 rfl fun K hK => ?_
 refine z0d 1 rowE H.out rfl rfl rfl rfl ?_
 intro ws HS
 simp only [qb, qc] at HS
 replace H := Lib.hid HS
 clear hH
 refine hK.out _ _ ⟨H.out.row 5 rfl, H.out.row 4 rfl⟩ fun hH => ?_
 clear hK K HS
 try simp only [Act.put]
 try simp only [Act.put]
 refine wpAnyH_done (by kernel_rfl) ?_ _
 refine NoPanic.normal ?_
 clear hH
 go_upto_region 2 with fail
 go_simp
 go_cut [10] from 29 to 40 (fun v10 wx => ∃ g10 h40, v10 = .pointer (some ⟨g10, 0, none⟩) ∧ EK h40 (prod (X1 + Y1) (X2 + Y2)) ∧ Ow w wx [(g10, Blk 29 .u64 8 (NZ h40)), (g9, Blk 29 .u64 8 fun _ => 0), (g8, Blk 29 .u64 8 (NZ h28)), (g7, Blk 29 .u64 8 (NZ h22)), (g6, Blk 29 .u64 8 (NZ h16)), (g4, Blk 38 .u64 24 ((t3 8 (NZ x2) (NZ y2) (NZ z2)))), (g3, Blk 38 .u64 24 ((t3 8 (NZ x1) (NZ y1) (NZ z1))))])
 case first =>
  go_wp2_with fail
  refine wp_region_noPanic ?_
  refine wp_region_held_drew (S := fun W => W.heap[g3]? = some (Blk 38 .u64 24 ((t3 8 (NZ x1) (NZ y1) (NZ z1)))) ∧ W.heap[g4]? = some (Blk 38 .u64 24 ((t3 8 (NZ x2) (NZ y2) (NZ z2))))) (by kernel_rfl) (⟨H.out.drew.row 5 rfl, H.out.drew.row 4 rfl⟩) (fun hH => ?_)
  replace H := Lib.hid H.out.drew
  generalize World.drew _ = w8 at *
  refine z0a 0 29 (.func (.func fn) #[] #[]) rfl rfl rfl hH (fun w hw => by go_simp) ?_
  try simp only [Act.put, qa, qb, qc]
  refine z0a 1 30 (.pointer (some ⟨g3, 0, none⟩)) rfl rfl rfl hH (fun w hw => by go_simp) ?_
  try simp only [Act.put, qa, qb, qc]
  refine z0k 2 31 rowE rfl rfl rfl hH rfl rfl z11 (fun _ h => h.1) ?_
  try simp only [Act.put, qa, qb, qc]
  refine z0a 3 32 (.pointer (some ⟨g3, 8, none⟩)) rfl rfl rfl hH (fun w hw => by go_simp) ?_
  try simp only [Act.put, qa, qb, qc]
  refine z0k 4 33 rowE rfl rfl rfl hH rfl rfl z10 (fun _ h => h.1) ?_
  try simp only [Act.put, qa, qb, qc]
  refine z0a 6 35 (.pointer (some ⟨g4, 0, none⟩)) rfl rfl rfl hH (fun w hw => by go_simp) ?_
  try simp only [Act.put, qa, qb, qc]
  refine z0k 7 36 rowE rfl rfl rfl hH rfl rfl z11 (fun _ h => h.2) ?_
  try simp only [Act.put, qa, qb, qc]
  refine z0a 8 37 (.pointer (some ⟨g4, 8, none⟩)) rfl rfl rfl hH (fun w hw => by go_simp) ?_
  try simp only [Act.put, qa, qb, qc]
  refine z0k 9 38 rowE rfl rfl rfl hH rfl rfl z10 (fun _ h => h.2) ?_
  try simp only [Act.put, qa, qb, qc]
  refine rdn [5, 12] (rdc rfl (fun K hK => ?_) (rdc rfl (fun K hK => ?_) rdz))
  ·skip
   go_simp
   refine (add_k _ A1.out A2.out).mono ?_
   rintro e wc ⟨h34, rfl, hv, hb⟩
   replace H := hcall H hb
   have HV34 := Lib.hid hv
   clear hH
   refine hK.out _ _ ⟨H.out.row 5 rfl, H.out.row 4 rfl⟩ fun hH => ?_
   clear hK K hb hv
   try simp only [Act.put, qa, qb, qc]
   refine rdn [10, 12] (rdc rfl (fun K hK => ?_) (rdc rfl (fun K hK => ?_) rdz))
   ·skip
    go_simp
    refine (add_k _ A4.out A5.out).mono ?_
    rintro e wc ⟨h39, rfl, hv, hb⟩
    replace H := hcall H hb
    have HV39 := Lib.hid hv
    clear hH
    refine hK.out _ _ ⟨H.out.row 5 rfl, H.out.row 4 rfl⟩ fun hH => ?_
    clear hK K hb hv
    try simp only [Act.put, qa, qb, qc]
    refine rdn [11, 12] (rdc rfl (fun K hK => ?_) (rdc rfl (fun K hK => ?_) rdz))
    ·skip
     go_simp
     refine (HP.out _ _ _ _ _ HV34.out HV39.out).mono ?_
     rintro e wc ⟨h40, rfl, hv, hb⟩
     replace H := hcall H hb
     have HV40 := Lib.hid hv
     clear hH
     refine hK.out _ _ ⟨H.out.row 5 rfl, H.out.row 4 rfl⟩ fun hH => ?_
     clear hK K hb hv
     try simp only [Act.put, qa, qb, qc]
     refine rd1 12 rfl fun K hK => ?_
     refine z0c 10 rfl nilE H.out rfl ?_
     intro w10 g10 H3 hb
     replace H := Lib.hid H3
     clear hH
     refine hK.out _ _ ⟨H.out.row 6 rfl, H.out.row 5 rfl⟩ fun hH => ?_
     clear hK K H3 hb
     try simp only [Act.put, qa, qb, qc]
     refine rd1 13 rfl fun K hK => ?_
     refine z0d 0 rowE H.out rfl rfl rfl rfl ?_
     intro ws HS
     simp only [qb] at HS
     replace H := Lib.hid HS
     clear hH
     refine hK.out _ _ ⟨H.out.row 6 rfl, H.out.row 5 rfl⟩ fun hH => ?_
     clear hK K HS
     try simp only [Act.put, qa]
     try simp only [Act.put]
     refine wpAnyH_done (by kernel_rfl) ?_ _
     refine NoPanic.normal ?_
     clear hH
     go_wp2_with fail
     go_meet
     exact ⟨g10, h40, rfl, HV40.out, H.out⟩
    ·skip
     refine z0c 10 rfl nilE H.out rfl ?_
     intro w10 g10 H3 hb
     replace H := Lib.hid H3
     clear hH
     refine hK.out _ _ ⟨H.out.row 6 rfl, H.out.row 5 rfl⟩ fun hH => ?_
     clear hK K H3 hb
     try simp only [Act.put, qa, qb, qc]
     refine rd1 11 rfl fun K hK => ?_
     go_simp
     refine (HP.out _ _ _ _ _ HV34.out HV39.out).mono ?_
     rintro e wc ⟨h40, rfl, hv, hb⟩
     replace H := hcall H hb
     have HV40 := Lib.hid hv
     clear hH
     refine hK.out _ _ ⟨H.out.row 6 rfl, H.out.row 5 rfl⟩ fun hH => ?_
     clear hK K hb hv
     try simp only [Act.put, qa, qb, qc]
     refine rd1 13 rfl fun K hK => ?_
     refine z0d 0 rowE H.out rfl rfl rfl rfl ?_
     intro ws HS
     simp only [qb] at HS
     replace H := Lib.hid HS
     clear hH
     refine hK.out _ _ ⟨H.out.row 6 rfl, H.out.row 5 rfl⟩ fun hH => ?_
     clear hK K HS
     try simp only [Act.put, qa]
     try simp only [Act.put]
     refine wpAnyH_done (by kernel_rfl) ?_ _
     refine NoPanic.normal ?_
     clear hH
     go_wp2_with fail
     go_meet
     exact ⟨g10, h40, rfl, HV40.out, H.out⟩
   ·skip
    refine z0c 10 rfl nilE H.out rfl ?_
    intro w10 g10 H3 hb
    replace H := Lib.hid H3
    clear hH
    refine hK.out _ _ ⟨H.out.row 6 rfl, H.out.row 5 rfl⟩ fun hH => ?_
    clear hK K H3 hb
    try simp only [Act.put, qa, qb, qc]
    refine rd1 10 rfl fun K hK => ?_
    go_simp
    refine (add_k _ A4.out A5.out).mono ?_
    rintro e wc ⟨h39, rfl, hv, hb⟩
    replace H := hcall H hb
    have HV39 := Lib.hid hv
    clear hH
    refine hK.out _ _ ⟨H.out.row 6 rfl, H.out.row 5 rfl⟩ fun hH => ?_
    clear hK K hb hv
    try simp only [Act.put, qa, qb, qc]
    refine rd1 11 rfl fun K hK => ?_
    go_simp
    refine (HP.out _ _ _ _ _ HV34.out HV39.out).mono ?_
    rintro e wc ⟨h40, rfl, hv, hb⟩
    replace H := hcall H hb
    have HV40 := Lib.hid hv
    clear hH
    refine hK.out _ _ ⟨H.out.row 6 rfl, H.out.row 5 rfl⟩ fun hH => ?_
    clear hK K hb hv
    try simp only [Act.put, qa, qb, qc]
    refine rd1 13 rfl fun K hK => ?_
    refine z0d 0 rowE H.out rfl rfl rfl rfl ?_
    intro ws HS
    simp only [qb] at HS
    replace H := Lib.hid HS
    clear hH
    refine hK.out _ _ ⟨H.out.row 6 rfl, H.out.row 5 rfl⟩ fun hH => ?_
    clear hK K HS
    try simp only [Act.put, qa]
    try simp only [Act.put]
    refine wpAnyH_done (by kernel_rfl) ?_ _
    refine NoPanic.normal ?_
    clear hH
    go_wp2_with fail
    go_meet
    exact ⟨g10, h40, rfl, HV40.out, H.out⟩
  ·skip
   refine z0c 10 rfl nilE H.out rfl ?_
   intro w10 g10 H3 hb
   replace H := Lib.hid H3
   clear hH
   refine hK.out _ _ ⟨H.out.row 6 rfl, H.out.row 5 rfl⟩ fun hH => ?_
   clear hK K H3 hb
   try simp only [Act.put, qa, qb, qc]
   refine rd1 5 rfl fun K hK => ?_
   go_simp
   refine (add_k _ A1.out A2.out).mono ?_
   rintro e wc ⟨h34, rfl, hv, hb⟩
   replace H := hcall H hb
   have HV34 := Lib.hid hv
   clear hH
   refine hK.out _ _ ⟨H.out.row 6 rfl, H.out.row 5 rfl⟩ fun hH => ?_
   clear hK K hb hv
   try simp only [Act.put, qa, qb, qc]
   refine rd1 10 rfl fun K hK => ?_
   go_simp
   refine (add_k _ A4.out A5.out).mono ?_
   rintro e wc ⟨h39, rfl, hv, hb⟩
   replace H := hcall H hb
   have HV39 := Lib.hid hv
   clear hH
   refine hK.out _ _ ⟨H.out.row 6 rfl, H.out.row 5 rfl⟩ fun hH => ?_
   clear hK K hb hv
   try simp only [Act.put, qa, qb, qc]
   refine rd1 11 rfl fun K hK => ?_
   go_simp
   refine (HP.out _ _ _ _ _ HV34.out HV39.out).mono ?_
   rintro e wc ⟨h40, rfl, hv, hb⟩
   replace H := hcall H hb
   have HV40 := Lib.hid hv
   clear hH
   refine hK.out _ _ ⟨H.out.row 6 rfl, H.out.row 5 rfl⟩ fun hH => ?_
   clear hK K hb hv
   try simp only [Act.put, qa, qb, qc]
   refine rd1 13 rfl fun K hK => ?_
   refine z0d 0 rowE H.out rfl rfl rfl rfl ?_
   intro ws HS
   simp only [qb] at HS
   replace H := Lib.hid HS
   clear hH
   refine hK.out _ _ ⟨H.out.row 6 rfl, H.out.row 5 rfl⟩ fun hH => ?_
   clear hK K HS
   try simp only [Act.put, qa]
   try simp only [Act.put]
   refine wpAnyH_done (by kernel_rfl) ?_ _
   refine NoPanic.normal ?_
   clear hH
   go_wp2_with fail
   go_meet
   exact ⟨g10, h40, rfl, HV40.out, H.out⟩
 clear H
 obtain ⟨g10, h40, rfl, hv40, HRR⟩ := hcut
 have HV40 := Lib.hid hv40
 have H := Lib.hid HRR
 clear HRR hv40
 go_upto_region 3 with fail
 refine wp_region_noPanic ?_
 refine wp_region_held_drew (S := fun W => W.heap[g6]? = some (Blk 29 .u64 8 (NZ h16)) ∧ W.heap[g7]? = some (Blk 29 .u64 8 (NZ h22)) ∧ W.heap[g8]? = some (Blk 29 .u64 8 (NZ h28)) ∧ W.heap[g10]? = some (Blk 29 .u64 8 (NZ h40))) (by kernel_rfl) (⟨H.out.drew.row 4 rfl, H.out.drew.row 3 rfl, H.out.drew.row 2 rfl, H.out.drew.row 0 rfl⟩) (fun hH => ?_)
 replace H := Lib.hid H.out.drew
 generalize World.drew _ = w8 at *
 refine z0f 0 41 rowE rfl rfl rfl hH rfl rfl (fun _ h => h.1) ?_
 try simp only [Act.put, qa, qb, qc]
 refine z0f 1 42 rowE rfl rfl rfl hH rfl rfl (fun _ h => h.2.1) ?_
 try simp only [Act.put, qa, qb, qc]
 refine z0f 2 43 rowE rfl rfl rfl hH rfl rfl (fun _ h => h.2.2.1) ?_
 try simp only [Act.put, qa, qb, qc]
 refine z0f 3 44 rowE rfl rfl rfl hH rfl rfl (fun _ h => h.2.2.2) ?_
 try simp only [Act.put, qa, qb, qc]
 refine z0f 4 45 rowE rfl rfl rfl hH rfl rfl (fun _ h => h.1) ?_
 try simp only [Act.put, qa, qb, qc]
 refine z0f 5 46 rowE rfl rfl rfl hH rfl rfl (fun _ h => h.2.1) ?_
 try simp only [Act.put, qa, qb, qc]
 refine rd1 6 rfl fun K hK => ?_
 go_simp
 refine (add_k _ HV16.out HV22.out).mono ?_
 rintro e wc ⟨h47, rfl, hv, hb⟩
 replace H := hcall H hb
 have HV47 := Lib.hid hv
 clear hH
 refine hK.out _ _ ⟨H.out.row 4 rfl, H.out.row 3 rfl, H.out.row 2 rfl, H.out.row 0 rfl⟩ fun hH => ?_
 clear hK K hb hv
 try simp only [Act.put, qa, qb, qc]
 refine rd1 7 rfl fun K hK => ?_
 go_simp
 refine (sub_k _ (HT.out.below H.out.bel) HV40.out HV47.out).mono ?_
 rintro e wc ⟨h48, rfl, hv, hb⟩
 replace H := hcall H hb
 have HV48 := Lib.hid hv
 clear hH
 refine hK.out _ _ ⟨H.out.row 4 rfl, H.out.row 3 rfl, H.out.row 2 rfl, H.out.row 0 rfl⟩ fun hH => ?_
 clear hK K hb hv
 try simp only [Act.put, qa, qb, qc]
 refine rd1 8 rfl fun K hK => ?_
 refine z0d 4 rowE H.out rfl rfl rfl rfl ?_
 intro ws HS
 simp only [qb, qc] at HS
 replace H := Lib.hid HS
 clear hH
 refine hK.out _ _ ⟨H.out.row 4 rfl, H.out.row 3 rfl, H.out.row 2 rfl, H.out.row 0 rfl⟩ fun hH => ?_
 clear hK K HS
 try simp only [Act.put, qa]
 refine rd1 9 rfl fun K hK => ?_
 refine z0d 3 rowE H.out rfl rfl rfl rfl ?_
 intro ws HS
 simp only [qb, qc] at HS
 replace H := Lib.hid HS
 clear hH
 refine hK.out _ _ ⟨H.out.row 4 rfl, H.out.row 3 rfl, H.out.row 2 rfl, H.out.row 0 rfl⟩ fun hH => ?_
 clear hK K HS
 try simp only [Act.put]
 refine rd1 10 rfl fun K hK => ?_
 refine z0d 2 rowE H.out rfl rfl rfl rfl ?_
 intro ws HS
 simp only [qb, qc] at HS
 replace H := Lib.hid HS
 clear hH
 refine hK.out _ _ ⟨H.out.row 4 rfl, H.out.row 3 rfl, H.out.row 2 rfl, H.out.row 0 rfl⟩ fun hH => ?_
 clear hK K HS
 try simp only [Act.put]
 refine rd1 11 rfl fun K hK => ?_
 refine z0d 1 rowE H.out rfl rfl rfl rfl ?_
 intro ws HS
 simp only [qb, qc] at HS
 replace H := Lib.hid HS
 clear hH
 refine hK.out _ _ ⟨H.out.row 4 rfl, H.out.row 3 rfl, H.out.row 2 rfl, H.out.row 0 rfl⟩ fun hH => ?_
 clear hK K HS
 try simp only [Act.put]
 try simp only [Act.put]
 refine wpAnyH_done (by kernel_rfl) ?_ _
 refine NoPanic.normal ?_
 clear hH
 go_wp2_with fail
 exact bodyPost_ret (own_result4 4 3 2 1 rowE rfl _ H rfl rfl rfl rfl rfl rfl rfl rfl) rfl ⟨_, _, _, _, rfl, HV16.out, HV22.out, HV28.out, HV48.out, H.out.bel⟩
end Go.Proofs.YtoeokhfhcpcjlaaGreatDoor
