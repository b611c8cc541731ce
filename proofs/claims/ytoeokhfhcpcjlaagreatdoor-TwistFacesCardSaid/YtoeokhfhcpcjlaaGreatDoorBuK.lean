/-
 Lemmas for the walks, several texts in one. No statement is proved here.
-/
import Derived.Test.YtoeokhfhcpcjlaaGreatDoorBuE
import Derived.Test.YtoeokhfhcpcjlaaGreatDoorBuP
set_option maxRecDepth 8000
set_option maxHeartbeats 3200000
namespace Go.Proofs.YtoeokhfhcpcjlaaGreatDoor
open Go.RowKit
instance nz_pN : NeZero pN := ⟨by decide⟩
abbrev K := Fin pN
theorem z0y : prime pN := prime_726838724295606890549323807888004534353641360687318060281490199180612328166730772686396383698676545930088884461843637361053498018365439
def eC : Nat := (pN - 3) / 4
theorem pN_c : pN = 4 * eC + 3 := by decide +kernel
theorem pN_odd : pN % 2 = 1 := by decide +kernel
def EK (f : Nat → Nat) (a : K) : Prop := Val f a.val
theorem EK.lim {f : Nat → Nat} {a : K} (h : EK f a) : Lim f := h.1
def ofZ (n : Int) : K := ⟨(n % pZ).toNat, by
 have h1 := Int.emod_lt_of_pos n (show (0 : Int) < pZ by decide)
 have h2 := Int.emod_nonneg n (show pZ ≠ 0 by decide)
 rw [pZ_eq] at h1 h2 ⊢
 omega⟩
theorem z0t : ofZ 1 = 1 := by decide +kernel
theorem EK.eq {f : Nat → Nat} {a b : K} (h : EK f a) (e : a = b) : EK f b := e ▸ h
section
variable {f g : Nat → Nat} {a b : K}
theorem add_k (w : World) (hf : EK f a) (hg : EK g b) :
  Calls Tryz.prog 61 #[EV f, EV g] w fun e w' => ∃ h, e = .returned (EV h) ∧ EK h (a + b) ∧ Below w.heap.size w w' :=
 (add_v w hf hg).mono fun _ _ ⟨h, he, hv, hb⟩ => ⟨h, he, by unfold EK; rw [Fin.val_add]; exact hv, hb⟩
theorem sub_k (w : World) (hT : Tp w) (hf : EK f a) (hg : EK g b) :
  Calls Tryz.prog 58 #[EV f, EV g] w fun e w' => ∃ h, e = .returned (EV h) ∧ EK h (a - b) ∧ Below w.heap.size w w' :=
 (sub_v w hT hf hg).mono fun _ _ ⟨h, he, hv, hb⟩ => ⟨h, he, by unfold EK; rw [Fin.sub_def]; rw [Nat.add_comm]; exact hv, hb⟩
theorem neg_k (w : World) (hT : Tp w) (hf : EK f a) :
  Calls Tryz.prog 64 #[EV f] w fun e w' => ∃ h, e = .returned (EV h) ∧ EK h (-a) ∧ Below w.heap.size w w' :=
 (neg_v w hT hf).mono fun _ _ ⟨h, he, hv, hb⟩ => ⟨h, he, hv, hb⟩
theorem mul_k (w : World) (hf : EK f a) (hg : EK g b) :
  Calls Tryz.prog 68 #[EV f, EV g] w fun e w' => ∃ h, e = .returned (EV h) ∧ EK h (a * b) ∧ Below w.heap.size w w' :=
 (mul_v w hf hg).mono fun _ _ ⟨h, he, hv, hb⟩ => ⟨h, he, by unfold EK; rw [Fin.val_mul]; exact hv, hb⟩
theorem z0m (w : World) (hf : EK f a) :
  Calls Tryz.prog 73 #[EV f] w fun e w' => ∃ h, e = .returned (EV h) ∧ EK h (a * a) ∧ Below w.heap.size w w' :=
 (square_v w hf).mono fun _ _ ⟨h, he, hv, hb⟩ => ⟨h, he, by unfold EK; rw [Fin.val_mul]; exact hv, hb⟩
theorem int_k (n : Int) (w : World) (hT : Tp w) (h1 : -9223372036854775808 ≤ n) (h2 : n ≤ 9223372036854775807) :
  Calls Tryz.prog 40 #[.int .i64 n] w fun e w' => ∃ h, e = .returned (EV h) ∧ EK h (ofZ n) ∧ Below w.heap.size w w' := int_v n w hT h1 h2
theorem z4o (w : World) (hT : Tp w) (hf : EK f a) (hg : EK g b) :
  Calls Tryz.prog 57 #[EV f, EV g] w fun e w' => e = .returned (.bool (decide (a = b))) ∧ Below w.heap.size w w' :=
 (equal_v w hT hf hg).mono fun _ _ ⟨he, hb⟩ => ⟨by rw [he, decide_eq_decide.2 (Fin.ext_iff (a := a) (b := b)).symm], hb⟩
theorem zero_k (w : World) (hf : EK f a) :
  Calls Tryz.prog 71 #[EV f] w fun e w' => e = .returned (.bool (decide (a = 0))) ∧ Below w.heap.size w w' :=
 (zero_v w hf).mono fun _ _ ⟨he, hb⟩ => ⟨by rw [he, decide_eq_decide.2 (z1l (a := a)).symm], hb⟩
theorem y0k {n : Int} (hf : EK f a) (hg : EK g b) : EK (pickF n f g) (if n % 2 = 0 then a else b) := by
 unfold pickF
 split
 ·exact hf
 ·exact hg
theorem zero_ek : EK (fun _ => 0) 0 := zero_val
end
section
variable (a b : K) (w : World)
theorem z0q : Calls Tryz.prog 53 #[FV a.val, FV b.val] w fun e w' => e = .returned (FV (a * b).val) ∧ Below w.heap.size w w' := by
 rw [Fin.val_mul]
 exact refMul_any _ _ w a.isLt b.isLt
theorem z80 : Calls Tryz.prog 22 #[FV a.val] w fun e w' => e = .returned (FV (-a).val) ∧ Below w.heap.size w w' := z4f _ w a.isLt
theorem z1d (n : Int) (h1 : -9223372036854775808 ≤ n) (h2 : n ≤ 9223372036854775807) :
  Calls Tryz.prog 41 #[.int .i64 n] w fun e w' => e = .returned (FV (ofZ n).val) ∧ Below w.heap.size w w' := refInt_any n w h1 h2
end
theorem sq_step (a : K) (i : Nat) : a ^ 2 ^ i * a ^ 2 ^ i = a ^ 2 ^ (i + 1) := by
 rw [← z1m, Nat.pow_succ]
 congr 1
 omega
theorem z65 {f : Nat → Nat} {a : K} (n : Nat) (w : World) (hn : n ≤ 1000) (hf : EK f a) :
  Calls Tryz.prog 102 #[EV f, .int .i64 (n : Int)] w fun e w' => ∃ h, e = .returned (EV h) ∧ EK h (a ^ 2 ^ n) ∧ Below w.heap.size w w' := by
 have HF := Lib.hid hf
 clear hf
 have H := Lib.hid (Ow.start w)
 go_enter Tryz.func102, Tryz.ntmps102
 go_wp2_with (first
  | ((fail_if_success have := g1); (with_reducible apply z0h H); (case hgd | ho | hx => exact rfl); clear H; intro w1 g1 H _ _; go_simp)
  | ((fail_if_success have := g2); (with_reducible apply z0b nilE H); (case hgd | ho => exact rfl); clear H; intro w2 g2 H _ _; go_simp))
 go_loopw [6] (fun v wr => ∃ (i : Nat) (h : Nat → Nat), i ≤ n ∧ v = .int .i64 i ∧ EK h (a ^ 2 ^ i) ∧ Ow w wr [(g2, Blk 29 .u64 8 fun _ => 0), (g1, Blk 29 .u64 8 (NZ h))]) (fun v _ => n - (intOf v).toNat)
 case atStart => exact ⟨0, f, by omega, rfl, HF.out.eq (by grind), H.out⟩
 case round =>
  clear H
  obtain ⟨i, h, hi, rfl, hv, HR⟩ := hrel
  have HV := Lib.hid hv
  clear hv
  by_cases hlt : i < n
  ·have hid : decide ((i : Int) < (n : Int)) = true := by simp; omega
   have iN : (i : Int) < 1000 := by omega
   have H := Lib.hid HR
   clear HR
   have Hlt := Lib.hid hlt
   clear hlt hi hn
   go_wp2_with (first
    | ((with_reducible apply z0g rowE H); (case hgd | ho | hx => exact rfl); (case hi => repeat first|exact at0|apply atS); intro _ _; go_simp)
    | ((with_reducible refine (z0m _ HV.out).mono ?_); rintro e wc ⟨h2, rfl, hv, hb⟩; replace H := hcall H hb; clear hb; have HV2 := Lib.hid hv; clear hv)
    | ((with_reducible apply z0e rowE H); (case hgd | ho | hx | hy => exact rfl); (case hi => repeat first|exact at0|apply atS); clear H; intro ws H _ _; simp only [qb, qc] at H; go_simp))
   go_roundw
   case rel => exact ⟨i + 1, h2, by have := Hlt.out; omega, by go_num, HV2.out.eq (sq_step _ _), H.out⟩
   case measure => have := Hlt.out; simp [intOf]; omega
  ·obtain rfl : i = n := by omega
   clear hlt hi
   have hid : decide ((i : Int) < (i : Int)) = false := by simp
   have H := Lib.hid HR
   clear HR
   go_wp2_with (first
    | ((with_reducible apply z0g rowE H); (case hgd | ho | hx => exact rfl); (case hi => repeat first|exact at0|apply atS); intro _ _; go_simp)
    | ((with_reducible apply z0e rowE H); (case hgd | ho | hx | hy => exact rfl); (case hi => repeat first|exact at0|apply atS); clear H; intro ws H _ _; simp only [qb] at H; go_simp))
   exact bodyPost_ret (z0i 0 rowE rfl _ H rfl rfl) rfl ⟨h, rfl, HV.out, H.out.bel⟩
theorem set_at2 {α : Type} {A B : α} {l : List α} {i : Nat} {x y : α} (h : l[i]? = some y) : (A :: B :: l.set i x)[i + 2]? = some x := set_at h
theorem z1f {f g : Nat → Nat} {b c : K} (n : Nat) (z : Int) (hz : z = (n : Int)) (gp i : Nat) (W w : World) (l : List (Nat × Obj)) (hn : n ≤ 1000) (h0 : Ow W w l) (hi : l[i]? = some (gp, Blk 29 .u64 8 (NZ f))) (hf : EK f b) (hg : EK g c) :
  Calls Tryz.prog 122 #[.int .i64 z, EV g, .pointer (some ⟨gp, 0, none⟩)] w fun e w' => ∃ h, e = .returned (EV h) ∧ EK h (b ^ 2 ^ n * c) ∧ Ow W w' (l.set i (gp, Blk 29 .u64 8 (NZ h))) := by
 subst hz
 have HF := Lib.hid hf
 have HG := Lib.hid hg
 have HI := Lib.hid hi
 have H := Lib.hid h0
 clear hf hg hi h0
 go_enter Tryz.func122, Tryz.ntmps122
 go_wp2_with (first
  | ((fail_if_success have := g4); (with_reducible apply z0h H); (case hgd | ho | hx => exact rfl); clear H; intro w4 g4 H _ _; go_simp)
  | ((fail_if_success have := g5); (with_reducible apply z0b nilE H); (case hgd | ho => exact rfl); clear H; intro w5 g5 H _ _; go_simp))
 refine wp_region_noPanic ?_
 refine wp_region_held_drew (S := fun W => W.heap[g4]? = some (Blk 29 .u64 8 (NZ g))) (by kernel_rfl) (H.out.drew.row 1 rfl) (fun hH => ?_)
 replace H := Lib.hid H.out.drew
 generalize World.drew _ = w8 at *
 refine z0a 1 7 (.int .i64 (n : Int)) rfl rfl rfl hH (fun w hw => by go_simp) ?_
 try simp only [Act.put, qa, qb, qc]
 refine z0f 3 9 rowE rfl rfl rfl hH rfl rfl (fun _ h => h) ?_
 try simp only [Act.put, qa, qb, qc]
 refine rd1 0 rfl fun K hK => ?_
 refine z12 6 rfl (i + 2) rowE H.out rfl rfl HI.out ?_
 refine hK.out _ _ hH (fun hN => ?_)
 clear hK K hH
 have hH := hN
 clear hN
 try simp only [Act.put, qa, qb, qc]
 refine rd1 2 rfl fun K hK => ?_
 go_simp
 refine (z65 n _ hn HF.out).mono ?_
 rintro e wc ⟨h8, rfl, hv, hb⟩
 replace H := hcall H hb
 have HV8 := Lib.hid hv
 clear hH
 refine hK.out _ _ (H.out.row 1 rfl) fun hH => ?_
 clear hK K hb hv
 try simp only [Act.put, qa, qb, qc]
 refine rd1 4 rfl fun K hK => ?_
 go_simp
 refine (mul_k _ HV8.out HG.out).mono ?_
 rintro e wc ⟨h10, rfl, hv, hb⟩
 replace H := hcall H hb
 have HV10 := Lib.hid hv
 clear hH
 refine hK.out _ _ (H.out.row 1 rfl) fun hH => ?_
 clear hK K hb hv
 try simp only [Act.put, qa, qb, qc]
 refine rd1 5 rfl fun K hK => ?_
 refine z0d (i + 2) rowE H.out rfl rfl rfl HI.out ?_
 intro ws HS
 simp only [List.set_cons_succ] at HS
 replace H := Lib.hid HS
 clear hH
 refine hK.out _ _ (H.out.row 1 rfl) fun hH => ?_
 clear hK K HS
 try simp only [Act.put, qa]
 try simp only [Act.put]
 refine wpAnyH_done (by kernel_rfl) ?_ _
 refine NoPanic.normal ?_
 clear hH
 go_wp2_with (first
  | ((with_reducible apply z0g rowE H); (case hgd | ho | hx => exact rfl); (case hi => exact set_at2 HI.out); intro _ _; go_simp)
  | ((with_reducible apply z0e rowE H); (case hgd | ho | hx | hy => exact rfl); (case hi => repeat first|exact at0|apply atS); clear H; intro ws H _ _; simp only [qb] at H; go_simp))
 exact bodyPost_ret (z0i 0 rowE rfl _ H rfl rfl) rfl ⟨h10, rfl, HV10.out, H.out.pop.pop⟩
theorem z1q {a : K} {n x y z : Nat} (h : x * 2 ^ n + y = z) : (a ^ x) ^ 2 ^ n * a ^ y = a ^ z := by rw [← z2f, ← z1m, h]
theorem chain_walk {f : Nat → Nat} {a : K} (w : World) (hf : EK f (a ^ 1)) (E1 E2 E3 E4 E5 E6 E7 E8 E9 E10 E11 E12 : Nat) (e1 : 1 * 2 ^ 1 + 1 = E1) (e2 : E1 * 2 ^ 1 + 1 = E2) (e3 : E2 * 2 ^ 3 + E2 = E3) (e4 : E3 * 2 ^ 3 + E2 = E4) (e5 : E4 * 2 ^ 9 + E4 = E5) (e6 : E5 * 2 ^ 1 + 1 = E6) (e7 : E6 * 2 ^ 18 + E5 = E7) (e8 : E7 * 2 ^ 37 + E7 = E8) (e9 : E8 * 2 ^ 37 + E7 = E9) (e10 : E9 * 2 ^ 111 + E9 = E10) (e11 : E10 * 2 ^ 1 + 1 = E11) (e12 : E11 * 2 ^ 223 + E10 = E12) :
  Calls Tryz.prog 103 #[EV f] w fun e w' => ∃ h, e = .returned (EV h) ∧ EK h (a ^ E12) ∧ Below w.heap.size w w' := by
 have V1 := Lib.hid hf
 have P1 := Lib.hid (fun (X Y : K) (hX : X = a ^ 1) (hY : Y = a ^ 1) => (show X ^ 2 ^ 1 * Y = a ^ E1 by rw [hX, hY]; exact z1q e1))
 have P2 := Lib.hid (fun (X Y : K) (hX : X = a ^ E1) (hY : Y = a ^ 1) => (show X ^ 2 ^ 1 * Y = a ^ E2 by rw [hX, hY]; exact z1q e2))
 have P3 := Lib.hid (fun (X Y : K) (hX : X = a ^ E2) (hY : Y = a ^ E2) => (show X ^ 2 ^ 3 * Y = a ^ E3 by rw [hX, hY]; exact z1q e3))
 have P4 := Lib.hid (fun (X Y : K) (hX : X = a ^ E3) (hY : Y = a ^ E2) => (show X ^ 2 ^ 3 * Y = a ^ E4 by rw [hX, hY]; exact z1q e4))
 have P5 := Lib.hid (fun (X Y : K) (hX : X = a ^ E4) (hY : Y = a ^ E4) => (show X ^ 2 ^ 9 * Y = a ^ E5 by rw [hX, hY]; exact z1q e5))
 have P6 := Lib.hid (fun (X Y : K) (hX : X = a ^ E5) (hY : Y = a ^ 1) => (show X ^ 2 ^ 1 * Y = a ^ E6 by rw [hX, hY]; exact z1q e6))
 have P7 := Lib.hid (fun (X Y : K) (hX : X = a ^ E6) (hY : Y = a ^ E5) => (show X ^ 2 ^ 18 * Y = a ^ E7 by rw [hX, hY]; exact z1q e7))
 have P8 := Lib.hid (fun (X Y : K) (hX : X = a ^ E7) (hY : Y = a ^ E7) => (show X ^ 2 ^ 37 * Y = a ^ E8 by rw [hX, hY]; exact z1q e8))
 have P9 := Lib.hid (fun (X Y : K) (hX : X = a ^ E8) (hY : Y = a ^ E7) => (show X ^ 2 ^ 37 * Y = a ^ E9 by rw [hX, hY]; exact z1q e9))
 have P10 := Lib.hid (fun (X Y : K) (hX : X = a ^ E9) (hY : Y = a ^ E9) => (show X ^ 2 ^ 111 * Y = a ^ E10 by rw [hX, hY]; exact z1q e10))
 have P11 := Lib.hid (fun (X Y : K) (hX : X = a ^ E10) (hY : Y = a ^ 1) => (show X ^ 2 ^ 1 * Y = a ^ E11 by rw [hX, hY]; exact z1q e11))
 have P12 := Lib.hid (fun (X Y : K) (hX : X = a ^ E11) (hY : Y = a ^ E10) => (show X ^ 2 ^ 223 * Y = a ^ E12 by rw [hX, hY]; exact z1q e12))
 clear hf e1 e2 e3 e4 e5 e6 e7 e8 e9 e10 e11 e12
 have H := Lib.hid (Ow.start w)
 go_enter Tryz.func103, Tryz.ntmps103
 go_wp2_with (first
  | ((fail_if_success have := g1); (with_reducible apply z0h H); (case hgd | ho | hx => exact rfl); clear H; intro w1 g1 H _ _; go_simp)
  | ((fail_if_success have := g2); (with_reducible apply z0b nilE H); (case hgd | ho => exact rfl); clear H; intro w2 g2 H _ _; go_simp)
  | ((fail_if_success have := g3); (with_reducible apply z0b nilE H); (case hgd | ho => exact rfl); clear H; intro w3 g3 H _ _; go_simp)
  | ((fail_if_success have := g5); (with_reducible apply z0b nilE H); (case hgd | ho => exact rfl); clear H; intro w5 g5 H _ _; go_simp)
  | ((fail_if_success have := g6); (with_reducible apply z0b nilE H); (case hgd | ho => exact rfl); clear H; intro w6 g6 H _ _; go_simp)
  | ((fail_if_success have := g7); (with_reducible apply z0b nilE H); (case hgd | ho => exact rfl); clear H; intro w7 g7 H _ _; go_simp)
  | ((fail_if_success have := g8); (with_reducible apply z0b nilE H); (case hgd | ho => exact rfl); clear H; intro w8 g8 H _ _; go_simp)
  | ((fail_if_success have := g9); (with_reducible apply z0b nilE H); (case hgd | ho => exact rfl); clear H; intro w9 g9 H _ _; go_simp)
  | ((fail_if_success have := g10); (with_reducible apply z0b nilE H); (case hgd | ho => exact rfl); clear H; intro w10 g10 H _ _; go_simp)
  | ((with_reducible apply z0g rowE H); (case hgd | ho | hx => exact rfl); (case hi => repeat first|exact at0|apply atS); intro _ _; go_simp)
  | ((with_reducible apply z0e rowE H); (case hgd | ho | hx | hy => exact rfl); (case hi => repeat first|exact at0|apply atS); clear H; intro ws H _ _; simp only [qb] at H; go_simp))
 refine (z1f 1 _ rfl _ 0 _ _ _ (by omega) H.out rfl V1.out V1.out).mono ?_
 rintro e w10 ⟨h1, rfl, hv, H2⟩
 replace H := Lib.hid H2
 have V1h : Hid (EK h1 (a ^ E1)) := Lib.hid (hv.eq (P1.out _ _ rfl rfl))
 clear hv H2
 simp only [qb] at H
 go_wp2_with (first
  | ((fail_if_success have := g1); (with_reducible apply z0h H); (case hgd | ho | hx => exact rfl); clear H; intro w1 g1 H _ _; go_simp)
  | ((fail_if_success have := g2); (with_reducible apply z0b nilE H); (case hgd | ho => exact rfl); clear H; intro w2 g2 H _ _; go_simp)
  | ((fail_if_success have := g3); (with_reducible apply z0b nilE H); (case hgd | ho => exact rfl); clear H; intro w3 g3 H _ _; go_simp)
  | ((fail_if_success have := g5); (with_reducible apply z0b nilE H); (case hgd | ho => exact rfl); clear H; intro w5 g5 H _ _; go_simp)
  | ((fail_if_success have := g6); (with_reducible apply z0b nilE H); (case hgd | ho => exact rfl); clear H; intro w6 g6 H _ _; go_simp)
  | ((fail_if_success have := g7); (with_reducible apply z0b nilE H); (case hgd | ho => exact rfl); clear H; intro w7 g7 H _ _; go_simp)
  | ((fail_if_success have := g8); (with_reducible apply z0b nilE H); (case hgd | ho => exact rfl); clear H; intro w8 g8 H _ _; go_simp)
  | ((fail_if_success have := g9); (with_reducible apply z0b nilE H); (case hgd | ho => exact rfl); clear H; intro w9 g9 H _ _; go_simp)
  | ((fail_if_success have := g10); (with_reducible apply z0b nilE H); (case hgd | ho => exact rfl); clear H; intro w10 g10 H _ _; go_simp)
  | ((with_reducible apply z0g rowE H); (case hgd | ho | hx => exact rfl); (case hi => repeat first|exact at0|apply atS); intro _ _; go_simp)
  | ((with_reducible apply z0e rowE H); (case hgd | ho | hx | hy => exact rfl); (case hi => repeat first|exact at0|apply atS); clear H; intro ws H _ _; simp only [qb, qc] at H; go_simp))
 refine (z1f 1 _ rfl _ 0 _ _ _ (by omega) H.out rfl V1h.out V1.out).mono ?_
 rintro e w20 ⟨h2, rfl, hv, H2⟩
 replace H := Lib.hid H2
 have V2h : Hid (EK h2 (a ^ E2)) := Lib.hid (hv.eq (P2.out _ _ rfl rfl))
 clear hv H2
 simp only [qb] at H
 go_wp2_with (first
  | ((fail_if_success have := g1); (with_reducible apply z0h H); (case hgd | ho | hx => exact rfl); clear H; intro w1 g1 H _ _; go_simp)
  | ((fail_if_success have := g2); (with_reducible apply z0b nilE H); (case hgd | ho => exact rfl); clear H; intro w2 g2 H _ _; go_simp)
  | ((fail_if_success have := g3); (with_reducible apply z0b nilE H); (case hgd | ho => exact rfl); clear H; intro w3 g3 H _ _; go_simp)
  | ((fail_if_success have := g5); (with_reducible apply z0b nilE H); (case hgd | ho => exact rfl); clear H; intro w5 g5 H _ _; go_simp)
  | ((fail_if_success have := g6); (with_reducible apply z0b nilE H); (case hgd | ho => exact rfl); clear H; intro w6 g6 H _ _; go_simp)
  | ((fail_if_success have := g7); (with_reducible apply z0b nilE H); (case hgd | ho => exact rfl); clear H; intro w7 g7 H _ _; go_simp)
  | ((fail_if_success have := g8); (with_reducible apply z0b nilE H); (case hgd | ho => exact rfl); clear H; intro w8 g8 H _ _; go_simp)
  | ((fail_if_success have := g9); (with_reducible apply z0b nilE H); (case hgd | ho => exact rfl); clear H; intro w9 g9 H _ _; go_simp)
  | ((fail_if_success have := g10); (with_reducible apply z0b nilE H); (case hgd | ho => exact rfl); clear H; intro w10 g10 H _ _; go_simp)
  | ((with_reducible apply z0g rowE H); (case hgd | ho | hx => exact rfl); (case hi => repeat first|exact at0|apply atS); intro _ _; go_simp)
  | ((with_reducible apply z0e rowE H); (case hgd | ho | hx | hy => exact rfl); (case hi => repeat first|exact at0|apply atS); clear H; intro ws H _ _; simp only [qb] at H; go_simp))
 refine (z1f 3 _ rfl _ 1 _ _ _ (by omega) H.out rfl V2h.out V2h.out).mono ?_
 rintro e w30 ⟨h3, rfl, hv, H2⟩
 replace H := Lib.hid H2
 have V3h : Hid (EK h3 (a ^ E3)) := Lib.hid (hv.eq (P3.out _ _ rfl rfl))
 clear hv H2
 simp only [qb, qc] at H
 go_wp2_with (first
  | ((fail_if_success have := g1); (with_reducible apply z0h H); (case hgd | ho | hx => exact rfl); clear H; intro w1 g1 H _ _; go_simp)
  | ((fail_if_success have := g2); (with_reducible apply z0b nilE H); (case hgd | ho => exact rfl); clear H; intro w2 g2 H _ _; go_simp)
  | ((fail_if_success have := g3); (with_reducible apply z0b nilE H); (case hgd | ho => exact rfl); clear H; intro w3 g3 H _ _; go_simp)
  | ((fail_if_success have := g5); (with_reducible apply z0b nilE H); (case hgd | ho => exact rfl); clear H; intro w5 g5 H _ _; go_simp)
  | ((fail_if_success have := g6); (with_reducible apply z0b nilE H); (case hgd | ho => exact rfl); clear H; intro w6 g6 H _ _; go_simp)
  | ((fail_if_success have := g7); (with_reducible apply z0b nilE H); (case hgd | ho => exact rfl); clear H; intro w7 g7 H _ _; go_simp)
  | ((fail_if_success have := g8); (with_reducible apply z0b nilE H); (case hgd | ho => exact rfl); clear H; intro w8 g8 H _ _; go_simp)
  | ((fail_if_success have := g9); (with_reducible apply z0b nilE H); (case hgd | ho => exact rfl); clear H; intro w9 g9 H _ _; go_simp)
  | ((fail_if_success have := g10); (with_reducible apply z0b nilE H); (case hgd | ho => exact rfl); clear H; intro w10 g10 H _ _; go_simp)
  | ((with_reducible apply z0g rowE H); (case hgd | ho | hx => exact rfl); (case hi => repeat first|exact at0|apply atS); intro _ _; go_simp)
  | ((with_reducible apply z0e rowE H); (case hgd | ho | hx | hy => exact rfl); (case hi => repeat first|exact at0|apply atS); clear H; intro ws H _ _; simp only [qb, qc] at H; go_simp))
 refine (z1f 3 _ rfl _ 1 _ _ _ (by omega) H.out rfl V3h.out V2h.out).mono ?_
 rintro e w40 ⟨h4, rfl, hv, H2⟩
 replace H := Lib.hid H2
 have V4h : Hid (EK h4 (a ^ E4)) := Lib.hid (hv.eq (P4.out _ _ rfl rfl))
 clear hv H2
 simp only [qb, qc] at H
 go_wp2_with (first
  | ((fail_if_success have := g1); (with_reducible apply z0h H); (case hgd | ho | hx => exact rfl); clear H; intro w1 g1 H _ _; go_simp)
  | ((fail_if_success have := g2); (with_reducible apply z0b nilE H); (case hgd | ho => exact rfl); clear H; intro w2 g2 H _ _; go_simp)
  | ((fail_if_success have := g3); (with_reducible apply z0b nilE H); (case hgd | ho => exact rfl); clear H; intro w3 g3 H _ _; go_simp)
  | ((fail_if_success have := g5); (with_reducible apply z0b nilE H); (case hgd | ho => exact rfl); clear H; intro w5 g5 H _ _; go_simp)
  | ((fail_if_success have := g6); (with_reducible apply z0b nilE H); (case hgd | ho => exact rfl); clear H; intro w6 g6 H _ _; go_simp)
  | ((fail_if_success have := g7); (with_reducible apply z0b nilE H); (case hgd | ho => exact rfl); clear H; intro w7 g7 H _ _; go_simp)
  | ((fail_if_success have := g8); (with_reducible apply z0b nilE H); (case hgd | ho => exact rfl); clear H; intro w8 g8 H _ _; go_simp)
  | ((fail_if_success have := g9); (with_reducible apply z0b nilE H); (case hgd | ho => exact rfl); clear H; intro w9 g9 H _ _; go_simp)
  | ((fail_if_success have := g10); (with_reducible apply z0b nilE H); (case hgd | ho => exact rfl); clear H; intro w10 g10 H _ _; go_simp)
  | ((with_reducible apply z0g rowE H); (case hgd | ho | hx => exact rfl); (case hi => repeat first|exact at0|apply atS); intro _ _; go_simp)
  | ((with_reducible apply z0e rowE H); (case hgd | ho | hx | hy => exact rfl); (case hi => repeat first|exact at0|apply atS); clear H; intro ws H _ _; simp only [qb] at H; go_simp))
 refine (z1f 9 _ rfl _ 2 _ _ _ (by omega) H.out rfl V4h.out V4h.out).mono ?_
 rintro e w50 ⟨h5, rfl, hv, H2⟩
 replace H := Lib.hid H2
 have V5h : Hid (EK h5 (a ^ E5)) := Lib.hid (hv.eq (P5.out _ _ rfl rfl))
 clear hv H2
 simp only [qb, qc] at H
 go_wp2_with (first
  | ((fail_if_success have := g1); (with_reducible apply z0h H); (case hgd | ho | hx => exact rfl); clear H; intro w1 g1 H _ _; go_simp)
  | ((fail_if_success have := g2); (with_reducible apply z0b nilE H); (case hgd | ho => exact rfl); clear H; intro w2 g2 H _ _; go_simp)
  | ((fail_if_success have := g3); (with_reducible apply z0b nilE H); (case hgd | ho => exact rfl); clear H; intro w3 g3 H _ _; go_simp)
  | ((fail_if_success have := g5); (with_reducible apply z0b nilE H); (case hgd | ho => exact rfl); clear H; intro w5 g5 H _ _; go_simp)
  | ((fail_if_success have := g6); (with_reducible apply z0b nilE H); (case hgd | ho => exact rfl); clear H; intro w6 g6 H _ _; go_simp)
  | ((fail_if_success have := g7); (with_reducible apply z0b nilE H); (case hgd | ho => exact rfl); clear H; intro w7 g7 H _ _; go_simp)
  | ((fail_if_success have := g8); (with_reducible apply z0b nilE H); (case hgd | ho => exact rfl); clear H; intro w8 g8 H _ _; go_simp)
  | ((fail_if_success have := g9); (with_reducible apply z0b nilE H); (case hgd | ho => exact rfl); clear H; intro w9 g9 H _ _; go_simp)
  | ((fail_if_success have := g10); (with_reducible apply z0b nilE H); (case hgd | ho => exact rfl); clear H; intro w10 g10 H _ _; go_simp)
  | ((with_reducible apply z0g rowE H); (case hgd | ho | hx => exact rfl); (case hi => repeat first|exact at0|apply atS); intro _ _; go_simp)
  | ((with_reducible apply z0e rowE H); (case hgd | ho | hx | hy => exact rfl); (case hi => repeat first|exact at0|apply atS); clear H; intro ws H _ _; simp only [qb] at H; go_simp))
 refine (z1f 1 _ rfl _ 3 _ _ _ (by omega) H.out rfl V5h.out V1.out).mono ?_
 rintro e w60 ⟨h6, rfl, hv, H2⟩
 replace H := Lib.hid H2
 have V6h : Hid (EK h6 (a ^ E6)) := Lib.hid (hv.eq (P6.out _ _ rfl rfl))
 clear hv H2
 simp only [qb, qc] at H
 go_wp2_with (first
  | ((fail_if_success have := g1); (with_reducible apply z0h H); (case hgd | ho | hx => exact rfl); clear H; intro w1 g1 H _ _; go_simp)
  | ((fail_if_success have := g2); (with_reducible apply z0b nilE H); (case hgd | ho => exact rfl); clear H; intro w2 g2 H _ _; go_simp)
  | ((fail_if_success have := g3); (with_reducible apply z0b nilE H); (case hgd | ho => exact rfl); clear H; intro w3 g3 H _ _; go_simp)
  | ((fail_if_success have := g5); (with_reducible apply z0b nilE H); (case hgd | ho => exact rfl); clear H; intro w5 g5 H _ _; go_simp)
  | ((fail_if_success have := g6); (with_reducible apply z0b nilE H); (case hgd | ho => exact rfl); clear H; intro w6 g6 H _ _; go_simp)
  | ((fail_if_success have := g7); (with_reducible apply z0b nilE H); (case hgd | ho => exact rfl); clear H; intro w7 g7 H _ _; go_simp)
  | ((fail_if_success have := g8); (with_reducible apply z0b nilE H); (case hgd | ho => exact rfl); clear H; intro w8 g8 H _ _; go_simp)
  | ((fail_if_success have := g9); (with_reducible apply z0b nilE H); (case hgd | ho => exact rfl); clear H; intro w9 g9 H _ _; go_simp)
  | ((fail_if_success have := g10); (with_reducible apply z0b nilE H); (case hgd | ho => exact rfl); clear H; intro w10 g10 H _ _; go_simp)
  | ((with_reducible apply z0g rowE H); (case hgd | ho | hx => exact rfl); (case hi => repeat first|exact at0|apply atS); intro _ _; go_simp)
  | ((with_reducible apply z0e rowE H); (case hgd | ho | hx | hy => exact rfl); (case hi => repeat first|exact at0|apply atS); clear H; intro ws H _ _; simp only [qb, qc] at H; go_simp))
 refine (z1f 18 _ rfl _ 3 _ _ _ (by omega) H.out rfl V6h.out V5h.out).mono ?_
 rintro e w70 ⟨h7, rfl, hv, H2⟩
 replace H := Lib.hid H2
 have V7h : Hid (EK h7 (a ^ E7)) := Lib.hid (hv.eq (P7.out _ _ rfl rfl))
 clear hv H2
 simp only [qb, qc] at H
 go_wp2_with (first
  | ((fail_if_success have := g1); (with_reducible apply z0h H); (case hgd | ho | hx => exact rfl); clear H; intro w1 g1 H _ _; go_simp)
  | ((fail_if_success have := g2); (with_reducible apply z0b nilE H); (case hgd | ho => exact rfl); clear H; intro w2 g2 H _ _; go_simp)
  | ((fail_if_success have := g3); (with_reducible apply z0b nilE H); (case hgd | ho => exact rfl); clear H; intro w3 g3 H _ _; go_simp)
  | ((fail_if_success have := g5); (with_reducible apply z0b nilE H); (case hgd | ho => exact rfl); clear H; intro w5 g5 H _ _; go_simp)
  | ((fail_if_success have := g6); (with_reducible apply z0b nilE H); (case hgd | ho => exact rfl); clear H; intro w6 g6 H _ _; go_simp)
  | ((fail_if_success have := g7); (with_reducible apply z0b nilE H); (case hgd | ho => exact rfl); clear H; intro w7 g7 H _ _; go_simp)
  | ((fail_if_success have := g8); (with_reducible apply z0b nilE H); (case hgd | ho => exact rfl); clear H; intro w8 g8 H _ _; go_simp)
  | ((fail_if_success have := g9); (with_reducible apply z0b nilE H); (case hgd | ho => exact rfl); clear H; intro w9 g9 H _ _; go_simp)
  | ((fail_if_success have := g10); (with_reducible apply z0b nilE H); (case hgd | ho => exact rfl); clear H; intro w10 g10 H _ _; go_simp)
  | ((with_reducible apply z0g rowE H); (case hgd | ho | hx => exact rfl); (case hi => repeat first|exact at0|apply atS); intro _ _; go_simp)
  | ((with_reducible apply z0e rowE H); (case hgd | ho | hx | hy => exact rfl); (case hi => repeat first|exact at0|apply atS); clear H; intro ws H _ _; simp only [qb] at H; go_simp))
 refine (z1f 37 _ rfl _ 4 _ _ _ (by omega) H.out rfl V7h.out V7h.out).mono ?_
 rintro e w80 ⟨h8, rfl, hv, H2⟩
 replace H := Lib.hid H2
 have V8h : Hid (EK h8 (a ^ E8)) := Lib.hid (hv.eq (P8.out _ _ rfl rfl))
 clear hv H2
 simp only [qb, qc] at H
 go_wp2_with (first
  | ((fail_if_success have := g1); (with_reducible apply z0h H); (case hgd | ho | hx => exact rfl); clear H; intro w1 g1 H _ _; go_simp)
  | ((fail_if_success have := g2); (with_reducible apply z0b nilE H); (case hgd | ho => exact rfl); clear H; intro w2 g2 H _ _; go_simp)
  | ((fail_if_success have := g3); (with_reducible apply z0b nilE H); (case hgd | ho => exact rfl); clear H; intro w3 g3 H _ _; go_simp)
  | ((fail_if_success have := g5); (with_reducible apply z0b nilE H); (case hgd | ho => exact rfl); clear H; intro w5 g5 H _ _; go_simp)
  | ((fail_if_success have := g6); (with_reducible apply z0b nilE H); (case hgd | ho => exact rfl); clear H; intro w6 g6 H _ _; go_simp)
  | ((fail_if_success have := g7); (with_reducible apply z0b nilE H); (case hgd | ho => exact rfl); clear H; intro w7 g7 H _ _; go_simp)
  | ((fail_if_success have := g8); (with_reducible apply z0b nilE H); (case hgd | ho => exact rfl); clear H; intro w8 g8 H _ _; go_simp)
  | ((fail_if_success have := g9); (with_reducible apply z0b nilE H); (case hgd | ho => exact rfl); clear H; intro w9 g9 H _ _; go_simp)
  | ((fail_if_success have := g10); (with_reducible apply z0b nilE H); (case hgd | ho => exact rfl); clear H; intro w10 g10 H _ _; go_simp)
  | ((with_reducible apply z0g rowE H); (case hgd | ho | hx => exact rfl); (case hi => repeat first|exact at0|apply atS); intro _ _; go_simp)
  | ((with_reducible apply z0e rowE H); (case hgd | ho | hx | hy => exact rfl); (case hi => repeat first|exact at0|apply atS); clear H; intro ws H _ _; simp only [qb, qc] at H; go_simp))
 refine (z1f 37 _ rfl _ 4 _ _ _ (by omega) H.out rfl V8h.out V7h.out).mono ?_
 rintro e w90 ⟨h9, rfl, hv, H2⟩
 replace H := Lib.hid H2
 have V9h : Hid (EK h9 (a ^ E9)) := Lib.hid (hv.eq (P9.out _ _ rfl rfl))
 clear hv H2
 simp only [qb, qc] at H
 go_wp2_with (first
  | ((fail_if_success have := g1); (with_reducible apply z0h H); (case hgd | ho | hx => exact rfl); clear H; intro w1 g1 H _ _; go_simp)
  | ((fail_if_success have := g2); (with_reducible apply z0b nilE H); (case hgd | ho => exact rfl); clear H; intro w2 g2 H _ _; go_simp)
  | ((fail_if_success have := g3); (with_reducible apply z0b nilE H); (case hgd | ho => exact rfl); clear H; intro w3 g3 H _ _; go_simp)
  | ((fail_if_success have := g5); (with_reducible apply z0b nilE H); (case hgd | ho => exact rfl); clear H; intro w5 g5 H _ _; go_simp)
  | ((fail_if_success have := g6); (with_reducible apply z0b nilE H); (case hgd | ho => exact rfl); clear H; intro w6 g6 H _ _; go_simp)
  | ((fail_if_success have := g7); (with_reducible apply z0b nilE H); (case hgd | ho => exact rfl); clear H; intro w7 g7 H _ _; go_simp)
  | ((fail_if_success have := g8); (with_reducible apply z0b nilE H); (case hgd | ho => exact rfl); clear H; intro w8 g8 H _ _; go_simp)
  | ((fail_if_success have := g9); (with_reducible apply z0b nilE H); (case hgd | ho => exact rfl); clear H; intro w9 g9 H _ _; go_simp)
  | ((fail_if_success have := g10); (with_reducible apply z0b nilE H); (case hgd | ho => exact rfl); clear H; intro w10 g10 H _ _; go_simp)
  | ((with_reducible apply z0g rowE H); (case hgd | ho | hx => exact rfl); (case hi => repeat first|exact at0|apply atS); intro _ _; go_simp)
  | ((with_reducible apply z0e rowE H); (case hgd | ho | hx | hy => exact rfl); (case hi => repeat first|exact at0|apply atS); clear H; intro ws H _ _; simp only [qb] at H; go_simp))
 refine (z1f 111 _ rfl _ 5 _ _ _ (by omega) H.out rfl V9h.out V9h.out).mono ?_
 rintro e w100 ⟨h10, rfl, hv, H2⟩
 replace H := Lib.hid H2
 have V10h : Hid (EK h10 (a ^ E10)) := Lib.hid (hv.eq (P10.out _ _ rfl rfl))
 clear hv H2
 simp only [qb, qc] at H
 go_wp2_with (first
  | ((fail_if_success have := g1); (with_reducible apply z0h H); (case hgd | ho | hx => exact rfl); clear H; intro w1 g1 H _ _; go_simp)
  | ((fail_if_success have := g2); (with_reducible apply z0b nilE H); (case hgd | ho => exact rfl); clear H; intro w2 g2 H _ _; go_simp)
  | ((fail_if_success have := g3); (with_reducible apply z0b nilE H); (case hgd | ho => exact rfl); clear H; intro w3 g3 H _ _; go_simp)
  | ((fail_if_success have := g5); (with_reducible apply z0b nilE H); (case hgd | ho => exact rfl); clear H; intro w5 g5 H _ _; go_simp)
  | ((fail_if_success have := g6); (with_reducible apply z0b nilE H); (case hgd | ho => exact rfl); clear H; intro w6 g6 H _ _; go_simp)
  | ((fail_if_success have := g7); (with_reducible apply z0b nilE H); (case hgd | ho => exact rfl); clear H; intro w7 g7 H _ _; go_simp)
  | ((fail_if_success have := g8); (with_reducible apply z0b nilE H); (case hgd | ho => exact rfl); clear H; intro w8 g8 H _ _; go_simp)
  | ((fail_if_success have := g9); (with_reducible apply z0b nilE H); (case hgd | ho => exact rfl); clear H; intro w9 g9 H _ _; go_simp)
  | ((fail_if_success have := g10); (with_reducible apply z0b nilE H); (case hgd | ho => exact rfl); clear H; intro w10 g10 H _ _; go_simp)
  | ((with_reducible apply z0g rowE H); (case hgd | ho | hx => exact rfl); (case hi => repeat first|exact at0|apply atS); intro _ _; go_simp)
  | ((with_reducible apply z0e rowE H); (case hgd | ho | hx | hy => exact rfl); (case hi => repeat first|exact at0|apply atS); clear H; intro ws H _ _; simp only [qb] at H; go_simp))
 refine (z1f 1 _ rfl _ 6 _ _ _ (by omega) H.out rfl V10h.out V1.out).mono ?_
 rintro e w110 ⟨h11, rfl, hv, H2⟩
 replace H := Lib.hid H2
 have V11h : Hid (EK h11 (a ^ E11)) := Lib.hid (hv.eq (P11.out _ _ rfl rfl))
 clear hv H2
 simp only [qb, qc] at H
 go_wp2_with (first
  | ((fail_if_success have := g1); (with_reducible apply z0h H); (case hgd | ho | hx => exact rfl); clear H; intro w1 g1 H _ _; go_simp)
  | ((fail_if_success have := g2); (with_reducible apply z0b nilE H); (case hgd | ho => exact rfl); clear H; intro w2 g2 H _ _; go_simp)
  | ((fail_if_success have := g3); (with_reducible apply z0b nilE H); (case hgd | ho => exact rfl); clear H; intro w3 g3 H _ _; go_simp)
  | ((fail_if_success have := g5); (with_reducible apply z0b nilE H); (case hgd | ho => exact rfl); clear H; intro w5 g5 H _ _; go_simp)
  | ((fail_if_success have := g6); (with_reducible apply z0b nilE H); (case hgd | ho => exact rfl); clear H; intro w6 g6 H _ _; go_simp)
  | ((fail_if_success have := g7); (with_reducible apply z0b nilE H); (case hgd | ho => exact rfl); clear H; intro w7 g7 H _ _; go_simp)
  | ((fail_if_success have := g8); (with_reducible apply z0b nilE H); (case hgd | ho => exact rfl); clear H; intro w8 g8 H _ _; go_simp)
  | ((fail_if_success have := g9); (with_reducible apply z0b nilE H); (case hgd | ho => exact rfl); clear H; intro w9 g9 H _ _; go_simp)
  | ((fail_if_success have := g10); (with_reducible apply z0b nilE H); (case hgd | ho => exact rfl); clear H; intro w10 g10 H _ _; go_simp)
  | ((with_reducible apply z0g rowE H); (case hgd | ho | hx => exact rfl); (case hi => repeat first|exact at0|apply atS); intro _ _; go_simp)
  | ((with_reducible apply z0e rowE H); (case hgd | ho | hx | hy => exact rfl); (case hi => repeat first|exact at0|apply atS); clear H; intro ws H _ _; simp only [qb, qc] at H; go_simp))
 refine (z1f 223 _ rfl _ 6 _ _ _ (by omega) H.out rfl V11h.out V10h.out).mono ?_
 rintro e w120 ⟨h12, rfl, hv, H2⟩
 replace H := Lib.hid H2
 have V12h : Hid (EK h12 (a ^ E12)) := Lib.hid (hv.eq (P12.out _ _ rfl rfl))
 clear hv H2
 simp only [qb, qc] at H
 go_wp2_with (first
  | ((fail_if_success have := g1); (with_reducible apply z0h H); (case hgd | ho | hx => exact rfl); clear H; intro w1 g1 H _ _; go_simp)
  | ((fail_if_success have := g2); (with_reducible apply z0b nilE H); (case hgd | ho => exact rfl); clear H; intro w2 g2 H _ _; go_simp)
  | ((fail_if_success have := g3); (with_reducible apply z0b nilE H); (case hgd | ho => exact rfl); clear H; intro w3 g3 H _ _; go_simp)
  | ((fail_if_success have := g5); (with_reducible apply z0b nilE H); (case hgd | ho => exact rfl); clear H; intro w5 g5 H _ _; go_simp)
  | ((fail_if_success have := g6); (with_reducible apply z0b nilE H); (case hgd | ho => exact rfl); clear H; intro w6 g6 H _ _; go_simp)
  | ((fail_if_success have := g7); (with_reducible apply z0b nilE H); (case hgd | ho => exact rfl); clear H; intro w7 g7 H _ _; go_simp)
  | ((fail_if_success have := g8); (with_reducible apply z0b nilE H); (case hgd | ho => exact rfl); clear H; intro w8 g8 H _ _; go_simp)
  | ((fail_if_success have := g9); (with_reducible apply z0b nilE H); (case hgd | ho => exact rfl); clear H; intro w9 g9 H _ _; go_simp)
  | ((fail_if_success have := g10); (with_reducible apply z0b nilE H); (case hgd | ho => exact rfl); clear H; intro w10 g10 H _ _; go_simp)
  | ((with_reducible apply z0g rowE H); (case hgd | ho | hx => exact rfl); (case hi => repeat first|exact at0|apply atS); intro _ _; go_simp)
  | ((with_reducible apply z0e rowE H); (case hgd | ho | hx | hy => exact rfl); (case hi => repeat first|exact at0|apply atS); clear H; intro ws H _ _; simp only [qb, qc] at H; go_simp))
 exact bodyPost_ret (z0i 7 rowE rfl _ H rfl rfl) rfl ⟨h12, rfl, V12h.out, H.out.bel⟩
theorem z6x {f : Nat → Nat} {a : K} (w : World) (hf : EK f a) :
  Calls Tryz.prog 103 #[EV f] w fun e w' => ∃ h, e = .returned (EV h) ∧ EK h (a ^ eC) ∧ Below w.heap.size w w' := by
 obtain ⟨E1, e1⟩ : ∃ E, 1 * 2 ^ 1 + 1 = E := ⟨_, rfl⟩
 obtain ⟨E2, e2⟩ : ∃ E, E1 * 2 ^ 1 + 1 = E := ⟨_, rfl⟩
 obtain ⟨E3, e3⟩ : ∃ E, E2 * 2 ^ 3 + E2 = E := ⟨_, rfl⟩
 obtain ⟨E4, e4⟩ : ∃ E, E3 * 2 ^ 3 + E2 = E := ⟨_, rfl⟩
 obtain ⟨E5, e5⟩ : ∃ E, E4 * 2 ^ 9 + E4 = E := ⟨_, rfl⟩
 obtain ⟨E6, e6⟩ : ∃ E, E5 * 2 ^ 1 + 1 = E := ⟨_, rfl⟩
 obtain ⟨E7, e7⟩ : ∃ E, E6 * 2 ^ 18 + E5 = E := ⟨_, rfl⟩
 obtain ⟨E8, e8⟩ : ∃ E, E7 * 2 ^ 37 + E7 = E := ⟨_, rfl⟩
 obtain ⟨E9, e9⟩ : ∃ E, E8 * 2 ^ 37 + E7 = E := ⟨_, rfl⟩
 obtain ⟨E10, e10⟩ : ∃ E, E9 * 2 ^ 111 + E9 = E := ⟨_, rfl⟩
 obtain ⟨E11, e11⟩ : ∃ E, E10 * 2 ^ 1 + 1 = E := ⟨_, rfl⟩
 obtain ⟨E12, e12⟩ : ∃ E, E11 * 2 ^ 223 + E10 = E := ⟨_, rfl⟩
 have e : E12 = eC := by
  subst e1 e2 e3 e4 e5 e6 e7 e8 e9 e10 e11 e12
  decide +kernel
 rw [← e]
 exact chain_walk w (hf.eq (by grind)) _ _ _ _ _ _ _ _ _ _ _ _ e1 e2 e3 e4 e5 e6 e7 e8 e9 e10 e11 e12
theorem inv_chain (a : K) : (a ^ eC) ^ 2 ^ 2 * a = inv a := by
 unfold inv
 rw [← z2f, ← z03, show eC * 2 ^ 2 + 1 = pN - 2 by have := pN_c; omega]
theorem z7m {f : Nat → Nat} {a : K} (w : World) (hf : EK f a) :
  Calls Tryz.prog 67 #[EV f] w fun e w' => ∃ h, e = .returned (EV h) ∧ EK h (inv a) ∧ Below w.heap.size w w' := by
 have HF := Lib.hid hf
 clear hf
 have H := Lib.hid (Ow.start w)
 go_enter Tryz.func67, Tryz.ntmps67
 go_wp2_with (first
  | ((fail_if_success have := g1); (with_reducible apply z0h H); (case hgd | ho | hx => exact rfl); clear H; intro w1 g1 H _ _; go_simp)
  | ((fail_if_success have := g2); (with_reducible apply z0b nilE H); (case hgd | ho => exact rfl); clear H; intro w2 g2 H _ _; go_simp))
 refine wp_region_noPanic ?_
 refine wp_region_held_drew (S := fun W => W.heap[g1]? = some (Blk 29 .u64 8 (NZ f))) (by kernel_rfl) (H.out.drew.row 1 rfl) (fun hH => ?_)
 replace H := Lib.hid H.out.drew
 generalize World.drew _ = w8 at *
 refine z0f 0 3 rowE rfl rfl rfl hH rfl rfl (fun _ h => h) ?_
 try simp only [Act.put, qa, qb, qc]
 refine z0f 3 6 rowE rfl rfl rfl hH rfl rfl (fun _ h => h) ?_
 try simp only [Act.put, qa, qb, qc]
 refine rd1 1 rfl fun K hK => ?_
 go_simp
 refine (z6x _ HF.out).mono ?_
 rintro e wc ⟨h4, rfl, hv, hb⟩
 replace H := hcall H hb
 have HV4 := Lib.hid hv
 clear hH
 refine hK.out _ _ (H.out.row 1 rfl) fun hH => ?_
 clear hK K hb hv
 try simp only [Act.put, qa, qb, qc]
 refine rd1 2 rfl fun K hK => ?_
 go_simp
 refine (z65 2 _ (by omega) HV4.out).mono ?_
 rintro e wc ⟨h5, rfl, hv, hb⟩
 replace H := hcall H hb
 have HV5 := Lib.hid hv
 clear hH
 refine hK.out _ _ (H.out.row 1 rfl) fun hH => ?_
 clear hK K hb hv
 try simp only [Act.put, qa, qb, qc]
 refine rd1 4 rfl fun K hK => ?_
 go_simp
 refine (mul_k _ HV5.out HF.out).mono ?_
 rintro e wc ⟨h7, rfl, hv, hb⟩
 replace H := hcall H hb
 have HV7 := Lib.hid hv
 clear hH
 refine hK.out _ _ (H.out.row 1 rfl) fun hH => ?_
 clear hK K hb hv
 try simp only [Act.put, qa, qb, qc]
 refine rd1 5 rfl fun K hK => ?_
 refine z0d 0 rowE H.out rfl rfl rfl rfl ?_
 intro ws HS
 simp only [qb] at HS
 replace H := Lib.hid HS
 clear hH
 refine hK.out _ _ (H.out.row 1 rfl) fun hH => ?_
 clear hK K HS
 try simp only [Act.put, qa]
 try simp only [Act.put]
 refine wpAnyH_done (by kernel_rfl) ?_ _
 refine NoPanic.normal ?_
 clear hH
 go_wp2_with fail
 exact bodyPost_ret (z0i 0 rowE rfl _ H rfl rfl) rfl ⟨_, rfl, HV7.out.eq (inv_chain a), H.out.bel⟩
theorem u8_and1 (n : Nat) : bits .and .u8 (n : Int) 1 = ((n % 2 : Nat) : Int) := by
 have h127 : (BitVec.ofInt 8 1).toNat = 2 ^ 1 - 1 := by decide
 have key : (BitVec.ofInt 8 (n : Int) &&& BitVec.ofInt 8 1).toNat = ((n : Int) % ((2 ^ 8 : Nat) : Int)).toNat % 2 ^ 1 := by
  rw [BitVec.toNat_and, BitVec.toNat_ofInt, h127, Nat.and_two_pow_sub_one_eq_mod]
 show IntKind.u8.wrap ((BitVec.ofInt 8 (n : Int) &&& BitVec.ofInt 8 1).toNat : Nat) = ((n % 2 : Nat) : Int)
 rw [key, IntKind.wrap_u8]
 omega
theorem lowest_k {f : Nat → Nat} {a : K} (w : World) (hf : EK f a) :
  Calls Tryz.prog 138 #[EV f] w fun e w' => e = .returned (.int .i64 ((a.val % 2 : Nat) : Int)) ∧ Below w.heap.size w w' := by
 have HF := Lib.hid hf
 clear hf
 have H := Lib.hid (Ow.start w)
 go_enter Tryz.func138, Tryz.ntmps138
 go_wp2_with (first
  | ((fail_if_success have := g1); (with_reducible apply z0h H); (case hgd | ho | hx => exact rfl); clear H; intro w1 g1 H _ _; go_simp)
  | ((with_reducible apply z0g rowE H); (case hgd | ho | hx => exact rfl); (case hi => repeat first|exact at0|apply atS); intro _ _; go_simp))
 refine (bytes_v _ HF.out).mono ?_
 rintro e w2 ⟨ad, c, rfl, hs, hb⟩
 replace H := hcall H hb
 obtain ⟨b, o, rfl, _, hcell⟩ := z6d hs (by omega)
 obtain ⟨y, hy⟩ : ∃ y, (bX a.val 0).toNat = y := ⟨_, rfl⟩
 have hc : w2.cell? ⟨b, o, none⟩ = some (.int .u8 (y : Int)) := by
  have := hcell 0 (by omega)
  rw [show U (bX a.val 0) = .int .u8 (y : Int) from congrArg (Value.int .u8) (by rw [← hy]; rfl)] at this
  exact this
 have e1 := u8_and1 y
 obtain ⟨z, hz⟩ : ∃ z, y % 2 = z := ⟨_, rfl⟩
 rw [hz] at e1
 have HZ : Hid (z = a.val % 2) := Lib.hid (by
  rw [← hz, ← hy, y1e, Nat.pow_zero, Nat.div_one]
  omega)
 have z2 : (z : Int) < 2 := by omega
 clear hb hs hcell hy hz
 go_wp2_with fail
 go_ret
 exact ⟨by rw [← HZ.out]; rfl, H.out.bel⟩
theorem pick_ab {a : K} {n : Nat} (h : a.val % 2 = n) : (if (n : Int) % 2 = 0 then a else -a) = ab a := by
 unfold ab
 have hb := Nat.mod_lt a.val (show 0 < 2 by omega)
 by_cases e : a.val % 2 = 1
 ·rw [if_pos e, if_neg (by omega)]
 ·rw [if_neg e, if_pos (by omega)]
theorem abs_k {f : Nat → Nat} {a : K} (w : World) (hT : Tp w) (hf : EK f a) :
  Calls Tryz.prog 132 #[EV f] w fun e w' => ∃ h, e = .returned (EV h) ∧ EK h (ab a) ∧ Below w.heap.size w w' := by
 have HF := Lib.hid hf
 have HT := Lib.hid hT
 have HL := Lib.hid (fun w => lowest_k w hf)
 obtain ⟨z, hz⟩ : ∃ z, a.val % 2 = z := ⟨_, rfl⟩
 rw [hz] at HL
 have HZ := Lib.hid hz
 clear hf hT hz
 have H := Lib.hid (Ow.start w)
 go_enter Tryz.func132, Tryz.ntmps132
 go_wp2_with (first
  | ((fail_if_success have := g1); (with_reducible apply z0h H); (case hgd | ho | hx => exact rfl); clear H; intro w1 g1 H _ _; go_simp)
  | ((fail_if_success have := g2); (with_reducible apply z0b nilE H); (case hgd | ho => exact rfl); clear H; intro w2 g2 H _ _; go_simp))
 refine wp_region_noPanic ?_
 refine wp_region_held_drew (S := fun W => W.heap[g1]? = some (Blk 29 .u64 8 (NZ f))) (by kernel_rfl) (H.out.drew.row 1 rfl) (fun hH => ?_)
 replace H := Lib.hid H.out.drew
 generalize World.drew _ = w8 at *
 refine z0f 0 3 rowE rfl rfl rfl hH rfl rfl (fun _ h => h) ?_
 try simp only [Act.put, qa, qb, qc]
 refine z0f 2 5 rowE rfl rfl rfl hH rfl rfl (fun _ h => h) ?_
 try simp only [Act.put, qa, qb, qc]
 refine z0f 3 6 rowE rfl rfl rfl hH rfl rfl (fun _ h => h) ?_
 try simp only [Act.put, qa, qb, qc]
 refine rd1 1 rfl fun K hK => ?_
 go_simp
 refine (HL.out _).mono ?_
 rintro e wc ⟨rfl, hb⟩
 replace H := hcall H hb
 clear hH
 refine hK.out _ _ (H.out.row 1 rfl) fun hH => ?_
 clear hK K hb
 try simp only [Act.put, qa, qb, qc]
 refine rd1 4 rfl fun K hK => ?_
 go_simp
 refine (neg_k _ (HT.out.below H.out.bel) HF.out).mono ?_
 rintro e wc ⟨h7, rfl, hv, hb⟩
 replace H := hcall H hb
 have HV7 := Lib.hid hv
 clear hH
 refine hK.out _ _ (H.out.row 1 rfl) fun hH => ?_
 clear hK K hb hv
 try simp only [Act.put, qa, qb, qc]
 refine rd1 5 rfl fun K hK => ?_
 go_simp
 refine (z24 _ _ _ _ HF.out.lim HV7.out.lim).mono ?_
 rintro e wc ⟨rfl, hb⟩
 replace H := hcall H hb
 have HV8 := Lib.hid (y0k (n := (z : Int)) HF.out HV7.out)
 clear hH
 refine hK.out _ _ (H.out.row 1 rfl) fun hH => ?_
 clear hK K hb
 try simp only [Act.put, qa, qb, qc]
 refine rd1 6 rfl fun K hK => ?_
 refine z0d 0 rowE H.out rfl rfl rfl rfl ?_
 intro ws HS
 simp only [qb] at HS
 replace H := Lib.hid HS
 clear hH
 refine hK.out _ _ (H.out.row 1 rfl) fun hH => ?_
 clear hK K HS
 try simp only [Act.put, qa]
 try simp only [Act.put]
 refine wpAnyH_done (by kernel_rfl) ?_ _
 refine NoPanic.normal ?_
 clear hH
 go_wp2_with fail
 exact bodyPost_ret (z0i 0 rowE rfl _ H rfl rfl) rfl ⟨_, rfl, HV8.out.eq (pick_ab HZ.out), H.out.bel⟩
theorem ratio_k {f g : Nat → Nat} {u v : K} (w : World) (hT : Tp w) (hf : EK f u) (hg : EK g v) :
  Calls Tryz.prog 118 #[EV f, EV g] w fun e w' => ∃ h, e = .returned (.tuple #[EV h, .bool (decide (v * (rat eC u v * rat eC u v) = u))]) ∧ EK h (ab (rat eC u v)) ∧ Below w.heap.size w w' := by
 have HF := Lib.hid hf
 have HG := Lib.hid hg
 have HT := Lib.hid hT
 clear hf hg hT
 have H := Lib.hid (Ow.start w)
 go_enter Tryz.func118, Tryz.ntmps118
 go_wp2_with (first
  | ((fail_if_success have := g2); (with_reducible apply z0h H); (case hgd | ho | hx => exact rfl); clear H; intro w2 g2 H _ _; go_simp)
  | ((fail_if_success have := g3); (with_reducible apply z0h H); (case hgd | ho | hx => exact rfl); clear H; intro w3 g3 H _ _; go_simp)
  | ((fail_if_success have := g4); (with_reducible apply z0b nilE H); (case hgd | ho => exact rfl); clear H; intro w4 g4 H _ _; go_simp))
 refine wp_region_noPanic ?_
 refine wp_region_held_drew (S := fun W => W.heap[g2]? = some (Blk 29 .u64 8 (NZ f)) ∧ W.heap[g3]? = some (Blk 29 .u64 8 (NZ g))) (by kernel_rfl) (⟨H.out.drew.row 2 rfl, H.out.drew.row 1 rfl⟩) (fun hH => ?_)
 replace H := Lib.hid H.out.drew
 generalize World.drew _ = w8 at *
 refine z0f 0 7 rowE rfl rfl rfl hH rfl rfl (fun _ h => h.1) ?_
 try simp only [Act.put, qa, qb, qc]
 refine z0f 1 8 rowE rfl rfl rfl hH rfl rfl (fun _ h => h.1) ?_
 try simp only [Act.put, qa, qb, qc]
 refine z0f 2 9 rowE rfl rfl rfl hH rfl rfl (fun _ h => h.2) ?_
 try simp only [Act.put, qa, qb, qc]
 refine rdn [3, 6] (rdc rfl (fun K hK => ?_) (rdc rfl (fun K hK => ?_) rdz))
 ·skip
  go_simp
  refine (mul_k _ HF.out HG.out).mono ?_
  rintro e wc ⟨h10, rfl, hv, hb⟩
  replace H := hcall H hb
  have HV10 := Lib.hid hv
  clear hH
  refine hK.out _ _ ⟨H.out.row 2 rfl, H.out.row 1 rfl⟩ fun hH => ?_
  clear hK K hb hv
  try simp only [Act.put, qa, qb, qc]
  refine rdn [4, 6] (rdc rfl (fun K hK => ?_) (rdc rfl (fun K hK => ?_) rdz))
  ·skip
   go_simp
   refine (z6x _ HV10.out).mono ?_
   rintro e wc ⟨h11, rfl, hv, hb⟩
   replace H := hcall H hb
   have HV11 := Lib.hid hv
   clear hH
   refine hK.out _ _ ⟨H.out.row 2 rfl, H.out.row 1 rfl⟩ fun hH => ?_
   clear hK K hb hv
   try simp only [Act.put, qa, qb, qc]
   refine rdn [5, 6] (rdc rfl (fun K hK => ?_) (rdc rfl (fun K hK => ?_) rdz))
   ·skip
    go_simp
    refine (mul_k _ HF.out HV11.out).mono ?_
    rintro e wc ⟨h12, rfl, hv, hb⟩
    replace H := hcall H hb
    have HV12 := Lib.hid hv
    clear hH
    refine hK.out _ _ ⟨H.out.row 2 rfl, H.out.row 1 rfl⟩ fun hH => ?_
    clear hK K hb hv
    try simp only [Act.put, qa, qb, qc]
    refine rd1 6 rfl fun K hK => ?_
    refine z07 6 rfl nilE H.out rfl ?_
    intro w6 g6 H3
    replace H := Lib.hid H3
    clear hH
    refine hK.out _ _ ⟨H.out.row 3 rfl, H.out.row 2 rfl⟩ fun hH => ?_
    clear hK K H3
    try simp only [Act.put, qa, qb, qc]
    refine rd1 7 rfl fun K hK => ?_
    refine z0d 0 rowE H.out rfl rfl rfl rfl ?_
    intro ws HS
    simp only [qb] at HS
    replace H := Lib.hid HS
    clear hH
    refine hK.out _ _ ⟨H.out.row 3 rfl, H.out.row 2 rfl⟩ fun hH => ?_
    clear hK K HS
    try simp only [Act.put, qa]
    try simp only [Act.put]
    refine wpAnyH_done (by kernel_rfl) ?_ _
    refine NoPanic.normal ?_
    clear hH
    have HR : Hid (EK h12 (rat eC u v)) := Lib.hid HV12.out
    clear HV10 HV11 HV12
    go_wp2_with fail
    refine wp_region_noPanic ?_
    refine wp_region_held_drew (S := fun W => W.heap[g6]? = some (Blk 29 .u64 8 (NZ h12)) ∧ W.heap[g3]? = some (Blk 29 .u64 8 (NZ g)) ∧ W.heap[g2]? = some (Blk 29 .u64 8 (NZ f))) (by kernel_rfl) (⟨H.out.drew.row 0 rfl, H.out.drew.row 2 rfl, H.out.drew.row 3 rfl⟩) (fun hH => ?_)
    replace H := Lib.hid H.out.drew
    generalize World.drew _ = w8 at *
    refine z0f 0 13 rowE rfl rfl rfl hH rfl rfl (fun _ h => h.1) ?_
    try simp only [Act.put, qa, qb, qc]
    refine z0f 2 15 rowE rfl rfl rfl hH rfl rfl (fun _ h => h.2.1) ?_
    try simp only [Act.put, qa, qb, qc]
    refine z0f 3 16 rowE rfl rfl rfl hH rfl rfl (fun _ h => h.1) ?_
    try simp only [Act.put, qa, qb, qc]
    refine z0f 6 19 rowE rfl rfl rfl hH rfl rfl (fun _ h => h.2.2) ?_
    try simp only [Act.put, qa, qb, qc]
    refine rd1 1 rfl fun K hK => ?_
    go_simp
    refine (abs_k _ (HT.out.below H.out.bel) HR.out).mono ?_
    rintro e wc ⟨h14, rfl, hv, hb⟩
    replace H := hcall H hb
    have HV14 := Lib.hid hv
    clear hH
    refine hK.out _ _ ⟨H.out.row 0 rfl, H.out.row 2 rfl, H.out.row 3 rfl⟩ fun hH => ?_
    clear hK K hb hv
    try simp only [Act.put, qa, qb, qc]
    refine rd1 4 rfl fun K hK => ?_
    go_simp
    refine (z0m _ HR.out).mono ?_
    rintro e wc ⟨h17, rfl, hv, hb⟩
    replace H := hcall H hb
    have HV17 := Lib.hid hv
    clear hH
    refine hK.out _ _ ⟨H.out.row 0 rfl, H.out.row 2 rfl, H.out.row 3 rfl⟩ fun hH => ?_
    clear hK K hb hv
    try simp only [Act.put, qa, qb, qc]
    refine rd1 5 rfl fun K hK => ?_
    go_simp
    refine (mul_k _ HG.out HV17.out).mono ?_
    rintro e wc ⟨h18, rfl, hv, hb⟩
    replace H := hcall H hb
    have HV18 := Lib.hid hv
    clear hH
    refine hK.out _ _ ⟨H.out.row 0 rfl, H.out.row 2 rfl, H.out.row 3 rfl⟩ fun hH => ?_
    clear hK K hb hv
    try simp only [Act.put, qa, qb, qc]
    refine rd1 7 rfl fun K hK => ?_
    go_simp
    refine (z4o _ (HT.out.below H.out.bel) HV18.out HF.out).mono ?_
    rintro e wc ⟨rfl, hb⟩
    replace H := hcall H hb
    clear hH
    refine hK.out _ _ ⟨H.out.row 0 rfl, H.out.row 2 rfl, H.out.row 3 rfl⟩ fun hH => ?_
    clear hK K hb
    try simp only [Act.put, qa, qb, qc]
    refine rd1 8 rfl fun K hK => ?_
    refine z0d 1 rowE H.out rfl rfl rfl rfl ?_
    intro ws HS
    simp only [qb, qc] at HS
    replace H := Lib.hid HS
    clear hH
    refine hK.out _ _ ⟨H.out.row 0 rfl, H.out.row 2 rfl, H.out.row 3 rfl⟩ fun hH => ?_
    clear hK K HS
    try simp only [Act.put, qa]
    refine z0a 9 5 (.bool (decide ((v * ((rat eC u v) * (rat eC u v))) = u))) rfl rfl rfl hH (fun w hw => by go_simp) ?_
    try simp only [Act.put]
    try simp only [Act.put]
    refine wpAnyH_done (by kernel_rfl) ?_ _
    refine NoPanic.normal ?_
    clear hH
    go_wp2_with fail
    exact bodyPost_ret (z0n 1 rowE rfl _ H rfl rfl rfl) rfl ⟨_, rfl, HV14.out, H.out.bel⟩
   ·skip
    refine z07 6 rfl nilE H.out rfl ?_
    intro w6 g6 H3
    replace H := Lib.hid H3
    clear hH
    refine hK.out _ _ ⟨H.out.row 3 rfl, H.out.row 2 rfl⟩ fun hH => ?_
    clear hK K H3
    try simp only [Act.put, qa, qb, qc]
    refine rd1 5 rfl fun K hK => ?_
    go_simp
    refine (mul_k _ HF.out HV11.out).mono ?_
    rintro e wc ⟨h12, rfl, hv, hb⟩
    replace H := hcall H hb
    have HV12 := Lib.hid hv
    clear hH
    refine hK.out _ _ ⟨H.out.row 3 rfl, H.out.row 2 rfl⟩ fun hH => ?_
    clear hK K hb hv
    try simp only [Act.put, qa, qb, qc]
    refine rd1 7 rfl fun K hK => ?_
    refine z0d 0 rowE H.out rfl rfl rfl rfl ?_
    intro ws HS
    simp only [qb] at HS
    replace H := Lib.hid HS
    clear hH
    refine hK.out _ _ ⟨H.out.row 3 rfl, H.out.row 2 rfl⟩ fun hH => ?_
    clear hK K HS
    try simp only [Act.put, qa]
    try simp only [Act.put]
    refine wpAnyH_done (by kernel_rfl) ?_ _
    refine NoPanic.normal ?_
    clear hH
    have HR : Hid (EK h12 (rat eC u v)) := Lib.hid HV12.out
    clear HV10 HV11 HV12
    go_wp2_with fail
    refine wp_region_noPanic ?_
    refine wp_region_held_drew (S := fun W => W.heap[g6]? = some (Blk 29 .u64 8 (NZ h12)) ∧ W.heap[g3]? = some (Blk 29 .u64 8 (NZ g)) ∧ W.heap[g2]? = some (Blk 29 .u64 8 (NZ f))) (by kernel_rfl) (⟨H.out.drew.row 0 rfl, H.out.drew.row 2 rfl, H.out.drew.row 3 rfl⟩) (fun hH => ?_)
    replace H := Lib.hid H.out.drew
    generalize World.drew _ = w8 at *
    refine z0f 0 13 rowE rfl rfl rfl hH rfl rfl (fun _ h => h.1) ?_
    try simp only [Act.put, qa, qb, qc]
    refine z0f 2 15 rowE rfl rfl rfl hH rfl rfl (fun _ h => h.2.1) ?_
    try simp only [Act.put, qa, qb, qc]
    refine z0f 3 16 rowE rfl rfl rfl hH rfl rfl (fun _ h => h.1) ?_
    try simp only [Act.put, qa, qb, qc]
    refine z0f 6 19 rowE rfl rfl rfl hH rfl rfl (fun _ h => h.2.2) ?_
    try simp only [Act.put, qa, qb, qc]
    refine rd1 1 rfl fun K hK => ?_
    go_simp
    refine (abs_k _ (HT.out.below H.out.bel) HR.out).mono ?_
    rintro e wc ⟨h14, rfl, hv, hb⟩
    replace H := hcall H hb
    have HV14 := Lib.hid hv
    clear hH
    refine hK.out _ _ ⟨H.out.row 0 rfl, H.out.row 2 rfl, H.out.row 3 rfl⟩ fun hH => ?_
    clear hK K hb hv
    try simp only [Act.put, qa, qb, qc]
    refine rd1 4 rfl fun K hK => ?_
    go_simp
    refine (z0m _ HR.out).mono ?_
    rintro e wc ⟨h17, rfl, hv, hb⟩
    replace H := hcall H hb
    have HV17 := Lib.hid hv
    clear hH
    refine hK.out _ _ ⟨H.out.row 0 rfl, H.out.row 2 rfl, H.out.row 3 rfl⟩ fun hH => ?_
    clear hK K hb hv
    try simp only [Act.put, qa, qb, qc]
    refine rd1 5 rfl fun K hK => ?_
    go_simp
    refine (mul_k _ HG.out HV17.out).mono ?_
    rintro e wc ⟨h18, rfl, hv, hb⟩
    replace H := hcall H hb
    have HV18 := Lib.hid hv
    clear hH
    refine hK.out _ _ ⟨H.out.row 0 rfl, H.out.row 2 rfl, H.out.row 3 rfl⟩ fun hH => ?_
    clear hK K hb hv
    try simp only [Act.put, qa, qb, qc]
    refine rd1 7 rfl fun K hK => ?_
    go_simp
    refine (z4o _ (HT.out.below H.out.bel) HV18.out HF.out).mono ?_
    rintro e wc ⟨rfl, hb⟩
    replace H := hcall H hb
    clear hH
    refine hK.out _ _ ⟨H.out.row 0 rfl, H.out.row 2 rfl, H.out.row 3 rfl⟩ fun hH => ?_
    clear hK K hb
    try simp only [Act.put, qa, qb, qc]
    refine rd1 8 rfl fun K hK => ?_
    refine z0d 1 rowE H.out rfl rfl rfl rfl ?_
    intro ws HS
    simp only [qb, qc] at HS
    replace H := Lib.hid HS
    clear hH
    refine hK.out _ _ ⟨H.out.row 0 rfl, H.out.row 2 rfl, H.out.row 3 rfl⟩ fun hH => ?_
    clear hK K HS
    try simp only [Act.put, qa]
    refine z0a 9 5 (.bool (decide ((v * ((rat eC u v) * (rat eC u v))) = u))) rfl rfl rfl hH (fun w hw => by go_simp) ?_
    try simp only [Act.put]
    try simp only [Act.put]
    refine wpAnyH_done (by kernel_rfl) ?_ _
    refine NoPanic.normal ?_
    clear hH
    go_wp2_with fail
    exact bodyPost_ret (z0n 1 rowE rfl _ H rfl rfl rfl) rfl ⟨_, rfl, HV14.out, H.out.bel⟩
  ·skip
   refine z07 6 rfl nilE H.out rfl ?_
   intro w6 g6 H3
   replace H := Lib.hid H3
   clear hH
   refine hK.out _ _ ⟨H.out.row 3 rfl, H.out.row 2 rfl⟩ fun hH => ?_
   clear hK K H3
   try simp only [Act.put, qa, qb, qc]
   refine rd1 4 rfl fun K hK => ?_
   go_simp
   refine (z6x _ HV10.out).mono ?_
   rintro e wc ⟨h11, rfl, hv, hb⟩
   replace H := hcall H hb
   have HV11 := Lib.hid hv
   clear hH
   refine hK.out _ _ ⟨H.out.row 3 rfl, H.out.row 2 rfl⟩ fun hH => ?_
   clear hK K hb hv
   try simp only [Act.put, qa, qb, qc]
   refine rd1 5 rfl fun K hK => ?_
   go_simp
   refine (mul_k _ HF.out HV11.out).mono ?_
   rintro e wc ⟨h12, rfl, hv, hb⟩
   replace H := hcall H hb
   have HV12 := Lib.hid hv
   clear hH
   refine hK.out _ _ ⟨H.out.row 3 rfl, H.out.row 2 rfl⟩ fun hH => ?_
   clear hK K hb hv
   try simp only [Act.put, qa, qb, qc]
   refine rd1 7 rfl fun K hK => ?_
   refine z0d 0 rowE H.out rfl rfl rfl rfl ?_
   intro ws HS
   simp only [qb] at HS
   replace H := Lib.hid HS
   clear hH
   refine hK.out _ _ ⟨H.out.row 3 rfl, H.out.row 2 rfl⟩ fun hH => ?_
   clear hK K HS
   try simp only [Act.put, qa]
   try simp only [Act.put]
   refine wpAnyH_done (by kernel_rfl) ?_ _
   refine NoPanic.normal ?_
   clear hH
   have HR : Hid (EK h12 (rat eC u v)) := Lib.hid HV12.out
   clear HV10 HV11 HV12
   go_wp2_with fail
   refine wp_region_noPanic ?_
   refine wp_region_held_drew (S := fun W => W.heap[g6]? = some (Blk 29 .u64 8 (NZ h12)) ∧ W.heap[g3]? = some (Blk 29 .u64 8 (NZ g)) ∧ W.heap[g2]? = some (Blk 29 .u64 8 (NZ f))) (by kernel_rfl) (⟨H.out.drew.row 0 rfl, H.out.drew.row 2 rfl, H.out.drew.row 3 rfl⟩) (fun hH => ?_)
   replace H := Lib.hid H.out.drew
   generalize World.drew _ = w8 at *
   refine z0f 0 13 rowE rfl rfl rfl hH rfl rfl (fun _ h => h.1) ?_
   try simp only [Act.put, qa, qb, qc]
   refine z0f 2 15 rowE rfl rfl rfl hH rfl rfl (fun _ h => h.2.1) ?_
   try simp only [Act.put, qa, qb, qc]
   refine z0f 3 16 rowE rfl rfl rfl hH rfl rfl (fun _ h => h.1) ?_
   try simp only [Act.put, qa, qb, qc]
   refine z0f 6 19 rowE rfl rfl rfl hH rfl rfl (fun _ h => h.2.2) ?_
   try simp only [Act.put, qa, qb, qc]
   refine rd1 1 rfl fun K hK => ?_
   go_simp
   refine (abs_k _ (HT.out.below H.out.bel) HR.out).mono ?_
   rintro e wc ⟨h14, rfl, hv, hb⟩
   replace H := hcall H hb
   have HV14 := Lib.hid hv
   clear hH
   refine hK.out _ _ ⟨H.out.row 0 rfl, H.out.row 2 rfl, H.out.row 3 rfl⟩ fun hH => ?_
   clear hK K hb hv
   try simp only [Act.put, qa, qb, qc]
   refine rd1 4 rfl fun K hK => ?_
   go_simp
   refine (z0m _ HR.out).mono ?_
   rintro e wc ⟨h17, rfl, hv, hb⟩
   replace H := hcall H hb
   have HV17 := Lib.hid hv
   clear hH
   refine hK.out _ _ ⟨H.out.row 0 rfl, H.out.row 2 rfl, H.out.row 3 rfl⟩ fun hH => ?_
   clear hK K hb hv
   try simp only [Act.put, qa, qb, qc]
   refine rd1 5 rfl fun K hK => ?_
   go_simp
   refine (mul_k _ HG.out HV17.out).mono ?_
   rintro e wc ⟨h18, rfl, hv, hb⟩
   replace H := hcall H hb
   have HV18 := Lib.hid hv
   clear hH
   refine hK.out _ _ ⟨H.out.row 0 rfl, H.out.row 2 rfl, H.out.row 3 rfl⟩ fun hH => ?_
   clear hK K hb hv
   try simp only [Act.put, qa, qb, qc]
   refine rd1 7 rfl fun K hK => ?_
   go_simp
   refine (z4o _ (HT.out.below H.out.bel) HV18.out HF.out).mono ?_
   rintro e wc ⟨rfl, hb⟩
   replace H := hcall H hb
   clear hH
   refine hK.out _ _ ⟨H.out.row 0 rfl, H.out.row 2 rfl, H.out.row 3 rfl⟩ fun hH => ?_
   clear hK K hb
   try simp only [Act.put, qa, qb, qc]
   refine rd1 8 rfl fun K hK => ?_
   refine z0d 1 rowE H.out rfl rfl rfl rfl ?_
   intro ws HS
   simp only [qb, qc] at HS
   replace H := Lib.hid HS
   clear hH
   refine hK.out _ _ ⟨H.out.row 0 rfl, H.out.row 2 rfl, H.out.row 3 rfl⟩ fun hH => ?_
   clear hK K HS
   try simp only [Act.put, qa]
   refine z0a 9 5 (.bool (decide ((v * ((rat eC u v) * (rat eC u v))) = u))) rfl rfl rfl hH (fun w hw => by go_simp) ?_
   try simp only [Act.put]
   try simp only [Act.put]
   refine wpAnyH_done (by kernel_rfl) ?_ _
   refine NoPanic.normal ?_
   clear hH
   go_wp2_with fail
   exact bodyPost_ret (z0n 1 rowE rfl _ H rfl rfl rfl) rfl ⟨_, rfl, HV14.out, H.out.bel⟩
 ·skip
  refine z07 6 rfl nilE H.out rfl ?_
  intro w6 g6 H3
  replace H := Lib.hid H3
  clear hH
  refine hK.out _ _ ⟨H.out.row 3 rfl, H.out.row 2 rfl⟩ fun hH => ?_
  clear hK K H3
  try simp only [Act.put, qa, qb, qc]
  refine rd1 3 rfl fun K hK => ?_
  go_simp
  refine (mul_k _ HF.out HG.out).mono ?_
  rintro e wc ⟨h10, rfl, hv, hb⟩
  replace H := hcall H hb
  have HV10 := Lib.hid hv
  clear hH
  refine hK.out _ _ ⟨H.out.row 3 rfl, H.out.row 2 rfl⟩ fun hH => ?_
  clear hK K hb hv
  try simp only [Act.put, qa, qb, qc]
  refine rd1 4 rfl fun K hK => ?_
  go_simp
  refine (z6x _ HV10.out).mono ?_
  rintro e wc ⟨h11, rfl, hv, hb⟩
  replace H := hcall H hb
  have HV11 := Lib.hid hv
  clear hH
  refine hK.out _ _ ⟨H.out.row 3 rfl, H.out.row 2 rfl⟩ fun hH => ?_
  clear hK K hb hv
  try simp only [Act.put, qa, qb, qc]
  refine rd1 5 rfl fun K hK => ?_
  go_simp
  refine (mul_k _ HF.out HV11.out).mono ?_
  rintro e wc ⟨h12, rfl, hv, hb⟩
  replace H := hcall H hb
  have HV12 := Lib.hid hv
  clear hH
  refine hK.out _ _ ⟨H.out.row 3 rfl, H.out.row 2 rfl⟩ fun hH => ?_
  clear hK K hb hv
  try simp only [Act.put, qa, qb, qc]
  refine rd1 7 rfl fun K hK => ?_
  refine z0d 0 rowE H.out rfl rfl rfl rfl ?_
  intro ws HS
  simp only [qb] at HS
  replace H := Lib.hid HS
  clear hH
  refine hK.out _ _ ⟨H.out.row 3 rfl, H.out.row 2 rfl⟩ fun hH => ?_
  clear hK K HS
  try simp only [Act.put, qa]
  try simp only [Act.put]
  refine wpAnyH_done (by kernel_rfl) ?_ _
  refine NoPanic.normal ?_
  clear hH
  have HR : Hid (EK h12 (rat eC u v)) := Lib.hid HV12.out
  clear HV10 HV11 HV12
  go_wp2_with fail
  refine wp_region_noPanic ?_
  refine wp_region_held_drew (S := fun W => W.heap[g6]? = some (Blk 29 .u64 8 (NZ h12)) ∧ W.heap[g3]? = some (Blk 29 .u64 8 (NZ g)) ∧ W.heap[g2]? = some (Blk 29 .u64 8 (NZ f))) (by kernel_rfl) (⟨H.out.drew.row 0 rfl, H.out.drew.row 2 rfl, H.out.drew.row 3 rfl⟩) (fun hH => ?_)
  replace H := Lib.hid H.out.drew
  generalize World.drew _ = w8 at *
  refine z0f 0 13 rowE rfl rfl rfl hH rfl rfl (fun _ h => h.1) ?_
  try simp only [Act.put, qa, qb, qc]
  refine z0f 2 15 rowE rfl rfl rfl hH rfl rfl (fun _ h => h.2.1) ?_
  try simp only [Act.put, qa, qb, qc]
  refine z0f 3 16 rowE rfl rfl rfl hH rfl rfl (fun _ h => h.1) ?_
  try simp only [Act.put, qa, qb, qc]
  refine z0f 6 19 rowE rfl rfl rfl hH rfl rfl (fun _ h => h.2.2) ?_
  try simp only [Act.put, qa, qb, qc]
  refine rd1 1 rfl fun K hK => ?_
  go_simp
  refine (abs_k _ (HT.out.below H.out.bel) HR.out).mono ?_
  rintro e wc ⟨h14, rfl, hv, hb⟩
  replace H := hcall H hb
  have HV14 := Lib.hid hv
  clear hH
  refine hK.out _ _ ⟨H.out.row 0 rfl, H.out.row 2 rfl, H.out.row 3 rfl⟩ fun hH => ?_
  clear hK K hb hv
  try simp only [Act.put, qa, qb, qc]
  refine rd1 4 rfl fun K hK => ?_
  go_simp
  refine (z0m _ HR.out).mono ?_
  rintro e wc ⟨h17, rfl, hv, hb⟩
  replace H := hcall H hb
  have HV17 := Lib.hid hv
  clear hH
  refine hK.out _ _ ⟨H.out.row 0 rfl, H.out.row 2 rfl, H.out.row 3 rfl⟩ fun hH => ?_
  clear hK K hb hv
  try simp only [Act.put, qa, qb, qc]
  refine rd1 5 rfl fun K hK => ?_
  go_simp
  refine (mul_k _ HG.out HV17.out).mono ?_
  rintro e wc ⟨h18, rfl, hv, hb⟩
  replace H := hcall H hb
  have HV18 := Lib.hid hv
  clear hH
  refine hK.out _ _ ⟨H.out.row 0 rfl, H.out.row 2 rfl, H.out.row 3 rfl⟩ fun hH => ?_
  clear hK K hb hv
  try simp only [Act.put, qa, qb, qc]
  refine rd1 7 rfl fun K hK => ?_
  go_simp
  refine (z4o _ (HT.out.below H.out.bel) HV18.out HF.out).mono ?_
  rintro e wc ⟨rfl, hb⟩
  replace H := hcall H hb
  clear hH
  refine hK.out _ _ ⟨H.out.row 0 rfl, H.out.row 2 rfl, H.out.row 3 rfl⟩ fun hH => ?_
  clear hK K hb
  try simp only [Act.put, qa, qb, qc]
  refine rd1 8 rfl fun K hK => ?_
  refine z0d 1 rowE H.out rfl rfl rfl rfl ?_
  intro ws HS
  simp only [qb, qc] at HS
  replace H := Lib.hid HS
  clear hH
  refine hK.out _ _ ⟨H.out.row 0 rfl, H.out.row 2 rfl, H.out.row 3 rfl⟩ fun hH => ?_
  clear hK K HS
  try simp only [Act.put, qa]
  refine z0a 9 5 (.bool (decide ((v * ((rat eC u v) * (rat eC u v))) = u))) rfl rfl rfl hH (fun w hw => by go_simp) ?_
  try simp only [Act.put]
  try simp only [Act.put]
  refine wpAnyH_done (by kernel_rfl) ?_ _
  refine NoPanic.normal ?_
  clear hH
  go_wp2_with fail
  exact bodyPost_ret (z0n 1 rowE rfl _ H rfl rfl rfl) rfl ⟨_, rfl, HV14.out, H.out.bel⟩
section
variable {f g : Nat → Nat} {a b : K}
theorem equal_kt (w : World) (hT : Tp w) (hf : EK f a) (hg : EK g b) (h : a = b) :
  Calls Tryz.prog 57 #[EV f, EV g] w fun e w' => e = .returned (.bool true) ∧ Below w.heap.size w w' :=
 (z4o w hT hf hg).mono fun _ _ ⟨he, hb⟩ => ⟨by rw [he, decide_eq_true h], hb⟩
theorem equal_kf (w : World) (hT : Tp w) (hf : EK f a) (hg : EK g b) (h : a ≠ b) :
  Calls Tryz.prog 57 #[EV f, EV g] w fun e w' => e = .returned (.bool false) ∧ Below w.heap.size w w' :=
 (z4o w hT hf hg).mono fun _ _ ⟨he, hb⟩ => ⟨by rw [he, decide_eq_false h], hb⟩
end
end Go.Proofs.YtoeokhfhcpcjlaaGreatDoor
