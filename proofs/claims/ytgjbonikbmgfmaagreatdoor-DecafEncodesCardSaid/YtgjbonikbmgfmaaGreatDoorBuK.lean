/- Lemmas; no statement is proved here. -/
import Derived.Test.YtgjbonikbmgfmaaGreatDoorBuE
import Derived.Test.YtgjbonikbmgfmaaGreatDoorBuP
set_option maxRecDepth 8000
set_option maxHeartbeats 3200000
namespace Go.Proofs.YtgjbonikbmgfmaaGreatDoor
open Go.RowKit
instance nz_pN : NeZero pN := ⟨by decide⟩
abbrev K := Fin pN
theorem z0q : prime pN := prime_726838724295606890549323807888004534353641360687318060281490199180612328166730772686396383698676545930088884461843637361053498018365439
def eC : Nat := (pN - 3) / 4
theorem pN_c : pN = 4 * eC + 3 := by decide +kernel
theorem y5g : pN % 2 = 1 := by decide +kernel
theorem eC_ne : eC ≠ 0 := by decide +kernel
def EK (f : Nat → Nat) (a : K) : Prop := Val f a.val
theorem EK.lim {f : Nat → Nat} {a : K} (h : EK f a) : Lim f := h.1
def zC (n : Int) : K := ⟨(n % pZ).toNat, by
 have h1 := Int.emod_lt_of_pos n (show (0 : Int) < pZ by decide)
 have h2 := Int.emod_nonneg n (show pZ ≠ 0 by decide)
 rw [y64] at h1 h2 ⊢
 omega⟩
theorem z00 : zC 1 = 1 := by decide +kernel
theorem EK.eq {f : Nat → Nat} {a b : K} (h : EK f a) (e : a = b) : EK f b := e ▸ h
section
variable {f g : Nat → Nat} {a b : K}
theorem z6o (w : World) (hf : EK f a) (hg : EK g b) :
  Calls Tryz.prog 72 #[EV f, EV g] w fun e w' => ∃ h, e = .returned (EV h) ∧ EK h (a + b) ∧ Below w.heap.size w w' :=
 (add_v w hf hg).mono fun _ _ ⟨h, he, hv, hb⟩ => ⟨h, he, by unfold EK; rw [Fin.val_add]; exact hv, hb⟩
theorem z1t (w : World) (hT : Tp w) (hf : EK f a) (hg : EK g b) :
  Calls Tryz.prog 73 #[EV f, EV g] w fun e w' => ∃ h, e = .returned (EV h) ∧ EK h (a - b) ∧ Below w.heap.size w w' :=
 (sub_v w hT hf hg).mono fun _ _ ⟨h, he, hv, hb⟩ => ⟨h, he, by unfold EK; rw [Fin.sub_def]; rw [Nat.add_comm]; exact hv, hb⟩
theorem neg_k (w : World) (hT : Tp w) (hf : EK f a) :
  Calls Tryz.prog 113 #[EV f] w fun e w' => ∃ h, e = .returned (EV h) ∧ EK h (-a) ∧ Below w.heap.size w w' :=
 (neg_v w hT hf).mono fun _ _ ⟨h, he, hv, hb⟩ => ⟨h, he, hv, hb⟩
theorem z16 (w : World) (hf : EK f a) (hg : EK g b) :
  Calls Tryz.prog 71 #[EV f, EV g] w fun e w' => ∃ h, e = .returned (EV h) ∧ EK h (a * b) ∧ Below w.heap.size w w' :=
 (mul_v w hf hg).mono fun _ _ ⟨h, he, hv, hb⟩ => ⟨h, he, by unfold EK; rw [Fin.val_mul]; exact hv, hb⟩
theorem z0f (w : World) (hf : EK f a) :
  Calls Tryz.prog 88 #[EV f] w fun e w' => ∃ h, e = .returned (EV h) ∧ EK h (a * a) ∧ Below w.heap.size w w' :=
 (square_v w hf).mono fun _ _ ⟨h, he, hv, hb⟩ => ⟨h, he, by unfold EK; rw [Fin.val_mul]; exact hv, hb⟩
theorem z3w (n : Int) (w : World) (hT : Tp w) (h1 : -9223372036854775808 ≤ n) (h2 : n ≤ 9223372036854775807) :
  Calls Tryz.prog 75 #[.int .i64 n] w fun e w' => ∃ h, e = .returned (EV h) ∧ EK h (zC n) ∧ Below w.heap.size w w' := int_v n w hT h1 h2
theorem z8g (w : World) (hT : Tp w) (hf : EK f a) (hg : EK g b) :
  Calls Tryz.prog 122 #[EV f, EV g] w fun e w' => e = .returned (.bool (decide (a = b))) ∧ Below w.heap.size w w' :=
 (equal_v w hT hf hg).mono fun _ _ ⟨he, hb⟩ => ⟨by rw [he, decide_eq_decide.2 (Fin.ext_iff (a := a) (b := b)).symm], hb⟩
theorem zero_k (w : World) (hf : EK f a) :
  Calls Tryz.prog 115 #[EV f] w fun e w' => e = .returned (.bool (decide (a = 0))) ∧ Below w.heap.size w w' :=
 (zero_v w hf).mono fun _ _ ⟨he, hb⟩ => ⟨by rw [he, decide_eq_decide.2 (z3d (a := a)).symm], hb⟩
theorem y8b {n : Int} (hf : EK f a) (hg : EK g b) : EK (y37 n f g) (if n % 2 = 0 then a else b) := by
 unfold y37
 split
 ·exact hf
 ·exact hg
theorem zero_ek : EK (fun _ => 0) 0 := zero_val
end
section
variable (a b : K) (w : World)
theorem z0d : Calls Tryz.prog 49 #[FV a.val, FV b.val] w fun e w' => e = .returned (FV (a * b).val) ∧ Below w.heap.size w w' := by
 rw [Fin.val_mul]
 exact refMul_any _ _ w a.isLt b.isLt
theorem z7e : Calls Tryz.prog 95 #[FV a.val] w fun e w' => e = .returned (FV (-a).val) ∧ Below w.heap.size w w' := z71 _ w a.isLt
theorem z0p (n : Int) (h1 : -9223372036854775808 ≤ n) (h2 : n ≤ 9223372036854775807) :
  Calls Tryz.prog 52 #[.int .i64 n] w fun e w' => e = .returned (FV (zC n).val) ∧ Below w.heap.size w w' := refInt_any n w h1 h2
end
theorem sq_step (a : K) (i : Nat) : a ^ 2 ^ i * a ^ 2 ^ i = a ^ 2 ^ (i + 1) := by
 rw [← z14, Nat.pow_succ]
 congr 1
 omega
theorem y2k {f : Nat → Nat} {a : K} (n : Nat) (w : World) (hn : n ≤ 1000) (hf : EK f a) :
  Calls Tryz.prog 171 #[EV f, .int .i64 (n : Int)] w fun e w' => ∃ h, e = .returned (EV h) ∧ EK h (a ^ 2 ^ n) ∧ Below w.heap.size w w' := by
 have HF := za hf
 clear hf
 have H := za (Ow.start w)
 go_enter Tryz.func171, Tryz.ntmps171
 go_wp2_with (first
  | ((fail_if_success have := g1); (with_reducible apply zw H); (case hgd | ho | hx => exact rfl); clear H; intro w1 g1 H _ _; go_simp)
  | ((fail_if_success have := g2); (with_reducible apply ze z9 H); (case hgd | ho => exact rfl); clear H; intro w2 g2 H _ _; go_simp))
 go_loopw [6] (fun v wr => ∃ (i : Nat) (h : Nat → Nat), i ≤ n ∧ v = .int .i64 i ∧ EK h (a ^ 2 ^ i) ∧ Ow w wr [(g2, zv 30 .u64 8 fun _ => 0), (g1, zv 30 .u64 8 (NZ h))]) (fun v _ => n - (intOf v).toNat)
 case atStart => exact ⟨0, f, by omega, rfl, HF.out.eq (by grind), H.out⟩
 case round =>
  clear H
  obtain ⟨i, h, hi, rfl, hv, HR⟩ := hrel
  have HV := za hv
  clear hv
  by_cases hlt : i < n
  ·have hid : decide ((i : Int) < (n : Int)) = true := by simp; omega
   have iN : (i : Int) < 1000 := by omega
   have H := za HR
   clear HR
   have Hlt := za hlt
   clear hlt hi hn
   go_wp2_with (first
    | ((with_reducible apply zr zt H); (case hgd | ho | hx => exact rfl); (case hi => repeat first|exact z5|apply z8); intro _ _; go_simp)
    | ((with_reducible refine (z0f _ HV.out).mono ?_); rintro e wc ⟨h2, rfl, hv, hb⟩; replace H := zd H hb; clear hb; have HV2 := za hv; clear hv)
    | ((with_reducible apply zj zt H); (case hgd | ho | hx | hy => exact rfl); (case hi => repeat first|exact z5|apply z8); clear H; intro ws H _ _; simp only [qb, qc] at H; go_simp))
   go_roundw
   case rel => exact ⟨i + 1, h2, by have := Hlt.out; omega, by go_num, HV2.out.eq (sq_step _ _), H.out⟩
   case measure => have := Hlt.out; simp [intOf]; omega
  ·obtain rfl : i = n := by omega
   clear hlt hi
   have hid : decide ((i : Int) < (i : Int)) = false := by simp
   have H := za HR
   clear HR
   go_wp2_with (first
    | ((with_reducible apply zr zt H); (case hgd | ho | hx => exact rfl); (case hi => repeat first|exact z5|apply z8); intro _ _; go_simp)
    | ((with_reducible apply zj zt H); (case hgd | ho | hx | hy => exact rfl); (case hi => repeat first|exact z5|apply z8); clear H; intro ws H _ _; simp only [qb] at H; go_simp))
   exact bodyPost_ret (zy 0 zt rfl _ H rfl rfl) rfl ⟨h, rfl, HV.out, H.out.bel⟩
theorem set_at2 {α : Type} {A B : α} {l : List α} {i : Nat} {x y : α} (h : l[i]? = some y) : (A :: B :: l.set i x)[i + 2]? = some x := set_at h
theorem z2p {f g : Nat → Nat} {b c : K} (n : Nat) (z : Int) (hz : z = (n : Int)) (gp i : Nat) (W w : World) (l : List (Nat × Obj)) (hn : n ≤ 1000) (h0 : Ow W w l) (hi : l[i]? = some (gp, zv 30 .u64 8 (NZ f))) (hf : EK f b) (hg : EK g c) :
  Calls Tryz.prog 175 #[.int .i64 z, EV g, .pointer (some ⟨gp, 0, none⟩)] w fun e w' => ∃ h, e = .returned (EV h) ∧ EK h (b ^ 2 ^ n * c) ∧ Ow W w' (l.set i (gp, zv 30 .u64 8 (NZ h))) := by
 subst hz
 have HF := za hf
 have HG := za hg
 have HI := za hi
 have H := za h0
 clear hf hg hi h0
 go_enter Tryz.func175, Tryz.ntmps175
 go_wp2_with (first
  | ((fail_if_success have := g4); (with_reducible apply zw H); (case hgd | ho | hx => exact rfl); clear H; intro w4 g4 H _ _; go_simp)
  | ((with_reducible apply ze z9 H); (case hgd | ho => exact rfl); clear H; intro _ _ H _ _; go_simp))
 refine wp_region_noPanic ?_
 refine wp_region_held_drew (S := fun W => W.heap[g4]? = some (zv 30 .u64 8 (NZ g))) (by kernel_rfl) (H.out.drew.row 1 rfl) (fun hH => ?_)
 replace H := za H.out.drew
 generalize World.drew _ = w8 at *
 refine zh 1 7 (.int .i64 (n : Int)) hH ?_
 refine zk 3 9 zt rfl rfl rfl hH rfl rfl (fun _ h => h) ?_
 refine zn 0 rfl fun K hK => ?_
 refine z4a 6 rfl (i + 2) zt H.out rfl rfl HI.out ?_
 refine hK.out _ _ hH (fun hN => ?_)
 have hH := hN
 clear hN
 refine zn 2 rfl fun K hK => ?_
 go_simp
 refine (y2k n _ hn HF.out).mono ?_
 rintro e wc ⟨h8, rfl, hv, hb⟩
 replace H := zd H hb
 have HV8 := za hv
 refine zc hK (zb H 1) fun hH => ?_
 try simp only [Act.put, qa, qb, qc]
 refine zn 4 rfl fun K hK => ?_
 go_simp
 refine (z16 _ HV8.out HG.out).mono ?_
 rintro e wc ⟨h10, rfl, hv, hb⟩
 replace H := zd H hb
 have HV10 := za hv
 refine zc hK (zb H 1) fun hH => zn 5 rfl fun K hK => ?_
 refine zl (i + 2) zt H.out rfl rfl rfl HI.out ?_
 intro ws HS
 simp only [List.set_cons_succ] at HS
 replace H := za HS
 refine zc hK (zb H 1) fun hH => ?_
 try simp only [Act.put, qa]
 refine zm ?_
 go_wp2_with (first
  | ((with_reducible apply zr zt H); (case hgd | ho | hx => exact rfl); (case hi => exact set_at2 HI.out); intro _ _; go_simp)
  | ((with_reducible apply zj zt H); (case hgd | ho | hx | hy => exact rfl); (case hi => repeat first|exact z5|apply z8); clear H; intro ws H _ _; simp only [qb] at H; go_simp))
 exact bodyPost_ret (zy 0 zt rfl _ H rfl rfl) rfl ⟨h10, rfl, HV10.out, H.out.pop.pop⟩
theorem z3k {a : K} {n x y z : Nat} (h : x * 2 ^ n + y = z) : (a ^ x) ^ 2 ^ n * a ^ y = a ^ z := by rw [← z4z, ← z14, h]
theorem chain_walk {f : Nat → Nat} {a : K} (w : World) (hf : EK f (a ^ 1)) (E1 E2 E3 E4 E5 E6 E7 E8 E9 E10 E11 E12 : Nat) (e1 : 1 * 2 ^ 1 + 1 = E1) (e2 : E1 * 2 ^ 1 + 1 = E2) (e3 : E2 * 2 ^ 3 + E2 = E3) (e4 : E3 * 2 ^ 3 + E2 = E4) (e5 : E4 * 2 ^ 9 + E4 = E5) (e6 : E5 * 2 ^ 1 + 1 = E6) (e7 : E6 * 2 ^ 18 + E5 = E7) (e8 : E7 * 2 ^ 37 + E7 = E8) (e9 : E8 * 2 ^ 37 + E7 = E9) (e10 : E9 * 2 ^ 111 + E9 = E10) (e11 : E10 * 2 ^ 1 + 1 = E11) (e12 : E11 * 2 ^ 223 + E10 = E12) :
  Calls Tryz.prog 136 #[EV f] w fun e w' => ∃ h, e = .returned (EV h) ∧ EK h (a ^ E12) ∧ Below w.heap.size w w' := by
 have V1 := za hf
 have P1 := za (fun (X Y : K) (hX : X = a ^ 1) (hY : Y = a ^ 1) => (show X ^ 2 ^ 1 * Y = a ^ E1 by rw [hX, hY]; exact z3k e1))
 have P2 := za (fun (X Y : K) (hX : X = a ^ E1) (hY : Y = a ^ 1) => (show X ^ 2 ^ 1 * Y = a ^ E2 by rw [hX, hY]; exact z3k e2))
 have P3 := za (fun (X Y : K) (hX : X = a ^ E2) (hY : Y = a ^ E2) => (show X ^ 2 ^ 3 * Y = a ^ E3 by rw [hX, hY]; exact z3k e3))
 have P4 := za (fun (X Y : K) (hX : X = a ^ E3) (hY : Y = a ^ E2) => (show X ^ 2 ^ 3 * Y = a ^ E4 by rw [hX, hY]; exact z3k e4))
 have P5 := za (fun (X Y : K) (hX : X = a ^ E4) (hY : Y = a ^ E4) => (show X ^ 2 ^ 9 * Y = a ^ E5 by rw [hX, hY]; exact z3k e5))
 have P6 := za (fun (X Y : K) (hX : X = a ^ E5) (hY : Y = a ^ 1) => (show X ^ 2 ^ 1 * Y = a ^ E6 by rw [hX, hY]; exact z3k e6))
 have P7 := za (fun (X Y : K) (hX : X = a ^ E6) (hY : Y = a ^ E5) => (show X ^ 2 ^ 18 * Y = a ^ E7 by rw [hX, hY]; exact z3k e7))
 have P8 := za (fun (X Y : K) (hX : X = a ^ E7) (hY : Y = a ^ E7) => (show X ^ 2 ^ 37 * Y = a ^ E8 by rw [hX, hY]; exact z3k e8))
 have P9 := za (fun (X Y : K) (hX : X = a ^ E8) (hY : Y = a ^ E7) => (show X ^ 2 ^ 37 * Y = a ^ E9 by rw [hX, hY]; exact z3k e9))
 have P10 := za (fun (X Y : K) (hX : X = a ^ E9) (hY : Y = a ^ E9) => (show X ^ 2 ^ 111 * Y = a ^ E10 by rw [hX, hY]; exact z3k e10))
 have P11 := za (fun (X Y : K) (hX : X = a ^ E10) (hY : Y = a ^ 1) => (show X ^ 2 ^ 1 * Y = a ^ E11 by rw [hX, hY]; exact z3k e11))
 have P12 := za (fun (X Y : K) (hX : X = a ^ E11) (hY : Y = a ^ E10) => (show X ^ 2 ^ 223 * Y = a ^ E12 by rw [hX, hY]; exact z3k e12))
 clear hf e1 e2 e3 e4 e5 e6 e7 e8 e9 e10 e11 e12
 have H := za (Ow.start w)
 go_enter Tryz.func136, Tryz.ntmps136
 go_wp2_with (first
  | ((with_reducible apply zw H); (case hgd | ho | hx => exact rfl); clear H; intro _ _ H _ _; go_simp)
  | ((fail_if_success have := g2); (with_reducible apply ze z9 H); (case hgd | ho => exact rfl); clear H; intro w2 g2 H _ _; go_simp)
  | ((fail_if_success have := g3); (with_reducible apply ze z9 H); (case hgd | ho => exact rfl); clear H; intro w3 g3 H _ _; go_simp)
  | ((fail_if_success have := g5); (with_reducible apply ze z9 H); (case hgd | ho => exact rfl); clear H; intro w5 g5 H _ _; go_simp)
  | ((fail_if_success have := g6); (with_reducible apply ze z9 H); (case hgd | ho => exact rfl); clear H; intro w6 g6 H _ _; go_simp)
  | ((fail_if_success have := g7); (with_reducible apply ze z9 H); (case hgd | ho => exact rfl); clear H; intro w7 g7 H _ _; go_simp)
  | ((fail_if_success have := g8); (with_reducible apply ze z9 H); (case hgd | ho => exact rfl); clear H; intro w8 g8 H _ _; go_simp)
  | ((fail_if_success have := g9); (with_reducible apply ze z9 H); (case hgd | ho => exact rfl); clear H; intro w9 g9 H _ _; go_simp)
  | ((fail_if_success have := g10); (with_reducible apply ze z9 H); (case hgd | ho => exact rfl); clear H; intro w10 g10 H _ _; go_simp)
  | ((with_reducible apply zr zt H); (case hgd | ho | hx => exact rfl); (case hi => repeat first|exact z5|apply z8); intro _ _; go_simp)
  | ((with_reducible apply zj zt H); (case hgd | ho | hx | hy => exact rfl); (case hi => repeat first|exact z5|apply z8); clear H; intro ws H _ _; simp only [qb] at H; go_simp))
 refine (z2p 1 _ rfl _ 0 _ _ _ (by omega) H.out rfl V1.out V1.out).mono ?_
 rintro e w10 ⟨h1, rfl, hv, H2⟩
 replace H := za H2
 have V1h : Hid (EK h1 (a ^ E1)) := za (hv.eq (P1.out _ _ rfl rfl))
 clear hv H2
 simp only [qb] at H
 go_wp2_with (first
  | ((with_reducible apply zw H); (case hgd | ho | hx => exact rfl); clear H; intro _ _ H _ _; go_simp)
  | ((fail_if_success have := g2); (with_reducible apply ze z9 H); (case hgd | ho => exact rfl); clear H; intro w2 g2 H _ _; go_simp)
  | ((fail_if_success have := g3); (with_reducible apply ze z9 H); (case hgd | ho => exact rfl); clear H; intro w3 g3 H _ _; go_simp)
  | ((fail_if_success have := g5); (with_reducible apply ze z9 H); (case hgd | ho => exact rfl); clear H; intro w5 g5 H _ _; go_simp)
  | ((fail_if_success have := g6); (with_reducible apply ze z9 H); (case hgd | ho => exact rfl); clear H; intro w6 g6 H _ _; go_simp)
  | ((fail_if_success have := g7); (with_reducible apply ze z9 H); (case hgd | ho => exact rfl); clear H; intro w7 g7 H _ _; go_simp)
  | ((fail_if_success have := g8); (with_reducible apply ze z9 H); (case hgd | ho => exact rfl); clear H; intro w8 g8 H _ _; go_simp)
  | ((fail_if_success have := g9); (with_reducible apply ze z9 H); (case hgd | ho => exact rfl); clear H; intro w9 g9 H _ _; go_simp)
  | ((fail_if_success have := g10); (with_reducible apply ze z9 H); (case hgd | ho => exact rfl); clear H; intro w10 g10 H _ _; go_simp)
  | ((with_reducible apply zr zt H); (case hgd | ho | hx => exact rfl); (case hi => repeat first|exact z5|apply z8); intro _ _; go_simp)
  | ((with_reducible apply zj zt H); (case hgd | ho | hx | hy => exact rfl); (case hi => repeat first|exact z5|apply z8); clear H; intro ws H _ _; simp only [qb, qc] at H; go_simp))
 refine (z2p 1 _ rfl _ 0 _ _ _ (by omega) H.out rfl V1h.out V1.out).mono ?_
 rintro e w20 ⟨h2, rfl, hv, H2⟩
 replace H := za H2
 have V2h : Hid (EK h2 (a ^ E2)) := za (hv.eq (P2.out _ _ rfl rfl))
 clear hv H2
 simp only [qb] at H
 go_wp2_with (first
  | ((with_reducible apply zw H); (case hgd | ho | hx => exact rfl); clear H; intro _ _ H _ _; go_simp)
  | ((fail_if_success have := g2); (with_reducible apply ze z9 H); (case hgd | ho => exact rfl); clear H; intro w2 g2 H _ _; go_simp)
  | ((fail_if_success have := g3); (with_reducible apply ze z9 H); (case hgd | ho => exact rfl); clear H; intro w3 g3 H _ _; go_simp)
  | ((fail_if_success have := g5); (with_reducible apply ze z9 H); (case hgd | ho => exact rfl); clear H; intro w5 g5 H _ _; go_simp)
  | ((fail_if_success have := g6); (with_reducible apply ze z9 H); (case hgd | ho => exact rfl); clear H; intro w6 g6 H _ _; go_simp)
  | ((fail_if_success have := g7); (with_reducible apply ze z9 H); (case hgd | ho => exact rfl); clear H; intro w7 g7 H _ _; go_simp)
  | ((fail_if_success have := g8); (with_reducible apply ze z9 H); (case hgd | ho => exact rfl); clear H; intro w8 g8 H _ _; go_simp)
  | ((fail_if_success have := g9); (with_reducible apply ze z9 H); (case hgd | ho => exact rfl); clear H; intro w9 g9 H _ _; go_simp)
  | ((fail_if_success have := g10); (with_reducible apply ze z9 H); (case hgd | ho => exact rfl); clear H; intro w10 g10 H _ _; go_simp)
  | ((with_reducible apply zr zt H); (case hgd | ho | hx => exact rfl); (case hi => repeat first|exact z5|apply z8); intro _ _; go_simp)
  | ((with_reducible apply zj zt H); (case hgd | ho | hx | hy => exact rfl); (case hi => repeat first|exact z5|apply z8); clear H; intro ws H _ _; simp only [qb] at H; go_simp))
 refine (z2p 3 _ rfl _ 1 _ _ _ (by omega) H.out rfl V2h.out V2h.out).mono ?_
 rintro e w30 ⟨h3, rfl, hv, H2⟩
 replace H := za H2
 have V3h : Hid (EK h3 (a ^ E3)) := za (hv.eq (P3.out _ _ rfl rfl))
 clear hv H2
 simp only [qb, qc] at H
 go_wp2_with (first
  | ((with_reducible apply zw H); (case hgd | ho | hx => exact rfl); clear H; intro _ _ H _ _; go_simp)
  | ((fail_if_success have := g2); (with_reducible apply ze z9 H); (case hgd | ho => exact rfl); clear H; intro w2 g2 H _ _; go_simp)
  | ((fail_if_success have := g3); (with_reducible apply ze z9 H); (case hgd | ho => exact rfl); clear H; intro w3 g3 H _ _; go_simp)
  | ((fail_if_success have := g5); (with_reducible apply ze z9 H); (case hgd | ho => exact rfl); clear H; intro w5 g5 H _ _; go_simp)
  | ((fail_if_success have := g6); (with_reducible apply ze z9 H); (case hgd | ho => exact rfl); clear H; intro w6 g6 H _ _; go_simp)
  | ((fail_if_success have := g7); (with_reducible apply ze z9 H); (case hgd | ho => exact rfl); clear H; intro w7 g7 H _ _; go_simp)
  | ((fail_if_success have := g8); (with_reducible apply ze z9 H); (case hgd | ho => exact rfl); clear H; intro w8 g8 H _ _; go_simp)
  | ((fail_if_success have := g9); (with_reducible apply ze z9 H); (case hgd | ho => exact rfl); clear H; intro w9 g9 H _ _; go_simp)
  | ((fail_if_success have := g10); (with_reducible apply ze z9 H); (case hgd | ho => exact rfl); clear H; intro w10 g10 H _ _; go_simp)
  | ((with_reducible apply zr zt H); (case hgd | ho | hx => exact rfl); (case hi => repeat first|exact z5|apply z8); intro _ _; go_simp)
  | ((with_reducible apply zj zt H); (case hgd | ho | hx | hy => exact rfl); (case hi => repeat first|exact z5|apply z8); clear H; intro ws H _ _; simp only [qb, qc] at H; go_simp))
 refine (z2p 3 _ rfl _ 1 _ _ _ (by omega) H.out rfl V3h.out V2h.out).mono ?_
 rintro e w40 ⟨h4, rfl, hv, H2⟩
 replace H := za H2
 have V4h : Hid (EK h4 (a ^ E4)) := za (hv.eq (P4.out _ _ rfl rfl))
 clear hv H2
 simp only [qb, qc] at H
 go_wp2_with (first
  | ((with_reducible apply zw H); (case hgd | ho | hx => exact rfl); clear H; intro _ _ H _ _; go_simp)
  | ((fail_if_success have := g2); (with_reducible apply ze z9 H); (case hgd | ho => exact rfl); clear H; intro w2 g2 H _ _; go_simp)
  | ((fail_if_success have := g3); (with_reducible apply ze z9 H); (case hgd | ho => exact rfl); clear H; intro w3 g3 H _ _; go_simp)
  | ((fail_if_success have := g5); (with_reducible apply ze z9 H); (case hgd | ho => exact rfl); clear H; intro w5 g5 H _ _; go_simp)
  | ((fail_if_success have := g6); (with_reducible apply ze z9 H); (case hgd | ho => exact rfl); clear H; intro w6 g6 H _ _; go_simp)
  | ((fail_if_success have := g7); (with_reducible apply ze z9 H); (case hgd | ho => exact rfl); clear H; intro w7 g7 H _ _; go_simp)
  | ((fail_if_success have := g8); (with_reducible apply ze z9 H); (case hgd | ho => exact rfl); clear H; intro w8 g8 H _ _; go_simp)
  | ((fail_if_success have := g9); (with_reducible apply ze z9 H); (case hgd | ho => exact rfl); clear H; intro w9 g9 H _ _; go_simp)
  | ((fail_if_success have := g10); (with_reducible apply ze z9 H); (case hgd | ho => exact rfl); clear H; intro w10 g10 H _ _; go_simp)
  | ((with_reducible apply zr zt H); (case hgd | ho | hx => exact rfl); (case hi => repeat first|exact z5|apply z8); intro _ _; go_simp)
  | ((with_reducible apply zj zt H); (case hgd | ho | hx | hy => exact rfl); (case hi => repeat first|exact z5|apply z8); clear H; intro ws H _ _; simp only [qb] at H; go_simp))
 refine (z2p 9 _ rfl _ 2 _ _ _ (by omega) H.out rfl V4h.out V4h.out).mono ?_
 rintro e w50 ⟨h5, rfl, hv, H2⟩
 replace H := za H2
 have V5h : Hid (EK h5 (a ^ E5)) := za (hv.eq (P5.out _ _ rfl rfl))
 clear hv H2
 simp only [qb, qc] at H
 go_wp2_with (first
  | ((with_reducible apply zw H); (case hgd | ho | hx => exact rfl); clear H; intro _ _ H _ _; go_simp)
  | ((fail_if_success have := g2); (with_reducible apply ze z9 H); (case hgd | ho => exact rfl); clear H; intro w2 g2 H _ _; go_simp)
  | ((fail_if_success have := g3); (with_reducible apply ze z9 H); (case hgd | ho => exact rfl); clear H; intro w3 g3 H _ _; go_simp)
  | ((fail_if_success have := g5); (with_reducible apply ze z9 H); (case hgd | ho => exact rfl); clear H; intro w5 g5 H _ _; go_simp)
  | ((fail_if_success have := g6); (with_reducible apply ze z9 H); (case hgd | ho => exact rfl); clear H; intro w6 g6 H _ _; go_simp)
  | ((fail_if_success have := g7); (with_reducible apply ze z9 H); (case hgd | ho => exact rfl); clear H; intro w7 g7 H _ _; go_simp)
  | ((fail_if_success have := g8); (with_reducible apply ze z9 H); (case hgd | ho => exact rfl); clear H; intro w8 g8 H _ _; go_simp)
  | ((fail_if_success have := g9); (with_reducible apply ze z9 H); (case hgd | ho => exact rfl); clear H; intro w9 g9 H _ _; go_simp)
  | ((fail_if_success have := g10); (with_reducible apply ze z9 H); (case hgd | ho => exact rfl); clear H; intro w10 g10 H _ _; go_simp)
  | ((with_reducible apply zr zt H); (case hgd | ho | hx => exact rfl); (case hi => repeat first|exact z5|apply z8); intro _ _; go_simp)
  | ((with_reducible apply zj zt H); (case hgd | ho | hx | hy => exact rfl); (case hi => repeat first|exact z5|apply z8); clear H; intro ws H _ _; simp only [qb] at H; go_simp))
 refine (z2p 1 _ rfl _ 3 _ _ _ (by omega) H.out rfl V5h.out V1.out).mono ?_
 rintro e w60 ⟨h6, rfl, hv, H2⟩
 replace H := za H2
 have V6h : Hid (EK h6 (a ^ E6)) := za (hv.eq (P6.out _ _ rfl rfl))
 clear hv H2
 simp only [qb, qc] at H
 go_wp2_with (first
  | ((with_reducible apply zw H); (case hgd | ho | hx => exact rfl); clear H; intro _ _ H _ _; go_simp)
  | ((fail_if_success have := g2); (with_reducible apply ze z9 H); (case hgd | ho => exact rfl); clear H; intro w2 g2 H _ _; go_simp)
  | ((fail_if_success have := g3); (with_reducible apply ze z9 H); (case hgd | ho => exact rfl); clear H; intro w3 g3 H _ _; go_simp)
  | ((fail_if_success have := g5); (with_reducible apply ze z9 H); (case hgd | ho => exact rfl); clear H; intro w5 g5 H _ _; go_simp)
  | ((fail_if_success have := g6); (with_reducible apply ze z9 H); (case hgd | ho => exact rfl); clear H; intro w6 g6 H _ _; go_simp)
  | ((fail_if_success have := g7); (with_reducible apply ze z9 H); (case hgd | ho => exact rfl); clear H; intro w7 g7 H _ _; go_simp)
  | ((fail_if_success have := g8); (with_reducible apply ze z9 H); (case hgd | ho => exact rfl); clear H; intro w8 g8 H _ _; go_simp)
  | ((fail_if_success have := g9); (with_reducible apply ze z9 H); (case hgd | ho => exact rfl); clear H; intro w9 g9 H _ _; go_simp)
  | ((fail_if_success have := g10); (with_reducible apply ze z9 H); (case hgd | ho => exact rfl); clear H; intro w10 g10 H _ _; go_simp)
  | ((with_reducible apply zr zt H); (case hgd | ho | hx => exact rfl); (case hi => repeat first|exact z5|apply z8); intro _ _; go_simp)
  | ((with_reducible apply zj zt H); (case hgd | ho | hx | hy => exact rfl); (case hi => repeat first|exact z5|apply z8); clear H; intro ws H _ _; simp only [qb, qc] at H; go_simp))
 refine (z2p 18 _ rfl _ 3 _ _ _ (by omega) H.out rfl V6h.out V5h.out).mono ?_
 rintro e w70 ⟨h7, rfl, hv, H2⟩
 replace H := za H2
 have V7h : Hid (EK h7 (a ^ E7)) := za (hv.eq (P7.out _ _ rfl rfl))
 clear hv H2
 simp only [qb, qc] at H
 go_wp2_with (first
  | ((with_reducible apply zw H); (case hgd | ho | hx => exact rfl); clear H; intro _ _ H _ _; go_simp)
  | ((fail_if_success have := g2); (with_reducible apply ze z9 H); (case hgd | ho => exact rfl); clear H; intro w2 g2 H _ _; go_simp)
  | ((fail_if_success have := g3); (with_reducible apply ze z9 H); (case hgd | ho => exact rfl); clear H; intro w3 g3 H _ _; go_simp)
  | ((fail_if_success have := g5); (with_reducible apply ze z9 H); (case hgd | ho => exact rfl); clear H; intro w5 g5 H _ _; go_simp)
  | ((fail_if_success have := g6); (with_reducible apply ze z9 H); (case hgd | ho => exact rfl); clear H; intro w6 g6 H _ _; go_simp)
  | ((fail_if_success have := g7); (with_reducible apply ze z9 H); (case hgd | ho => exact rfl); clear H; intro w7 g7 H _ _; go_simp)
  | ((fail_if_success have := g8); (with_reducible apply ze z9 H); (case hgd | ho => exact rfl); clear H; intro w8 g8 H _ _; go_simp)
  | ((fail_if_success have := g9); (with_reducible apply ze z9 H); (case hgd | ho => exact rfl); clear H; intro w9 g9 H _ _; go_simp)
  | ((fail_if_success have := g10); (with_reducible apply ze z9 H); (case hgd | ho => exact rfl); clear H; intro w10 g10 H _ _; go_simp)
  | ((with_reducible apply zr zt H); (case hgd | ho | hx => exact rfl); (case hi => repeat first|exact z5|apply z8); intro _ _; go_simp)
  | ((with_reducible apply zj zt H); (case hgd | ho | hx | hy => exact rfl); (case hi => repeat first|exact z5|apply z8); clear H; intro ws H _ _; simp only [qb] at H; go_simp))
 refine (z2p 37 _ rfl _ 4 _ _ _ (by omega) H.out rfl V7h.out V7h.out).mono ?_
 rintro e w80 ⟨h8, rfl, hv, H2⟩
 replace H := za H2
 have V8h : Hid (EK h8 (a ^ E8)) := za (hv.eq (P8.out _ _ rfl rfl))
 clear hv H2
 simp only [qb, qc] at H
 go_wp2_with (first
  | ((with_reducible apply zw H); (case hgd | ho | hx => exact rfl); clear H; intro _ _ H _ _; go_simp)
  | ((fail_if_success have := g2); (with_reducible apply ze z9 H); (case hgd | ho => exact rfl); clear H; intro w2 g2 H _ _; go_simp)
  | ((fail_if_success have := g3); (with_reducible apply ze z9 H); (case hgd | ho => exact rfl); clear H; intro w3 g3 H _ _; go_simp)
  | ((fail_if_success have := g5); (with_reducible apply ze z9 H); (case hgd | ho => exact rfl); clear H; intro w5 g5 H _ _; go_simp)
  | ((fail_if_success have := g6); (with_reducible apply ze z9 H); (case hgd | ho => exact rfl); clear H; intro w6 g6 H _ _; go_simp)
  | ((fail_if_success have := g7); (with_reducible apply ze z9 H); (case hgd | ho => exact rfl); clear H; intro w7 g7 H _ _; go_simp)
  | ((fail_if_success have := g8); (with_reducible apply ze z9 H); (case hgd | ho => exact rfl); clear H; intro w8 g8 H _ _; go_simp)
  | ((fail_if_success have := g9); (with_reducible apply ze z9 H); (case hgd | ho => exact rfl); clear H; intro w9 g9 H _ _; go_simp)
  | ((fail_if_success have := g10); (with_reducible apply ze z9 H); (case hgd | ho => exact rfl); clear H; intro w10 g10 H _ _; go_simp)
  | ((with_reducible apply zr zt H); (case hgd | ho | hx => exact rfl); (case hi => repeat first|exact z5|apply z8); intro _ _; go_simp)
  | ((with_reducible apply zj zt H); (case hgd | ho | hx | hy => exact rfl); (case hi => repeat first|exact z5|apply z8); clear H; intro ws H _ _; simp only [qb, qc] at H; go_simp))
 refine (z2p 37 _ rfl _ 4 _ _ _ (by omega) H.out rfl V8h.out V7h.out).mono ?_
 rintro e w90 ⟨h9, rfl, hv, H2⟩
 replace H := za H2
 have V9h : Hid (EK h9 (a ^ E9)) := za (hv.eq (P9.out _ _ rfl rfl))
 clear hv H2
 simp only [qb, qc] at H
 go_wp2_with (first
  | ((with_reducible apply zw H); (case hgd | ho | hx => exact rfl); clear H; intro _ _ H _ _; go_simp)
  | ((fail_if_success have := g2); (with_reducible apply ze z9 H); (case hgd | ho => exact rfl); clear H; intro w2 g2 H _ _; go_simp)
  | ((fail_if_success have := g3); (with_reducible apply ze z9 H); (case hgd | ho => exact rfl); clear H; intro w3 g3 H _ _; go_simp)
  | ((fail_if_success have := g5); (with_reducible apply ze z9 H); (case hgd | ho => exact rfl); clear H; intro w5 g5 H _ _; go_simp)
  | ((fail_if_success have := g6); (with_reducible apply ze z9 H); (case hgd | ho => exact rfl); clear H; intro w6 g6 H _ _; go_simp)
  | ((fail_if_success have := g7); (with_reducible apply ze z9 H); (case hgd | ho => exact rfl); clear H; intro w7 g7 H _ _; go_simp)
  | ((fail_if_success have := g8); (with_reducible apply ze z9 H); (case hgd | ho => exact rfl); clear H; intro w8 g8 H _ _; go_simp)
  | ((fail_if_success have := g9); (with_reducible apply ze z9 H); (case hgd | ho => exact rfl); clear H; intro w9 g9 H _ _; go_simp)
  | ((fail_if_success have := g10); (with_reducible apply ze z9 H); (case hgd | ho => exact rfl); clear H; intro w10 g10 H _ _; go_simp)
  | ((with_reducible apply zr zt H); (case hgd | ho | hx => exact rfl); (case hi => repeat first|exact z5|apply z8); intro _ _; go_simp)
  | ((with_reducible apply zj zt H); (case hgd | ho | hx | hy => exact rfl); (case hi => repeat first|exact z5|apply z8); clear H; intro ws H _ _; simp only [qb] at H; go_simp))
 refine (z2p 111 _ rfl _ 5 _ _ _ (by omega) H.out rfl V9h.out V9h.out).mono ?_
 rintro e w100 ⟨h10, rfl, hv, H2⟩
 replace H := za H2
 have V10h : Hid (EK h10 (a ^ E10)) := za (hv.eq (P10.out _ _ rfl rfl))
 clear hv H2
 simp only [qb, qc] at H
 go_wp2_with (first
  | ((with_reducible apply zw H); (case hgd | ho | hx => exact rfl); clear H; intro _ _ H _ _; go_simp)
  | ((fail_if_success have := g2); (with_reducible apply ze z9 H); (case hgd | ho => exact rfl); clear H; intro w2 g2 H _ _; go_simp)
  | ((fail_if_success have := g3); (with_reducible apply ze z9 H); (case hgd | ho => exact rfl); clear H; intro w3 g3 H _ _; go_simp)
  | ((fail_if_success have := g5); (with_reducible apply ze z9 H); (case hgd | ho => exact rfl); clear H; intro w5 g5 H _ _; go_simp)
  | ((fail_if_success have := g6); (with_reducible apply ze z9 H); (case hgd | ho => exact rfl); clear H; intro w6 g6 H _ _; go_simp)
  | ((fail_if_success have := g7); (with_reducible apply ze z9 H); (case hgd | ho => exact rfl); clear H; intro w7 g7 H _ _; go_simp)
  | ((fail_if_success have := g8); (with_reducible apply ze z9 H); (case hgd | ho => exact rfl); clear H; intro w8 g8 H _ _; go_simp)
  | ((fail_if_success have := g9); (with_reducible apply ze z9 H); (case hgd | ho => exact rfl); clear H; intro w9 g9 H _ _; go_simp)
  | ((fail_if_success have := g10); (with_reducible apply ze z9 H); (case hgd | ho => exact rfl); clear H; intro w10 g10 H _ _; go_simp)
  | ((with_reducible apply zr zt H); (case hgd | ho | hx => exact rfl); (case hi => repeat first|exact z5|apply z8); intro _ _; go_simp)
  | ((with_reducible apply zj zt H); (case hgd | ho | hx | hy => exact rfl); (case hi => repeat first|exact z5|apply z8); clear H; intro ws H _ _; simp only [qb] at H; go_simp))
 refine (z2p 1 _ rfl _ 6 _ _ _ (by omega) H.out rfl V10h.out V1.out).mono ?_
 rintro e w110 ⟨h11, rfl, hv, H2⟩
 replace H := za H2
 have V11h : Hid (EK h11 (a ^ E11)) := za (hv.eq (P11.out _ _ rfl rfl))
 clear hv H2
 simp only [qb, qc] at H
 go_wp2_with (first
  | ((with_reducible apply zw H); (case hgd | ho | hx => exact rfl); clear H; intro _ _ H _ _; go_simp)
  | ((fail_if_success have := g2); (with_reducible apply ze z9 H); (case hgd | ho => exact rfl); clear H; intro w2 g2 H _ _; go_simp)
  | ((fail_if_success have := g3); (with_reducible apply ze z9 H); (case hgd | ho => exact rfl); clear H; intro w3 g3 H _ _; go_simp)
  | ((fail_if_success have := g5); (with_reducible apply ze z9 H); (case hgd | ho => exact rfl); clear H; intro w5 g5 H _ _; go_simp)
  | ((fail_if_success have := g6); (with_reducible apply ze z9 H); (case hgd | ho => exact rfl); clear H; intro w6 g6 H _ _; go_simp)
  | ((fail_if_success have := g7); (with_reducible apply ze z9 H); (case hgd | ho => exact rfl); clear H; intro w7 g7 H _ _; go_simp)
  | ((fail_if_success have := g8); (with_reducible apply ze z9 H); (case hgd | ho => exact rfl); clear H; intro w8 g8 H _ _; go_simp)
  | ((fail_if_success have := g9); (with_reducible apply ze z9 H); (case hgd | ho => exact rfl); clear H; intro w9 g9 H _ _; go_simp)
  | ((fail_if_success have := g10); (with_reducible apply ze z9 H); (case hgd | ho => exact rfl); clear H; intro w10 g10 H _ _; go_simp)
  | ((with_reducible apply zr zt H); (case hgd | ho | hx => exact rfl); (case hi => repeat first|exact z5|apply z8); intro _ _; go_simp)
  | ((with_reducible apply zj zt H); (case hgd | ho | hx | hy => exact rfl); (case hi => repeat first|exact z5|apply z8); clear H; intro ws H _ _; simp only [qb, qc] at H; go_simp))
 refine (z2p 223 _ rfl _ 6 _ _ _ (by omega) H.out rfl V11h.out V10h.out).mono ?_
 rintro e w120 ⟨h12, rfl, hv, H2⟩
 replace H := za H2
 have V12h : Hid (EK h12 (a ^ E12)) := za (hv.eq (P12.out _ _ rfl rfl))
 clear hv H2
 simp only [qb, qc] at H
 go_wp2_with (first
  | ((with_reducible apply zw H); (case hgd | ho | hx => exact rfl); clear H; intro _ _ H _ _; go_simp)
  | ((fail_if_success have := g2); (with_reducible apply ze z9 H); (case hgd | ho => exact rfl); clear H; intro w2 g2 H _ _; go_simp)
  | ((fail_if_success have := g3); (with_reducible apply ze z9 H); (case hgd | ho => exact rfl); clear H; intro w3 g3 H _ _; go_simp)
  | ((fail_if_success have := g5); (with_reducible apply ze z9 H); (case hgd | ho => exact rfl); clear H; intro w5 g5 H _ _; go_simp)
  | ((fail_if_success have := g6); (with_reducible apply ze z9 H); (case hgd | ho => exact rfl); clear H; intro w6 g6 H _ _; go_simp)
  | ((fail_if_success have := g7); (with_reducible apply ze z9 H); (case hgd | ho => exact rfl); clear H; intro w7 g7 H _ _; go_simp)
  | ((fail_if_success have := g8); (with_reducible apply ze z9 H); (case hgd | ho => exact rfl); clear H; intro w8 g8 H _ _; go_simp)
  | ((fail_if_success have := g9); (with_reducible apply ze z9 H); (case hgd | ho => exact rfl); clear H; intro w9 g9 H _ _; go_simp)
  | ((fail_if_success have := g10); (with_reducible apply ze z9 H); (case hgd | ho => exact rfl); clear H; intro w10 g10 H _ _; go_simp)
  | ((with_reducible apply zr zt H); (case hgd | ho | hx => exact rfl); (case hi => repeat first|exact z5|apply z8); intro _ _; go_simp)
  | ((with_reducible apply zj zt H); (case hgd | ho | hx | hy => exact rfl); (case hi => repeat first|exact z5|apply z8); clear H; intro ws H _ _; simp only [qb, qc] at H; go_simp))
 exact bodyPost_ret (zy 7 zt rfl _ H rfl rfl) rfl ⟨h12, rfl, V12h.out, H.out.bel⟩
theorem y16 {f : Nat → Nat} {a : K} (w : World) (hf : EK f a) :
  Calls Tryz.prog 136 #[EV f] w fun e w' => ∃ h, e = .returned (EV h) ∧ EK h (a ^ eC) ∧ Below w.heap.size w w' := by
 obtain ⟨E1, e1⟩ : ∃ E, 1 * 2 ^ 1 + 1 = E := ⟨_, rfl⟩
 obtain ⟨E2, e2⟩ : ∃ E, E1 * 2 ^ 1 + 1 = E := ⟨_, rfl⟩
 obtain ⟨E3, e3⟩ : ∃ E, E2 * 2 ^ 3 + E2 = E := ⟨_, rfl⟩
 obtain ⟨E4, e4⟩ : ∃ E, E3 * 2 ^ 3 + E2 = E := ⟨_, rfl⟩
 obtain ⟨E5, e5⟩ : ∃ E, E4 * 2 ^ 9 + E4 = E := ⟨_, rfl⟩
 obtain ⟨E6, e6⟩ : ∃ E, E5 * 2 ^ 1 + 1 = E := ⟨_, rfl⟩
 obtain ⟨E7, e7⟩ : ∃ E, E6 * 2 ^ 18 + E5 = E := ⟨_, rfl⟩
 obtain ⟨E8, e8⟩ : ∃ E, E7 * 2 ^ 37 + E7 = E := ⟨_, rfl⟩
 obtain ⟨E9, e9⟩ : ∃ E, E8 * 2 ^ 37 + E7 = E := ⟨_, rfl⟩
 obtain ⟨E10, e10⟩ : ∃ E, E9 * 2 ^ 111 + E9 = E := ⟨_, rfl⟩
 obtain ⟨E11, e11⟩ : ∃ E, E10 * 2 ^ 1 + 1 = E := ⟨_, rfl⟩
 obtain ⟨E12, e12⟩ : ∃ E, E11 * 2 ^ 223 + E10 = E := ⟨_, rfl⟩
 have e : E12 = eC := by
  subst e1 e2 e3 e4 e5 e6 e7 e8 e9 e10 e11 e12
  decide +kernel
 rw [← e]
 exact chain_walk w (hf.eq (by grind)) _ _ _ _ _ _ _ _ _ _ _ _ e1 e2 e3 e4 e5 e6 e7 e8 e9 e10 e11 e12
theorem inv_chain (a : K) : (a ^ eC) ^ 2 ^ 2 * a = inv a := by
 unfold inv
 rw [← z4z, ← z09, show eC * 2 ^ 2 + 1 = pN - 2 by have := pN_c; omega]
theorem inverse_k {f : Nat → Nat} {a : K} (w : World) (hf : EK f a) :
  Calls Tryz.prog 126 #[EV f] w fun e w' => ∃ h, e = .returned (EV h) ∧ EK h (inv a) ∧ Below w.heap.size w w' := by
 have HF := za hf
 clear hf
 have H := za (Ow.start w)
 go_enter Tryz.func126, Tryz.ntmps126
 go_wp2_with (first
  | ((fail_if_success have := g1); (with_reducible apply zw H); (case hgd | ho | hx => exact rfl); clear H; intro w1 g1 H _ _; go_simp)
  | ((with_reducible apply ze z9 H); (case hgd | ho => exact rfl); clear H; intro _ _ H _ _; go_simp))
 refine wp_region_noPanic ?_
 refine wp_region_held_drew (S := fun W => W.heap[g1]? = some (zv 30 .u64 8 (NZ f))) (by kernel_rfl) (H.out.drew.row 1 rfl) (fun hH => ?_)
 replace H := za H.out.drew
 generalize World.drew _ = w8 at *
 refine zk 0 3 zt rfl rfl rfl hH rfl rfl (fun _ h => h) ?_
 refine zk 3 6 zt rfl rfl rfl hH rfl rfl (fun _ h => h) ?_
 refine zn 1 rfl fun K hK => ?_
 go_simp
 refine (y16 _ HF.out).mono ?_
 rintro e wc ⟨h4, rfl, hv, hb⟩
 replace H := zd H hb
 have HV4 := za hv
 refine zc hK (zb H 1) fun hH => ?_
 try simp only [Act.put, qa, qb, qc]
 refine zn 2 rfl fun K hK => ?_
 go_simp
 refine (y2k 2 _ (by omega) HV4.out).mono ?_
 rintro e wc ⟨h5, rfl, hv, hb⟩
 replace H := zd H hb
 have HV5 := za hv
 refine zc hK (zb H 1) fun hH => zn 4 rfl fun K hK => ?_
 go_simp
 refine (z16 _ HV5.out HF.out).mono ?_
 rintro e wc ⟨h7, rfl, hv, hb⟩
 replace H := zd H hb
 have HV7 := za hv
 refine zc hK (zb H 1) fun hH => zn 5 rfl fun K hK => ?_
 refine zl 0 zt H.out rfl rfl rfl rfl ?_
 intro ws HS
 simp only [qb] at HS
 replace H := za HS
 refine zc hK (zb H 1) fun hH => ?_
 try simp only [Act.put, qa]
 refine zm ?_
 go_wp2_with fail
 exact bodyPost_ret (zy 0 zt rfl _ H rfl rfl) rfl ⟨_, rfl, HV7.out.eq (inv_chain a), H.out.bel⟩
theorem u8_and1 (n : Nat) : bits .and .u8 (n : Int) 1 = ((n % 2 : Nat) : Int) := by
 have h127 : (BitVec.ofInt 8 1).toNat = 2 ^ 1 - 1 := by decide
 have key : (BitVec.ofInt 8 (n : Int) &&& BitVec.ofInt 8 1).toNat = ((n : Int) % ((2 ^ 8 : Nat) : Int)).toNat % 2 ^ 1 := by
  rw [BitVec.toNat_and, BitVec.toNat_ofInt, h127, Nat.and_two_pow_sub_one_eq_mod]
 show IntKind.u8.wrap ((BitVec.ofInt 8 (n : Int) &&& BitVec.ofInt 8 1).toNat : Nat) = ((n % 2 : Nat) : Int)
 rw [key, IntKind.wrap_u8]
 omega
theorem y5t {f : Nat → Nat} {a : K} (w : World) (hf : EK f a) :
  Calls Tryz.prog 123 #[EV f] w fun e w' => e = .returned (.int .i64 ((a.val % 2 : Nat) : Int)) ∧ Below w.heap.size w w' := by
 have HF := za hf
 clear hf
 have H := za (Ow.start w)
 go_enter Tryz.func123, Tryz.ntmps123
 go_wp2_with (first
  | ((with_reducible apply zw H); (case hgd | ho | hx => exact rfl); clear H; intro _ _ H _ _; go_simp)
  | ((with_reducible apply zr zt H); (case hgd | ho | hx => exact rfl); (case hi => repeat first|exact z5|apply z8); intro _ _; go_simp))
 refine (bytes_v _ HF.out).mono ?_
 rintro e w2 ⟨ad, c, rfl, hs, hb⟩
 replace H := zd H hb
 obtain ⟨b, o, rfl, _, hcell⟩ := y03 hs (by omega)
 obtain ⟨y, hy⟩ : ∃ y, (bX a.val 0).toNat = y := ⟨_, rfl⟩
 have hc : w2.cell? ⟨b, o, none⟩ = some (.int .u8 (y : Int)) := by
  have := hcell 0 (by omega)
  rw [show U (bX a.val 0) = .int .u8 (y : Int) from congrArg (Value.int .u8) (by rw [← hy]; rfl)] at this
  exact this
 have e1 := u8_and1 y
 obtain ⟨z, hz⟩ : ∃ z, y % 2 = z := ⟨_, rfl⟩
 rw [hz] at e1
 have HZ : Hid (z = a.val % 2) := za (by
  rw [← hz, ← hy, y9p, Nat.pow_zero, Nat.div_one]
  omega)
 have z2 : (z : Int) < 2 := by omega
 clear hb hs hcell hy hz
 go_wp2_with fail
 go_ret
 exact ⟨by rw [← HZ.out]; rfl, H.out.bel⟩
theorem negative_k {f : Nat → Nat} {a : K} (w : World) (hf : EK f a) :
  Calls Tryz.prog 61 #[EV f] w fun e w' => e = .returned (.bool (decide (a.val % 2 = 1))) ∧ Below w.heap.size w w' := by
 have HL := za (fun w => y5t w hf)
 have HE : Hid ((((a.val % 2 : Nat) : Int) == 1) = decide (a.val % 2 = 1)) := za (by rw [Bool.eq_iff_iff, beq_iff_eq, decide_eq_true_eq]; omega)
 obtain ⟨z, hz⟩ : ∃ z, a.val % 2 = z := ⟨_, rfl⟩
 rw [hz] at HL HE ⊢
 clear hf hz
 have H := za (Ow.start w)
 go_enter Tryz.func61, Tryz.ntmps61
 go_wp2_with (first
  | ((with_reducible apply zw H); (case hgd | ho | hx => exact rfl); clear H; intro _ _ H _ _; go_simp)
  | ((with_reducible apply zr zt H); (case hgd | ho | hx => exact rfl); (case hi => repeat first|exact z5|apply z8); intro _ _; go_simp)
  | ((with_reducible refine (HL.out _).mono ?_); rintro e wc ⟨rfl, hb⟩; replace H := zd H hb; clear hb))
 go_ret
 exact ⟨by rw [← HE.out]; rfl, H.out.bel⟩
theorem pick_ab {a : K} {n : Nat} (h : a.val % 2 = n) : (if (n : Int) % 2 = 0 then a else -a) = ab a := by
 unfold ab
 have hb := Nat.mod_lt a.val (show 0 < 2 by omega)
 by_cases e : a.val % 2 = 1
 ·rw [if_pos e, if_neg (by omega)]
 ·rw [if_neg e, if_pos (by omega)]
theorem y68 {f : Nat → Nat} {a : K} (w : World) (hT : Tp w) (hf : EK f a) :
  Calls Tryz.prog 81 #[EV f] w fun e w' => ∃ h, e = .returned (EV h) ∧ EK h (ab a) ∧ Below w.heap.size w w' := by
 have HF := za hf
 have HT := za hT
 have HL := za (fun w => y5t w hf)
 obtain ⟨z, hz⟩ : ∃ z, a.val % 2 = z := ⟨_, rfl⟩
 rw [hz] at HL
 have HZ := za hz
 clear hf hT hz
 have H := za (Ow.start w)
 go_enter Tryz.func81, Tryz.ntmps81
 go_wp2_with (first
  | ((fail_if_success have := g1); (with_reducible apply zw H); (case hgd | ho | hx => exact rfl); clear H; intro w1 g1 H _ _; go_simp)
  | ((with_reducible apply ze z9 H); (case hgd | ho => exact rfl); clear H; intro _ _ H _ _; go_simp))
 refine wp_region_noPanic ?_
 refine wp_region_held_drew (S := fun W => W.heap[g1]? = some (zv 30 .u64 8 (NZ f))) (by kernel_rfl) (H.out.drew.row 1 rfl) (fun hH => ?_)
 replace H := za H.out.drew
 generalize World.drew _ = w8 at *
 refine zk 0 3 zt rfl rfl rfl hH rfl rfl (fun _ h => h) ?_
 refine zk 2 5 zt rfl rfl rfl hH rfl rfl (fun _ h => h) ?_
 refine zk 3 6 zt rfl rfl rfl hH rfl rfl (fun _ h => h) ?_
 try simp only [Act.put, qa, qb, qc]
 refine zn 1 rfl fun K hK => ?_
 go_simp
 refine (HL.out _).mono ?_
 rintro e wc ⟨rfl, hb⟩
 replace H := zd H hb
 refine zc hK (zb H 1) fun hH => zn 4 rfl fun K hK => ?_
 go_simp
 refine (neg_k _ (HT.out.below H.out.bel) HF.out).mono ?_
 rintro e wc ⟨h7, rfl, hv, hb⟩
 replace H := zd H hb
 have HV7 := za hv
 refine zc hK (zb H 1) fun hH => zn 5 rfl fun K hK => ?_
 go_simp
 refine (z56 _ _ _ _ HF.out.lim HV7.out.lim).mono ?_
 rintro e wc ⟨rfl, hb⟩
 replace H := zd H hb
 have HV8 := za (y8b (n := (z : Int)) HF.out HV7.out)
 refine zc hK (zb H 1) fun hH => ?_
 try simp only [Act.put, qa, qb, qc]
 refine zn 6 rfl fun K hK => ?_
 refine zl 0 zt H.out rfl rfl rfl rfl ?_
 intro ws HS
 simp only [qb] at HS
 replace H := za HS
 refine zc hK (zb H 1) fun hH => ?_
 try simp only [Act.put, qa]
 refine zm ?_
 go_wp2_with fail
 exact bodyPost_ret (zy 0 zt rfl _ H rfl rfl) rfl ⟨_, rfl, HV8.out.eq (pick_ab HZ.out), H.out.bel⟩
theorem z9u {f g : Nat → Nat} {u v : K} (w : World) (hT : Tp w) (hf : EK f u) (hg : EK g v) :
  Calls Tryz.prog 74 #[EV f, EV g] w fun e w' => ∃ h, e = .returned (.tuple #[EV h, .bool (decide (v * (zL eC u v * zL eC u v) = u))]) ∧ EK h (ab (zL eC u v)) ∧ Below w.heap.size w w' := by
 have HF := za hf
 have HG := za hg
 have HT := za hT
 clear hf hg hT
 have H := za (Ow.start w)
 go_enter Tryz.func74, Tryz.ntmps74
 go_wp2_with (first
  | ((fail_if_success have := g2); (with_reducible apply zw H); (case hgd | ho | hx => exact rfl); clear H; intro w2 g2 H _ _; go_simp)
  | ((fail_if_success have := g3); (with_reducible apply zw H); (case hgd | ho | hx => exact rfl); clear H; intro w3 g3 H _ _; go_simp)
  | ((with_reducible apply ze z9 H); (case hgd | ho => exact rfl); clear H; intro _ _ H _ _; go_simp))
 refine wp_region_noPanic ?_
 refine wp_region_held_drew (S := fun W => W.heap[g2]? = some (zv 30 .u64 8 (NZ f)) ∧ W.heap[g3]? = some (zv 30 .u64 8 (NZ g))) (by kernel_rfl) (⟨H.out.drew.row 2 rfl, H.out.drew.row 1 rfl⟩) (fun hH => ?_)
 replace H := za H.out.drew
 generalize World.drew _ = w8 at *
 refine zk 0 7 zt rfl rfl rfl hH rfl rfl (fun _ h => h.1) ?_
 refine zk 1 8 zt rfl rfl rfl hH rfl rfl (fun _ h => h.1) ?_
 refine zk 2 9 zt rfl rfl rfl hH rfl rfl (fun _ h => h.2) ?_
 try simp only [Act.put, qa, qb, qc]
 refine zK [3, 6] (zG rfl (fun K hK => ?_) (zG rfl (fun K hK => ?_) zJ))
 ·skip
  go_simp
  refine (z16 _ HF.out HG.out).mono ?_
  rintro e wc ⟨h10, rfl, hv, hb⟩
  replace H := zd H hb
  have HV10 := za hv
  refine zc hK ⟨zb H 2, zb H 1⟩ fun hH => zK [4, 6] (zG rfl (fun K hK => ?_) (zG rfl (fun K hK => ?_) zJ))
  ·skip
   go_simp
   refine (y16 _ HV10.out).mono ?_
   rintro e wc ⟨h11, rfl, hv, hb⟩
   replace H := zd H hb
   have HV11 := za hv
   refine zc hK ⟨zb H 2, zb H 1⟩ fun hH => zK [5, 6] (zG rfl (fun K hK => ?_) (zG rfl (fun K hK => ?_) zJ))
   ·skip
    go_simp
    refine (z16 _ HF.out HV11.out).mono ?_
    rintro e wc ⟨h12, rfl, hv, hb⟩
    replace H := zd H hb
    have HV12 := za hv
    refine zc hK ⟨zb H 2, zb H 1⟩ fun hH => ?_
    try simp only [Act.put, qa, qb, qc]
    refine zn 6 rfl fun K hK => ?_
    refine z1o 6 rfl z9 H.out rfl ?_
    intro w6 g6 H3
    replace H := za H3
    refine zc hK ⟨zb H 3, zb H 2⟩ fun hH => zn 7 rfl fun K hK => ?_
    refine zl 0 zt H.out rfl rfl rfl rfl ?_
    intro ws HS
    simp only [qb] at HS
    replace H := za HS
    refine zc hK ⟨zb H 3, zb H 2⟩ fun hH => ?_
    try simp only [Act.put, qa]
    refine zm ?_
    have HR : Hid (EK h12 (zL eC u v)) := za HV12.out
    clear HV10 HV11 HV12
    go_wp2_with fail
    refine wp_region_noPanic ?_
    refine wp_region_held_drew (S := fun W => W.heap[g6]? = some (zv 30 .u64 8 (NZ h12)) ∧ W.heap[g3]? = some (zv 30 .u64 8 (NZ g)) ∧ W.heap[g2]? = some (zv 30 .u64 8 (NZ f))) (by kernel_rfl) (⟨H.out.drew.row 0 rfl, H.out.drew.row 2 rfl, H.out.drew.row 3 rfl⟩) (fun hH => ?_)
    replace H := za H.out.drew
    generalize World.drew _ = w8 at *
    refine zk 0 13 zt rfl rfl rfl hH rfl rfl (fun _ h => h.1) ?_
    refine zk 2 15 zt rfl rfl rfl hH rfl rfl (fun _ h => h.2.1) ?_
    try simp only [Act.put, qa, qb, qc]
    refine zk 3 16 zt rfl rfl rfl hH rfl rfl (fun _ h => h.1) ?_
    refine zk 6 19 zt rfl rfl rfl hH rfl rfl (fun _ h => h.2.2) ?_
    refine zn 1 rfl fun K hK => ?_
    go_simp
    refine (y68 _ (HT.out.below H.out.bel) HR.out).mono ?_
    rintro e wc ⟨h14, rfl, hv, hb⟩
    replace H := zd H hb
    have HV14 := za hv
    refine zc hK ⟨zb H 0, zb H 2, zb H 3⟩ fun hH => ?_
    try simp only [Act.put, qa, qb, qc]
    refine zn 4 rfl fun K hK => ?_
    go_simp
    refine (z0f _ HR.out).mono ?_
    rintro e wc ⟨h17, rfl, hv, hb⟩
    replace H := zd H hb
    have HV17 := za hv
    refine zc hK ⟨zb H 0, zb H 2, zb H 3⟩ fun hH => zn 5 rfl fun K hK => ?_
    go_simp
    refine (z16 _ HG.out HV17.out).mono ?_
    rintro e wc ⟨h18, rfl, hv, hb⟩
    replace H := zd H hb
    have HV18 := za hv
    refine zc hK ⟨zb H 0, zb H 2, zb H 3⟩ fun hH => zn 7 rfl fun K hK => ?_
    go_simp
    refine (z8g _ (HT.out.below H.out.bel) HV18.out HF.out).mono ?_
    rintro e wc ⟨rfl, hb⟩
    replace H := zd H hb
    refine zc hK ⟨zb H 0, zb H 2, zb H 3⟩ fun hH => ?_
    try simp only [Act.put, qa, qb, qc]
    refine zn 8 rfl fun K hK => ?_
    refine zl 1 zt H.out rfl rfl rfl rfl ?_
    intro ws HS
    simp only [qb, qc] at HS
    replace H := za HS
    refine zc hK ⟨zb H 0, zb H 2, zb H 3⟩ fun hH => ?_
    try simp only [Act.put, qa]
    refine zh 9 5 (.bool (decide ((v * ((zL eC u v) * (zL eC u v))) = u))) hH ?_
    refine zm ?_
    go_wp2_with fail
    exact bodyPost_ret (z0c 1 zt rfl _ H rfl rfl rfl) rfl ⟨_, rfl, HV14.out, H.out.bel⟩
   ·skip
    refine z1o 6 rfl z9 H.out rfl ?_
    intro w6 g6 H3
    replace H := za H3
    refine zc hK ⟨zb H 3, zb H 2⟩ fun hH => zn 5 rfl fun K hK => ?_
    go_simp
    refine (z16 _ HF.out HV11.out).mono ?_
    rintro e wc ⟨h12, rfl, hv, hb⟩
    replace H := zd H hb
    have HV12 := za hv
    refine zc hK ⟨zb H 3, zb H 2⟩ fun hH => zn 7 rfl fun K hK => ?_
    refine zl 0 zt H.out rfl rfl rfl rfl ?_
    intro ws HS
    simp only [qb] at HS
    replace H := za HS
    refine zc hK ⟨zb H 3, zb H 2⟩ fun hH => ?_
    try simp only [Act.put, qa]
    refine zm ?_
    have HR : Hid (EK h12 (zL eC u v)) := za HV12.out
    clear HV10 HV11 HV12
    go_wp2_with fail
    refine wp_region_noPanic ?_
    refine wp_region_held_drew (S := fun W => W.heap[g6]? = some (zv 30 .u64 8 (NZ h12)) ∧ W.heap[g3]? = some (zv 30 .u64 8 (NZ g)) ∧ W.heap[g2]? = some (zv 30 .u64 8 (NZ f))) (by kernel_rfl) (⟨H.out.drew.row 0 rfl, H.out.drew.row 2 rfl, H.out.drew.row 3 rfl⟩) (fun hH => ?_)
    replace H := za H.out.drew
    generalize World.drew _ = w8 at *
    refine zk 0 13 zt rfl rfl rfl hH rfl rfl (fun _ h => h.1) ?_
    try simp only [Act.put, qa, qb, qc]
    refine zk 2 15 zt rfl rfl rfl hH rfl rfl (fun _ h => h.2.1) ?_
    refine zk 3 16 zt rfl rfl rfl hH rfl rfl (fun _ h => h.1) ?_
    refine zk 6 19 zt rfl rfl rfl hH rfl rfl (fun _ h => h.2.2) ?_
    try simp only [Act.put, qa, qb, qc]
    refine zn 1 rfl fun K hK => ?_
    go_simp
    refine (y68 _ (HT.out.below H.out.bel) HR.out).mono ?_
    rintro e wc ⟨h14, rfl, hv, hb⟩
    replace H := zd H hb
    have HV14 := za hv
    refine zc hK ⟨zb H 0, zb H 2, zb H 3⟩ fun hH => zn 4 rfl fun K hK => ?_
    go_simp
    refine (z0f _ HR.out).mono ?_
    rintro e wc ⟨h17, rfl, hv, hb⟩
    replace H := zd H hb
    have HV17 := za hv
    refine zc hK ⟨zb H 0, zb H 2, zb H 3⟩ fun hH => zn 5 rfl fun K hK => ?_
    go_simp
    refine (z16 _ HG.out HV17.out).mono ?_
    rintro e wc ⟨h18, rfl, hv, hb⟩
    replace H := zd H hb
    have HV18 := za hv
    refine zc hK ⟨zb H 0, zb H 2, zb H 3⟩ fun hH => ?_
    try simp only [Act.put, qa, qb, qc]
    refine zn 7 rfl fun K hK => ?_
    go_simp
    refine (z8g _ (HT.out.below H.out.bel) HV18.out HF.out).mono ?_
    rintro e wc ⟨rfl, hb⟩
    replace H := zd H hb
    refine zc hK ⟨zb H 0, zb H 2, zb H 3⟩ fun hH => zn 8 rfl fun K hK => ?_
    refine zl 1 zt H.out rfl rfl rfl rfl ?_
    intro ws HS
    simp only [qb, qc] at HS
    replace H := za HS
    refine zc hK ⟨zb H 0, zb H 2, zb H 3⟩ fun hH => ?_
    try simp only [Act.put, qa]
    refine zh 9 5 (.bool (decide ((v * ((zL eC u v) * (zL eC u v))) = u))) hH ?_
    refine zm ?_
    go_wp2_with fail
    exact bodyPost_ret (z0c 1 zt rfl _ H rfl rfl rfl) rfl ⟨_, rfl, HV14.out, H.out.bel⟩
  ·skip
   refine z1o 6 rfl z9 H.out rfl ?_
   intro w6 g6 H3
   replace H := za H3
   refine zc hK ⟨zb H 3, zb H 2⟩ fun hH => zn 4 rfl fun K hK => ?_
   go_simp
   refine (y16 _ HV10.out).mono ?_
   rintro e wc ⟨h11, rfl, hv, hb⟩
   replace H := zd H hb
   have HV11 := za hv
   refine zc hK ⟨zb H 3, zb H 2⟩ fun hH => zn 5 rfl fun K hK => ?_
   go_simp
   refine (z16 _ HF.out HV11.out).mono ?_
   rintro e wc ⟨h12, rfl, hv, hb⟩
   replace H := zd H hb
   have HV12 := za hv
   refine zc hK ⟨zb H 3, zb H 2⟩ fun hH => ?_
   try simp only [Act.put, qa, qb, qc]
   refine zn 7 rfl fun K hK => ?_
   refine zl 0 zt H.out rfl rfl rfl rfl ?_
   intro ws HS
   simp only [qb] at HS
   replace H := za HS
   refine zc hK ⟨zb H 3, zb H 2⟩ fun hH => ?_
   try simp only [Act.put, qa]
   refine zm ?_
   have HR : Hid (EK h12 (zL eC u v)) := za HV12.out
   clear HV10 HV11 HV12
   go_wp2_with fail
   refine wp_region_noPanic ?_
   refine wp_region_held_drew (S := fun W => W.heap[g6]? = some (zv 30 .u64 8 (NZ h12)) ∧ W.heap[g3]? = some (zv 30 .u64 8 (NZ g)) ∧ W.heap[g2]? = some (zv 30 .u64 8 (NZ f))) (by kernel_rfl) (⟨H.out.drew.row 0 rfl, H.out.drew.row 2 rfl, H.out.drew.row 3 rfl⟩) (fun hH => ?_)
   replace H := za H.out.drew
   generalize World.drew _ = w8 at *
   refine zk 0 13 zt rfl rfl rfl hH rfl rfl (fun _ h => h.1) ?_
   refine zk 2 15 zt rfl rfl rfl hH rfl rfl (fun _ h => h.2.1) ?_
   refine zk 3 16 zt rfl rfl rfl hH rfl rfl (fun _ h => h.1) ?_
   try simp only [Act.put, qa, qb, qc]
   refine zk 6 19 zt rfl rfl rfl hH rfl rfl (fun _ h => h.2.2) ?_
   refine zn 1 rfl fun K hK => ?_
   go_simp
   refine (y68 _ (HT.out.below H.out.bel) HR.out).mono ?_
   rintro e wc ⟨h14, rfl, hv, hb⟩
   replace H := zd H hb
   have HV14 := za hv
   refine zc hK ⟨zb H 0, zb H 2, zb H 3⟩ fun hH => zn 4 rfl fun K hK => ?_
   go_simp
   refine (z0f _ HR.out).mono ?_
   rintro e wc ⟨h17, rfl, hv, hb⟩
   replace H := zd H hb
   have HV17 := za hv
   refine zc hK ⟨zb H 0, zb H 2, zb H 3⟩ fun hH => ?_
   try simp only [Act.put, qa, qb, qc]
   refine zn 5 rfl fun K hK => ?_
   go_simp
   refine (z16 _ HG.out HV17.out).mono ?_
   rintro e wc ⟨h18, rfl, hv, hb⟩
   replace H := zd H hb
   have HV18 := za hv
   refine zc hK ⟨zb H 0, zb H 2, zb H 3⟩ fun hH => zn 7 rfl fun K hK => ?_
   go_simp
   refine (z8g _ (HT.out.below H.out.bel) HV18.out HF.out).mono ?_
   rintro e wc ⟨rfl, hb⟩
   replace H := zd H hb
   refine zc hK ⟨zb H 0, zb H 2, zb H 3⟩ fun hH => zn 8 rfl fun K hK => ?_
   refine zl 1 zt H.out rfl rfl rfl rfl ?_
   intro ws HS
   simp only [qb, qc] at HS
   replace H := za HS
   refine zc hK ⟨zb H 0, zb H 2, zb H 3⟩ fun hH => ?_
   try simp only [Act.put, qa]
   refine zh 9 5 (.bool (decide ((v * ((zL eC u v) * (zL eC u v))) = u))) hH ?_
   refine zm ?_
   go_wp2_with fail
   exact bodyPost_ret (z0c 1 zt rfl _ H rfl rfl rfl) rfl ⟨_, rfl, HV14.out, H.out.bel⟩
 ·skip
  refine z1o 6 rfl z9 H.out rfl ?_
  intro w6 g6 H3
  replace H := za H3
  refine zc hK ⟨zb H 3, zb H 2⟩ fun hH => zn 3 rfl fun K hK => ?_
  go_simp
  refine (z16 _ HF.out HG.out).mono ?_
  rintro e wc ⟨h10, rfl, hv, hb⟩
  replace H := zd H hb
  have HV10 := za hv
  refine zc hK ⟨zb H 3, zb H 2⟩ fun hH => zn 4 rfl fun K hK => ?_
  go_simp
  refine (y16 _ HV10.out).mono ?_
  rintro e wc ⟨h11, rfl, hv, hb⟩
  replace H := zd H hb
  have HV11 := za hv
  refine zc hK ⟨zb H 3, zb H 2⟩ fun hH => ?_
  try simp only [Act.put, qa, qb, qc]
  refine zn 5 rfl fun K hK => ?_
  go_simp
  refine (z16 _ HF.out HV11.out).mono ?_
  rintro e wc ⟨h12, rfl, hv, hb⟩
  replace H := zd H hb
  have HV12 := za hv
  refine zc hK ⟨zb H 3, zb H 2⟩ fun hH => zn 7 rfl fun K hK => ?_
  refine zl 0 zt H.out rfl rfl rfl rfl ?_
  intro ws HS
  simp only [qb] at HS
  replace H := za HS
  refine zc hK ⟨zb H 3, zb H 2⟩ fun hH => ?_
  try simp only [Act.put, qa]
  refine zm ?_
  have HR : Hid (EK h12 (zL eC u v)) := za HV12.out
  clear HV10 HV11 HV12
  go_wp2_with fail
  refine wp_region_noPanic ?_
  refine wp_region_held_drew (S := fun W => W.heap[g6]? = some (zv 30 .u64 8 (NZ h12)) ∧ W.heap[g3]? = some (zv 30 .u64 8 (NZ g)) ∧ W.heap[g2]? = some (zv 30 .u64 8 (NZ f))) (by kernel_rfl) (⟨H.out.drew.row 0 rfl, H.out.drew.row 2 rfl, H.out.drew.row 3 rfl⟩) (fun hH => ?_)
  replace H := za H.out.drew
  generalize World.drew _ = w8 at *
  refine zk 0 13 zt rfl rfl rfl hH rfl rfl (fun _ h => h.1) ?_
  refine zk 2 15 zt rfl rfl rfl hH rfl rfl (fun _ h => h.2.1) ?_
  try simp only [Act.put, qa, qb, qc]
  refine zk 3 16 zt rfl rfl rfl hH rfl rfl (fun _ h => h.1) ?_
  refine zk 6 19 zt rfl rfl rfl hH rfl rfl (fun _ h => h.2.2) ?_
  refine zn 1 rfl fun K hK => ?_
  go_simp
  refine (y68 _ (HT.out.below H.out.bel) HR.out).mono ?_
  rintro e wc ⟨h14, rfl, hv, hb⟩
  replace H := zd H hb
  have HV14 := za hv
  refine zc hK ⟨zb H 0, zb H 2, zb H 3⟩ fun hH => ?_
  try simp only [Act.put, qa, qb, qc]
  refine zn 4 rfl fun K hK => ?_
  go_simp
  refine (z0f _ HR.out).mono ?_
  rintro e wc ⟨h17, rfl, hv, hb⟩
  replace H := zd H hb
  have HV17 := za hv
  refine zc hK ⟨zb H 0, zb H 2, zb H 3⟩ fun hH => zn 5 rfl fun K hK => ?_
  go_simp
  refine (z16 _ HG.out HV17.out).mono ?_
  rintro e wc ⟨h18, rfl, hv, hb⟩
  replace H := zd H hb
  have HV18 := za hv
  refine zc hK ⟨zb H 0, zb H 2, zb H 3⟩ fun hH => zn 7 rfl fun K hK => ?_
  go_simp
  refine (z8g _ (HT.out.below H.out.bel) HV18.out HF.out).mono ?_
  rintro e wc ⟨rfl, hb⟩
  replace H := zd H hb
  refine zc hK ⟨zb H 0, zb H 2, zb H 3⟩ fun hH => ?_
  try simp only [Act.put, qa, qb, qc]
  refine zn 8 rfl fun K hK => ?_
  refine zl 1 zt H.out rfl rfl rfl rfl ?_
  intro ws HS
  simp only [qb, qc] at HS
  replace H := za HS
  refine zc hK ⟨zb H 0, zb H 2, zb H 3⟩ fun hH => ?_
  try simp only [Act.put, qa]
  refine zh 9 5 (.bool (decide ((v * ((zL eC u v) * (zL eC u v))) = u))) hH ?_
  refine zm ?_
  go_wp2_with fail
  exact bodyPost_ret (z0c 1 zt rfl _ H rfl rfl rfl) rfl ⟨_, rfl, HV14.out, H.out.bel⟩
section
variable {f g : Nat → Nat} {a b : K}
theorem equal_kt (w : World) (hT : Tp w) (hf : EK f a) (hg : EK g b) (h : a = b) :
  Calls Tryz.prog 122 #[EV f, EV g] w fun e w' => e = .returned (.bool true) ∧ Below w.heap.size w w' :=
 (z8g w hT hf hg).mono fun _ _ ⟨he, hb⟩ => ⟨by rw [he, decide_eq_true h], hb⟩
end
end Go.Proofs.YtgjbonikbmgfmaaGreatDoor
