/-
 Lemmas for the walks, several texts in one. No statement is proved here.
-/
import Derived.Test.YtoeokhfhcpcjlaaGreatDoorBuU
import Derived.Test.YtoeokhfhcpcjlaaGreatDoorBuT
import Derived.Deep.CutRange
import Derived.Lib.MinMax
import Derived.Deep.LoopGhost
set_option maxRecDepth 8000
set_option maxHeartbeats 3200000
namespace Go.Proofs.YtoeokhfhcpcjlaaGreatDoor
open Go.RowKit
theorem xor_m1 {n : Int} (h1 : -9223372036854775808 ≤ n) (h2 : n < 0) : bits .xor .i64 n (-1) = -n - 1 := by
 have e1 : bits .xor .i64 n (-1) = IntKind.i64.wrap (((BitVec.ofInt 64 n ^^^ BitVec.ofInt 64 (-1)).toNat : Nat) : Int) := rfl
 have e2 : BitVec.ofInt 64 n ^^^ BitVec.ofInt 64 (-1) = ~~~ BitVec.ofInt 64 n := by
  rw [show BitVec.ofInt 64 (-1) = BitVec.allOnes 64 by decide +kernel, BitVec.xor_allOnes]
 rw [e1, e2, BitVec.toNat_not, BitVec.toNat_ofInt, show ((2 ^ 64 : Nat) : Int) = 18446744073709551616 from rfl, show (2 : Nat) ^ 64 = 18446744073709551616 from rfl, IntKind.wrap_i64]
 omega
theorem xor_0 {n : Int} (h1 : 0 ≤ n) (h2 : n ≤ 9223372036854775807) : bits .xor .i64 n 0 = n := by
 have e1 : bits .xor .i64 n 0 = IntKind.i64.wrap (((BitVec.ofInt 64 n ^^^ BitVec.ofInt 64 0).toNat : Nat) : Int) := rfl
 have e2 : BitVec.ofInt 64 n ^^^ BitVec.ofInt 64 0 = BitVec.ofInt 64 n := by
  rw [show BitVec.ofInt 64 0 = 0#64 by decide +kernel, BitVec.xor_zero]
 rw [e1, e2, BitVec.toNat_ofInt, show ((2 ^ 64 : Nat) : Int) = 18446744073709551616 from rfl, IntKind.wrap_i64]
 omega
def sgn (z : Int) : Int := if z < 0 then -1 else 0
theorem z84 (n : Int) (w : World) (h1 : -9223372036854775807 ≤ n) (h2 : n ≤ 9223372036854775807) {m : Nat} (hm : n.natAbs = m) {s : Int} (hs : sgn n = s) :
  Calls Tryz.prog 78 #[.int .i64 n] w fun e w' => e = .returned (.tuple #[.int .i64 (m : Int), .int .i64 s]) ∧ Below w.heap.size w w' := by
 by_cases h : n < 0
 ·have e1 : n / 9223372036854775808 = -1 := by omega
  have e2 := xor_m1 (n := n) (by omega) h
  have EM : Hid (-n = (m : Int)) := Lib.hid (by omega)
  have ES : Hid (-1 = s) := Lib.hid (by rw [← hs]; exact (if_pos h).symm)
  have e3 : IntKind.i64.wrap (-n - 1 - -1) = -n := by rw [show -n - 1 - -1 = -n by omega]; exact IntWalk.i64_in _ (by omega)
  clear hm hs
  go_enter Tryz.func78, Tryz.ntmps78
  go_wp2_with fail
  go_ret2
  exact ⟨by rw [← EM.out, ← ES.out]; rfl, Below.refl _ _⟩
 ·have e1 : n / 9223372036854775808 = 0 := by omega
  have e2 := xor_0 (n := n) (by omega) h2
  have EM : Hid (n = (m : Int)) := Lib.hid (by omega)
  have ES : Hid (0 = s) := Lib.hid (by rw [← hs]; exact (if_neg h).symm)
  clear hm hs
  go_enter Tryz.func78, Tryz.ntmps78
  go_wp2_with fail
  go_ret2
  exact ⟨by rw [← EM.out, ← ES.out]; rfl, Below.refl _ _⟩
theorem z8u {v : Nat → Int} {P R : Pt pN dK} (s : Int) (w : World) (hT : Tp w) (hp : PtK v P) (hR : (if s % 2 = 0 then P else pneg P) = R) :
  Calls Tryz.prog 80 #[.int .i64 s, PO v] w fun e w' => ∃ r, e = .returned (PO r) ∧ PtK r R ∧ Below w.heap.size w w' := by
 have HT := Lib.hid hT
 clear hT
 have V1 := Lib.hid hp
 have HR := Lib.hid hR
 clear hp hR
 have H := Lib.hid (Ow.start w)
 go_enter Tryz.func80, Tryz.ntmps80
 go_upto_region 1 with (first
  | ((fail_if_success have := g3); (with_reducible apply z0h H); (case hgd | ho | hx => exact rfl); clear H; intro w3 g3 H _ _; go_simp)
  | ((fail_if_success have := g4); (with_reducible apply z0b nilPt H); (case hgd | ho => exact rfl); clear H; intro w4 g4 H _ _; go_simp))
 refine wp_region_noPanic ?_
 refine wp_region_held_drew (S := fun W => W.heap[g3]? = some (Blk 38 .u64 24 (v))) (by kernel_rfl) (H.out.drew.row 1 rfl) (fun hH => ?_)
 replace H := Lib.hid H.out.drew
 generalize World.drew _ = w8 at *
 refine z0a 0 5 (.int .i64 s) rfl rfl rfl hH (fun w hw => by go_simp) ?_
 try simp only [Act.put, qa, qb, qc]
 refine z0f 1 6 rowPt rfl rfl rfl hH rfl rfl (fun _ h => h) ?_
 try simp only [Act.put, qa, qb, qc]
 refine z0f 2 7 rowPt rfl rfl rfl hH rfl rfl (fun _ h => h) ?_
 try simp only [Act.put, qa, qb, qc]
 refine rd1 3 rfl fun K hK => ?_
 go_simp
 refine (z77 _ (HT.out.below H.out.bel) V1.out).mono ?_
 rintro e wc ⟨k8, rfl, hv, hb⟩
 replace H := hcall H hb
 have HV8 := Lib.hid hv
 clear hH
 refine hK.out _ _ (H.out.row 1 rfl) fun hH => ?_
 clear hK K hb hv
 try simp only [Act.put, qa, qb, qc]
 refine rd1 4 rfl fun K hK => ?_
 go_simp
 refine (z4g s _ V1.out HV8.out HR.out).mono ?_
 rintro e wc ⟨k9, rfl, hv, hb⟩
 replace H := hcall H hb
 have HV9 := Lib.hid hv
 clear hH
 refine hK.out _ _ (H.out.row 1 rfl) fun hH => ?_
 clear hK K hb hv
 try simp only [Act.put, qa, qb, qc]
 refine rd1 5 rfl fun K hK => ?_
 refine z0l 0 rfl rowPt H.out rfl rfl rfl rfl ?_
 intro ws HS
 simp only [qb] at HS
 replace H := Lib.hid HS
 clear hH
 refine hK.out _ _ (H.out.row 1 rfl) fun hH => ?_
 clear hK K HS
 try simp only [qa]
 try simp only [Act.put]
 refine wpAnyH_done (by kernel_rfl) ?_ _
 refine NoPanic.normal ?_
 clear hH
 go_wp2_with fail
 exact bodyPost_ret (z0i 0 rowPt rfl _ H rfl rfl) rfl ⟨_, rfl, HV9.out, H.out.bel⟩
theorem places_iter {w : World} {b m : Nat} {X : Nat → Prop} (hb : w.heap[b]? = some (Oc 3 (.int .i64 (m : Int)))) (hm : m ≤ 1000) (xb : ¬ X b) :
  Iter Tryz.prog 145 #[.pointer (some ⟨b, 0, none⟩)] m (PlaceV m) X w := by
 intro l J W hT hJ hY h0
 obtain ⟨Y, hYd⟩ : ∃ Y : Nat → Prop, (fun k => X k ∨ (w.heap.size ≤ k ∧ k < W.heap.size)) = Y := ⟨_, rfl⟩
 rw [hYd] at hY
 have hb := hT.row hb xb
 clear hT xb hYd
 show Calls Tryz.prog 145 #[.func (.yield l) #[] #[], .pointer (some ⟨b, 0, none⟩)] W _
 have f1 : IntKind.i64.wrap ((m : Int) - 1) = (m : Int) - 1 := IntWalk.i64_in _ (by omega)
 have HB := Lib.hid hb
 have HJ := Lib.hid hJ
 have HY := Lib.hid hY
 have H0 := Lib.hid h0
 have HM := Lib.hid hm
 clear hb hJ hY h0
 have H := Lib.hid (Ow.start W)
 go_enter Tryz.func145, Tryz.ntmps145
 go_wp2_with (first
  | ((with_reducible apply own_loadCO cellI H); (case hgd | ho | hx => exact rfl); (case hr => exact HB.out); (case hj => exact rfl); intro _ _; go_simp))
 clear f1 H
 go_loopw [3] (fun v3 wr => ∃ i : Nat, i ≤ m ∧ v3 = .int .i64 ((m : Int) - 1 - (i : Int)) ∧ J i wr ∧ Turn Y W wr) (fun v3 _ => (intOf v3 + 1).toNat)
 case atStart => exact ⟨0, Nat.zero_le _, by go_num, H0.out, Turn.refl _ _⟩
 case round =>
  clear H0
  obtain ⟨i, hi, rfl, hJi, hTi⟩ := hrel
  have HJI := Lib.hid hJi
  have HTI := Lib.hid hTi
  clear hJi hTi
  by_cases hlt : i < m
  ·obtain ⟨j, hj⟩ : ∃ j, m - 1 - i = j := ⟨_, rfl⟩
   have ej : (m : Int) - 1 - (i : Int) = (j : Int) := by omega
   rw [ej]
   have hid : decide ((0 : Int) ≤ (j : Int)) = true := by simp
   have j999 : (j : Int) ≤ 999 := by omega
   have HYI := Lib.hid (HY.out i _ wr HJI.out HTI.out.size hlt rfl)
   rw [hj] at HYI
   have EJ := Lib.hid hj
   have HI := Lib.hid hlt
   have H := Lib.hid (Ow.start wr)
   clear hlt hi ej hj hm
   go_upto_region 3 with fail
   refine wp_in (wpIn_region_lit (z7j (.inl rfl) 2 rfl Only.no ?_))
   simp only [List.take_succ_cons, List.take_zero, List.drop_succ_cons, List.drop_zero]
   go_wp2_with fail
   refine list_yield (args := #[.int .i64 (j : Int)]) (.inl rfl) rfl rfl rfl (by simp only [List.map_toArray, List.map_cons, List.map_nil]; rfl) HYI.out ?_
   rintro e w' ⟨rfl, hJ', ht⟩
   refine ⟨_, rfl, ?_⟩
   refine z7j (.inl rfl) 1 rfl Only.no ?_
   simp only [List.take_succ_cons, List.take_zero, List.drop_succ_cons, List.drop_zero]
   have HJ2 := Lib.hid hJ'
   have HT2 := Lib.hid (HTI.out.trans ht)
   clear H HJI HTI hJ' ht HYI
   go_wp2_with fail
   simp only [wpListIn, Only]
   go_wp2_with fail
   go_roundw
   case rel => exact ⟨i + 1, by have := HI.out; omega, by (have := EJ.out; have := HI.out; have : (j : Int) - 1 = (m : Int) - 1 - ((i + 1 : Nat) : Int) := (by omega); go_num), HJ2.out, HT2.out⟩
   case measure => (simp [intOf] <;> omega)
  ·obtain rfl : m = i := by omega
   have ej : (m : Int) - 1 - (m : Int) = -1 := by omega
   rw [ej]
   clear hlt hi ej hm
   go_wp2_with fail
   go_end0
   exact ⟨⟨_, rfl⟩, HJI.out⟩
theorem places_k {b n : Nat} {M X : Nat → Nat} {P : Nat → Pt pN dK} (w : World) (hR : ∀ k, k < n → RowAt w w.heap.size b (k * 409) (M k) (X k) (P k)) (hn : n ≤ 100) (hM : ∀ k, k < n → M k ≤ 200) :
  Calls Tryz.prog 136 #[.slice (some ⟨b, 0, none⟩) n n] w fun e w' => ∃ g, e = .returned (.func (.func 145) #[] #[.pointer (some ⟨g, 0, none⟩)]) ∧ w.heap.size ≤ g ∧ w'.heap[g]? = some (Oc 3 (.int .i64 ((mxn M n : Nat) : Int))) ∧ Below w.heap.size w w' := by
 have HR := Lib.hid hR
 have HM := Lib.hid hM
 clear hR hM
 have H := Lib.hid (Ow.start w)
 go_enter Tryz.func136, Tryz.ntmps136
 go_wp2_with (first
  | ((fail_if_success have := g3); (with_reducible apply z2b nilInt (z2y _ _) H); (case hgd | ho => exact rfl); clear H; intro w3 g3 H _ _; go_simp)
  | ((with_reducible apply z19 cellI (z2y _ _) H); (case hgd | ho | hx | hy => exact rfl); (case hi => repeat first|exact at0|apply atS); clear H; intro ws H _ _; simp only [qb] at H; go_simp))
 go_loopw [7] (fun v7 wr => ∃ k : Nat, k ≤ n ∧ v7 = .int .i64 (k : Int) ∧ Ow w wr [(g3, Oc 3 (.int .i64 ((mxn M k : Nat) : Int)))]) (fun v7 _ => (n - (intOf v7).toNat))
 case atStart => exact ⟨0, Nat.zero_le _, rfl, H.out⟩
 case round =>
  clear H
  obtain ⟨k, hk, rfl, HH⟩ := hrel
  have H := Lib.hid HH
  clear HH
  by_cases hlt : k < n
  ·have hid : decide ((k : Int) < (n : Int)) = true := by simp; omega
   have hid' : decide (k < n) = true := by simpa using hlt
   have kn : (k : Int) < (n : Int) := by omega
   have n100 : (n : Int) ≤ 100 := by omega
   obtain ⟨gd, hc, _, _⟩ := (HR.out k hlt).is
   have HC : Hid (∀ W, Below w.heap.size w W → W.cell? ⟨b, k * 409, none⟩ = some (.slice (some ⟨gd, 0, none⟩) (M k) (M k))) := Lib.hid fun W hW => (hW.cell (p := ⟨b, k * 409, none⟩) (HR.out k hlt).lt).trans hc
   have EM : Hid (mxn M (k + 1) = max (mxn M k) (M k)) := Lib.hid rfl
   have m1 : mxn M k ≤ 200 := y0u k fun i hi => HM.out i (by omega)
   have m2 : M k ≤ 200 := HM.out k hlt
   obtain ⟨m, hm⟩ : ∃ m, mxn M k = m := ⟨_, rfl⟩
   obtain ⟨c, hcc⟩ : ∃ c, M k = c := ⟨_, rfl⟩
   rw [hm, hcc] at EM
   rw [hm] at H m1
   rw [hcc] at HC m2
   have HL := Lib.hid hlt
   clear hlt hk hc hm hcc hn
   go_upto_region 5 with fail
   refine wp_region_noPanic ?_
   refine wp_region_held_drew (S := fun W => W.cell? ⟨b, k * 409, none⟩ = some (.slice (some ⟨gd, 0, none⟩) c c)) (by kernel_rfl) (HC.out _ H.out.drew.bel) (fun hH => ?_)
   replace H := Lib.hid H.out.drew
   generalize World.drew _ = w8 at *
   refine z0a 1 11 (.slice (some ⟨b, 0, none⟩) n n) rfl rfl rfl hH (fun w hw => by go_simp) ?_
   try simp only [Act.put, qa, qb, qc]
   refine z0a 2 12 (.int .i64 (k : Int)) rfl rfl rfl hH (fun w hw => by go_simp) ?_
   try simp only [Act.put, qa, qb, qc]
   refine z0a 3 13 (.pointer (some ⟨b, k * 409, none⟩)) rfl rfl rfl hH (fun w hw => by go_simp) ?_
   try simp only [Act.put, qa, qb, qc]
   refine z0a 4 14 (.pointer (some ⟨b, k * 409, none⟩)) rfl rfl rfl hH (fun w hw => by go_simp) ?_
   try simp only [Act.put, qa, qb, qc]
   refine held_cell 5 15 z37 rfl rfl rfl hH rfl rfl (fun _ h => h) ?_
   try simp only [Act.put, qa, qb, qc]
   refine z0a 6 16 (.int .i64 (c : Int)) rfl rfl rfl hH (fun w hw => by go_simp) ?_
   try simp only [Act.put, qa, qb, qc]
   refine rd1 0 rfl fun K hK => ?_
   refine own_wp_ld1 10 rfl 0 cellI H.out rfl rfl rfl ?_
   refine hK.out _ _ hH (fun hN => ?_)
   clear hK K hH
   have hH := hN
   clear hN
   try simp only [Act.put, qa, qb, qc]
   refine z0a 7 17 (.int .i64 ((max m c : Nat) : Int)) rfl rfl rfl hH (fun w hw => by go_simp; omega) ?_
   try simp only [Act.put, qa, qb, qc]
   refine rd1 8 rfl fun K hK => ?_
   refine own_wp_st1 0 rfl cellI (z2y _ _) H.out rfl rfl rfl rfl ?_
   intro ws HS _
   simp only [qb] at HS
   replace H := Lib.hid HS
   clear hH
   refine hK.out _ _ (HC.out _ H.out.bel) fun hH => ?_
   clear hK K HS
   try simp only [qa]
   try simp only [Act.put]
   refine wpAnyH_done (by kernel_rfl) ?_ _
   refine NoPanic.normal ?_
   clear hH
   go_wp2_with fail
   go_roundw
   case rel => exact ⟨k + 1, by have := HL.out; omega, by go_num, by rw [EM.out]; exact H.out⟩
   case measure => (have := HL.out; simp [intOf] <;> omega)
  ·obtain rfl : n = k := by omega
   have hid : decide ((n : Int) < (n : Int)) = false := by simp
   have hid' : decide (n < n) = false := by simp
   clear hlt hk hn
   go_wp2_with fail
   go_ret
   exact ⟨_, rfl, H.out.ge 0 rfl, H.out.row 0 rfl, H.out.bel⟩
theorem at_k {b p M x : Nat} {P : Pt pN dK} (w : World) (hT : Tp w) (h : RowAt w w.heap.size b p M x P) (i : Nat) (hi : i < M) (hM : M ≤ 200) {z : Int} (hz : z = (i : Int)) :
  Calls Tryz.prog 137 #[.pointer (some ⟨b, p, none⟩), .int .i64 z] w fun e w' => ∃ r, e = .returned (PO r) ∧ PtK r (zml (sdg x 5 i) P) ∧ Below w.heap.size w w' := by
 subst hz
 obtain ⟨g, hc, hg, hd⟩ := h.is
 have hlt := h.lt
 have HC : Hid (∀ W, Below w.heap.size w W → W.cell? ⟨b, p, none⟩ = some (.slice (some ⟨g, 0, none⟩) M M)) := Lib.hid fun W hW => (hW.cell (p := ⟨b, p, none⟩) hlt).trans hc
 have HD : Hid (∀ W, Below w.heap.size w W → W.cell? ⟨g, i, none⟩ = some (.int .i64 (sdg x 5 i))) := Lib.hid fun W hW => (hW.cell (p := ⟨g, i, none⟩) hg).trans (by
  have hr : w.heap[g]? = some (.cells (AZ .i64 M (sdg x 5)) 3) := hd
  rw [cell_of_row _ _ _ _ _ _ hr, z01 _ _ _ _ hi])
 have hb := sdg_bd x (k := 5) (by omega) i
 rw [show (2 : Int) ^ (5 - 1) = 16 by decide] at hb
 have HP := Lib.hid h.pts
 obtain ⟨d, hdd⟩ : ∃ d, sdg x 5 i = d := ⟨_, rfl⟩
 obtain ⟨m, hm⟩ : ∃ m, d.natAbs = m := ⟨_, rfl⟩
 obtain ⟨s, hs⟩ : ∃ s, sgn d = s := ⟨_, rfl⟩
 rw [hdd] at HD hb ⊢
 have HM := Lib.hid hm
 have HSG := Lib.hid hs
 have HB := Lib.hid hb
 have HML : Hid (m < 17) := Lib.hid (by omega)
 have HR : Hid ((if s % 2 = 0 then pmul edK m P else pneg (pmul edK m P)) = zml d P) := Lib.hid (by rw [← hm]; exact z8j d P hs.symm)
 have iM : (i : Int) < (M : Int) := by omega
 have M200 : (M : Int) ≤ 200 := by omega
 clear hc hg hd hlt hb h hdd hm hs hi
 have HT := Lib.hid hT
 clear hT
 have H := Lib.hid (Ow.start w)
 go_enter Tryz.func137, Tryz.ntmps137
 go_wp2_with (first
  | ((fail_if_success have := g4); (fail_if_success have := g4); (with_reducible apply z0b nilPt H); (case hgd | ho => exact rfl); clear H; intro w4 g4 H _ _; go_simp)
  | ((with_reducible apply z48 z37); (case hgd | ho | hx => exact rfl); (case hc => exact HC.out _ H.out.bel); intro _ _; go_simp)
  | ((with_reducible apply z48 cellI); (case hgd | ho | hx => exact rfl); (case hc => exact HD.out _ H.out.bel); intro _ _; go_simp)
  | ((fail_if_success have := mk1); (with_reducible refine (z84 d _ (by have := HB.out; omega) (by have := HB.out; omega) HM.out HSG.out).mono ?_); rintro e wc ⟨rfl, hb⟩; replace H := hcall H hb; have mk1 := trivial; clear hb)
  | ((fail_if_success have := V1); (with_reducible refine (look_k _ (HT.out.below H.out.bel) ((HP.out.below H.out.bel).more H.out.bel.size) (by omega) m HML.out _ rfl).mono ?_); rintro e wc ⟨k1, rfl, hv, hb⟩; replace H := hcall H hb; have V1 := Lib.hid hv; clear hb hv)
  | ((fail_if_success have := g7); (fail_if_success have := g7); (with_reducible apply z0b nilPt H); (case hgd | ho => exact rfl); clear H; intro w7 g7 H _ _; go_simp)
  | ((with_reducible apply z0g rowPt H); (case hgd | ho | hx => exact rfl); (case hi => repeat first|exact at0|apply atS); intro _ _; go_simp)
  | ((with_reducible apply z0e rowPt H); (case hgd | ho | hx | hy => exact rfl); (case hi => repeat first|exact at0|apply atS); clear H; intro ws H _ _; simp only [qb, qc] at H; go_simp)
  | ((fail_if_success have := V2); (with_reducible refine (z8u s _ (HT.out.below H.out.bel) V1.out HR.out).mono ?_); rintro e wc ⟨k2, rfl, hv, hb⟩; replace H := hcall H hb; have V2 := Lib.hid hv; clear hb hv))
 exact bodyPost_ret (z0i 1 rowPt rfl _ H rfl rfl) rfl ⟨_, rfl, V2.out, H.out.bel⟩
end Go.Proofs.YtoeokhfhcpcjlaaGreatDoor
