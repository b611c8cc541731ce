/- Lemmas; no statement is proved here. -/
import Derived.Test.YtgjbonikbmgfmaaGreatDoorBuK
import Derived.Test.YtgjbonikbmgfmaaGreatDoorBuR
set_option maxRecDepth 8000
set_option maxHeartbeats 3200000
namespace Go.Proofs.YtgjbonikbmgfmaaGreatDoor
open Go.RowKit
theorem y79 (a : K) (x k : Nat) : a ^ (x / 2 ^ k) = a ^ (x / 2 ^ (k + 1)) * a ^ (x / 2 ^ (k + 1)) * (if x / 2 ^ k % 2 = 0 then 1 else a) := by
 have e : x / 2 ^ (k + 1) = x / 2 ^ k / 2 := (y29 x k).symm
 rw [e]
 generalize x / 2 ^ k = y
 rw [← z14]
 split
 ·rw [show y / 2 + y / 2 = y by omega]
  grind
 ·rw [← z09, show y / 2 + y / 2 + 1 = y by omega]
theorem pow_bit0 {a : K} {x k : Nat} (h : x / 2 ^ k % 2 = 0) : a ^ (x / 2 ^ (k + 1)) * a ^ (x / 2 ^ (k + 1)) = a ^ (x / 2 ^ k) := by
 rw [y79 a x k, if_pos h]
 grind
theorem pow_bit1 {a : K} {x k : Nat} (h : x / 2 ^ k % 2 = 1) : a ^ (x / 2 ^ (k + 1)) * a ^ (x / 2 ^ (k + 1)) * a = a ^ (x / 2 ^ k) := by rw [y79 a x k, if_neg (by omega)]
theorem z1h {a : K} (ad : Option Addr) (n c x : Nat) (w : World) (hs : Sb w w.heap.size ad n c x) (hn : n ≤ 1000) :
  Calls Tryz.prog 166 #[FV a.val, .slice ad n c] w fun e w' => e = .returned (FV (a ^ x).val) ∧ Below w.heap.size w w' := by
 have HS := za hs
 have hnZ : (n : Int) ≤ 1000 := by omega
 have HB := za (fun w (k : Nat) (hk : k < 8 * n) (h : Sb w w.heap.size ad n c x) => z3c ad n c x (k : Int) w (by omega) (by omega) h)
 clear hs
 have H := za (Ow.start w)
 go_enter Tryz.func166, Tryz.ntmps166
 go_wp2_with (first
  | ((fail_if_success have := g2); (with_reducible apply zw H); (case hgd | ho | hx => exact rfl); clear H; intro w2 g2 H _ _; go_simp)
  | ((fail_if_success have := g4); (with_reducible apply ze zA.zero H); (case hgd | ho => exact rfl); clear H; intro w4 g4 H _ _; go_simp)
  | ((with_reducible refine (z0p _ 1 (by omega) (by omega)).mono ?_); rintro e wc ⟨rfl, hb⟩; replace H := zd H hb; clear hb)
  | ((fail_if_success have := g5); (with_reducible apply ze zA.zero H); (case hgd | ho => exact rfl); clear H; intro w5 g5 H _ _; go_simp)
  | ((with_reducible apply zj z4 H); (case hgd | ho | hx | hy => exact rfl); (case hi => repeat first|exact z5|apply z8); clear H; intro ws H _ _; simp only [qb] at H; go_simp))
 go_loopw [6] (fun v wr => ∃ (j : Nat), j ≤ 8 * n ∧ v = .int .i64 ((j : Int) - 1) ∧ Ow w wr [(g5, zv 36 .i64 16 (dF (a ^ (x / 2 ^ j)).val)), (g4, zv 36 .i64 16 fun _ => 0), (g2, zv 36 .i64 16 (dF (a).val))]) (fun v _ => (intOf v + 1).toNat)
 case atStart => exact ⟨8 * n, Nat.le_refl _, by go_num, by rw [Nat.div_eq_of_lt HS.out.fits, z5d, ← z00]; exact H.out⟩
 case round =>
  clear H
  obtain ⟨j, hj, rfl, HR⟩ := hrel
  cases j with
  | zero =>
   rw [show ((0 : Nat) : Int) - 1 = -1 from rfl]
   have H : Hid (Ow w wr [(g5, zv 36 .i64 16 (dF (a ^ x).val)), (g4, zv 36 .i64 16 fun _ => 0), (g2, zv 36 .i64 16 (dF (a).val))]) := za (by rw [Nat.pow_zero, Nat.div_one] at HR; exact HR)
   clear HR
   go_wp2_with (first
    | ((with_reducible apply zr z4 H); (case hgd | ho | hx => exact rfl); (case hi => repeat first|exact z5|apply z8); intro _ _; go_simp)
    | ((with_reducible apply zj z4 H); (case hgd | ho | hx | hy => exact rfl); (case hi => repeat first|exact z5|apply z8); clear H; intro ws H _ _; simp only [qb, qc] at H; go_simp))
   exact bodyPost_ret (zy 1 z4 rfl _ H rfl rfl) rfl ⟨rfl, H.out.bel⟩
  | succ k =>
   have hid : decide ((0 : Int) ≤ (k : Int)) = true := by simp
   rw [show ((k + 1 : Nat) : Int) - 1 = (k : Int) by omega]
   have HK := za (fun w => HB.out w k (by omega))
   rw [show bitI x (k : Int) = ((x / 2 ^ k % 2 : Nat) : Int) by unfold bitI; rw [if_neg (by omega)]; rfl] at HK
   have hkn : k < 8000 := by omega
   obtain ⟨y, hy⟩ : ∃ y, a ^ (x / 2 ^ (k + 1)) = y := ⟨_, rfl⟩
   have Hy0 := fun h => pow_bit0 (a := a) (x := x) (k := k) h
   have Hy1 := fun h => pow_bit1 (a := a) (x := x) (k := k) h
   rw [hy] at HR Hy0 Hy1
   have H := za HR
   have Hjn := za hj
   obtain ⟨u, hu⟩ : ∃ u, x / 2 ^ k % 2 = u := ⟨_, rfl⟩
   have hu2 : u < 2 := by rw [← hu]; exact Nat.mod_lt _ (by omega)
   rw [hu] at HK Hy0 Hy1
   clear HR hj hy hu
   rcases (by omega : u = 0 ∨ u = 1) with rfl | rfl
   ·have P0 := za (Hy0 rfl)
    clear Hy0 Hy1
    rw [show ((0 : Nat) : Int) = 0 from rfl] at HK
    go_wp2_with (first
     | ((with_reducible apply zr z4 H); (case hgd | ho | hx => exact rfl); (case hi => repeat first|exact z5|apply z8); intro _ _; go_simp)
     | ((with_reducible refine (z0d _ _ _).mono ?_); rintro e wc ⟨rfl, hb⟩; replace H := zd H hb; clear hb)
     | ((with_reducible apply zj z4 H); (case hgd | ho | hx | hy => exact rfl); (case hi => repeat first|exact z5|apply z8); clear H; intro ws H _ _; simp only [qb] at H; go_simp)
     | ((with_reducible refine (HK.out _ ((HS.out.below H.out.bel).more H.out.bel.size)).mono ?_); rintro e w' ⟨rfl, rfl⟩))
    rw [P0.out] at H
    go_roundw
    case rel => exact ⟨k, by have := Hjn.out; omega, by go_num, H.out⟩
    case measure => (simp [intOf] <;> omega)
   ·have P1 := za (Hy1 rfl)
    clear Hy0 Hy1
    rw [show ((1 : Nat) : Int) = 1 from rfl] at HK
    go_wp2_with (first
     | ((with_reducible apply zr z4 H); (case hgd | ho | hx => exact rfl); (case hi => repeat first|exact z5|apply z8); intro _ _; go_simp)
     | ((with_reducible refine (z0d _ _ _).mono ?_); rintro e wc ⟨rfl, hb⟩; replace H := zd H hb; clear hb)
     | ((with_reducible apply zj z4 H); (case hgd | ho | hx | hy => exact rfl); (case hi => repeat first|exact z5|apply z8); clear H; intro ws H _ _; simp only [qb] at H; go_simp)
     | ((with_reducible refine (HK.out _ ((HS.out.below H.out.bel).more H.out.bel.size)).mono ?_); rintro e w' ⟨rfl, rfl⟩))
    rw [P1.out] at H
    go_roundw
    case rel => exact ⟨k, by have := Hjn.out; omega, by go_num, H.out⟩
    case measure => (simp [intOf] <;> omega)
theorem y4l (x : Nat) : bX x = bt x := by
 funext i
 unfold bX bt
 rw [show (256 : Nat) = 2 ^ 8 from rfl, ← Nat.pow_mul]
theorem z1p (w : World) : Calls Tryz.prog 64 #[] w fun e w' => ∃ a c, e = .returned (.slice a 56 c) ∧ Sb w' w'.heap.size a 56 c pN ∧ Below w.heap.size w w' :=
 (refPrime_any w).mono fun _ _ ⟨_, he, ⟨g, c, hv, _, hs⟩, hb⟩ => ⟨some ⟨g, 0, none⟩, c, by rw [he, hv], ⟨by rw [← y4l]; exact hs, by decide +kernel⟩, hb⟩
theorem y4f {x : Nat} (h : x ≤ pN + 1) : dl 8 x ≤ 56 := (z5f 8 x 56 (by omega)).2 (Nat.lt_of_le_of_lt h (by decide +kernel))
theorem z2r {a : K} (w : World) :
  Calls Tryz.prog 117 #[FV a.val] w fun e w' => e = .returned (FV (inv a).val) ∧ Below w.heap.size w w' := by
 have h56 := y4f (show pN - 2 ≤ pN + 1 by omega)
 have H := za (Ow.start w)
 go_enter Tryz.func117, Tryz.ntmps117
 go_wp2_with (first
  | ((fail_if_success have := g1); (with_reducible apply zw H); (case hgd | ho | hx => exact rfl); clear H; intro w1 g1 H _ _; go_simp)
  | ((with_reducible apply ze zA.zero H); (case hgd | ho => exact rfl); clear H; intro _ _ H _ _; go_simp))
 refine wp_region_noPanic ?_
 refine wp_region_held_drew (S := fun W => W.heap[g1]? = some (zv 36 .i64 16 (dF (a).val))) (by kernel_rfl) (H.out.drew.row 1 rfl) (fun hH => ?_)
 replace H := za H.out.drew
 generalize World.drew _ = w8 at *
 refine zk 0 3 z4 rfl rfl rfl hH rfl rfl (fun _ h => h) ?_
 refine zK [1, 2] (zG rfl (fun K hK => ?_) (zG rfl (fun K hK => ?_) zJ))
 ·skip
  go_simp
  refine (z1p _).mono ?_
  rintro e wc ⟨a4, c4, rfl, hs, hb⟩
  replace H := zd H hb
  have HS4 := za hs
  refine zc hK (zb H 1) fun hH => zn 2 rfl fun K hK => ?_
  refine z2q 5 rfl (v := 2) (by omega) H.out rfl ?_
  intro w5 g5 H3 hs hb
  replace HS4 := za (HS4.out.call hb)
  replace H := za H3
  have HS5 := za hs
  refine zc hK (zb H 2) fun hH => ?_
  try simp only [Act.put, qa, qb, qc]
  refine zn 3 rfl fun K hK => ?_
  go_simp
  refine (z49 _ _ _ _ _ _ _ _ _ (by omega) (by omega) HS4.out HS5.out (by decide +kernel)).mono ?_
  rintro e wc ⟨_, rfl, a6, c6, rfl, hs, hb⟩
  replace HS4 := za (HS4.out.call hb)
  replace HS5 := za (HS5.out.call hb)
  replace H := zd H hb
  have HS6 := za hs
  refine zc hK (zb H 2) fun hH => zn 4 rfl fun K hK => ?_
  go_simp
  refine (z1h _ _ _ _ _ HS6.out (by omega)).mono ?_
  rintro e wc ⟨rfl, hb⟩
  replace HS4 := za (HS4.out.call hb)
  replace HS5 := za (HS5.out.call hb)
  replace HS6 := za (HS6.out.call hb)
  replace H := zd H hb
  refine zc hK (zb H 2) fun hH => zn 5 rfl fun K hK => ?_
  refine zl 1 z4 H.out rfl rfl rfl rfl ?_
  intro ws HS
  simp only [qb, qc] at HS
  replace H := za HS
  refine zc hK (zb H 2) fun hH => ?_
  try simp only [Act.put, qa]
  refine zm ?_
  go_wp2_with fail
  exact bodyPost_ret (zy 1 z4 rfl _ H rfl rfl) rfl ⟨rfl, H.out.bel⟩
 ·skip
  refine z2q 5 rfl (v := 2) (by omega) H.out rfl ?_
  intro w5 g5 H3 hs hb
  replace H := za H3
  have HS5 := za hs
  refine zc hK (zb H 2) fun hH => ?_
  try simp only [Act.put, qa, qb, qc]
  refine zn 1 rfl fun K hK => ?_
  go_simp
  refine (z1p _).mono ?_
  rintro e wc ⟨a4, c4, rfl, hs, hb⟩
  replace HS5 := za (HS5.out.call hb)
  replace H := zd H hb
  have HS4 := za hs
  refine zc hK (zb H 2) fun hH => zn 3 rfl fun K hK => ?_
  go_simp
  refine (z49 _ _ _ _ _ _ _ _ _ (by omega) (by omega) HS4.out HS5.out (by decide +kernel)).mono ?_
  rintro e wc ⟨_, rfl, a6, c6, rfl, hs, hb⟩
  replace HS5 := za (HS5.out.call hb)
  replace HS4 := za (HS4.out.call hb)
  replace H := zd H hb
  have HS6 := za hs
  refine zc hK (zb H 2) fun hH => zn 4 rfl fun K hK => ?_
  go_simp
  refine (z1h _ _ _ _ _ HS6.out (by omega)).mono ?_
  rintro e wc ⟨rfl, hb⟩
  replace HS5 := za (HS5.out.call hb)
  replace HS4 := za (HS4.out.call hb)
  replace HS6 := za (HS6.out.call hb)
  replace H := zd H hb
  refine zc hK (zb H 2) fun hH => ?_
  try simp only [Act.put, qa, qb, qc]
  refine zn 5 rfl fun K hK => ?_
  refine zl 1 z4 H.out rfl rfl rfl rfl ?_
  intro ws HS
  simp only [qb, qc] at HS
  replace H := za HS
  refine zc hK (zb H 2) fun hH => ?_
  try simp only [Act.put, qa]
  refine zm ?_
  go_wp2_with fail
  exact bodyPost_ret (zy 1 z4 rfl _ H rfl rfl) rfl ⟨rfl, H.out.bel⟩
theorem z3q {a : K} (w : World) :
  Calls Tryz.prog 66 #[FV a.val] w fun e w' => e = .returned (.bool (decide (a.val % 2 = 1))) ∧ Below w.heap.size w w' := by
 obtain ⟨y, hy⟩ : ∃ y : Nat, dF a.val 0 = (y : Int) := ⟨_, rfl⟩
 have hy2 : (y : Int) < 268435456 := by rw [← hy]; exact (z8i _ _).2
 obtain ⟨z, hz⟩ : ∃ z, y % 2 = z := ⟨_, rfl⟩
 have HZ : Hid (((z : Int) == 1) = decide (a.val % 2 = 1)) := za (by
  have h1 : a.val / 268435456 ^ 0 % 268435456 = y := by
   have := hy
   unfold dF at this
   exact_mod_cast this
  rw [Nat.pow_zero, Nat.div_one] at h1
  rw [Bool.eq_iff_iff, beq_iff_eq, decide_eq_true_eq]
  omega)
 have e1 : (y : Int) % 2 = (z : Int) := by omega
 have e2 : (y : Int).tmod 2 = (z : Int) := by rw [Int.tmod_eq_emod_of_nonneg (by omega)]; omega
 clear hz
 have H := za (Ow.start w)
 go_enter Tryz.func66, Tryz.ntmps66
 go_wp2_with (first
  | ((with_reducible apply zw H); (case hgd | ho | hx => exact rfl); clear H; intro _ _ H _ _; go_simp)
  | ((with_reducible apply y1s oneI H); (case hgd | ho | hx => exact rfl); (case hi => repeat first|exact z5|apply z8); (case hj => omega); intro _ _; rw [hy]; go_simp))
 go_ret
 exact ⟨by rw [← HZ.out]; rfl, H.out.bel⟩
end Go.Proofs.YtgjbonikbmgfmaaGreatDoor
