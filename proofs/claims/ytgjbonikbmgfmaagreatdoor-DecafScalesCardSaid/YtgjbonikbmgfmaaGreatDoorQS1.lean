/- Lemmas; no statement is proved here. -/
import Derived.Test.YtgjbonikbmgfmaaGreatDoorQMs1
set_option maxRecDepth 8000
set_option maxHeartbeats 3200000
namespace Go.Proofs.YtgjbonikbmgfmaaGreatDoor
def car (x y i : Nat) : Nat := (x % 2 ^ (64 * i) + y % 2 ^ (64 * i)) / 2 ^ (64 * i)
theorem car_zero (x y : Nat) : car x y 0 = 0 := by simp [car, Nat.mod_one]
theorem car_le (x y i : Nat) : car x y i ≤ 1 := by
 unfold car
 have h1 := Nat.mod_lt x (Nat.two_pow_pos (64 * i))
 have h2 := Nat.mod_lt y (Nat.two_pow_pos (64 * i))
 apply Nat.le_of_lt_succ
 rw [Nat.div_lt_iff_lt_mul (Nat.two_pow_pos _)]
 omega
theorem wd_add (x y i : Nat) : (wd (x + y) i).toNat = ((wd x i).toNat + (wd y i).toNat + car x y i) % 18446744073709551616 := by
 rw [z2v, z2v, z2v]
 exact (z9m x y _ _ (Nat.two_pow_pos _) (by omega)).1
theorem car_succ (x y i : Nat) : car x y (i + 1) = ((wd x i).toNat + (wd y i).toNat + car x y i) / 18446744073709551616 := by
 rw [z2v, z2v]
 show (_ % 2 ^ (64 * (i + 1)) + _ % 2 ^ (64 * (i + 1))) / 2 ^ (64 * (i + 1)) = _
 rw [y2r]
 exact (z9m x y _ _ (Nat.two_pow_pos _) (by omega)).2
theorem els_zero_add {E F : Pt pN dK} (h : Els2 z0v E) : Els2 F (z6 zB E F) := by
 have h1 := h.add (Els2.rfl' F)
 rw [z11 zB z0v, z0n] at h1
 exact h1
theorem y87 {E : Pt pN dK} (h : Ord E) (m : Nat) : Els2 (zF zB (m % lN) E) (zF zB m E) := by
 have e : m = lN * (m / lN) + m % lN := (Nat.div_add_mod m lN).symm
 have h1 : Els2 z0v (zF zB (lN * (m / lN)) E) := by
  rw [z3t]
  have h2 := Els2.mul h (m / lN)
  rw [z32] at h2
  exact h2
 have h3 := els_zero_add (F := zF zB (m % lN) E) h1
 rw [← z2g, ← e] at h3
 exact h3
theorem els_sum {E : Pt pN dK} (h : Ord E) (a b : Nat) : Els2 (zF zB ((a + b) % lN) E) (z6 zB (zF zB a E) (zF zB b E)) := by
 rw [← z2g]
 exact y87 h _
theorem els_prod {E : Pt pN dK} (h : Ord E) (a b : Nat) : Els2 (zF zB ((a * b) % lN) E) (zF zB b (zF zB a E)) := by
 rw [← z3t]
 exact y87 h _
open Go.RowKit
theorem LZ_wd0 : LZ (wd 0) = fun _ => 0 := by
 funext i
 show L (wd 0 i) = 0
 rw [y7b]
 rfl
theorem padc_word (x y i : Nat) : adc (wd x i) (wd y i) (car x y i) = wd (x + y) i := by
 apply BitVec.eq_of_toNat_eq
 rw [wd_add]
 unfold adc
 rw [BitVec.toNat_ofNat, y3k (car_le x y i)]
theorem padk_word (x y i : Nat) : adk (wd x i) (wd y i) (car x y i) = car x y (i + 1) := by
 rw [car_succ]
 unfold adk
 rw [y3k (car_le x y i)]
theorem plus_v (x y : Nat) (w : World) :
  Calls Tryz.prog 107 #[W7 x, W7 y] w fun e w' => e = .returned (W7 (x + y)) ∧ Below w.heap.size w w' := by
 have H := za (Ow.start w)
 go_enter Tryz.func107, Tryz.ntmps107
 go_wp2_with (first
  | ((fail_if_success have := g2); (with_reducible apply zw H); (case hgd | ho | hx => exact rfl); clear H; intro w2 g2 H _ _; go_simp)
  | ((fail_if_success have := g3); (with_reducible apply zw H); (case hgd | ho | hx => exact rfl); clear H; intro w3 g3 H _ _; go_simp)
  | ((fail_if_success have := g4); (with_reducible apply ze nil7 H); (case hgd | ho => exact rfl); clear H; intro w4 g4 H _ _; go_simp))
 rw [z7b] at H
 go_loopw [5, 7] (fun v5 v7 wr => ∃ i : Nat, i ≤ 7 ∧ v7 = .int .i64 i ∧ v5 = V (cy (car x y i)) ∧ Ow w wr [(g4, WB 68 7 (mix i (wd (x + y)) fun _ => 0)), (g3, WB 68 7 (wd y)), (g2, WB 68 7 (wd x))]) (fun _ v7 _ => 7 - (intOf v7).toNat)
 case atStart => exact ⟨0, by omega, rfl, by rw [car_zero]; rfl, by rw [z6h]; exact H.out⟩
 case round =>
  clear H
  obtain ⟨i, hi, rfl, rfl, HR⟩ := hrel
  have H := za HR
  clear HR
  by_cases hlt : i < 7
  ·have hid : decide ((i : Int) < 7) = true := by simp; omega
   have i7 : (i : Int) < 7 := by omega
   go_wp2_with fail
   refine wp_region_noPanic ?_
   refine wp_region_held_drew (S := fun W => W.heap[g2]? = some (WB 68 7 (wd x)) ∧ W.heap[g3]? = some (WB 68 7 (wd y))) (by kernel_rfl) (⟨H.out.drew.row 2 rfl, H.out.drew.row 1 rfl⟩) (fun hH => ?_)
   replace H := za H.out.drew
   generalize World.drew _ = w8 at *
   refine zh 0 11 (.int .i64 i) hH ?_
   refine zh 1 12 (.int .i64 i) hH ?_
   refine zh 2 13 (.pointer (some ⟨g2, i, none⟩)) hH ?_
   refine z24 3 14 oneU rfl rfl rfl hH rfl rfl (fun _ h => h.1) hlt ?_
   refine zh 4 15 (.int .i64 i) hH ?_
   refine zh 5 16 (.pointer (some ⟨g3, i, none⟩)) hH ?_
   refine z24 6 17 oneU rfl rfl rfl hH rfl rfl (fun _ h => h.2) hlt ?_
   refine zh 7 18 (V (cy (car x y i))) hH ?_
   refine zh 8 19 (Value.tuple #[V (adc (wd x i) (wd y i) (car x y i)), V (cy (adk (wd x i) (wd y i) (car x y i)))]) hH ?_
   refine zh 9 10 (Value.tuple #[V (adc (wd x i) (wd y i) (car x y i)), V (cy (adk (wd x i) (wd y i) (car x y i)))]) hH ?_
   refine zh 10 20 (V (adc (wd x i) (wd y i) (car x y i))) hH ?_
   refine zh 11 21 (V (cy (adk (wd x i) (wd y i) (car x y i)))) hH ?_
   refine zh 12 22 (.pointer (some ⟨g4, i, none⟩)) hH ?_
   refine zn 13 rfl fun K hK => ?_
   refine z46 0 oneU H.out rfl rfl rfl rfl hlt ?_
   intro ws HS
   simp only [qb] at HS
   replace H := za HS
   refine zc hK ⟨zb H 2, zb H 1⟩ fun hH => ?_
   try simp only [Act.put, qa]
   refine zh 14 5 (V (cy (adk (wd x i) (wd y i) (car x y i)))) hH ?_
   refine zm ?_
   go_wp2_with fail
   go_roundw
   case rel => exact ⟨i + 1, by omega, by go_num, by rw [padk_word], by rw [← z8d, ← padc_word]; exact H.out⟩
   case measure => simp [intOf]; omega
  ·obtain rfl : i = 7 := by omega
   clear hlt hi
   rw [show ((7 : Nat) : Int) = 7 from rfl]
   replace H := za (H.out.like 0 (g := LZ (wd (x + y))) rfl fun k hk => by show L (mix 7 _ _ k) = _; rw [z4n _ _ _ k hk])
   simp only [qb] at H
   go_wp2_with (first
    | ((with_reducible apply zr row7 H); (case hgd | ho | hx => exact rfl); (case hi => repeat first|exact z5|apply z8); intro _ _; go_simp)
    | ((with_reducible apply zj row7 H); (case hgd | ho | hx | hy => exact rfl); (case hi => repeat first|exact z5|apply z8); clear H; intro ws H _ _; simp only [qb] at H; go_simp))
   exact bodyPost_ret (zy 0 row7 rfl _ H rfl rfl) rfl ⟨rfl, H.out.bel⟩
theorem mul_step (x y i : Nat) : tim i y (wd x i) (x % 2 ^ (64 * i) * y) = x % 2 ^ (64 * (i + 1)) * y := by
 unfold tim
 rw [z2v, y2r, Nat.mod_mul, Nat.add_mul]
 generalize x / 2 ^ (64 * i) % 18446744073709551616 = d
 rw [Nat.mul_assoc, Nat.mul_comm d y]
theorem add_s (a b : KL) (w : World) {r : Bool} (hT : Tl r w) :
  Calls Tryz.prog 38 #[W7 a.val, W7 b.val] w fun e w' => e = .returned (W7 (a + b).val) ∧ Below w.heap.size w w' := by
 have HX : Hid (a.val + b.val < 2 * lN) := za (by have := a.isLt; have := b.isLt; omega)
 rw [Fin.val_add]
 have HT := za hT
 clear hT
 have H := za (Ow.start w)
 go_enter Tryz.func38, Tryz.ntmps38
 go_wp2_with (first
  | ((with_reducible apply zw H); (case hgd | ho | hx => exact rfl); clear H; intro _ _ H _ _; go_simp)
  | ((with_reducible apply ze z3u H); (case hgd | ho => exact rfl); clear H; intro _ _ H _ _; go_simp)
  | ((with_reducible apply zr row7 H); (case hgd | ho | hx => exact rfl); (case hi => repeat first|exact z5|apply z8); intro _ _; go_simp)
  | ((with_reducible refine (plus_v a.val b.val _).mono ?_); rintro e wc ⟨rfl, hb⟩; replace H := zd H hb; clear hb)
  | ((with_reducible refine (y4e (a.val + b.val) _ (HT.out.below H.out.bel) HX.out).mono ?_); rintro e wc ⟨rfl, hb⟩; replace H := zd H hb; clear hb)
  | ((with_reducible apply zj z1g H); (case hgd | ho | hx | hy => exact rfl); (case hi => repeat first|exact z5|apply z8); clear H; intro ws H _ _; simp only [qb] at H; go_simp))
 exact bodyPost_ret (zy 0 z1g rfl _ H rfl rfl) rfl ⟨rfl, H.out.bel⟩
theorem sprod_bd (a b : KL) : Bd 3 (a.val * b.val) := by
 unfold Bd
 rw [if_neg (by decide)]
 have h := Nat.mul_le_mul (Nat.le_of_lt a.isLt) (Nat.le_of_lt b.isLt)
 exact Nat.lt_of_le_of_lt h (leb (by decide +kernel))
theorem mul_s (a b : KL) (w : World) (hT : Tl true w) :
  Calls Tryz.prog 39 #[W7 a.val, W7 b.val] w fun e w' => e = .returned (W7 (a * b).val) ∧ Below w.heap.size w w' := by
 have HB := za (sprod_bd a b)
 have HF := za (fits7 b)
 have HG : Hid (a.val % 2 ^ (64 * 7) = a.val) := za (Nat.mod_eq_of_lt (fits7 a))
 rw [Fin.val_mul]
 have HT := za hT
 clear hT
 have H := za (Ow.start w)
 go_enter Tryz.func39, Tryz.ntmps39
 go_wp2_with (first
  | ((fail_if_success have := g2); (with_reducible apply zw H); (case hgd | ho | hx => exact rfl); clear H; intro w2 g2 H _ _; go_simp)
  | ((fail_if_success have := g3); (with_reducible apply zw H); (case hgd | ho | hx => exact rfl); clear H; intro w3 g3 H _ _; go_simp)
  | ((fail_if_success have := g4); (with_reducible apply ze z3u H); (case hgd | ho => exact rfl); clear H; intro w4 g4 H _ _; go_simp)
  | ((fail_if_success have := g5); (with_reducible apply ze nil17 H); (case hgd | ho => exact rfl); clear H; intro w5 g5 H _ _; go_simp)
  | ((with_reducible apply zr row7 H); (case hgd | ho | hx => exact rfl); (case hi => repeat first|exact z5|apply z8); intro _ _; go_simp))
 replace H := za (H.out.like 0 (g := LZ (wd (a.val % 2 ^ (64 * 0) * b.val))) rfl fun k _ => by rw [Nat.mul_zero, Nat.pow_zero, Nat.mod_one, Nat.zero_mul, LZ_wd0])
 simp only [qb] at H
 go_loopw [10] (fun v10 wr => ∃ i : Nat, i ≤ 7 ∧ v10 = .int .i64 i ∧ Ow w wr [(g5, WB 146 17 (wd (a.val % 2 ^ (64 * i) * b.val))), (g4, zv 70 .u64 7 fun _ => 0), (g3, WB 70 7 (wd (b).val)), (g2, WB 70 7 (wd (a).val))]) (fun v10 _ => 7 - (intOf v10).toNat)
 case atStart => exact ⟨0, by omega, rfl, H.out⟩
 case round =>
  clear H
  obtain ⟨i, hi, rfl, HR⟩ := hrel
  have H := za HR
  clear HR
  by_cases hlt : i < 7
  ·have hid : decide ((i : Int) < 7) = true := by simp; omega
   have i7 : (i : Int) < 7 := by omega
   have i17 : (i : Int) ≤ 17 := by omega
   obtain ⟨R, hR⟩ : ∃ R, i + R = 17 := ⟨17 - i, by omega⟩
   have eR : 17 - i = R := by omega
   have HE := za hR
   have R8 : 7 ≤ R := by omega
   have n17 : ¬ 17 = i := by omega
   go_wp2_with (first
    | ((with_reducible apply z79 (n := 7) (f := wd a.val) Tryz.underlying68); (case hgd | ho | hx | hy => exact rfl); (case hi => omega); intro _ _; go_simp))
   refine wp_region_noPanic ?_
   refine wp_region_held_drew (S := fun _ => True) (by kernel_rfl) trivial (fun hH => ?_)
   replace H := za H.out.drew
   generalize World.drew _ = w8 at *
   clear hR
   refine zh 0 14 (.int .i64 i) hH ?_
   refine zh 1 15 (.slice (some ⟨g5, i, none⟩) R R) hH ?_
   refine zh 2 16 (.pointer (some ⟨g3, 0, none⟩)) hH ?_
   refine zh 3 17 (.slice (some ⟨g3, 0, none⟩) 7 7) hH ?_
   refine zh 4 18 (V (wd a.val i)) hH ?_
   refine zn 5 rfl fun K hK => ?_
   go_simp
   refine (y46 g5 17 i R (a.val % 2 ^ (64 * i) * b.val) g3 7 b.val _ _ (wd a.val i) _ HE.out (by omega) R8 (H.out.row 0 rfl) (H.out.row 2 rfl) (H.out.ne 2 0 rfl rfl (by decide)) HF.out).mono ?_
   rintro e wc ⟨rfl, hr, hb, ha⟩
   replace H := za (H.out.put 0 rfl hb ha hr)
   simp only [qb] at H
   clear hr hb ha
   refine hK.out _ _ trivial (fun _ => ?_)
   try simp only [Act.put, qa, qb, qc]
   refine zm ?_
   rw [mul_step] at H
   go_wp2_with fail
   go_roundw
   case rel => exact ⟨i + 1, by omega, by go_num, H.out⟩
   case measure => simp [intOf]; omega
  ·obtain rfl : i = 7 := by omega
   rw [show ((7 : Nat) : Int) = 7 from rfl]
   rw [HG.out] at H
   go_wp2_with (first
    | ((with_reducible apply zr y0j H); (case hgd | ho | hx => exact rfl); (case hi => repeat first|exact z5|apply z8); intro _ _; go_simp)
    | ((with_reducible refine (y5c (a.val * b.val) _ (HT.out.below H.out.bel) HB.out).mono ?_); rintro e wc ⟨rfl, hb⟩; replace H := zd H hb; clear hb)
    | ((with_reducible apply zj z1g H); (case hgd | ho | hx | hy => exact rfl); (case hi => repeat first|exact z5|apply z8); clear H; intro ws H _ _; simp only [qb, qc] at H; go_simp))
   exact bodyPost_ret (zy 1 z1g rfl _ H rfl rfl) rfl ⟨rfl, H.out.bel⟩
end Go.Proofs.YtgjbonikbmgfmaaGreatDoor
