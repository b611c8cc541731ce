/- Lemmas; no statement is proved here. -/
import Derived.Test.YtgjbonikbmgfmaaGreatDoorQGms1
import Derived.Test.YtgjbonikbmgfmaaGreatDoorQO
set_option maxRecDepth 8000
set_option maxHeartbeats 3200000
namespace Go.Proofs.YtgjbonikbmgfmaaGreatDoor
open Go.RowKit
theorem sbb_word {x y : Nat} (h : y ≤ x) (i : Nat) : sbb (wd x i) (wd y i) (bor x y i) = wd (x - y) i := by
 apply BitVec.eq_of_toNat_eq
 rw [wd_sub h]
 unfold sbb
 rw [BitVec.toNat_ofNat, y3k (bor_le x y i)]
theorem sbk_word {x y : Nat} (h : y ≤ x) (i : Nat) : sbk (wd x i) (wd y i) (bor x y i) = bor x y (i + 1) := by
 rw [bor_succ h]
 unfold sbk
 rw [y3k (bor_le x y i)]
abbrev W7 (x : Nat) : Value := .agg (AZ .u64 7 (LZ (wd x)))
theorem z7b : (fun _ => (0 : Int)) = LZ fun _ => 0 := rfl
theorem y90 (g : Nat → BitVec 64) (i : Nat) (v : BitVec 64) : updZ (LZ g) i (L v) = LZ (upd g i v) := by
 funext j
 unfold updZ upd
 by_cases h : j = i
 ·rw [if_pos h]; show _ = L (if j = i then v else g j); rw [if_pos h]
 ·rw [if_neg h]; show _ = L (if j = i then v else g j); rw [if_neg h]
theorem AZ_7 (f : Nat → Int) : AZ .u64 7 f = #[.int .u64 (f 0), .int .u64 (f 1), .int .u64 (f 2), .int .u64 (f 3), .int .u64 (f 4), .int .u64 (f 5), .int .u64 (f 6)] := by
 unfold AZ
 rfl
theorem zero7 : AZ .u64 7 (fun _ => 0) = #[.int .u64 0, .int .u64 0, .int .u64 0, .int .u64 0, .int .u64 0, .int .u64 0, .int .u64 0] := by
 unfold AZ
 rfl
theorem row7 : IsRow Tryz.prog 68 7 := ⟨⟨_, Tryz.underlying68, rfl⟩, by kernel_rfl⟩
theorem nil7 (w : World) : (zeroValue 68).run Tryz.prog w = .ok (.agg (AZ .u64 7 fun _ => 0)) w := by rw [zero7]; exact Tryz.zeroValue68 w
theorem z1g : IsRow Tryz.prog 70 7 := ⟨⟨_, Tryz.underlying70, rfl⟩, by kernel_rfl⟩
theorem z3u (w : World) : (zeroValue 70).run Tryz.prog w = .ok (.agg (AZ .u64 7 fun _ => 0)) w := by rw [zero7]; exact Tryz.zeroValue70 w
theorem oneU : IsOne Tryz.prog 27 .u64 := ⟨Tryz.underlying27, by kernel_rfl⟩
section
variable {P : Program} {w : World} {ty : TypeId} {m : Nat}
theorem z6p (hT : IsRow P ty m) {b o : Nat} {g : Nat → BitVec 64} (hr : ∀ i, i < m → w.cell? ⟨b, o + i, none⟩ = some (V (g i))) :
  (Instr.loadAt ty (.pointer (some ⟨b, o, none⟩))).run P w = .ok (.agg (AZ .u64 m (LZ g))) w := by
 obtain ⟨d, hd, hd'⟩ := hT.under
 have := run_loadAt_mid (P := P) w b o ty (AZ .u64 m (LZ g)).toList d (fun j v hv => by
  have hj : j < m := by
   rcases Nat.lt_or_ge j m with h' | h'
   ·exact h'
   ·rw [List.getElem?_eq_none (by rw [Array.length_toList, z0j]; exact h')] at hv; cases hv
  rw [Array.getElem?_toList, z1c _ _ _ _ hj] at hv
  rw [hr j hj, hv]) hd (by cases d <;> simp_all) (by rw [Array.length_toList, z0j]; exact hT.size)
 rwa [Array.toArray_toList] at this
theorem Tl.load_ord {r : Bool} (h : Tl r w) : (Instr.loadAt 68 (.pointer (some ⟨1, 0, none⟩))).run Tryz.prog w = .ok (W7 lN) w :=
 z6p row7 fun i hi => by rw [Nat.zero_add]; exact h.ord i hi
end
section
variable {ops : Array Oper} {rest : List Oper} {o : Oper} {a : Act} {w : World} {Q : Exit → Act → World → Prop}
theorem z5y {r : Bool} (HT : Hid (Tl r w)) (hgd : o.guard = none) {x : Operand} (ho : o.op = .load 68 x) (hx : a.eval x = .pointer (some ⟨1, 0, none⟩))
  (h : ∀ K : Act → World → Prop, (∀ a w, wpList Tryz.prog ops Q rest a w → K a w) → K (a.put o.dst (W7 lN)) w) : wpList Tryz.prog ops Q (o :: rest) a w :=
 wpList_plain hgd fun K hK => by
  unfold Oper.wp execOp
  simp only [ho, hx, Sem.run_bind, HT.out.load_ord, Result.andThen_ok]
  exact h K hK
end
section
variable {P : Program} {md : Region.Mode} {ops : Array Oper} {Q : Exit → Act → World → Prop} {S : World → Prop} {fuel : Nat} {listed : Array Bool} {a : Act} {w : World} {t ty : TypeId} {n : Nat}
theorem z24 (i : Nat) (d : Tmp) {oi : Oper} (hT : IsOne P ty .u64) (hi : ops[i]? = some oi) (hd : oi.dst = some d) (hw : Region.wanted oi (yielded ops a.tmps) = true) (hS : S w) {x : Operand} (ho : oi.op = .load ty x) {g j : Nat} (hx : a.eval x = .pointer (some ⟨g, j, none⟩))
  {f : Nat → BitVec 64} (hrow : ∀ w, S w → w.heap[g]? = some (WB t n f)) (hj : j < n)
  (h : wpAnyH P md ops (NoPanic Q) S fuel (listed.setIfInBounds i true) (a.put (some d) (V (f j))) w) (hs : Region.noSelect ops = true := by kernel_rfl) (hf : Region.free md ops listed i = true := by kernel_rfl) (hr : (Region.ready md ops listed).contains i = true := by kernel_rfl) : wpAnyH P md ops (NoPanic Q) S (fuel + 1) listed a w :=
 z0h i d (V (f j)) hi hd (hs := hs) (hf := hf) (hr := hr) hw hS (fun w hw' => by
  unfold execOp
  simp only [ho, hx, Sem.run_bind, y3w hT (hrow w hw') hj, Result.andThen_ok]
  rfl) h
end
section
variable {P : Program} {o : Oper} {a : Act} {w w0 : World} {l : List (Nat × Obj)} {K : Act → World → Prop} {Q : Exit → Act → World → Prop} {t ty : TypeId} {n : Nat}
theorem z46 (i : Nat) (hT : IsOne P ty .u64) (H : Ow w0 w l) {x y : Operand} (ho : o.op = .store ty x y) {g j : Nat} (hx : a.eval x = .pointer (some ⟨g, j, none⟩)) {v : BitVec 64} {f : Nat → BitVec 64} (hy : a.eval y = V v)
  (hi : l[i]? = some (g, WB t n f)) (hj : j < n) (h : ∀ w', Ow w0 w' (l.set i (g, WB t n (upd f j v))) → K (a.put o.dst undef) w') : o.wp P a w K Q := by
 unfold Oper.wp execOp
 simp only [ho, hx, hy, Sem.run_bind, y7z hT (H.row i hi) hj (L v), Result.andThen_ok]
 rw [y90]
 exact h _ (H.setRow i hi _)
end
theorem y3r (x i : Nat) (hi : i < 7) : wd (more x) i = wd x i := by
 unfold more
 have h := y4u x 1 7 i hi
 rwa [z83 7 rfl, Nat.mul_one] at h
theorem y8q {x y : Nat} (hy : y < tN) : y ≤ more x := by unfold more; omega
def dif (x y : Nat) : Nat := more x - y
def und (x y : Nat) : Nat := if x < y then 1 else 0
theorem bor_seven {x y : Nat} (hx : x < tN) (hy : y < tN) : bor (more x) y 7 = und x y := by
 unfold bor more und
 rw [z83 7 rfl, Nat.mod_eq_of_lt hy, Nat.add_mod_left, Nat.mod_eq_of_lt hx]
theorem dif_ge {x y : Nat} (h : y ≤ x) (i : Nat) (hi : i < 7) : wd (dif x y) i = wd (x - y) i := by
 rw [show dif x y = more (x - y) by unfold dif more; omega, y3r _ _ hi]
theorem z9n (x y : Nat) (w : World) (hx : x < tN) (hy : y < tN) :
  Calls Tryz.prog 160 #[W7 x, W7 y] w fun e w' => e = .returned (.tuple #[W7 (dif x y), V (cy (und x y))]) ∧ Below w.heap.size w w' := by
 have HW : Hid (∀ i, i < 7 → sbb (wd x i) (wd y i) (bor (more x) y i) = wd (dif x y) i) := za fun i hi => by
  rw [← y3r x i hi, sbb_word (y8q hy)]
  rfl
 have HK : Hid (∀ i, i < 7 → sbk (wd x i) (wd y i) (bor (more x) y i) = bor (more x) y (i + 1)) := za fun i hi => by
  rw [← y3r x i hi, sbk_word (y8q hy)]
 have HF := za (bor_seven hx hy)
 clear hx hy
 have H := za (Ow.start w)
 go_enter Tryz.func160, Tryz.ntmps160
 go_wp2_with (first
  | ((fail_if_success have := g2); (with_reducible apply zw H); (case hgd | ho | hx => exact rfl); clear H; intro w2 g2 H _ _; go_simp)
  | ((fail_if_success have := g3); (with_reducible apply zw H); (case hgd | ho | hx => exact rfl); clear H; intro w3 g3 H _ _; go_simp)
  | ((fail_if_success have := g4); (with_reducible apply ze nil7 H); (case hgd | ho => exact rfl); clear H; intro w4 g4 H _ _; go_simp))
 rw [z7b] at H
 go_loopw [5, 7] (fun v5 v7 wr => ∃ i : Nat, i ≤ 7 ∧ v7 = .int .i64 i ∧ v5 = V (cy (bor (more x) y i)) ∧ Ow w wr [(g4, WB 68 7 (mix i (wd (dif x y)) fun _ => 0)), (g3, WB 68 7 (wd y)), (g2, WB 68 7 (wd x))]) (fun _ v7 _ => 7 - (intOf v7).toNat)
 case atStart => exact ⟨0, by omega, rfl, by rw [bor_zero]; rfl, by rw [z6h]; exact H.out⟩
 case round =>
  clear H
  obtain ⟨i, hi, rfl, rfl, HR⟩ := hrel
  have H := za HR
  clear HR
  by_cases hlt : i < 7
  ·have hid : decide ((i : Int) < 7) = true := by simp; omega
   have i7 : (i : Int) < 7 := by omega
   go_wp2_with fail
   refine wp_region_noPanic ?_
   refine wp_region_held_drew (S := fun W => W.heap[g2]? = some (WB 68 7 (wd x)) ∧ W.heap[g3]? = some (WB 68 7 (wd y))) (by kernel_rfl) (⟨H.out.drew.row 2 rfl, H.out.drew.row 1 rfl⟩) (fun hH => ?_)
   replace H := za H.out.drew
   generalize World.drew _ = w8 at *
   refine zh 0 11 (.int .i64 i) hH ?_
   refine zh 1 12 (.int .i64 i) hH ?_
   refine zh 2 13 (.pointer (some ⟨g2, i, none⟩)) hH ?_
   refine z24 3 14 oneU rfl rfl rfl hH rfl rfl (fun _ h => h.1) hlt ?_
   refine zh 4 15 (.int .i64 i) hH ?_
   refine zh 5 16 (.pointer (some ⟨g3, i, none⟩)) hH ?_
   refine z24 6 17 oneU rfl rfl rfl hH rfl rfl (fun _ h => h.2) hlt ?_
   refine zh 7 18 (V (cy (bor (more x) y i))) hH ?_
   refine zh 8 19 (Value.tuple #[V (sbb (wd x i) (wd y i) (bor (more x) y i)), V (cy (sbk (wd x i) (wd y i) (bor (more x) y i)))]) hH ?_
   refine zh 9 10 (Value.tuple #[V (sbb (wd x i) (wd y i) (bor (more x) y i)), V (cy (sbk (wd x i) (wd y i) (bor (more x) y i)))]) hH ?_
   refine zh 10 20 (V (sbb (wd x i) (wd y i) (bor (more x) y i))) hH ?_
   refine zh 11 21 (V (cy (sbk (wd x i) (wd y i) (bor (more x) y i)))) hH ?_
   refine zh 12 22 (.pointer (some ⟨g4, i, none⟩)) hH ?_
   refine zn 13 rfl fun K hK => ?_
   refine z46 0 oneU H.out rfl rfl rfl rfl hlt ?_
   intro ws HS
   simp only [qb] at HS
   replace H := za HS
   refine zc hK ⟨zb H 2, zb H 1⟩ fun hH => ?_
   try simp only [Act.put, qa]
   refine zh 14 5 (V (cy (sbk (wd x i) (wd y i) (bor (more x) y i)))) hH ?_
   refine zm ?_
   go_wp2_with fail
   go_roundw
   case rel => exact ⟨i + 1, by omega, by go_num, by rw [(HK.out i hlt)], by rw [← z8d, ← (HW.out i hlt)]; exact H.out⟩
   case measure => simp [intOf]; omega
  ·obtain rfl : i = 7 := by omega
   clear hlt hi
   rw [show ((7 : Nat) : Int) = 7 from rfl]
   replace H := za (H.out.like 0 (g := LZ (wd (dif x y))) rfl fun k hk => by show L (mix 7 _ _ k) = _; rw [z4n _ _ _ k hk])
   simp only [qb] at H
   go_wp2_with (first
    | ((with_reducible apply zr row7 H); (case hgd | ho | hx => exact rfl); (case hi => repeat first|exact z5|apply z8); intro _ _; go_simp)
    | ((with_reducible apply zj row7 H); (case hgd | ho | hx | hy => exact rfl); (case hi => repeat first|exact z5|apply z8); clear H; intro ws H _ _; simp only [qb] at H; go_simp))
   rw [HF.out]
   exact bodyPost_ret (z0c 0 row7 rfl _ H rfl rfl rfl) rfl ⟨rfl, H.out.bel⟩
theorem y7r (m : BitVec 64) (x y z : Nat) (w : World) (hm : ∀ i, i < 7 → wd x i ^^^ (m &&& (wd x i ^^^ wd y i)) = wd z i) :
  Calls Tryz.prog 104 #[V m, W7 x, W7 y] w fun e w' => e = .returned (W7 z) ∧ Below w.heap.size w w' := by
 have HM := za hm
 clear hm
 have H := za (Ow.start w)
 go_enter Tryz.func104, Tryz.ntmps104
 go_wp2_with (first
  | ((fail_if_success have := g4); (with_reducible apply zw H); (case hgd | ho | hx => exact rfl); clear H; intro w4 g4 H _ _; go_simp)
  | ((fail_if_success have := g5); (with_reducible apply zw H); (case hgd | ho | hx => exact rfl); clear H; intro w5 g5 H _ _; go_simp)
  | ((fail_if_success have := g6); (with_reducible apply ze nil7 H); (case hgd | ho => exact rfl); clear H; intro w6 g6 H _ _; go_simp))
 rw [z7b] at H
 go_loopw [8] (fun v8 wr => ∃ i : Nat, i ≤ 7 ∧ v8 = .int .i64 i ∧ Ow w wr [(g6, WB 68 7 (mix i (wd z) fun _ => 0)), (g5, WB 68 7 (wd y)), (g4, WB 68 7 (wd x))]) (fun v8 _ => 7 - (intOf v8).toNat)
 case atStart => exact ⟨0, by omega, rfl, by rw [z6h]; exact H.out⟩
 case round =>
  clear H
  obtain ⟨i, hi, rfl, HR⟩ := hrel
  have H := za HR
  clear HR
  by_cases hlt : i < 7
  ·have hid : decide ((i : Int) < 7) = true := by simp; omega
   have i7 : (i : Int) < 7 := by omega
   go_wp2_with fail
   refine wp_region_noPanic ?_
   refine wp_region_held_drew (S := fun W => W.heap[g4]? = some (WB 68 7 (wd x)) ∧ W.heap[g5]? = some (WB 68 7 (wd y))) (by kernel_rfl) (⟨H.out.drew.row 2 rfl, H.out.drew.row 1 rfl⟩) (fun hH => ?_)
   replace H := za H.out.drew
   generalize World.drew _ = w8 at *
   refine zh 0 11 (.int .i64 i) hH ?_
   refine zh 1 12 (.int .i64 i) hH ?_
   refine zh 2 13 (.pointer (some ⟨g4, i, none⟩)) hH ?_
   refine z24 3 14 oneU rfl rfl rfl hH rfl rfl (fun _ h => h.1) hlt ?_
   refine zh 4 15 (V m) hH ?_
   refine zh 5 16 (.int .i64 i) hH ?_
   refine zh 6 17 (.pointer (some ⟨g4, i, none⟩)) hH ?_
   refine z24 7 18 oneU rfl rfl rfl hH rfl rfl (fun _ h => h.1) hlt ?_
   refine zh 8 19 (.int .i64 i) hH ?_
   refine zh 9 20 (.pointer (some ⟨g5, i, none⟩)) hH ?_
   refine z24 10 21 oneU rfl rfl rfl hH rfl rfl (fun _ h => h.2) hlt ?_
   refine zh 11 22 (V (wd x i ^^^ wd y i)) hH ?_
   refine zh 12 23 (V (m &&& (wd x i ^^^ wd y i))) hH ?_
   refine zh 13 24 (V (wd x i ^^^ (m &&& (wd x i ^^^ wd y i)))) hH ?_
   refine zh 14 25 (.pointer (some ⟨g6, i, none⟩)) hH ?_
   refine zn 15 rfl fun K hK => ?_
   refine z46 0 oneU H.out rfl rfl rfl rfl hlt ?_
   intro ws HS
   simp only [qb] at HS
   replace H := za HS
   refine zc hK ⟨zb H 2, zb H 1⟩ fun hH => ?_
   try simp only [Act.put, qa]
   refine zm ?_
   go_wp2_with fail
   go_roundw
   case rel => exact ⟨i + 1, by omega, by go_num, by rw [← z8d, ← HM.out i hlt]; exact H.out⟩
   case measure => simp [intOf]; omega
  ·obtain rfl : i = 7 := by omega
   clear hlt hi
   rw [show ((7 : Nat) : Int) = 7 from rfl]
   replace H := za (H.out.like 0 (g := LZ (wd z)) rfl fun k hk => by show L (mix 7 _ _ k) = _; rw [z4n _ _ _ k hk])
   simp only [qb] at H
   go_wp2_with (first
    | ((with_reducible apply zr row7 H); (case hgd | ho | hx => exact rfl); (case hi => repeat first|exact z5|apply z8); intro _ _; go_simp)
    | ((with_reducible apply zj row7 H); (case hgd | ho | hx | hy => exact rfl); (case hi => repeat first|exact z5|apply z8); clear H; intro ws H _ _; simp only [qb] at H; go_simp))
   exact bodyPost_ret (zy 0 row7 rfl _ H rfl rfl) rfl ⟨rfl, H.out.bel⟩
theorem pick_0 (x y : Nat) (w : World) :
  Calls Tryz.prog 104 #[.int .u64 0, W7 x, W7 y] w fun e w' => e = .returned (W7 x) ∧ Below w.heap.size w w' :=
 y7r 0 x y x w fun i _ => by simp
theorem pick_1 (x y : Nat) (w : World) :
  Calls Tryz.prog 104 #[.int .u64 18446744073709551615, W7 x, W7 y] w fun e w' => e = .returned (W7 y) ∧ Below w.heap.size w w' :=
 y7r 18446744073709551615 x y y w fun i _ => by
  rw [show (18446744073709551615 : BitVec 64) = BitVec.allOnes 64 from rfl, BitVec.allOnes_and, ← BitVec.xor_assoc, BitVec.xor_self, BitVec.zero_xor]
theorem y9m (f : Nat → Int) (w : World) : (Instr.build 70 #[(0, .agg (AZ .u64 7 f))]).run Tryz.prog w = .ok (.agg (AZ .u64 7 f)) w := by
 rw [AZ_7]
 go_simp
theorem LZ_one (x : Nat) (hx : x < 18446744073709551616) : LZ (wd x) = updZ (fun _ => 0) 0 (x : Int) := by
 funext i
 unfold updZ
 by_cases h : i = 0
 ·subst h
  rw [if_pos rfl]
  show ((wd x 0).toNat : Int) = _
  rw [z2v, Nat.mul_zero, Nat.pow_zero, Nat.div_one, Nat.mod_eq_of_lt hx]
 ·rw [if_neg h]
  show L (wd x i) = 0
  rw [z7u (n := 1) (by omega) (by omega)]
  rfl
theorem built_71 (x : Nat) (hx : x < 18446744073709551616) (w : World) : (Instr.build 68 #[(0, .int .u64 (x : Int))]).run Tryz.prog w = .ok (W7 x) w := by
 rw [show W7 x = .agg (AZ .u64 7 (updZ (fun _ => 0) 0 (x : Int))) from congrArg (fun f => Value.agg (AZ .u64 7 f)) (LZ_one x hx), AZ_7]
 go_simp
 simp [updZ]
section
variable {ops : Array Oper} {rest : List Oper} {o : Oper} {a : Act} {w : World} {Q : Exit → Act → World → Prop}
theorem z5b (hgd : o.guard = none) {x : Operand} (ho : o.op = .build 70 #[(0, x)]) {f : Nat → Int} (hx : a.eval x = .agg (AZ .u64 7 f))
  (k : ∀ K : Act → World → Prop, (∀ a w, wpList Tryz.prog ops Q rest a w → K a w) → K (a.put o.dst (.agg (AZ .u64 7 f))) w) : wpList Tryz.prog ops Q (o :: rest) a w :=
 wpList_plain hgd fun K hK => by
  unfold Oper.wp execOp
  simp only [ho, List.map_toArray, List.map_cons, List.map_nil, hx, Sem.run_bind, y9m, Result.andThen_ok]
  exact k K hK
theorem z8r (hgd : o.guard = none) {x : Operand} (ho : o.op = .build 68 #[(0, x)]) {n : Nat} (hn : n < 18446744073709551616) (hx : a.eval x = .int .u64 (n : Int))
  (k : ∀ K : Act → World → Prop, (∀ a w, wpList Tryz.prog ops Q rest a w → K a w) → K (a.put o.dst (W7 n)) w) : wpList Tryz.prog ops Q (o :: rest) a w :=
 wpList_plain hgd fun K hK => by
  unfold Oper.wp execOp
  simp only [ho, List.map_toArray, List.map_cons, List.map_nil, hx, Sem.run_bind, built_71 n hn, Result.andThen_ok]
  exact k K hK
end
theorem y61 {x y : Nat} (h : ∀ i, i < 7 → wd x i = wd y i) : W7 x = W7 y := congrArg Value.agg (z1w fun i hi => congrArg L (h i hi))
section
variable {md : Region.Mode} {ops : Array Oper} {Q : Exit → Act → World → Prop} {S : World → Prop} {fuel : Nat} {listed : Array Bool} {a : Act} {w : World}
theorem exec_S {e : Operand → Value} {o : Oper} {x : Operand} (ho : o.op = .build 70 #[(0, x)]) {f : Nat → Int} (hx : e x = .agg (AZ .u64 7 f)) (w : World) : (execOp e o).run Tryz.prog w = .ok (.value (.agg (AZ .u64 7 f))) w := by
 unfold execOp
 simp only [ho, List.map_toArray, List.map_cons, List.map_nil, hx, Sem.run_bind, y9m, Result.andThen_ok]
 rfl
end
theorem y4e (x : Nat) (w : World) {r : Bool} (hT : Tl r w) (hx : x < 2 * lN) :
  Calls Tryz.prog 106 #[W7 x] w fun e w' => e = .returned (W7 (x % lN)) ∧ Below w.heap.size w w' := by
 have HT := za hT
 have HX : Hid (x < tN) := za (Nat.lt_trans hx two_lN_lt_t)
 clear hT
 by_cases hlt : x < lN
 ·have HU : Hid (V (cy (und x lN)) = .int .u64 1) := za (by unfold und; rw [if_pos hlt]; rfl)
  have HE : Hid (W7 x = W7 (x % lN)) := za (by rw [Nat.mod_eq_of_lt hlt])
  have f1 : IntKind.u64.wrap (-1) = 18446744073709551615 := by rw [IntKind.wrap_u64]; rfl
  clear hx hlt
  have H := za (Ow.start w)
  go_enter Tryz.func106, Tryz.ntmps106
  go_wp2_with (first
   | ((with_reducible apply zw H); (case hgd | ho | hx => exact rfl); clear H; intro _ _ H _ _; go_simp)
   | ((with_reducible apply ze z3u H); (case hgd | ho => exact rfl); clear H; intro _ _ H _ _; go_simp)
   | ((with_reducible apply zr row7 H); (case hgd | ho | hx => exact rfl); (case hi => repeat first|exact z5|apply z8); intro _ _; go_simp)
   | ((with_reducible apply z5y (za (HT.out.below H.out.bel))); (case hgd | ho | hx => exact rfl); intro _ _; go_simp)
   | ((with_reducible apply ze nil7 H); (case hgd | ho => exact rfl); clear H; intro _ _ H _ _; go_simp)
   | ((with_reducible apply zj row7 H); (case hgd | ho | hx | hy => exact rfl); (case hi => repeat first|exact z5|apply z8); clear H; intro ws H _ _; simp only [qb] at H; go_simp)
   | ((with_reducible refine (z9n x lN _ HX.out y1x).mono ?_); rintro e wc ⟨rfl, hb⟩; replace H := zd H hb; clear hb; rw [HU.out])
   | ((with_reducible refine (pick_1 _ _ _).mono ?_); rintro e wc ⟨rfl, hb⟩; replace H := zd H hb; clear hb)
   | ((with_reducible apply z5b); (case hgd | ho | hx => exact rfl); intro _ _; go_simp)
   | ((with_reducible apply zj z1g H); (case hgd | ho | hx | hy => exact rfl); (case hi => repeat first|exact z5|apply z8); clear H; intro ws H _ _; simp only [qb, qc] at H; go_simp))
  exact bodyPost_ret (zy 1 z1g rfl _ H rfl rfl) rfl ⟨congrArg Ending.returned HE.out, H.out.bel⟩
 ·have HU : Hid (V (cy (und x lN)) = .int .u64 0) := za (by unfold und; rw [if_neg hlt]; rfl)
  have HE : Hid (W7 (dif x lN) = W7 (x % lN)) := za (y61 fun i hi => by rw [dif_ge (by omega) i hi, Nat.mod_eq_sub_mod (by omega), Nat.mod_eq_of_lt (by omega)])
  clear hx hlt
  have H := za (Ow.start w)
  go_enter Tryz.func106, Tryz.ntmps106
  go_wp2_with (first
   | ((with_reducible apply zw H); (case hgd | ho | hx => exact rfl); clear H; intro _ _ H _ _; go_simp)
   | ((with_reducible apply ze z3u H); (case hgd | ho => exact rfl); clear H; intro _ _ H _ _; go_simp)
   | ((with_reducible apply zr row7 H); (case hgd | ho | hx => exact rfl); (case hi => repeat first|exact z5|apply z8); intro _ _; go_simp)
   | ((with_reducible apply z5y (za (HT.out.below H.out.bel))); (case hgd | ho | hx => exact rfl); intro _ _; go_simp)
   | ((with_reducible apply ze nil7 H); (case hgd | ho => exact rfl); clear H; intro _ _ H _ _; go_simp)
   | ((with_reducible apply zj row7 H); (case hgd | ho | hx | hy => exact rfl); (case hi => repeat first|exact z5|apply z8); clear H; intro ws H _ _; simp only [qb] at H; go_simp)
   | ((with_reducible refine (z9n x lN _ HX.out y1x).mono ?_); rintro e wc ⟨rfl, hb⟩; replace H := zd H hb; clear hb; rw [HU.out])
   | ((with_reducible refine (pick_0 _ _ _).mono ?_); rintro e wc ⟨rfl, hb⟩; replace H := zd H hb; clear hb)
   | ((with_reducible apply z5b); (case hgd | ho | hx => exact rfl); intro _ _; go_simp)
   | ((with_reducible apply zj z1g H); (case hgd | ho | hx | hy => exact rfl); (case hi => repeat first|exact z5|apply z8); clear H; intro ws H _ _; simp only [qb, qc] at H; go_simp))
  exact bodyPost_ret (zy 1 z1g rfl _ H rfl rfl) rfl ⟨congrArg Ending.returned HE.out, H.out.bel⟩
theorem kl_lt (a : KL) : a.val < tN := Nat.lt_trans a.isLt y1x
theorem neg_s (a : KL) (w : World) {r : Bool} (hT : Tl r w) :
  Calls Tryz.prog 105 #[W7 a.val] w fun e w' => e = .returned (W7 (-a).val) ∧ Below w.heap.size w w' := by
 have HA := za (kl_lt a)
 have HE : Hid (W7 (dif lN a.val) = W7 (lN - a.val)) := za (y61 fun i hi => dif_ge (Nat.le_of_lt a.isLt) i hi)
 have HX : Hid (lN - a.val < 2 * lN) := za (by have := a.isLt; omega)
 rw [z8f]
 have HT := za hT
 clear hT
 have H := za (Ow.start w)
 go_enter Tryz.func105, Tryz.ntmps105
 go_wp2_with (first
  | ((with_reducible apply zw H); (case hgd | ho | hx => exact rfl); clear H; intro _ _ H _ _; go_simp)
  | ((with_reducible apply ze z3u H); (case hgd | ho => exact rfl); clear H; intro _ _ H _ _; go_simp)
  | ((with_reducible apply z5y (za (HT.out.below H.out.bel))); (case hgd | ho | hx => exact rfl); intro _ _; go_simp)
  | ((with_reducible apply zr row7 H); (case hgd | ho | hx => exact rfl); (case hi => repeat first|exact z5|apply z8); intro _ _; go_simp)
  | ((with_reducible refine (z9n lN a.val _ y1x HA.out).mono ?_); rintro e wc ⟨rfl, hb⟩; replace H := zd H hb; clear hb; rw [HE.out])
  | ((with_reducible apply ze nil7 H); (case hgd | ho => exact rfl); clear H; intro _ _ H _ _; go_simp)
  | ((with_reducible apply zj row7 H); (case hgd | ho | hx | hy => exact rfl); (case hi => repeat first|exact z5|apply z8); clear H; intro ws H _ _; simp only [qb] at H; go_simp)
  | ((with_reducible refine (y4e (lN - a.val) _ (HT.out.below H.out.bel) HX.out).mono ?_); rintro e wc ⟨rfl, hb⟩; replace H := zd H hb; clear hb)
  | ((with_reducible apply zj z1g H); (case hgd | ho | hx | hy => exact rfl); (case hi => repeat first|exact z5|apply z8); clear H; intro ws H _ _; simp only [qb, qc] at H; go_simp))
 exact bodyPost_ret (zy 1 z1g rfl _ H rfl rfl) rfl ⟨rfl, H.out.bel⟩
theorem fits7 (a : KL) : a.val < 2 ^ (64 * 7) := by rw [z83 7 rfl]; exact kl_lt a
theorem wd_small {v : Nat} (hv : v < 2 ^ 64) : V (wd v 0) = .int .u64 (v : Int) := V_eq (by rw [z2v, Nat.mul_zero, Nat.pow_zero, Nat.div_one]; exact Nat.mod_eq_of_lt hv)
section
variable {ops : Array Oper} {rest : List Oper} {o : Oper} {a : Act} {w w0 : World} {l : List (Nat × Obj)} {Q : Exit → Act → World → Prop} {t : TypeId}
theorem own_buildW {v : Nat} (hu : Tryz.prog.underlying t = some (.slice 27)) (hv : v < 2 ^ 64) (H : Hid (Ow w0 w l)) (hgd : o.guard = none) (ho : o.op = .buildSlice t 1 #[(0, .const (.int .u64 (v : Int)))])
  (h : ∀ w' g, Hid (Ow w0 w' ((g, WB 27 1 (wd v)) :: l)) → ∀ K : Act → World → Prop, (∀ a w, wpList Tryz.prog ops Q rest a w → K a w) → K (a.put o.dst (.slice (some ⟨g, 0, none⟩) 1 1)) w') : wpList Tryz.prog ops Q (o :: rest) a w :=
 wpList_plain hgd fun K hK => by
  obtain ⟨i, hi, hz, hs, _⟩ := y1y
  have e : (#[.int .u64 (v : Int)] : Array Value) = AZ .u64 1 (LZ (wd v)) := by
   apply Array.ext_getElem?
   intro j
   rcases j with _ | j
   ·rw [z1c _ _ _ _ (by omega)]
    exact congrArg some (wd_small hv).symm
   ·rw [Array.getElem?_eq_none (by simp), Array.getElem?_eq_none (by rw [z0j]; omega)]
  refine Go.wp_buildSlice t 27 1 _ ho #[.int .u64 (v : Int)] i _ hu hi hz (by rw [hs]; decide) (by rw [hs]; decide) (by rw [hs]; simp [Instr.fill, Act.eval, Array.range, Value.cells]; exact Array.ext (by simp) (fun j h1 h2 => by obtain rfl : j = 0 := (by simpa using h2); simp)) ?_
  rw [e]
  exact h _ _ (za (H.out.alloc _)) K hK
end
def stp (b n x : Nat) : Nat := 2 ^ (b * n) * 1 + x
theorem y44 {n x i : Nat} (hi : i < n) : wd (stp 64 n x) i = wd x i := y4u x 1 n i hi
theorem y2j {n x : Nat} (hx : x < 2 ^ (8 * n)) (j : Nat) : upd8 (bt x) n 1 j = bt (stp 8 n x) j := by
 unfold upd8 stp
 by_cases h : j = n
 ·subst h
  rw [if_pos rfl]
  have := dg_shift x 1 j 0 hx
  rw [Nat.add_zero] at this
  rw [this]
  rfl
 ·rw [if_neg h]
  by_cases h1 : j < n
  ·exact (bt_low x 1 n j h1).symm
  ·have e : 2 ^ (8 * n) * 1 + x < 2 ^ (8 * (n + 1)) := by rw [pow8]; omega
   rw [z7a hx (by omega), z7a e (by omega)]
theorem stp_fits8 {n x : Nat} (hx : x < 2 ^ (8 * n)) : stp 8 n x < 2 ^ (8 * (n + 1)) := by unfold stp; rw [pow8]; omega
theorem z7v {n x : Nat} (hx : x < 2 ^ (64 * n)) : stp 64 n x < 2 ^ (64 * (n + 1)) := by unfold stp; rw [y2r]; omega
theorem y7q {n m x : Nat} (hx : x < 2 ^ (8 * n)) (h : n + 1 = m) : stp 8 n x < 2 ^ (8 * m) := by rw [← h]; exact stp_fits8 hx
theorem stp_fitw {n m x : Nat} (hx : x < 2 ^ (64 * n)) (h : n + 1 = m) : stp 64 n x < 2 ^ (64 * m) := by rw [← h]; exact z7v hx
theorem stp_eq (b n b' n' x : Nat) (h : b * n = b' * n') : stp b n x = stp b' n' x := by unfold stp; rw [h]
theorem z87 (n m : Nat) (h : 8 * n = 64 * m) {x : Nat} : x < 2 ^ (8 * n) ↔ x < 2 ^ (64 * m) := by rw [h]
theorem nbytes_g (a : Option Addr) (n c x s : Nat) (w : World) (hn : n ≤ 1000000) (hs : s ≤ 65536) (h : Sw w w.heap.size a n c x) (hx : x < 2 ^ (8 * s)) :
  Calls Tryz.prog 156 #[.slice a n c, .int .i64 s] w fun e w' => ∃ g, e = .returned (.tuple #[.slice (some ⟨g, 0, none⟩) s s, .int .i64 0]) ∧ w.heap.size ≤ g ∧ w'.heap[g]? = some (YB s (bt x)) ∧ Below w.heap.size w w' :=
 (nbytes_any a n c x s w hn hs h hx).mono fun _ _ ⟨he, hr, hb⟩ => ⟨_, he, Nat.le_refl _, rowB_blk hr, hb⟩
theorem nbytes_57 (a : Option Addr) (n c x : Nat) (w : World) (hn : n ≤ 1000000) (h : Sw w w.heap.size a n c x) (hx : x < 2 ^ (8 * 57)) :
  Calls Tryz.prog 156 #[.slice a n c, .int .i64 57] w fun e w' => ∃ g, e = .returned (.tuple #[.slice (some ⟨g, 0, none⟩) 57 57, .int .i64 0]) ∧ w.heap.size ≤ g ∧ w'.heap[g]? = some (YB 57 (bt x)) ∧ Below w.heap.size w w' :=
 nbytes_g a n c x 57 w hn (by decide) h hx
theorem fits57 {x : Nat} (h : x < tN) : x < 2 ^ (8 * 57) := by
 have h1 : x < 2 ^ (8 * 56) := by rw [z87 56 7 rfl, z83 7 rfl]; exact h
 exact z2e (b := 8) (n := 56) (m := 57) h1 (by decide)
theorem one_bytes (x : Nat) (hx : x < 2 ^ (8 * 56)) : ∀ j, j < 57 → upd8 (bt (stp 8 56 x)) 56 0 j = bt x j := fun j hj => by
 unfold upd8
 by_cases h : j = 56
 ·rw [if_pos h, z7a hx (Nat.le_of_eq h.symm)]
 ·rw [if_neg h, ← y2j hx j]
  unfold upd8
  rw [if_neg h]
theorem LZ_over {x n j : Nat} (h : x < 2 ^ (64 * n)) (hj : n ≤ j) : LZ (wd x) j = 0 := by
 show L (wd x j) = 0
 rw [z7u h hj]
 rfl
theorem y2i (x : Nat) : stp 64 7 x = stp 8 56 x := stp_eq _ _ _ _ _ rfl
theorem stp_top (n x : Nat) (hx : x < 2 ^ (64 * n)) : wd (stp 64 n x) n = 1 := by
 have := y1f x 1 n 0 hx
 rw [Nat.add_zero] at this
 exact this
theorem bytes_g (x : KL) (w : World) :
  Calls Tryz.prog 102 #[W7 x.val] w fun e w' => ∃ g, e = .returned (.slice (some ⟨g, 0, none⟩) 57 57) ∧ w.heap.size ≤ g ∧ w'.heap[g]? = some (YB 57 (bt x.val)) ∧ Below w.heap.size w w' := by
 have h7 := fits7 x
 have h56 : x.val < 2 ^ (8 * 56) := (z87 56 7 rfl).2 h7
 have HL : Hid (stp 64 7 x.val < 2 ^ (64 * 8)) := za (@stp_fitw 7 8 x.val h7 rfl)
 have HF : Hid (stp 64 7 x.val < 2 ^ (8 * 57)) := za (by rw [y2i]; exact @y7q 56 57 x.val h56 rfl)
 have HB : Hid (∀ j, j < 57 → upd8 (bt (stp 64 7 x.val)) 56 0 j = bt x.val j) := za (by rw [y2i]; exact one_bytes _ h56)
 have HO : Hid (∀ j, 7 + 1 ≤ j → LZ (wd (stp 64 7 x.val)) j = 0) := za fun j hj => LZ_over (z7v h7) hj
 have HN1 : Hid (∀ (W : World) (g : Nat), W.heap[g]? = some (WB 70 7 (wd (x).val)) → ∀ j, j < 7 → W.cell? ⟨g, 0 + j, none⟩ = some (.int .u64 (LZ (wd (stp 64 7 x.val)) j))) := za fun W g h j hj => by
  have hr : W.heap[g]? = some (.cells (AZ .u64 7 (LZ (wd x.val))) 70) := h
  rw [Nat.zero_add, cell_of_row _ _ _ _ _ _ hr, z1c _ _ _ _ hj]
  show _ = some (Value.int .u64 (L (wd (stp 64 7 x.val) j)))
  rw [y44 hj]
 have HN2 : Hid (∀ (W : World) (g : Nat), W.heap[g]? = some (WB 27 1 (wd 1)) → ∀ j, j < 1 → W.cell? ⟨g, 0 + j, none⟩ = some (.int .u64 (LZ (wd (stp 64 7 x.val)) (7 + j)))) := za fun W g h j hj => by
  have hr : W.heap[g]? = some (.cells (AZ .u64 1 (LZ (wd 1))) 27) := h
  obtain rfl : j = 0 := Nat.lt_one_iff.1 hj
  rw [Nat.zero_add, cell_of_row _ _ _ _ _ _ hr, z1c _ _ _ _ hj]
  show some (Value.int .u64 (L (wd 1 0))) = some (Value.int .u64 (L (wd (stp 64 7 x.val) 7)))
  rw [stp_top 7 x.val h7]
  rfl
 clear h7 h56
 have H := za (Ow.start w)
 go_enter Tryz.func102, Tryz.ntmps102
 go_wp2_with (first
  | ((with_reducible apply zw H); (case hgd | ho | hx => exact rfl); clear H; intro _ _ H _ _; go_simp)
  | ((with_reducible apply own_buildW (v := 1) Tryz.underlying148 (by decide) H); (case hgd | ho => exact rfl); clear H; intro _ _ H _ _; go_simp)
  | ((with_reducible apply own_grown (f := LZ (wd (stp 64 7 x.val))) (n := 7) (N := 8) Tryz.underlying148); (case hN => exact rfl); (case H => exact H); (case hgd | ho | hs | hx => exact rfl); (case hn => exact HN1.out _ _ (H.out.row 1 rfl)); (case hm => exact HN2.out _ _ (H.out.row 0 rfl)); (case h0 => exact HO.out); (case hl => omega); clear H; intro wz gz cap HCap H _ _; go_simp)
  | ((with_reducible refine (nbytes_57 (some ⟨gz, 0, none⟩) 8 cap (stp 64 7 x.val) _ (by omega) (H.out.sw 0 rfl (by first | omega | exact HCap.out) (by first | omega | exact HCap.out) HL.out) HF.out).mono ?_); rintro e wc ⟨gy, rfl, hgy, hry, hb⟩; replace H := za (H.out.add hb hgy hry); clear hb hgy hry)
  | ((with_reducible apply y1r (v := 0) H); (case hgd | ho | hx | hy => exact rfl); (case hi => repeat first|exact z5|apply z8); (case hj => omega); clear H; intro ws H _ _; simp only [qb] at H; go_simp))
 go_ret
 replace H := za (H.out.like 0 (g := UB (bt x.val)) rfl fun j hj => congrArg U8 (HB.out j hj))
 simp only [qb] at H
 exact ⟨_, rfl, H.out.ge 0 rfl, H.out.row 0 rfl, H.out.bel⟩
theorem row_sb {w : World} {g n x : Nat} (h : w.heap[g]? = some (YB n (bt x))) (hx : x < 2 ^ (8 * n)) : Sb w w.heap.size (some ⟨g, 0, none⟩) n n x :=
 ⟨(y6x h).sl, hx⟩
theorem z51 (x : KL) (w : World) :
  Calls Tryz.prog 102 #[W7 x.val] w fun e w' => ∃ a c, e = .returned (.slice a 57 c) ∧ Sb w' w'.heap.size a 57 c x.val ∧ Below w.heap.size w w' :=
 (bytes_g x w).mono fun _ _ ⟨_, he, _, hr, hb⟩ => ⟨_, _, he, row_sb hr (fits57 (kl_lt x)), hb⟩
theorem xor_no (v : Nat) (hv : v < 9223372036854775808) : bits .xor .i64 (v : Int) 0 = (v : Int) := by
 show IntKind.i64.wrap ((BitVec.ofInt 64 (v : Int) ^^^ BitVec.ofInt 64 0).toNat : Int) = _
 rw [show BitVec.ofInt 64 0 = 0#64 by decide, BitVec.xor_zero, BitVec.toNat_ofInt]
 simp [IntKind.wrap, IntKind.bits, IntKind.signed]
 omega
theorem xor_all (v : Nat) (h0 : 0 < v) (hv : v ≤ 9223372036854775808) : bits .xor .i64 (-(v : Int)) (-1) = (v : Int) - 1 := by
 show IntKind.i64.wrap ((BitVec.ofInt 64 (-(v : Int)) ^^^ BitVec.ofInt 64 (-1)).toNat : Int) = _
 rw [show BitVec.ofInt 64 (-1) = BitVec.allOnes 64 by decide, BitVec.xor_allOnes, BitVec.toNat_not, BitVec.toNat_ofInt]
 simp [IntKind.wrap, IntKind.bits, IntKind.signed]
 omega
theorem run_field (f : Nat → Int) (w : World) : (Instr.field 70 (.agg (AZ .u64 7 f)) 0).run Tryz.prog w = .ok (.agg (AZ .u64 7 f)) w := by
 cases hq : Tryz.prog.info? 68 with
 | none => have := row7.size; simp [hq] at this
 | some q =>
  have hs : q.size = 7 := by have := row7.size; simpa [hq] using this
  have hagg : (isAgg 68).run Tryz.prog w = .ok true w := by
   unfold isAgg
   rw [Sem.run_bind, run_underlying Tryz.underlying68 w]
   rfl
  have hx : (AZ .u64 7 f).extract 0 7 = AZ .u64 7 f := by
   have h := y1e .u64 7 f 0 7 (by omega)
   rw [Nat.zero_add] at h
   rw [h]
   exact z1w fun i _ => by rw [Nat.zero_add]
  unfold Instr.field
  simp only [Sem.run_bind, run_underlying Tryz.underlying70 w, Result.andThen_ok]
  simp [part, asAgg, Sem.run_bind, hagg, sizeOf, typeInfo, hq, hs, hx]
theorem y08 {e : Operand → Value} {o : Oper} {x : Operand} (ho : o.op = .field 70 x 0) {f : Nat → Int} (hx : e x = .agg (AZ .u64 7 f)) (w : World) : (execOp e o).run Tryz.prog w = .ok (.value (.agg (AZ .u64 7 f))) w := by
 unfold execOp
 simp only [ho, hx, Sem.run_bind, run_field, Result.andThen_ok]
 rfl
theorem int_pos (k : KL) (v : Nat) (w : World) {r : Bool} (hT : Tl r w) (hk : k.val = v) (hv1 : v < 9223372036854775808) :
  Calls Tryz.prog 36 #[.int .i64 (v : Int)] w fun e w' => e = .returned (W7 (k).val) ∧ Below w.heap.size w w' := by
 have e1 : (v : Int) / 9223372036854775808 = 0 := by omega
 have e2 := xor_no v hv1
 have e3 : IntKind.u64.wrap (v : Int) = (v : Int) := by rw [IntKind.wrap_u64]; omega
 have e4 : IntKind.u64.wrap 0 = 0 := by rw [IntKind.wrap_u64]; rfl
 have HK := za hk
 have hv : v < 18446744073709551616 := by omega
 have HT := za hT
 clear hT hk
 have H := za (Ow.start w)
 go_enter Tryz.func36, Tryz.ntmps36
 go_wp2_with (first
  | ((fail_if_success have := g2); (with_reducible apply ze z3u H); (case hgd | ho => exact rfl); clear H; intro w2 g2 H _ _; go_simp)
  | ((with_reducible apply z8r (n := v)); (case hgd | ho => exact rfl); (case hn => omega); (case hx => exact rfl); intro _ _; go_simp)
  | ((with_reducible apply z5b); (case hgd | ho | hx => exact rfl); intro _ _; go_simp)
  | ((fail_if_success have := g4); (with_reducible apply ze z3u H); (case hgd | ho => exact rfl); clear H; intro w4 g4 H _ _; go_simp)
  | ((with_reducible apply zj z1g H); (case hgd | ho | hx | hy => exact rfl); (case hi => repeat first|exact z5|apply z8); clear H; intro ws H _ _; simp only [qb] at H; go_simp))
 replace H := za (H.out.like 0 (g := LZ (wd k.val)) rfl fun i _ => by rw [HK.out])
 simp only [qb] at H
 refine wp_region_noPanic ?_
 refine wp_region_held_drew (S := fun W => W.heap[g4]? = some (WB 70 7 (wd (k).val))) (by kernel_rfl) (H.out.drew.row 0 rfl) (fun hH => ?_)
 replace H := za H.out.drew
 generalize World.drew _ = w8 at *
 refine zh 0 16 (.int .i64 0) hH ?_
 refine zh 1 17 (.int .u64 0) hH ?_
 refine zh 2 18 (.pointer (some ⟨g4, 0, none⟩)) hH ?_
 refine zk 3 19 row7 rfl rfl rfl hH rfl rfl (fun _ h => h) ?_
 refine zk 4 20 z1g rfl rfl rfl hH rfl rfl (fun _ h => h) ?_
 refine zn 5 rfl fun K hK => ?_
 go_simp
 refine (neg_s (k) _ (HT.out.below H.out.bel)).mono ?_
 rintro e wc ⟨rfl, hb⟩
 replace H := zd H hb
 refine zc hK (zb H 0) fun hH => ?_
 try simp only [Act.put, qa, qb, qc]
 refine z0h 6 22 (W7 (-k).val) rfl rfl rfl hH (fun w hw => by exact y08 rfl rfl w) ?_
 refine zn 7 rfl fun K hK => ?_
 go_simp
 refine (pick_0 k.val (-k).val _).mono ?_
 rintro e wc ⟨rfl, hb⟩
 replace H := zd H hb
 refine zc hK (zb H 0) fun hH => ?_
 refine z0h 8 24 (W7 (k).val) rfl rfl rfl hH (fun w hw => by exact exec_S rfl rfl w) ?_
 try simp only [Act.put, qa, qb, qc]
 refine zn 9 rfl fun K hK => ?_
 refine zl 1 z1g H.out rfl rfl rfl rfl ?_
 intro ws HS
 simp only [qb, qc] at HS
 replace H := za HS
 refine zc hK (zb H 0) fun hH => ?_
 try simp only [Act.put, qa]
 refine zm ?_
 go_wp2_with fail
 exact bodyPost_ret (zy 1 z1g rfl _ H rfl rfl) rfl ⟨rfl, H.out.bel⟩
theorem int_neg (k : KL) (v : Nat) (w : World) {r : Bool} (hT : Tl r w) (hk : k.val = v) (hv0 : 0 < v) (hv1 : v ≤ 9223372036854775808) :
  Calls Tryz.prog 36 #[.int .i64 (-(v : Int))] w fun e w' => e = .returned (W7 (-k).val) ∧ Below w.heap.size w w' := by
 have e1 : (-(v : Int)) / 9223372036854775808 = -1 := by omega
 have e2 := xor_all v hv0 hv1
 have e3 : IntKind.u64.wrap ((v : Int) - 1) = (v : Int) - 1 := by rw [IntKind.wrap_u64]; omega
 have e4 : IntKind.u64.wrap (-1) = 18446744073709551615 := by rw [IntKind.wrap_u64]; rfl
 have e5 : IntKind.u64.wrap ((v : Int) - 1 - 18446744073709551615) = (v : Int) := by rw [IntKind.wrap_u64]; omega
 have HK := za hk
 have hv : v < 18446744073709551616 := by omega
 have HT := za hT
 clear hT hk
 have H := za (Ow.start w)
 go_enter Tryz.func36, Tryz.ntmps36
 go_wp2_with (first
  | ((fail_if_success have := g2); (with_reducible apply ze z3u H); (case hgd | ho => exact rfl); clear H; intro w2 g2 H _ _; go_simp)
  | ((with_reducible apply z8r (n := v)); (case hgd | ho => exact rfl); (case hn => omega); (case hx => exact rfl); intro _ _; go_simp)
  | ((with_reducible apply z5b); (case hgd | ho | hx => exact rfl); intro _ _; go_simp)
  | ((fail_if_success have := g4); (with_reducible apply ze z3u H); (case hgd | ho => exact rfl); clear H; intro w4 g4 H _ _; go_simp)
  | ((with_reducible apply zj z1g H); (case hgd | ho | hx | hy => exact rfl); (case hi => repeat first|exact z5|apply z8); clear H; intro ws H _ _; simp only [qb] at H; go_simp))
 replace H := za (H.out.like 0 (g := LZ (wd k.val)) rfl fun i _ => by rw [HK.out])
 simp only [qb] at H
 refine wp_region_noPanic ?_
 refine wp_region_held_drew (S := fun W => W.heap[g4]? = some (WB 70 7 (wd (k).val))) (by kernel_rfl) (H.out.drew.row 0 rfl) (fun hH => ?_)
 replace H := za H.out.drew
 generalize World.drew _ = w8 at *
 refine zh 0 16 (.int .i64 (-1)) hH ?_
 refine zh 1 17 (.int .u64 18446744073709551615) hH ?_
 refine zh 2 18 (.pointer (some ⟨g4, 0, none⟩)) hH ?_
 refine zk 3 19 row7 rfl rfl rfl hH rfl rfl (fun _ h => h) ?_
 refine zk 4 20 z1g rfl rfl rfl hH rfl rfl (fun _ h => h) ?_
 refine zn 5 rfl fun K hK => ?_
 go_simp
 refine (neg_s (k) _ (HT.out.below H.out.bel)).mono ?_
 rintro e wc ⟨rfl, hb⟩
 replace H := zd H hb
 refine zc hK (zb H 0) fun hH => ?_
 try simp only [Act.put, qa, qb, qc]
 refine z0h 6 22 (W7 (-k).val) rfl rfl rfl hH (fun w hw => by exact y08 rfl rfl w) ?_
 refine zn 7 rfl fun K hK => ?_
 go_simp
 refine (pick_1 k.val (-k).val _).mono ?_
 rintro e wc ⟨rfl, hb⟩
 replace H := zd H hb
 refine zc hK (zb H 0) fun hH => ?_
 refine z0h 8 24 (W7 (-k).val) rfl rfl rfl hH (fun w hw => by exact exec_S rfl rfl w) ?_
 try simp only [Act.put, qa, qb, qc]
 refine zn 9 rfl fun K hK => ?_
 refine zl 1 z1g H.out rfl rfl rfl rfl ?_
 intro ws HS
 simp only [qb, qc] at HS
 replace H := za HS
 refine zc hK (zb H 0) fun hH => ?_
 try simp only [Act.put, qa]
 refine zm ?_
 go_wp2_with fail
 exact bodyPost_ret (zy 1 z1g rfl _ H rfl rfl) rfl ⟨rfl, H.out.bel⟩
theorem small_lN : 18446744073709551616 < lN := by decide +kernel
theorem int_s (n : Int) (w : World) {r : Bool} (hT : Tl r w) (h1 : -9223372036854775808 ≤ n) (h2 : n ≤ 9223372036854775807) :
  Calls Tryz.prog 36 #[.int .i64 n] w fun e w' => e = .returned (W7 (ofL n).val) ∧ Below w.heap.size w w' := by
 have hs := small_lN
 rcases Int.lt_or_le n 0 with h | h
 ·obtain ⟨v, hv⟩ := Int.eq_ofNat_of_zero_le (show 0 ≤ -n by omega)
  obtain rfl : n = -(v : Int) := by omega
  rw [ofL_neg]
  exact int_neg (ofL (v : Int)) v w hT (by rw [y8j, Nat.mod_eq_of_lt (by omega)]) (by omega) (by omega)
 ·obtain ⟨v, rfl⟩ := Int.eq_ofNat_of_zero_le h
  exact int_pos (ofL (v : Int)) v w hT (by rw [y8j, Nat.mod_eq_of_lt (by omega)]) (by omega)
end Go.Proofs.YtgjbonikbmgfmaaGreatDoor
