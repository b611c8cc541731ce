/- Lemmas; no statement is proved here. -/
import Derived.Test.YtgjbonikbmgfmaaGreatDoorQAdem2
set_option maxRecDepth 8000
set_option maxHeartbeats 3200000
namespace Go.Proofs.YtgjbonikbmgfmaaGreatDoor
section
variable {p : Nat}
end
section
variable {p : Nat} [NeZero p]
theorem ab_even (hp : p % 2 = 1) (a : Fin p) : (ab a).val % 2 = 0 := by
 unfold ab
 split
 ·rename_i h
  have h0 : a ≠ 0 := fun e => by rw [e] at h; exact absurd h (by show ¬ 0 % 2 = 1; decide)
  by_cases h1 : (-a).val % 2 = 1
  ·have := (y8m hp h0).1 h1
   omega
  ·omega
 ·omega
end
section
variable {p c : Nat} [NeZero p]
end
open Go.RowKit
theorem root_k {f : Nat → Nat} {a : K} (w : World) (hT : Tp w) (hf : EK f a) :
  Calls Tryz.prog 87 #[EV f] w fun e w' => ((a ^ (eC + 1) * a ^ (eC + 1) = a ∧ ∃ h, e = .returned (.tuple #[EV h, .int .i64 0]) ∧ EK h (ab (a ^ (eC + 1)))) ∨ (a ^ (eC + 1) * a ^ (eC + 1) ≠ a ∧ e = .returned (.tuple #[EV (fun _ => 0), .int .i64 17]))) ∧ Below w.heap.size w w' := by
 have HF := Lib.hid hf
 have HT := Lib.hid hT
 have HQ : Hid (zL eC a (zC 1) = a ^ (eC + 1)) := Lib.hid (by
  unfold zL
  rw [z00, show a * 1 = a by grind, z09]
  grind)
 clear hf hT
 have HD : Hid (decide (zC 1 * (zL eC a (zC 1) * zL eC a (zC 1)) = a) = decide (a ^ (eC + 1) * a ^ (eC + 1) = a)) := Lib.hid (by
  rw [HQ.out, z00, show ∀ x : K, 1 * x = x from fun x => by grind])
 have H := Lib.hid (Ow.start w)
 go_enter Tryz.func87, Tryz.ntmps87
 go_wp2_with (first
  | ((fail_if_success have := g1); (with_reducible apply zw H); (case hgd | ho | hx => exact rfl); clear H; intro w1 g1 H _ _; go_simp)
  | ((fail_if_success have := g2); (with_reducible apply ze z9 H); (case hgd | ho => exact rfl); clear H; intro w2 g2 H _ _; go_simp))
 refine wp_region_noPanic ?_
 refine wp_region_held_drew (S := fun W => W.heap[g1]? = some (zv 30 .u64 8 (NZ f))) (by kernel_rfl) (H.out.drew.row 1 rfl) (fun hH => ?_)
 replace H := Lib.hid H.out.drew
 generalize World.drew _ = w8 at *
 refine zk 0 7 zt rfl rfl rfl hH rfl rfl (fun _ h => h) ?_
 try simp only [Act.put, qa, qb, qc]
 refine zK [1, 6] (zG rfl (fun K hK => ?_) (zG rfl (fun K hK => ?_) zJ))
 ·skip
  go_simp
  refine (z3w (1) _ (HT.out.below H.out.bel) (by omega) (by omega)).mono ?_
  rintro e wc ⟨h8, rfl, hv, hb⟩
  replace H := zd H hb
  have HV8 := Lib.hid hv
  clear hH
  refine hK.out _ _ (H.out.row 1 rfl) fun hH => ?_
  clear hK K hb hv
  try simp only [Act.put, qa, qb, qc]
  refine zK [2, 6] (zG rfl (fun K hK => ?_) (zG rfl (fun K hK => ?_) zJ))
  ·skip
   go_simp
   refine (z9u _ (HT.out.below H.out.bel) HF.out HV8.out).mono ?_
   rintro e wc ⟨h9, rfl, hv, hb⟩
   replace H := zd H hb
   have HV9 := Lib.hid (show EK h9 (ab (a ^ (eC + 1))) by rw [← HQ.out]; exact hv)
   clear hH
   refine hK.out _ _ (H.out.row 1 rfl) fun hH => ?_
   clear hK K hb
   try simp only [Act.put, qa, qb, qc]
   refine z0h 3 6 (.tuple #[EV h9, .bool (decide (zC 1 * (zL eC a (zC 1) * zL eC a (zC 1)) = a))]) rfl rfl rfl hH (fun w hw => by go_simp) ?_
   try simp only [Act.put, qa, qb, qc]
   refine z0h 4 10 (EV h9) rfl rfl rfl hH (fun w hw => by go_simp) ?_
   try simp only [Act.put, qa, qb, qc]
   refine z0h 5 11 (.bool (decide (zC 1 * (zL eC a (zC 1) * zL eC a (zC 1)) = a))) rfl rfl rfl hH (fun w hw => by go_simp) ?_
   try simp only [Act.put, qa, qb, qc]
   refine zn 6 rfl fun K hK => ?_
   refine z1o 4 rfl z9 H.out rfl ?_
   intro w4 g4 H3
   replace H := Lib.hid H3
   clear hH
   refine hK.out _ _ (H.out.row 2 rfl) fun hH => ?_
   clear hK K H3
   try simp only [Act.put, qa, qb, qc]
   refine zn 7 rfl fun K hK => ?_
   refine zl 0 zt H.out rfl rfl rfl rfl ?_
   intro ws HS
   simp only [qb] at HS
   replace H := Lib.hid HS
   clear hH
   refine hK.out _ _ (H.out.row 2 rfl) fun hH => ?_
   clear hK K HS
   try simp only [Act.put, qa]
   refine z0h 8 5 (.bool (decide (zC 1 * (zL eC a (zC 1) * zL eC a (zC 1)) = a))) rfl rfl rfl hH (fun w hw => by go_simp) ?_
   try simp only [Act.put]
   try simp only [Act.put]
   refine wpAnyH_done (by kernel_rfl) ?_ _
   refine NoPanic.normal ?_
   clear hH
   rw [HD.out]
   by_cases hb : a ^ (eC + 1) * a ^ (eC + 1) = a
   ·rw [decide_eq_true hb]
    have HB := Lib.hid hb
    clear hb HD
    go_wp2_with (first
     | ((with_reducible apply zr zt H); (case hgd | ho | hx => exact rfl); (case hi => repeat first|exact z5|apply z8); intro _ _; go_simp)
     | ((with_reducible apply zj zt H); (case hgd | ho | hx | hy => exact rfl); (case hi => repeat first|exact z5|apply z8); clear H; intro ws H _ _; simp only [qb, qc] at H; go_simp))
    exact bodyPost_ret (z0c 1 zt rfl _ H rfl rfl rfl) rfl ⟨.inl ⟨HB.out, _, rfl, HV9.out⟩, H.out.bel⟩
   ·rw [decide_eq_false hb]
    have HB := Lib.hid hb
    clear hb HD
    go_wp2_with (first
     | ((with_reducible apply z2b); (case hgd | ho => exact rfl); intro _ _; go_simp)
     | ((with_reducible apply zj zt H); (case hgd | ho | hx | hy => exact rfl); (case hi => repeat first|exact z5|apply z8); clear H; intro ws H _ _; simp only [qb, qc] at H; go_simp))
    exact bodyPost_ret (z0c 1 zt rfl _ H rfl rfl rfl) rfl ⟨.inr ⟨HB.out, rfl⟩, H.out.bel⟩
  ·skip
   refine z1o 4 rfl z9 H.out rfl ?_
   intro w4 g4 H3
   replace H := Lib.hid H3
   clear hH
   refine hK.out _ _ (H.out.row 2 rfl) fun hH => ?_
   clear hK K H3
   try simp only [Act.put, qa, qb, qc]
   refine zn 2 rfl fun K hK => ?_
   go_simp
   refine (z9u _ (HT.out.below H.out.bel) HF.out HV8.out).mono ?_
   rintro e wc ⟨h9, rfl, hv, hb⟩
   replace H := zd H hb
   have HV9 := Lib.hid (show EK h9 (ab (a ^ (eC + 1))) by rw [← HQ.out]; exact hv)
   clear hH
   refine hK.out _ _ (H.out.row 2 rfl) fun hH => ?_
   clear hK K hb
   try simp only [Act.put, qa, qb, qc]
   refine z0h 3 6 (.tuple #[EV h9, .bool (decide (zC 1 * (zL eC a (zC 1) * zL eC a (zC 1)) = a))]) rfl rfl rfl hH (fun w hw => by go_simp) ?_
   try simp only [Act.put, qa, qb, qc]
   refine z0h 4 10 (EV h9) rfl rfl rfl hH (fun w hw => by go_simp) ?_
   try simp only [Act.put, qa, qb, qc]
   refine z0h 5 11 (.bool (decide (zC 1 * (zL eC a (zC 1) * zL eC a (zC 1)) = a))) rfl rfl rfl hH (fun w hw => by go_simp) ?_
   try simp only [Act.put, qa, qb, qc]
   refine zn 7 rfl fun K hK => ?_
   refine zl 0 zt H.out rfl rfl rfl rfl ?_
   intro ws HS
   simp only [qb] at HS
   replace H := Lib.hid HS
   clear hH
   refine hK.out _ _ (H.out.row 2 rfl) fun hH => ?_
   clear hK K HS
   try simp only [Act.put, qa]
   refine z0h 8 5 (.bool (decide (zC 1 * (zL eC a (zC 1) * zL eC a (zC 1)) = a))) rfl rfl rfl hH (fun w hw => by go_simp) ?_
   try simp only [Act.put]
   try simp only [Act.put]
   refine wpAnyH_done (by kernel_rfl) ?_ _
   refine NoPanic.normal ?_
   clear hH
   rw [HD.out]
   by_cases hb : a ^ (eC + 1) * a ^ (eC + 1) = a
   ·rw [decide_eq_true hb]
    have HB := Lib.hid hb
    clear hb HD
    go_wp2_with (first
     | ((with_reducible apply zr zt H); (case hgd | ho | hx => exact rfl); (case hi => repeat first|exact z5|apply z8); intro _ _; go_simp)
     | ((with_reducible apply zj zt H); (case hgd | ho | hx | hy => exact rfl); (case hi => repeat first|exact z5|apply z8); clear H; intro ws H _ _; simp only [qb, qc] at H; go_simp))
    exact bodyPost_ret (z0c 1 zt rfl _ H rfl rfl rfl) rfl ⟨.inl ⟨HB.out, _, rfl, HV9.out⟩, H.out.bel⟩
   ·rw [decide_eq_false hb]
    have HB := Lib.hid hb
    clear hb HD
    go_wp2_with (first
     | ((with_reducible apply z2b); (case hgd | ho => exact rfl); intro _ _; go_simp)
     | ((with_reducible apply zj zt H); (case hgd | ho | hx | hy => exact rfl); (case hi => repeat first|exact z5|apply z8); clear H; intro ws H _ _; simp only [qb, qc] at H; go_simp))
    exact bodyPost_ret (z0c 1 zt rfl _ H rfl rfl rfl) rfl ⟨.inr ⟨HB.out, rfl⟩, H.out.bel⟩
 ·skip
  refine z1o 4 rfl z9 H.out rfl ?_
  intro w4 g4 H3
  replace H := Lib.hid H3
  clear hH
  refine hK.out _ _ (H.out.row 2 rfl) fun hH => ?_
  clear hK K H3
  try simp only [Act.put, qa, qb, qc]
  refine zn 1 rfl fun K hK => ?_
  go_simp
  refine (z3w (1) _ (HT.out.below H.out.bel) (by omega) (by omega)).mono ?_
  rintro e wc ⟨h8, rfl, hv, hb⟩
  replace H := zd H hb
  have HV8 := Lib.hid hv
  clear hH
  refine hK.out _ _ (H.out.row 2 rfl) fun hH => ?_
  clear hK K hb hv
  try simp only [Act.put, qa, qb, qc]
  refine zn 2 rfl fun K hK => ?_
  go_simp
  refine (z9u _ (HT.out.below H.out.bel) HF.out HV8.out).mono ?_
  rintro e wc ⟨h9, rfl, hv, hb⟩
  replace H := zd H hb
  have HV9 := Lib.hid (show EK h9 (ab (a ^ (eC + 1))) by rw [← HQ.out]; exact hv)
  clear hH
  refine hK.out _ _ (H.out.row 2 rfl) fun hH => ?_
  clear hK K hb
  try simp only [Act.put, qa, qb, qc]
  refine z0h 3 6 (.tuple #[EV h9, .bool (decide (zC 1 * (zL eC a (zC 1) * zL eC a (zC 1)) = a))]) rfl rfl rfl hH (fun w hw => by go_simp) ?_
  try simp only [Act.put, qa, qb, qc]
  refine z0h 4 10 (EV h9) rfl rfl rfl hH (fun w hw => by go_simp) ?_
  try simp only [Act.put, qa, qb, qc]
  refine z0h 5 11 (.bool (decide (zC 1 * (zL eC a (zC 1) * zL eC a (zC 1)) = a))) rfl rfl rfl hH (fun w hw => by go_simp) ?_
  try simp only [Act.put, qa, qb, qc]
  refine zn 7 rfl fun K hK => ?_
  refine zl 0 zt H.out rfl rfl rfl rfl ?_
  intro ws HS
  simp only [qb] at HS
  replace H := Lib.hid HS
  clear hH
  refine hK.out _ _ (H.out.row 2 rfl) fun hH => ?_
  clear hK K HS
  try simp only [Act.put, qa]
  refine z0h 8 5 (.bool (decide (zC 1 * (zL eC a (zC 1) * zL eC a (zC 1)) = a))) rfl rfl rfl hH (fun w hw => by go_simp) ?_
  try simp only [Act.put]
  try simp only [Act.put]
  refine wpAnyH_done (by kernel_rfl) ?_ _
  refine NoPanic.normal ?_
  clear hH
  rw [HD.out]
  by_cases hb : a ^ (eC + 1) * a ^ (eC + 1) = a
  ·rw [decide_eq_true hb]
   have HB := Lib.hid hb
   clear hb HD
   go_wp2_with (first
    | ((with_reducible apply zr zt H); (case hgd | ho | hx => exact rfl); (case hi => repeat first|exact z5|apply z8); intro _ _; go_simp)
    | ((with_reducible apply zj zt H); (case hgd | ho | hx | hy => exact rfl); (case hi => repeat first|exact z5|apply z8); clear H; intro ws H _ _; simp only [qb, qc] at H; go_simp))
   exact bodyPost_ret (z0c 1 zt rfl _ H rfl rfl rfl) rfl ⟨.inl ⟨HB.out, _, rfl, HV9.out⟩, H.out.bel⟩
  ·rw [decide_eq_false hb]
   have HB := Lib.hid hb
   clear hb HD
   go_wp2_with (first
    | ((with_reducible apply z2b); (case hgd | ho => exact rfl); intro _ _; go_simp)
    | ((with_reducible apply zj zt H); (case hgd | ho | hx | hy => exact rfl); (case hi => repeat first|exact z5|apply z8); clear H; intro ws H _ _; simp only [qb, qc] at H; go_simp))
   exact bodyPost_ret (z0c 1 zt rfl _ H rfl rfl rfl) rfl ⟨.inr ⟨HB.out, rfl⟩, H.out.bel⟩
section
variable {p : Nat} [NeZero p] {d X1 Y1 Z1 X2 Y2 Z2 : Fin p} {P Q : Pt p d}
end
section
variable {p : Nat} [NeZero p]
theorem cN_val (a : Fin p) : cN p a.val = a := Fin.ext (Nat.mod_eq_of_lt a.isLt)
end
theorem spot_add (a b q r : Nat) : z6 zB (spot a q) (spot b r) = spot (a + b) (q + r) := by
 unfold spot
 rw [z2y, ← z2g, ← z2g]
theorem dfE_even {p c : Nat} [NeZero p] {d n s e f : Fin p} (h : DfF p c d n s e f) (x y : Fin p) : (dfE c n e f x y).val % 2 = 0 := by
 unfold dfE
 simp only []
 exact ab_even (y1a h) _
theorem y6g (P : Pt pN dK) : (encK P).val % 2 = 0 := dfE_even dfK _ _
theorem y6m (Q : Pt pN dK) : (zC 1 - (z6 zB Q Q).x * (z6 zB Q Q).x * zC (-39081)) ^ (eC + 1) * (zC 1 - (z6 zB Q Q).x * (z6 zB Q Q).x * zC (-39081)) ^ (eC + 1) = zC 1 - (z6 zB Q Q).x * (z6 zB Q Q).x * zC (-39081) := by
 have h1 := z7j zB Q Q
 have h2 := wtSG Q
 have h3 := y69 zB Q
 have h4 := Q.on
 have hi := z3n z0q h3
 have e : zC 1 - (z6 zB Q Q).x * (z6 zB Q Q).x * zC (-39081) = ((wtG Q - 2) * inv (wtG Q)) * ((wtG Q - 2) * inv (wtG Q)) := by
  rw [z3o, y3j]
  have h5 : (z6 zB Q Q).x * wtG Q = wtS Q := by
   unfold wtG wtS
   generalize (z6 zB Q Q).x = x at *
   generalize Q.x = u at *
   generalize Q.y = v at *
   generalize dK = d at *
   grind
  generalize (z6 zB Q Q).x = x at *
  generalize wtG Q = g at *
  generalize wtS Q = s at *
  generalize inv g = i at *
  generalize dK = d at *
  clear h1 h4
  have a1 : x = s * i := by grind
  rw [a1]
  have a2 : d * (s * i * (s * i)) = 4 * (g - 1) * (i * i) := by rw [← h2]; grind
  grind
 rw [e]
 exact (y30 _).1
theorem dof_odd (Q : Pt pN dK) : (zC 1 - (z6 zB (z6 zB Q Q) z08).x * (z6 zB (z6 zB Q Q) z08).x * zC (-39081)) ^ (eC + 1) * (zC 1 - (z6 zB (z6 zB Q Q) z08).x * (z6 zB (z6 zB Q Q) z08).x * zC (-39081)) ^ (eC + 1) ≠ zC 1 - (z6 zB (z6 zB Q Q) z08).x * (z6 zB (z6 zB Q Q) z08).x * zC (-39081) := by
 intro h
 have h1 := y6m Q
 have hon := (z6 zB Q Q).on
 rw [(z3h zB (z6 zB Q Q)).1] at h
 rw [z3o, y3j] at h h1
 have hw : -(rW * rW) = 1 - dK := by decide +kernel
 generalize (z6 zB Q Q).x = x at *
 generalize (z6 zB Q Q).y = y at *
 generalize (1 - x * x * dK) ^ (eC + 1) = r at *
 generalize (1 - y * y * dK) ^ (eC + 1) = s at *
 have h2 := z4d z0q pN_c (show r * s * (r * s) = -(rW * rW) by
  rw [hw, show r * s * (r * s) = r * r * (s * s) by grind, h1, h]
  clear h h1 hw
  generalize dK = d at *
  grind)
 exact rW_ne h2.2
theorem y47 (a j : Nat) : ∃ Q, spot a (2 * j) = z6 zB Q Q := by
 have hl : lN % 2 = 1 := by decide +kernel
 obtain ⟨m, hm⟩ : ∃ m, a + lN * a = 2 * m := ⟨(a + lN * a) / 2, by
  have h1 : (a + lN * a) % 2 = 0 := by
   rw [Nat.add_mod, Nat.mul_mod, hl]
   omega
  omega⟩
 refine ⟨spot m j, ?_⟩
 rw [spot_add, ← Nat.two_mul, ← Nat.two_mul, ← hm]
 unfold spot
 rw [z2g, z3t zB lN pB a, y5h, z32, z0n]
theorem spot_one (a j : Nat) : spot a (2 * j + 1) = z6 zB (spot a (2 * j)) z08 := by
 unfold spot
 rw [z1q, z0r]
theorem y48 (a z : Nat) : (zF zB lN (spot a z)).x = 0 ↔ z % 2 = 0 := by
 rw [spot_l, ← y1o zB (z5t zB) (3 * z)]
 rcases (by omega : 3 * z % 4 = 0 ∧ z % 2 = 0 ∨ 3 * z % 4 = 1 ∧ z % 2 = 1 ∨ 3 * z % 4 = 2 ∧ z % 2 = 0 ∨ 3 * z % 4 = 3 ∧ z % 2 = 1) with ⟨h, h2⟩ | ⟨h, h2⟩ | ⟨h, h2⟩ | ⟨h, h2⟩ <;> rw [h, h2]
 ·exact ⟨fun _ => rfl, fun _ => rfl⟩
 ·rw [z3s]
  exact ⟨fun k => absurd k (by decide +kernel), fun k => by omega⟩
 ·rw [show 2 = 2 * 1 from rfl, z2x, z3s, z36]
  exact ⟨fun _ => rfl, fun _ => by decide +kernel⟩
 ·rw [show 3 = 2 * 1 + 1 from rfl, z1q, z2x, z3s, z36, (z3h zB z5n).1]
  exact ⟨fun k => absurd k (by decide +kernel), fun k => by omega⟩
theorem y6l (a z : Nat) : ((zC 1 - (spot a z).x * (spot a z).x * zC (-39081)) ^ (eC + 1) * (zC 1 - (spot a z).x * (spot a z).x * zC (-39081)) ^ (eC + 1) = zC 1 - (spot a z).x * (spot a z).x * zC (-39081)) ↔ z % 2 = 0 := by
 obtain ⟨j, h | h⟩ : ∃ j, z = 2 * j ∨ z = 2 * j + 1 := ⟨z / 2, by omega⟩ <;> subst h
 ·obtain ⟨Q, hQ⟩ := y47 a j
  rw [hQ]
  exact ⟨fun _ => by omega, fun _ => y6m Q⟩
 ·obtain ⟨Q, hQ⟩ := y47 a j
  rw [spot_one, hQ]
  exact ⟨fun k => absurd k (dof_odd Q), fun k => by omega⟩
section
variable {ops : Array Oper} {rest : List Oper} {o : Oper} {a : Act} {w w0 : World} {l : List (Nat × Obj)} {Q : Exit → Act → World → Prop} {t : TypeId}
end
theorem Ow.join {w w1 w2 : World} {l l' : List (Nat × Obj)} (h : Ow w w1 l) (h' : Ow w1 w2 l') : Ow w w2 (l' ++ l) := by
 refine ⟨h.bel.trans (h'.bel.mono h.bel.size), fun x hx => ?_, fun x hx => ?_, List.pairwise_append.2 ⟨h'.apart, h.apart, fun x hx y hy e => ?_⟩⟩
 ·rcases List.mem_append.1 hx with hx | hx
  ·exact h'.has x hx
  ·exact (h'.bel.block _ (z01 (h.has x hx))).trans (h.has x hx)
 ·rcases List.mem_append.1 hx with hx | hx
  ·exact Nat.le_trans h.bel.size (h'.new x hx)
  ·exact h.new x hx
 ·have h1 := h'.new x hx
  have h2 := z01 (h.has y hy)
  omega
end Go.Proofs.YtgjbonikbmgfmaaGreatDoor
