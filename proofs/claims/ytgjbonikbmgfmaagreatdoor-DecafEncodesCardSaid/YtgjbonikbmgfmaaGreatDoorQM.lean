/- Lemmas; no statement is proved here. -/
import Derived.Test.YtgjbonikbmgfmaaGreatDoorBuQ
import Derived.Test.YtgjbonikbmgfmaaGreatDoorQR
set_option maxRecDepth 8000
set_option maxHeartbeats 3200000
namespace Go.Proofs.YtgjbonikbmgfmaaGreatDoor
open Go.RowKit
def TorP (n : Nat) (Q : Pt pN dK) : Prop := ∃ x y : K, Q.x = x ∧ Q.y = y ∧ ((n = 1 ∧ x = 1 ∧ y = 0) ∨ (n = 2 ∧ x = 0 ∧ y = -1) ∨ (n = 3 ∧ x = -1 ∧ y = 0) ∨ ((n = 0 ∨ 3 < n) ∧ x = 0 ∧ y = 1))
theorem y42 (n : Nat) : ∃ (x y : K) (Q : Pt pN dK), Q.x = x ∧ Q.y = y ∧ ((n = 1 ∧ x = 1 ∧ y = 0) ∨ (n = 2 ∧ x = 0 ∧ y = -1) ∨ (n = 3 ∧ x = -1 ∧ y = 0) ∨ ((n = 0 ∨ 3 < n) ∧ x = 0 ∧ y = 1)) := by
 rcases (by omega : n = 1 ∨ n = 2 ∨ n = 3 ∨ (n = 0 ∨ 3 < n)) with h | h | h | h
 ·exact ⟨1, 0, z08, rfl, rfl, .inl ⟨h, rfl, rfl⟩⟩
 ·exact ⟨0, -1, z5n, rfl, rfl, .inr (.inl ⟨h, rfl, rfl⟩)⟩
 ·exact ⟨-1, 0, pneg z08, rfl, rfl, .inr (.inr (.inl ⟨h, rfl, rfl⟩))⟩
 ·exact ⟨0, 1, z0v, rfl, rfl, .inr (.inr (.inr ⟨h, rfl, rfl⟩))⟩
theorem y7j (a : K) : a * 1 = a := by grind
theorem tor_rf {X Y Z : K} {Q : Pt pN dK} (hz : Z = 1) (hx : X = Q.x) (hy : Y = Q.y) : RfK (t3 16 (dF X.val) (dF Y.val) (dF Z.val)) Q :=
 ⟨X, Y, Z, rfl, ⟨by rw [hz, hx, y7j], by rw [hz, hy, y7j], by rw [hz]; exact z06 z0q⟩⟩
theorem tor1_x (w : World) : Calls Tryz.prog 83 #[.int .i64 1] w fun e w' => ∃ (X Y Z : K) (Q : Pt pN dK), e = .returned (QO (t3 16 (dF X.val) (dF Y.val) (dF Z.val))) ∧ X = Q.x ∧ Y = Q.y ∧ Z = 1 ∧ TorP 1 Q ∧ Below w.heap.size w w' := by
 have H := za (Ow.start w)
 go_enter Tryz.func83, Tryz.ntmps83
 go_wp2_with (first
  | ((with_reducible apply ze z0w H); (case hgd | ho => exact rfl); clear H; intro _ _ H _ _; go_simp)
  | ((fail_if_success have := mk1); (with_reducible refine (z0p _ (1) (by omega) (by omega)).mono ?_); rintro e wc ⟨rfl, hb⟩; replace H := zd H hb; clear hb; have mk1 := trivial)
  | ((with_reducible apply ze zA.zero H); (case hgd | ho => exact rfl); clear H; intro _ _ H _ _; go_simp)
  | ((with_reducible apply zj z4 H); (case hgd | ho | hx | hy => exact rfl); (case hi => repeat first|exact z5|apply z8); clear H; intro ws H _ _; simp only [qb] at H; go_simp)
  | ((fail_if_success have := mk2); (with_reducible refine (z0p _ (0) (by omega) (by omega)).mono ?_); rintro e wc ⟨rfl, hb⟩; replace H := zd H hb; clear hb; have mk2 := trivial)
  | ((with_reducible apply zr z4 H); (case hgd | ho | hx => exact rfl); (case hi => repeat first|exact z5|apply z8); intro _ _; go_simp)
  | ((with_reducible apply z2t); (case hgd | ho | hx | hy | hz => exact rfl); intro _ _; go_simp)
  | ((with_reducible apply zj zD H); (case hgd | ho | hx | hy => exact rfl); (case hi => repeat first|exact z5|apply z8); clear H; intro ws H _ _; simp only [qb, qc] at H; go_simp))
 obtain ⟨x, y, Q, hx, hy, hc⟩ := y42 1
 refine bodyPost_ret (zy 2 zD rfl _ H rfl rfl) rfl ⟨_, _, _, Q, rfl, ?_, ?_, z00, ⟨x, y, hx, hy, hc⟩, H.out.bel⟩
 ·rw [hx]; rcases hc with ⟨h, e1, _⟩ | ⟨h, e1, _⟩ | ⟨h, e1, _⟩ | ⟨h, e1, _⟩ <;> first | (exfalso; omega) | (rw [e1]; first | exact z21 | exact z00 | exact congrArg (fun z => -z) z00)
 ·rw [hy]; rcases hc with ⟨h, _, e1⟩ | ⟨h, _, e1⟩ | ⟨h, _, e1⟩ | ⟨h, _, e1⟩ <;> first | (exfalso; omega) | (rw [e1]; first | exact z21 | exact z00 | exact congrArg (fun z => -z) z00)
theorem tor2_x (w : World) : Calls Tryz.prog 83 #[.int .i64 2] w fun e w' => ∃ (X Y Z : K) (Q : Pt pN dK), e = .returned (QO (t3 16 (dF X.val) (dF Y.val) (dF Z.val))) ∧ X = Q.x ∧ Y = Q.y ∧ Z = 1 ∧ TorP 2 Q ∧ Below w.heap.size w w' := by
 have H := za (Ow.start w)
 go_enter Tryz.func83, Tryz.ntmps83
 go_wp2_with (first
  | ((with_reducible apply ze z0w H); (case hgd | ho => exact rfl); clear H; intro _ _ H _ _; go_simp)
  | ((fail_if_success have := mk1); (with_reducible refine (z0p _ (1) (by omega) (by omega)).mono ?_); rintro e wc ⟨rfl, hb⟩; replace H := zd H hb; clear hb; have mk1 := trivial)
  | ((fail_if_success have := g3); (with_reducible apply ze zA.zero H); (case hgd | ho => exact rfl); clear H; intro w3 g3 H _ _; go_simp)
  | ((with_reducible apply zj z4 H); (case hgd | ho | hx | hy => exact rfl); (case hi => repeat first|exact z5|apply z8); clear H; intro ws H _ _; simp only [qb] at H; go_simp)
  | ((fail_if_success have := mk2); (with_reducible refine (z0p _ (0) (by omega) (by omega)).mono ?_); rintro e wc ⟨rfl, hb⟩; replace H := zd H hb; clear hb; have mk2 := trivial)
  | ((fail_if_success have := g4); (with_reducible apply ze zA.zero H); (case hgd | ho => exact rfl); clear H; intro w4 g4 H _ _; go_simp)
  | ((with_reducible apply zr z4 H); (case hgd | ho | hx => exact rfl); (case hi => repeat first|exact z5|apply z8); intro _ _; go_simp)
  | ((with_reducible apply z2t); (case hgd | ho | hx | hy | hz => exact rfl); intro _ _; go_simp)
  | ((with_reducible apply zj zD H); (case hgd | ho | hx | hy => exact rfl); (case hi => repeat first|exact z5|apply z8); clear H; intro ws H _ _; simp only [qb, qc] at H; go_simp))
 clear mk1 mk2
 refine wp_region_noPanic ?_
 refine wp_region_held_drew (S := fun W => W.heap[g4]? = some (zv 36 .i64 16 (dF ((zC (0))).val)) ∧ W.heap[g3]? = some (zv 36 .i64 16 (dF ((zC (1))).val))) (by kernel_rfl) (⟨H.out.drew.row 0 rfl, H.out.drew.row 1 rfl⟩) (fun hH => ?_)
 replace H := za H.out.drew
 generalize World.drew _ = w8 at *
 refine zk 0 16 z4 rfl rfl rfl hH rfl rfl (fun _ h => h.1) ?_
 refine zk 1 17 z4 rfl rfl rfl hH rfl rfl (fun _ h => h.2) ?_
 refine zk 3 19 z4 rfl rfl rfl hH rfl rfl (fun _ h => h.2) ?_
 try simp only [Act.put, qa, qb, qc]
 refine zn 2 rfl fun K hK => ?_
 go_simp
 refine (z7e _ _).mono ?_
 rintro e wc ⟨rfl, hb⟩
 replace H := zd H hb
 refine zc hK ⟨zb H 0, zb H 1⟩ fun hH => ?_
 refine z94 4 20 rfl rfl rfl hH rfl rfl rfl rfl ?_
 refine zn 5 rfl fun K hK => ?_
 refine zu 2 rfl zD H.out rfl rfl rfl rfl ?_
 intro ws HS
 simp only [qb, qc] at HS
 replace H := za HS
 refine zc hK ⟨zb H 0, zb H 1⟩ fun hH => ?_
 try simp only [qa]
 try simp only [Act.put]
 refine zm ?_
 go_wp2_with fail
 obtain ⟨x, y, Q, hx, hy, hc⟩ := y42 2
 refine bodyPost_ret (zy 2 zD rfl _ H rfl rfl) rfl ⟨_, _, _, Q, rfl, ?_, ?_, z00, ⟨x, y, hx, hy, hc⟩, H.out.bel⟩
 ·rw [hx]; rcases hc with ⟨h, e1, _⟩ | ⟨h, e1, _⟩ | ⟨h, e1, _⟩ | ⟨h, e1, _⟩ <;> first | (exfalso; omega) | (rw [e1]; first | exact z21 | exact z00 | exact congrArg (fun z => -z) z00)
 ·rw [hy]; rcases hc with ⟨h, _, e1⟩ | ⟨h, _, e1⟩ | ⟨h, _, e1⟩ | ⟨h, _, e1⟩ <;> first | (exfalso; omega) | (rw [e1]; first | exact z21 | exact z00 | exact congrArg (fun z => -z) z00)
theorem tor3_x (w : World) : Calls Tryz.prog 83 #[.int .i64 3] w fun e w' => ∃ (X Y Z : K) (Q : Pt pN dK), e = .returned (QO (t3 16 (dF X.val) (dF Y.val) (dF Z.val))) ∧ X = Q.x ∧ Y = Q.y ∧ Z = 1 ∧ TorP 3 Q ∧ Below w.heap.size w w' := by
 have H := za (Ow.start w)
 go_enter Tryz.func83, Tryz.ntmps83
 go_wp2_with (first
  | ((with_reducible apply ze z0w H); (case hgd | ho => exact rfl); clear H; intro _ _ H _ _; go_simp)
  | ((fail_if_success have := mk1); (with_reducible refine (z0p _ (1) (by omega) (by omega)).mono ?_); rintro e wc ⟨rfl, hb⟩; replace H := zd H hb; clear hb; have mk1 := trivial)
  | ((fail_if_success have := g3); (with_reducible apply ze zA.zero H); (case hgd | ho => exact rfl); clear H; intro w3 g3 H _ _; go_simp)
  | ((with_reducible apply zj z4 H); (case hgd | ho | hx | hy => exact rfl); (case hi => repeat first|exact z5|apply z8); clear H; intro ws H _ _; simp only [qb] at H; go_simp)
  | ((fail_if_success have := mk2); (with_reducible refine (z0p _ (0) (by omega) (by omega)).mono ?_); rintro e wc ⟨rfl, hb⟩; replace H := zd H hb; clear hb; have mk2 := trivial)
  | ((fail_if_success have := g4); (with_reducible apply ze zA.zero H); (case hgd | ho => exact rfl); clear H; intro w4 g4 H _ _; go_simp)
  | ((with_reducible apply zr z4 H); (case hgd | ho | hx => exact rfl); (case hi => repeat first|exact z5|apply z8); intro _ _; go_simp)
  | ((with_reducible apply z2t); (case hgd | ho | hx | hy | hz => exact rfl); intro _ _; go_simp)
  | ((with_reducible apply zj zD H); (case hgd | ho | hx | hy => exact rfl); (case hi => repeat first|exact z5|apply z8); clear H; intro ws H _ _; simp only [qb, qc] at H; go_simp))
 clear mk1 mk2
 refine wp_region_noPanic ?_
 refine wp_region_held_drew (S := fun W => W.heap[g3]? = some (zv 36 .i64 16 (dF ((zC (1))).val)) ∧ W.heap[g4]? = some (zv 36 .i64 16 (dF ((zC (0))).val))) (by kernel_rfl) (⟨H.out.drew.row 1 rfl, H.out.drew.row 0 rfl⟩) (fun hH => ?_)
 replace H := za H.out.drew
 generalize World.drew _ = w8 at *
 refine zk 0 23 z4 rfl rfl rfl hH rfl rfl (fun _ h => h.1) ?_
 refine zk 2 25 z4 rfl rfl rfl hH rfl rfl (fun _ h => h.2) ?_
 refine zk 3 26 z4 rfl rfl rfl hH rfl rfl (fun _ h => h.1) ?_
 try simp only [Act.put, qa, qb, qc]
 refine zn 1 rfl fun K hK => ?_
 go_simp
 refine (z7e _ _).mono ?_
 rintro e wc ⟨rfl, hb⟩
 replace H := zd H hb
 refine zc hK ⟨zb H 1, zb H 0⟩ fun hH => ?_
 refine z94 4 27 rfl rfl rfl hH rfl rfl rfl rfl ?_
 refine zn 5 rfl fun K hK => ?_
 refine zu 2 rfl zD H.out rfl rfl rfl rfl ?_
 intro ws HS
 simp only [qb, qc] at HS
 replace H := za HS
 refine zc hK ⟨zb H 1, zb H 0⟩ fun hH => ?_
 try simp only [qa]
 try simp only [Act.put]
 refine zm ?_
 go_wp2_with fail
 obtain ⟨x, y, Q, hx, hy, hc⟩ := y42 3
 refine bodyPost_ret (zy 2 zD rfl _ H rfl rfl) rfl ⟨_, _, _, Q, rfl, ?_, ?_, z00, ⟨x, y, hx, hy, hc⟩, H.out.bel⟩
 ·rw [hx]; rcases hc with ⟨h, e1, _⟩ | ⟨h, e1, _⟩ | ⟨h, e1, _⟩ | ⟨h, e1, _⟩ <;> first | (exfalso; omega) | (rw [e1]; first | exact z21 | exact z00 | exact congrArg (fun z => -z) z00)
 ·rw [hy]; rcases hc with ⟨h, _, e1⟩ | ⟨h, _, e1⟩ | ⟨h, _, e1⟩ | ⟨h, _, e1⟩ <;> first | (exfalso; omega) | (rw [e1]; first | exact z21 | exact z00 | exact congrArg (fun z => -z) z00)
theorem tor0_x (w : World) : Calls Tryz.prog 83 #[.int .i64 0] w fun e w' => ∃ (X Y Z : K) (Q : Pt pN dK), e = .returned (QO (t3 16 (dF X.val) (dF Y.val) (dF Z.val))) ∧ X = Q.x ∧ Y = Q.y ∧ Z = 1 ∧ TorP 0 Q ∧ Below w.heap.size w w' := by
 have H := za (Ow.start w)
 go_enter Tryz.func83, Tryz.ntmps83
 go_wp2_with (first
  | ((with_reducible apply ze z0w H); (case hgd | ho => exact rfl); clear H; intro _ _ H _ _; go_simp)
  | ((fail_if_success have := mk1); (with_reducible refine (z0p _ (1) (by omega) (by omega)).mono ?_); rintro e wc ⟨rfl, hb⟩; replace H := zd H hb; clear hb; have mk1 := trivial)
  | ((with_reducible apply ze zA.zero H); (case hgd | ho => exact rfl); clear H; intro _ _ H _ _; go_simp)
  | ((with_reducible apply zj z4 H); (case hgd | ho | hx | hy => exact rfl); (case hi => repeat first|exact z5|apply z8); clear H; intro ws H _ _; simp only [qb] at H; go_simp)
  | ((fail_if_success have := mk2); (with_reducible refine (z0p _ (0) (by omega) (by omega)).mono ?_); rintro e wc ⟨rfl, hb⟩; replace H := zd H hb; clear hb; have mk2 := trivial)
  | ((with_reducible apply zr z4 H); (case hgd | ho | hx => exact rfl); (case hi => repeat first|exact z5|apply z8); intro _ _; go_simp)
  | ((with_reducible apply z2t); (case hgd | ho | hx | hy | hz => exact rfl); intro _ _; go_simp)
  | ((with_reducible apply zj zD H); (case hgd | ho | hx | hy => exact rfl); (case hi => repeat first|exact z5|apply z8); clear H; intro ws H _ _; simp only [qb, qc] at H; go_simp))
 obtain ⟨x, y, Q, hx, hy, hc⟩ := y42 0
 refine bodyPost_ret (zy 2 zD rfl _ H rfl rfl) rfl ⟨_, _, _, Q, rfl, ?_, ?_, z00, ⟨x, y, hx, hy, hc⟩, H.out.bel⟩
 ·rw [hx]; rcases hc with ⟨h, e1, _⟩ | ⟨h, e1, _⟩ | ⟨h, e1, _⟩ | ⟨h, e1, _⟩ <;> first | (exfalso; omega) | (rw [e1]; first | exact z21 | exact z00 | exact congrArg (fun z => -z) z00)
 ·rw [hy]; rcases hc with ⟨h, _, e1⟩ | ⟨h, _, e1⟩ | ⟨h, _, e1⟩ | ⟨h, _, e1⟩ <;> first | (exfalso; omega) | (rw [e1]; first | exact z21 | exact z00 | exact congrArg (fun z => -z) z00)
theorem TorP.spot {n : Nat} {Q : Pt pN dK} (h : TorP n Q) (hn : n ≤ 3) : Q = zF zB n z08 := by
 obtain ⟨x, y, hx, hy, hc⟩ := h
 have h2 : zF zB 2 (z08 : Pt pN dK) = z5n := by
  rw [show 2 = 2 * 1 from rfl, z2x, z3s, z36]
 have h3 : (zF zB 3 (z08 : Pt pN dK)).x = -1 ∧ (zF zB 3 (z08 : Pt pN dK)).y = 0 := by
  rw [show 3 = 2 + 1 from rfl, z1q, h2]
  have := z3h zB (z5n : Pt pN dK)
  exact ⟨this.1, this.2.trans (by decide +kernel)⟩
 rcases hc with ⟨rfl, e1, e2⟩ | ⟨rfl, e1, e2⟩ | ⟨rfl, e1, e2⟩ | ⟨e, e1, e2⟩
 ·rw [z3s]
  exact Pt.same (hx.trans e1) (hy.trans e2)
 ·rw [h2]
  exact Pt.same (hx.trans e1) (hy.trans e2)
 ·exact Pt.same ((hx.trans e1).trans h3.1.symm) ((hy.trans e2).trans h3.2.symm)
 ·obtain rfl : n = 0 := by omega
  exact Pt.same (hx.trans e1) (hy.trans e2)
theorem tor_z (z : Int) (w : World) (h0 : 0 ≤ z) (h3 : z ≤ 3) : Calls Tryz.prog 83 #[.int .i64 z] w fun e w' => ∃ r, e = .returned (QO r) ∧ RfK r (zF zB z.toNat z08) ∧ Below w.heap.size w w' := by
 have one : ∀ (k : Nat) (e : Ending) (w' : World), k ≤ 3 → (∃ (X Y Z : K) (Q : Pt pN dK), e = .returned (QO (t3 16 (dF X.val) (dF Y.val) (dF Z.val))) ∧ X = Q.x ∧ Y = Q.y ∧ Z = 1 ∧ TorP k Q ∧ Below w.heap.size w w') →
   ∃ r, e = .returned (QO r) ∧ RfK r (zF zB k z08) ∧ Below w.heap.size w w' := fun k e w' hk ⟨_, _, _, Q, he, hx, hy, hz, hq, hb⟩ => ⟨_, he, hq.spot hk ▸ tor_rf hz hx hy, hb⟩
 rcases (by omega : z = 0 ∨ z = 1 ∨ z = 2 ∨ z = 3) with rfl | rfl | rfl | rfl
 ·exact (tor0_x w).mono fun e w' h => one 0 e w' (by omega) h
 ·exact (tor1_x w).mono fun e w' h => one 1 e w' (by omega) h
 ·exact (tor2_x w).mono fun e w' h => one 2 e w' (by omega) h
 ·exact (tor3_x w).mono fun e w' h => one 3 e w' (by omega) h
def t2 (m : Nat) (f g : Nat → Int) : Nat → Int := fun i => if i < m then f i else g (i - m)
def t4 (m : Nat) (f g h k : Nat → Int) : Nat → Int := fun i => if i < m then f i else if i < 2 * m then g (i - m) else if i < 3 * m then h (i - 2 * m) else k (i - 3 * m)
abbrev E2 (v : Nat → Int) : Value := .agg (AZ .u64 16 v)
abbrev F4 (v : Nat → Int) : Value := .agg (AZ .i64 64 v)
theorem yb_nought {w : World} {g n : Nat} (h : w.heap[g]? = some (YB n fun _ => 0)) : Sb w w.heap.size (some ⟨g, 0, none⟩) n n 0 :=
 ⟨(y6x h).sl.congr fun i _ => (bt_zero i).symm, Nat.two_pow_pos _⟩
section
variable {o : Oper} {a : Act} {w w0 : World} {l : List (Nat × Obj)} {K : Act → World → Prop} {Q : Exit → Act → World → Prop}
theorem own_wp_makeB (dd : Tmp) (hd : o.dst = some dd) (H : Ow w0 w l) {x y : Operand} (ho : o.op = .makeSlice 22 x y) {m : Nat} (hx : a.eval x = .int .i64 (m : Int)) (hy : a.eval y = .int .i64 (m : Int)) (hc : m ≤ 1000000)
  (h : ∀ w' g, Ow w0 w' ((g, YB m fun _ => 0) :: l) → Below w.heap.size w w' → K (a.put (some dd) (.slice (some ⟨g, 0, none⟩) m m)) w') : o.wp Tryz.prog a w K Q := by
 have e := z6v w m m (Nat.le_refl _) hc
 rw [AB_AZ] at e
 unfold Oper.wp execOp
 simp only [ho, hx, hy, Sem.run_bind, e, Result.andThen_ok]
 rw [← hd] at h
 exact h _ _ (H.alloc _) (z1z _ _)
end
end Go.Proofs.YtgjbonikbmgfmaaGreatDoor
