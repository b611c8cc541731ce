/- Lemmas; no statement is proved here. -/
import Derived.Test.YtgjbonikbmgfmaaGreatDoorBuZ
import Derived.Test.YtgjbonikbmgfmaaGreatDoorQR
import Derived.Test.YtgjbonikbmgfmaaGreatDoorZRtRroot
set_option maxRecDepth 8000
set_option maxHeartbeats 3200000
namespace Go.Proofs.YtgjbonikbmgfmaaGreatDoor
theorem df_root : (zC 39081 : K) ^ (eC + 1) * (zC 39081 : K) ^ (eC + 1) = zC 39081 ∧ ab ((zC 39081 : K) ^ (eC + 1)) = eR := by
 rw [df_dd]
 exact y30 rD
theorem df_root' : (inv (zC 39081 : K)) ^ (eC + 1) * (inv (zC 39081 : K)) ^ (eC + 1) = inv (zC 39081) ∧ ab ((inv (zC 39081 : K)) ^ (eC + 1)) = fR := by
 rw [df_dd, inv_prod]
 exact y30 (inv rD)
open Go.RowKit
theorem z9r (a b : K) {e0 : Bool} (w : World) (h : decide (a = b) = e0) : Calls Tryz.prog 90 #[FV a.val, FV b.val] w fun e w' => e = .returned (.bool e0) ∧ Below w.heap.size w w' := h ▸ y2l a b w
theorem z0s {a b c : K} (w : World) : Calls Tryz.prog 54 #[FV a.val, FV b.val, FV c.val] w fun e w' => e = .returned (FV (a * (b * c)).val) ∧ Below w.heap.size w w' := by
 have H := za (Ow.start w)
 go_enter Tryz.func54, Tryz.ntmps54
 go_wp2_with (first
  | ((fail_if_success have := g3); (with_reducible apply zw H); (case hgd | ho | hx => exact rfl); clear H; intro w3 g3 H _ _; go_simp)
  | ((fail_if_success have := g4); (with_reducible apply zw H); (case hgd | ho | hx => exact rfl); clear H; intro w4 g4 H _ _; go_simp)
  | ((fail_if_success have := g5); (with_reducible apply zw H); (case hgd | ho | hx => exact rfl); clear H; intro w5 g5 H _ _; go_simp)
  | ((with_reducible apply ze zA.zero H); (case hgd | ho => exact rfl); clear H; intro _ _ H _ _; go_simp))
 refine wp_region_noPanic ?_
 refine wp_region_held_drew (S := fun W => W.heap[g3]? = some (zv 36 .i64 16 (dF (a).val)) ∧ W.heap[g4]? = some (zv 36 .i64 16 (dF (b).val)) ∧ W.heap[g5]? = some (zv 36 .i64 16 (dF (c).val))) (by kernel_rfl) (⟨H.out.drew.row 3 rfl, H.out.drew.row 2 rfl, H.out.drew.row 1 rfl⟩) (fun hH => ?_)
 replace H := za H.out.drew
 generalize World.drew _ = w8 at *
 refine zk 0 7 z4 rfl rfl rfl hH rfl rfl (fun _ h => h.1) ?_
 refine zk 1 8 z4 rfl rfl rfl hH rfl rfl (fun _ h => h.2.1) ?_
 refine zk 2 9 z4 rfl rfl rfl hH rfl rfl (fun _ h => h.2.2) ?_
 try simp only [Act.put, qa, qb, qc]
 refine zn 3 rfl fun K hK => ?_
 go_simp
 refine (z0d _ _ _).mono ?_
 rintro e wc ⟨rfl, hb⟩
 replace H := zd H hb
 refine zc hK ⟨zb H 3, zb H 2, zb H 1⟩ fun hH => zn 4 rfl fun K hK => ?_
 go_simp
 refine (z0d _ _ _).mono ?_
 rintro e wc ⟨rfl, hb⟩
 replace H := zd H hb
 refine zc hK ⟨zb H 3, zb H 2, zb H 1⟩ fun hH => zn 5 rfl fun K hK => ?_
 refine zu 0 rfl z4 H.out rfl rfl rfl rfl ?_
 intro ws HS
 simp only [qb] at HS
 replace H := za HS
 refine zc hK ⟨zb H 3, zb H 2, zb H 1⟩ fun hH => ?_
 try simp only [qa]
 try simp only [Act.put]
 refine zm ?_
 go_wp2_with fail
 exact bodyPost_ret (zy 0 z4 rfl _ H rfl rfl) rfl ⟨rfl, H.out.bel⟩
theorem z9s {a X : K} (w : World) (h : a ^ (eC + 1) * a ^ (eC + 1) = a ∧ ab (a ^ (eC + 1)) = X) :
  Calls Tryz.prog 119 #[FV a.val] w fun e w' => e = .returned (.tuple #[FV X.val, .bool true]) ∧ Below w.heap.size w w' :=
 (z7d w).mono fun _ _ ⟨h1, hb⟩ => by
  rcases h1 with ⟨_, he⟩ | ⟨hne, _⟩
  ·exact ⟨by rw [he, h.2], hb⟩
  ·exact absurd h.1 hne
theorem y0v (w : World) : Calls Tryz.prog 55 #[] w fun e w' => e = .returned (.tuple #[FV eR.val, FV fR.val]) ∧ Below w.heap.size w w' := by
 have R1 := za df_root
 have R2 := za df_root'
 have H := za (Ow.start w)
 go_enter Tryz.func55, Tryz.ntmps55
 go_upto_region 3 with (first
  | ((fail_if_success have := g0); (with_reducible apply ze zA.zero H); (case hgd | ho => exact rfl); clear H; intro w0 g0 H _ _; go_simp)
  | ((fail_if_success have := g1); (with_reducible apply ze zA.zero H); (case hgd | ho => exact rfl); clear H; intro w1 g1 H _ _; go_simp)
  | ((fail_if_success have := mk1); (with_reducible refine (z0p _ (39081) (by omega) (by omega)).mono ?_); rintro e wc ⟨rfl, hb⟩; replace H := zd H hb; clear hb; have mk1 := trivial)
  | ((fail_if_success have := mk2); (with_reducible refine (z9s _ R1.out).mono ?_); rintro e wc ⟨rfl, hb⟩; replace H := zd H hb; clear hb; have mk2 := trivial)
  | ((fail_if_success have := g2); (with_reducible apply ze zA.zero H); (case hgd | ho => exact rfl); clear H; intro w2 g2 H _ _; go_simp)
  | ((fail_if_success have := mk3); (with_reducible refine (z0p _ (39081) (by omega) (by omega)).mono ?_); rintro e wc ⟨rfl, hb⟩; replace H := zd H hb; clear hb; have mk3 := trivial)
  | ((fail_if_success have := mk4); (with_reducible refine (z2r _).mono ?_); rintro e wc ⟨rfl, hb⟩; replace H := zd H hb; clear hb; have mk4 := trivial)
  | ((fail_if_success have := mk5); (with_reducible refine (z9s _ R2.out).mono ?_); rintro e wc ⟨rfl, hb⟩; replace H := zd H hb; clear hb; have mk5 := trivial)
  | ((fail_if_success have := g4); (with_reducible apply ze zA.zero H); (case hgd | ho => exact rfl); clear H; intro w4 g4 H _ _; go_simp)
  | ((with_reducible apply zj z4 H); (case hgd | ho | hx | hy => exact rfl); (case hi => repeat first|exact z5|apply z8); clear H; intro ws H _ _; simp only [qb] at H; go_simp))
 clear mk1 mk2 mk3 mk4 mk5
 refine wp_region_noPanic ?_
 refine wp_region_held_drew (S := fun W => W.heap[g2]? = some (zv 36 .i64 16 (dF (eR).val)) ∧ W.heap[g4]? = some (zv 36 .i64 16 (dF (fR).val))) (by kernel_rfl) (⟨H.out.drew.row 1 rfl, H.out.drew.row 0 rfl⟩) (fun hH => ?_)
 replace H := za H.out.drew
 generalize World.drew _ = w8 at *
 refine zk 0 17 z4 rfl rfl rfl hH rfl rfl (fun _ h => h.1) ?_
 refine zk 1 18 z4 rfl rfl rfl hH rfl rfl (fun _ h => h.2) ?_
 refine zn 2 rfl fun K hK => ?_
 refine zu 3 rfl z4 H.out rfl rfl rfl rfl ?_
 intro ws HS
 simp only [qb, qc] at HS
 replace H := za HS
 refine zc hK ⟨zb H 1, zb H 0⟩ fun hH => ?_
 try simp only [qa]
 refine zn 3 rfl fun K hK => ?_
 refine zu 2 rfl z4 H.out rfl rfl rfl rfl ?_
 intro ws HS
 simp only [qb, qc] at HS
 replace H := za HS
 refine zc hK ⟨zb H 1, zb H 0⟩ fun hH => ?_
 try simp only [qa]
 try simp only [Act.put]
 refine zm ?_
 go_wp2_with fail
 exact bodyPost_ret (z6z 3 2 z4 rfl _ H rfl rfl rfl rfl) rfl ⟨rfl, H.out.bel⟩
section
variable {ops : Array Oper} {rest : List Oper} {o : Oper} {a : Act} {w w0 : World} {l : List (Nat × Obj)} {Q : Exit → Act → World → Prop} {t : TypeId}
theorem z4c {i : Nat} (H : Hid (Ow w0 w l)) (hw : Region.wanted o (yielded ops a.tmps) = true) {x : Operand} (ho : o.op = .load 34 x) {b : Nat} (hx : a.eval x = .pointer (some ⟨b, 0, none⟩)) {F : Nat → Value}
  (hi : l[i]? = some (b, Cs t (AV 25 F))) (h : ∀ K : Act → World → Prop, (∀ a w, wpList Tryz.prog ops Q rest a w → K a w) → K (a.put o.dst (DO F)) w) : wpList Tryz.prog ops Q (o :: rest) a w :=
 z60 hw fun K hK => by
  unfold Oper.wp execOp
  simp only [ho, hx, Sem.run_bind, z5s z2w (z26 F) (H.out.row i hi), Result.andThen_ok]
  exact h K hK
end
end Go.Proofs.YtgjbonikbmgfmaaGreatDoor
