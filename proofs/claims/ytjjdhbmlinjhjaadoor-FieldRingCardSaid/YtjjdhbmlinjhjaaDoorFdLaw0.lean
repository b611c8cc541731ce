/-
  What the laws call: field's functions said of numbers modulo p, the laws' own small functions.
-/
import Derived.Test.YtjjdhbmlinjhjaaDoorFdInt
import Derived.Test.YtjjdhbmlinjhjaaDoorFdSquare
import Derived.Test.YtjjdhbmlinjhjaaDoorRf4Mul
namespace Go.Proofs.YtjjdhbmlinjhjaaDoor
open Go.RowKit

/-- Limbs that are this number modulo p. -/
def Val (f : Nat → Nat) (x : Nat) : Prop := Lim f ∧ lv f 8 % pN = x
theorem Val.lt {f : Nat → Nat} {x : Nat} (h : Val f x) : x < pN := by rw [← h.2]; exact Nat.mod_lt _ pN_pos
theorem add_v {f g : Nat → Nat} {x y : Nat} (w : World) (hf : Val f x) (hg : Val g y) :
    Calls Tryd.prog 24 #[EV f, EV g] w fun e w' => ∃ h, e = .returned (EV h) ∧ Val h ((x + y) % pN) ∧ Below w.heap.size w w' :=
  (add_any f g w hf.1 hg.1).mono fun e w' ⟨h, he, hl, hv, hb⟩ => ⟨h, he, ⟨hl, by rw [hv, Nat.add_mod, hf.2, hg.2]⟩, hb⟩
theorem sub_p {a x y c b : Nat} (hc : c % pN = y) (hb : b % pN = x) (h : (a + c) % pN = b % pN) : a % pN = (x + (pN - y)) % pN := by
  subst hc hb
  unfold pN at *
  omega
theorem sub_v {f g : Nat → Nat} {x y : Nat} (w : World) (hT : Tp w) (hf : Val f x) (hg : Val g y) :
    Calls Tryd.prog 26 #[EV f, EV g] w fun e w' => ∃ h, e = .returned (EV h) ∧ Val h ((x + (pN - y)) % pN) ∧ Below w.heap.size w w' :=
  (sub_any f g w hT hf.1 hg.1).mono fun _e _w' ⟨h, he, hl, hv, hb⟩ => ⟨h, he, ⟨hl, sub_p hg.2 hf.2 hv⟩, hb⟩
theorem neg_v {f : Nat → Nat} {x : Nat} (w : World) (hT : Tp w) (hf : Val f x) :
    Calls Tryd.prog 28 #[EV f] w fun e w' => ∃ h, e = .returned (EV h) ∧ Val h ((pN - x) % pN) ∧ Below w.heap.size w w' :=
  (neg_any f w hT hf.1).mono fun e w' ⟨h, he, hl, hv, hb⟩ => ⟨h, he, ⟨hl, by
    have := sub_p (b := 0) hf.2 (x := 0) (Nat.zero_mod _) (by rw [hv, Nat.zero_mod])
    rwa [Nat.zero_add] at this⟩, hb⟩
theorem mul_v {f g : Nat → Nat} {x y : Nat} (w : World) (hf : Val f x) (hg : Val g y) :
    Calls Tryd.prog 31 #[EV f, EV g] w fun e w' => ∃ h, e = .returned (EV h) ∧ Val h (x * y % pN) ∧ Below w.heap.size w w' :=
  (mul_any f g w hf.1 hg.1).mono fun e w' ⟨h, he, hl, hv, hb⟩ => ⟨h, he, ⟨hl, by rw [hv, Nat.mul_mod, hf.2, hg.2]⟩, hb⟩
theorem square_v {f : Nat → Nat} {x : Nat} (w : World) (hf : Val f x) :
    Calls Tryd.prog 33 #[EV f] w fun e w' => ∃ h, e = .returned (EV h) ∧ Val h (x * x % pN) ∧ Below w.heap.size w w' :=
  (square_any f w hf.1).mono fun e w' ⟨h, he, hl, hv, hb⟩ => ⟨h, he, ⟨hl, by rw [hv, Nat.mul_mod, hf.2]⟩, hb⟩
theorem times_v {f : Nat → Nat} {x : Nat} (n : Int) (w : World) (hT : Tp w) (hf : Val f x) (h1 : -9223372036854775808 ≤ n) (h2 : n ≤ 9223372036854775807) :
    Calls Tryd.prog 35 #[EV f, .int .i64 n] w fun e w' => ∃ h, e = .returned (EV h) ∧ Val h (x * (n % pZ).toNat % pN) ∧ Below w.heap.size w w' :=
  (times_any f n w hT hf.1 h1 h2).mono fun e w' ⟨h, he, hl, hv, hb⟩ => ⟨h, he, ⟨hl, by rw [hv, ← Nat.mod_mul_mod, hf.2]⟩, hb⟩
theorem int_v (n : Int) (w : World) (hT : Tp w) (h1 : -9223372036854775808 ≤ n) (h2 : n ≤ 9223372036854775807) :
    Calls Tryd.prog 34 #[.int .i64 n] w fun e w' => ∃ h, e = .returned (EV h) ∧ Val h (n % pZ).toNat ∧ Below w.heap.size w w' :=
  (int_any n w hT h1 h2).mono fun _e _w' ⟨h, he, hl, hv, hb⟩ => ⟨h, he, ⟨hl, hv⟩, hb⟩
theorem equal_v {f g : Nat → Nat} {x y : Nat} (w : World) (hT : Tp w) (hf : Val f x) (hg : Val g y) :
    Calls Tryd.prog 37 #[EV f, EV g] w fun e w' => e = .returned (.bool (decide (x = y))) ∧ Below w.heap.size w w' :=
  (equal_any f g w hT hf.1 hg.1).mono fun e w' ⟨he, hb⟩ => ⟨by rw [he, hf.2, hg.2], hb⟩
theorem zero_v {f : Nat → Nat} {x : Nat} (w : World) (hf : Val f x) :
    Calls Tryd.prog 17 #[EV f] w fun e w' => e = .returned (.bool (decide (x = 0))) ∧ Below w.heap.size w w' :=
  (zero_any f w hf.1).mono fun e w' ⟨he, hb⟩ => ⟨by rw [he, hf.2], hb⟩
theorem bytes_v {f : Nat → Nat} {x : Nat} (w : World) (hf : Val f x) :
    Calls Tryd.prog 21 #[EV f] w fun e w' => ∃ a c, e = .returned (.slice a 56 c) ∧ Sl w' w'.heap.size a 56 c (bX x) ∧ Below w.heap.size w w' :=
  (bytesE_any f w hf.1).mono fun e w' ⟨v, he, ⟨g, c, hv, _, hs⟩, hb⟩ => ⟨some ⟨g, 0, none⟩, c, by rw [he, hv], by rw [hf.2] at hs; exact hs, hb⟩
theorem pick_v {n : Int} {f g : Nat → Nat} {x y : Nat} (hf : Val f x) (hg : Val g y) : Val (pickF n f g) (if n % 2 = 0 then x else y) := by
  unfold pickF
  split
  · exact hf
  · exact hg
theorem of_v (f : Nat → BitVec 8) : Val (oF f 56) (nB f 56 % pN) := ⟨lim_oF f 56, by rw [lv_of]⟩
theorem zero_val : Val (fun _ => 0) 0 := ⟨lim_zero, by rw [lv_zero, Nat.zero_mod]⟩
/-- Bytes as a Raw holds them. -/
def UB (f : Nat → BitVec 8) : Nat → Int := fun i => U8 (f i)
theorem rowB : IsRow Tryd.prog 41 56 := ⟨⟨_, Tryd.underlying41, rfl⟩, by kernel_rfl⟩
theorem rawSl {w : World} {g : Nat} {f : Nat → BitVec 8} {t : TypeId} (h : w.heap[g]? = some (Blk t .u8 56 (UB f))) : Sl w w.heap.size (some ⟨g, 0, none⟩) 56 56 f := by
  have hr : w.heap[g]? = some (.cells (AZ .u8 56 (UB f)) t) := h
  refine ⟨Nat.le_refl _, (fun e => by cases e), fun ad e _ => ⟨g, 0, (Option.some.inj e).symm, lt_row h, fun i hi => ?_⟩⟩
  rw [Nat.zero_add, cell_of_row _ _ _ _ _ _ hr, AZ_get _ _ _ _ hi]
  rfl
set_option maxRecDepth 8000 in
set_option maxHeartbeats 1000000 in
theorem lawBytes_any (f : Nat → BitVec 8) (w : World) :
    Calls Tryd.prog 48 #[.agg (AZ .u8 56 (UB f))] w fun e w' => ∃ a c, e = .returned (.slice a 56 c) ∧ Sl w' w'.heap.size a 56 c f ∧ Below w.heap.size w w' := by
  have H := Lib.hid (Ow.start w)
  go_enter Tryd.func48, Tryd.ntmps48
  go_wp2_with (first
    | ((fail_if_success have := g1); (with_reducible apply own_box H); (case hgd => exact rfl); (case ho => exact rfl); (case hx => exact rfl); intro w1 g1 H' _ _; replace H := H'; clear H'; go_simp)
    | ((with_reducible apply lay_append_nil); (case hgd => exact rfl); (case ho => exact rfl); (case hs => exact rfl); (case hx => exact rfl); (case hS => exact rawSl (H.out.row 0 rfl)); (case hn => omega); intro a' c' w2 hsl hb _ _; have HS := Lib.hid hsl; have HB := Lib.hid (H.out.bel.trans (hb.mono H.out.bel.size)); clear hsl hb H; go_simp))
  go_ret
  exact ⟨_, _, rfl, HS.out, HB.out⟩
set_option maxRecDepth 8000 in
set_option maxHeartbeats 1000000 in
theorem made_any (f : Nat → BitVec 8) (w : World) :
    Calls Tryd.prog 22 #[.agg (AZ .u8 56 (UB f))] w fun e w' => e = .returned (.tuple #[EV (oF f 56), .bool true]) ∧ Below w.heap.size w w' := by
  have H := Lib.hid (Ow.start w)
  go_enter Tryd.func22, Tryd.ntmps22
  go_wp2_with (first
    | ((fail_if_success have := g1); (with_reducible apply own_box H); (case hgd => exact rfl); (case ho => exact rfl); (case hx => exact rfl); intro w1 g1 H' _ _; replace H := H'; clear H'; go_simp)
    | ((fail_if_success have := g2); (with_reducible apply own_alloc nilE H); (case hgd => exact rfl); (case ho => exact rfl); intro w2 g2 H' _ _; replace H := H'; clear H'; go_simp)
    | ((with_reducible apply own_load rowB H); (case hgd => exact rfl); (case ho => exact rfl); (case hx => exact rfl); (case hi => first | exact at0 | exact at1 | exact at2 | exact at3 | exact at4 | exact at5 | exact at6); intro _ _; go_simp)
    | ((with_reducible refine (lawBytes_any f _).mono ?_); rintro e wc ⟨a, c, rfl, hs, hb⟩; replace H := Lib.hid (H.out.call hb); clear hb; have HS := Lib.hid hs; clear hs)
    | ((with_reducible refine (of_any a c f _ HS.out).mono ?_); rintro e wc ⟨rfl, hb⟩; replace H := Lib.hid (H.out.call hb); clear hb)
    | ((fail_if_success have := g3); (with_reducible apply own_alloc nilE H); (case hgd => exact rfl); (case ho => exact rfl); intro w3 g3 H' _ _; replace H := H'; clear H'; go_simp)
    | ((with_reducible apply own_store rowE H); (case hgd => exact rfl); (case ho => exact rfl); (case hx => exact rfl); (case hy => exact rfl); (case hi => first | exact at0 | exact at1 | exact at2 | exact at3 | exact at4 | exact at5 | exact at6); intro ws H' _ _; replace H := H'; clear H'; simp only [List.set_cons_zero, List.set_cons_succ] at H; go_simp)
    | ((with_reducible apply own_load rowE H); (case hgd => exact rfl); (case ho => exact rfl); (case hx => exact rfl); (case hi => first | exact at0 | exact at1 | exact at2 | exact at3 | exact at4 | exact at5 | exact at6); intro _ _; go_simp))
  exact bodyPost_ret (own_result_slot 1 rowE rfl _ H rfl rfl rfl) rfl ⟨rfl, H.out.bel⟩
set_option maxRecDepth 8000 in
set_option maxHeartbeats 1000000 in
theorem plain_any (f : Nat → BitVec 8) (w : World) :
    Calls Tryd.prog 23 #[.agg (AZ .u8 56 (UB f))] w fun e w' => e = .returned (FV (nB f 56 % pN)) ∧ Below w.heap.size w w' := by
  have H := Lib.hid (Ow.start w)
  go_enter Tryd.func23, Tryd.ntmps23
  go_wp2_with (first
    | ((fail_if_success have := g1); (with_reducible apply own_box H); (case hgd => exact rfl); (case ho => exact rfl); (case hx => exact rfl); intro w1 g1 H' _ _; replace H := H'; clear H'; go_simp)
    | ((fail_if_success have := g2); (with_reducible apply own_alloc intsF.zero H); (case hgd => exact rfl); (case ho => exact rfl); intro w2 g2 H' _ _; replace H := H'; clear H'; go_simp)
    | ((with_reducible apply own_load rowB H); (case hgd => exact rfl); (case ho => exact rfl); (case hx => exact rfl); (case hi => first | exact at0 | exact at1 | exact at2 | exact at3 | exact at4 | exact at5 | exact at6); intro _ _; go_simp)
    | ((with_reducible refine (lawBytes_any f _).mono ?_); rintro e wc ⟨a, c, rfl, hs, hb⟩; replace H := Lib.hid (H.out.call hb); clear hb; have HS := Lib.hid hs; clear hs)
    | ((with_reducible refine (refOf_any a c f _ HS.out).mono ?_); rintro e wc ⟨rfl, hb⟩; replace H := Lib.hid (H.out.call hb); clear hb)
    | ((with_reducible apply own_store rowF H); (case hgd => exact rfl); (case ho => exact rfl); (case hx => exact rfl); (case hy => exact rfl); (case hi => first | exact at0 | exact at1 | exact at2 | exact at3 | exact at4 | exact at5 | exact at6); intro ws H' _ _; replace H := H'; clear H'; simp only [List.set_cons_zero] at H; go_simp))
  exact bodyPost_ret (own_result 0 rowF rfl _ H rfl rfl) rfl ⟨rfl, H.out.bel⟩
theorem bX_same {x y : Nat} (hx : x < pN) (hy : y < pN) : (∀ i, i < 56 → bX x i = bX y i) ↔ x = y :=
  ⟨fun h => bX_inj 56 (Nat.lt_trans hx pN_256) (Nat.lt_trans hy pN_256) h, fun h _ _ => by rw [h]⟩
set_option maxRecDepth 8000 in
set_option maxHeartbeats 1600000 in
theorem is_any {f : Nat → Nat} {x : Nat} (y : Nat) (w : World) (hf : Val f x) (hy : y < pN) :
    Calls Tryd.prog 18 #[EV f, FV y] w fun e w' => e = .returned (.bool (decide (x = y))) ∧ Below w.heap.size w w' := by
  have HF := Lib.hid hf
  have HX := Lib.hid (bX_same hf.lt hy)
  clear hf hy
  have H := Lib.hid (Ow.start w)
  go_enter Tryd.func18, Tryd.ntmps18
  go_wp2_with (first
    | ((fail_if_success have := g1); (with_reducible apply own_box H); (case hgd => exact rfl); (case ho => exact rfl); (case hx => exact rfl); intro w1 g1 H' _ _; replace H := H'; clear H'; go_simp)
    | ((fail_if_success have := g2); (with_reducible apply own_box H); (case hgd => exact rfl); (case ho => exact rfl); (case hx => exact rfl); intro w2 g2 H' _ _; replace H := H'; clear H'; go_simp))
  refine wp_region_noPanic ?_
  refine wp_region_held_drew (S := fun W => Ow w W [(g2, Blk 36 .i64 16 (dF y)), (g1, Blk 27 .u64 8 (NZ f))]) (by kernel_rfl) H.out.drew (fun hH => ?_)
  clear H
  refine held_row 0 5 rowE rfl rfl (by kernel_rfl) (by kernel_rfl) (by kernel_rfl) rfl hH rfl rfl (fun _ h => h.row 1 rfl) ?_
  try simp only [Act.put, List.setIfInBounds_toArray, List.set_cons_zero, List.set_cons_succ]
  refine held_row 2 7 rowF rfl rfl (by kernel_rfl) (by kernel_rfl) (by kernel_rfl) rfl hH rfl rfl (fun _ h => h.row 0 rfl) ?_
  try simp only [Act.put, List.setIfInBounds_toArray, List.set_cons_zero, List.set_cons_succ]
  refine wpAnyH_ready (rs := [1]) (by kernel_rfl) (by simp) ?_
  refine AllReadyH.cons (o := _) rfl (fun K hK => ?_) AllReadyH.nil
  go_simp
  refine (bytes_v _ HF.out).mono ?_
  rintro e wc ⟨a, c, rfl, hs, hb⟩
  have HS := Lib.hid hs
  refine hK.out _ _ (hH.call hb) (fun hN => ?_)
  clear hK K hH hb hs
  have hH := hN
  clear hN
  try simp only [Act.put, List.setIfInBounds_toArray, List.set_cons_zero, List.set_cons_succ]
  refine wpAnyH_ready (rs := [3]) (by kernel_rfl) (by simp) ?_
  refine AllReadyH.cons (o := _) rfl (fun K hK => ?_) AllReadyH.nil
  go_simp
  refine (refBytes_any y _).mono ?_
  rintro e wd ⟨v, rfl, ⟨g, c2, rfl, _, hs2⟩, hb⟩
  replace HS := Lib.hid (HS.out.call (Nat.le_refl _) hb)
  have HS2 := Lib.hid hs2
  refine hK.out _ _ (hH.call hb) (fun hN => ?_)
  clear hK K hH hb hs2
  have hH := hN
  clear hN
  try simp only [Act.put, List.setIfInBounds_toArray, List.set_cons_zero, List.set_cons_succ]
  refine wpAnyH_ready (rs := [4]) (by kernel_rfl) (by simp) ?_
  refine AllReadyH.cons (o := _) rfl (fun K hK => ?_) AllReadyH.nil
  go_simp
  refine (bytes_any _ _ 56 _ _ _ _ _ (by omega) HS.out HS2.out).mono ?_
  rintro e we ⟨r, rfl, hr, hb⟩
  have HR := Lib.hid hr
  refine hK.out _ _ (hH.call hb) (fun hN => ?_)
  clear hK K hH hb hr
  have hH := hN
  clear hN
  try simp only [Act.put, List.setIfInBounds_toArray, List.set_cons_zero, List.set_cons_succ]
  refine held_value 5 4 (.bool r) rfl rfl (by kernel_rfl) (by kernel_rfl) (by kernel_rfl) rfl hH (fun w hw => by go_simp) ?_
  try simp only [Act.put, List.setIfInBounds_toArray, List.set_cons_zero, List.set_cons_succ]
  refine wpAnyH_done (by kernel_rfl) ?_ _
  refine NoPanic.normal ?_
  go_wp2_with fail
  go_ret
  refine ⟨?_, hH.bel⟩
  have e : r = decide (x = y) := by rw [Bool.eq_iff_iff, HR.out, HX.out, decide_eq_true_eq]
  rw [← e]
  rfl
theorem awake_bytes : bX (pN - 1) 0 = 254#8 ∧ bX (pN - 1) 27 = 255#8 ∧ bX (pN - 1) 28 = 254#8 := by decide +kernel
theorem neg_one : ((-1 : Int) % pZ).toNat = pN - 1 := by decide +kernel
theorem pos_one : ((1 : Int) % pZ).toNat = 1 := by decide +kernel
set_option maxRecDepth 8000 in
set_option maxHeartbeats 1600000 in
/-- The chapter's example. -/
theorem awake_any (w : World) (hT : Tp w) :
    Calls Tryd.prog 11 #[] w fun e w' => e = .returned (.bool true) ∧ Below w.heap.size w w' := by
  have HT := Lib.hid hT
  clear hT
  have HI1 := Lib.hid (fun w hT => int_v (-1) w hT (by omega) (by omega))
  have HI2 := Lib.hid (fun w hT => int_v 1 w hT (by omega) (by omega))
  rw [neg_one] at HI1
  rw [pos_one] at HI2
  have H := Lib.hid (Ow.start w)
  go_enter Tryd.func11, Tryd.ntmps11
  go_wp2_with fail
  refine (HI1.out _ (HT.out.below H.out.bel)).mono ?_
  rintro e w1 ⟨h, rfl, hv, hb⟩
  have HV := Lib.hid hv
  replace H := Lib.hid (H.out.call hb)
  clear hb hv
  go_wp2_with fail
  refine (bytes_v _ HV.out).mono ?_
  rintro e w2 ⟨a, c, rfl, hs, hb⟩
  replace H := Lib.hid (H.out.call hb)
  obtain ⟨b, o, rfl, _, hcell⟩ := hold_slice hs (by omega)
  obtain ⟨a1, a2, a3⟩ := awake_bytes
  have hc0 : w2.cell? ⟨b, o, none⟩ = some (.int .u8 254) := by
    have := hcell 0 (by omega)
    rw [a1] at this
    exact this
  have hc1 : w2.cell? ⟨b, o + 27, none⟩ = some (.int .u8 255) := by
    have := hcell 27 (by omega)
    rw [a2] at this
    exact this
  have hc2 : w2.cell? ⟨b, o + 28, none⟩ = some (.int .u8 254) := by
    have := hcell 28 (by omega)
    rw [a3] at this
    exact this
  clear hb hs hcell a1 a2 a3
  go_wp2_with (first
    | ((with_reducible refine (HI1.out _ (HT.out.below H.out.bel)).mono ?_); rintro e w3 ⟨h1, rfl, hv, hb⟩; have HV1 := Lib.hid hv; replace H := Lib.hid (H.out.call hb); clear hb hv)
    | ((with_reducible refine (HI2.out _ (HT.out.below H.out.bel)).mono ?_); rintro e w4 ⟨h2, rfl, hv, hb⟩; have HV2 := Lib.hid hv; replace H := Lib.hid (H.out.call hb); clear hb hv)
    | ((with_reducible refine (add_v _ HV1.out HV2.out).mono ?_); rintro e w5 ⟨h3, rfl, hv, hb⟩; have HV3 := Lib.hid hv; replace H := Lib.hid (H.out.call hb); clear hb hv)
    | ((with_reducible refine (zero_v _ HV3.out).mono ?_); rintro e w6 ⟨rfl, hb⟩; replace H := Lib.hid (H.out.call hb); clear hb))
  go_ret
  refine ⟨?_, H.out.bel⟩
  have e : decide ((pN - 1 + 1) % pN = 0) = true := by decide +kernel
  rw [← e]
  rfl
end Go.Proofs.YtjjdhbmlinjhjaaDoor
