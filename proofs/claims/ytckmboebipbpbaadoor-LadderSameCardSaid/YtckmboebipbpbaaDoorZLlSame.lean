/-
  The walk of LadderSame. No statement is proved here: lemmas for the walks.
-/
import Derived.Test.YtckmboebipbpbaaDoorZLdTwice
import Derived.Test.YtckmboebipbpbaaDoorZLdSame
import Derived.Deep.CutRange
namespace Go.Proofs.YtckmboebipbpbaaDoor
open Go.RowKit

theorem ybc_num {w : World} {g c x : Nat} {F : Nat → BitVec 8} (h : w.heap[g]? = some (YB c F)) (hc : 56 ≤ c) (hF : ∀ i, i < 56 → bt x i = F i) (hx : x < 2 ^ (8 * 56)) : Sb w w.heap.size (some ⟨g, 0, none⟩) 56 c x :=
  ⟨⟨hc, (fun e => by cases e), fun ad e _ => ⟨g, 0, (Option.some.inj e).symm, lt_row h, fun i hi => by rw [Nat.zero_add, hF i hi]; exact (blk_rowB h).cell i (by omega)⟩⟩, hx⟩
theorem fits60 {x : Nat} (h : x < 2 ^ (8 * 56)) : x < 2 ^ (8 * 60) := fits_more (b := 8) (n := 56) (m := 60) h (by decide)
theorem u_nat (b : BitVec 8) : U b = .int .u8 ((b.toNat : Nat) : Int) := rfl
theorem u_of (s : Nat) (h : s < 256) : U (BitVec.ofNat 8 s) = .int .u8 (s : Int) := by
  have e : U8 (BitVec.ofNat 8 s) = (s : Int) := by
    show (((BitVec.ofNat 8 s).toNat : Nat) : Int) = _
    rw [BitVec.toNat_ofNat, Nat.mod_eq_of_lt h]
  exact congrArg (Value.int .u8) e
set_option maxRecDepth 20000 in
set_option maxHeartbeats 12800000 in
theorem lsame_no {x x' y : Nat} {R : K} {F1 F2 F3 : Nat → BitVec 8} (f g : Nat → BitVec 8) (w : World) (hT : Tp w) (hx : x < 2 ^ (8 * 56)) (ex : ∀ i, i < 56 → bt x i = f i) (hy : y < 2 ^ (8 * 56)) (ey : ∀ i, i < 56 → bt y i = g i)
    (hR : ldV (cN pN y) (clN x) = R) (hR' : ldV (cN pN y) (clN x') = R) (zR : R ≠ 0) (h7 : (bt x 55).toNat ≠ 127) (hx' : x' < 2 ^ (8 * 56)) (ex' : ∀ i, i < 56 → bt x' i = F3 i)
    (e1 : upd8 (bt x) 0 (tn0 (bt x 0)) = F1) (e2 : upd8 F1 55 (BitVec.ofNat 8 (((bt x 55).toNat + 128) % 256 % 255)) = F2) (e3 : F2 = F3) :
    Calls Tryd.prog 8 #[.agg (AZ .u8 56 (UB f)), .agg (AZ .u8 56 (UB g))] w fun e w' => e = .returned (.bool true) ∧ Below w.heap.size w w' := by
  obtain ⟨fe, hm, hv⟩ := raw_x g ey hy
  have HM := Lib.hid hm
  have HV := Lib.hid hv
  have ea : AZ .u8 56 (UB f) = AZ .u8 56 (UB (bt x)) := AZ_congr fun i hi => by
    unfold UB
    rw [ex i hi]
  have EF55 : f 55 = bt x 55 := (ex 55 (by omega)).symm
  have E55 : F1 55 = bt x 55 := by
    rw [← e1]
    rfl
  have E255 : F2 55 = BitVec.ofNat 8 (((bt x 55).toNat + 128) % 256 % 255) := by
    rw [← e2]
    exact if_pos rfl
  obtain ⟨z0, hz0⟩ : ∃ z, (bt x 0).toNat = z := ⟨_, rfl⟩
  have z0l : z0 < 256 := by rw [← hz0]; exact (bt x 0).isLt
  obtain ⟨z5, hz5⟩ : ∃ z, (bt x 55).toNat = z := ⟨_, rfl⟩
  have z5l : z5 < 256 := by rw [← hz5]; exact (bt x 55).isLt
  rw [hz5] at h7 e2 E255
  have G0 : Hid (U (bt x 0) = .int .u8 (z0 : Int)) := Lib.hid (by rw [u_nat, hz0])
  have G55 : Hid (U (F1 55) = .int .u8 (z5 : Int)) := Lib.hid (by rw [E55, u_nat, hz5])
  have GA : Hid (U (f 55) = .int .u8 (z5 : Int)) := Lib.hid (by rw [EF55, u_nat, hz5])
  obtain ⟨q, hq⟩ : ∃ q, z0 / 4 = q := ⟨_, rfl⟩
  obtain ⟨m, hmm⟩ : ∃ m, q * 4 = m := ⟨_, rfl⟩
  obtain ⟨p, hp⟩ : ∃ p, m + 3 = p := ⟨_, rfl⟩
  obtain ⟨r, hr⟩ : ∃ r, z0 % 4 = r := ⟨_, rfl⟩
  obtain ⟨s, hs⟩ : ∃ s, p - r = s := ⟨_, rfl⟩
  have T0 : Hid (U (tn0 (bt x 0)) = .int .u8 (s : Int)) := Lib.hid (by
    unfold tn0
    rw [hz0, show 4 * (z0 / 4) + 3 - z0 % 4 = s by omega]
    exact u_of s (by omega))
  have t1 : (z0 : Int).tdiv 4 = (q : Int) := by rw [Int.tdiv_eq_ediv_of_nonneg (by omega)]; omega
  have t2 : (z0 : Int) / 4 = (q : Int) := by omega
  have t3 : IntKind.u8.wrap (q : Int) = (q : Int) := by rw [IntKind.wrap_u8]; omega
  have t4' : (q : Int) % 256 = (q : Int) := by omega
  have t5 : (q : Int) * 4 = (m : Int) := by omega
  have t6 : IntKind.u8.wrap (m : Int) = (m : Int) := by rw [IntKind.wrap_u8]; omega
  have t7 : (m : Int) % 256 = (m : Int) := by omega
  have t8 : (m : Int) + 3 = (p : Int) := by omega
  have t9 : IntKind.u8.wrap (p : Int) = (p : Int) := by rw [IntKind.wrap_u8]; omega
  have t10 : (p : Int) % 256 = (p : Int) := by omega
  have t11 : (z0 : Int).tmod 4 = (r : Int) := by rw [Int.tmod_eq_emod_of_nonneg (by omega)]; omega
  have t12 : (z0 : Int) % 4 = (r : Int) := by omega
  have t13 : IntKind.u8.wrap (r : Int) = (r : Int) := by rw [IntKind.wrap_u8]; omega
  have t14 : (r : Int) % 256 = (r : Int) := by omega
  have t15 : (p : Int) - (r : Int) = (s : Int) := by omega
  have t16 : IntKind.u8.wrap (s : Int) = (s : Int) := by rw [IntKind.wrap_u8]; omega
  have t17 : (s : Int) % 256 = (s : Int) := by omega
  obtain ⟨s1, hs1⟩ : ∃ s, (z5 + 128) % 256 = s := ⟨_, rfl⟩
  have hs2 : s1 % 255 = s1 := by omega
  rw [hs1, hs2] at e2 E255
  have G255 : Hid (U (F2 55) = .int .u8 (s1 : Int)) := Lib.hid (by rw [E255]; exact u_of s1 (by omega))
  have T2 : Hid (U (BitVec.ofNat 8 s1) = .int .u8 (s1 : Int)) := Lib.hid (u_of s1 (by omega))
  obtain ⟨za, hza⟩ : ∃ a, z5 % 128 = a := ⟨_, rfl⟩
  have hzb : s1 % 128 = za := by omega
  have v1 : IntKind.u8.wrap ((z5 : Int) + 128) = (s1 : Int) := by rw [IntKind.wrap_u8]; omega
  have v2 : ((z5 : Int) + 128) % 256 = (s1 : Int) := by omega
  have v3 : (s1 : Int).tmod 255 = (s1 : Int) := by rw [Int.tmod_eq_emod_of_nonneg (by omega)]; omega
  have v4 : (s1 : Int) % 255 = (s1 : Int) := by omega
  have v5 : IntKind.u8.wrap (s1 : Int) = (s1 : Int) := by rw [IntKind.wrap_u8]; omega
  have v6 : (s1 : Int) % 256 = (s1 : Int) := by omega
  have v7 : (z5 : Int).tmod 128 = (za : Int) := by rw [Int.tmod_eq_emod_of_nonneg (by omega)]; omega
  have v8 : (z5 : Int) % 128 = (za : Int) := by omega
  have v9 : (s1 : Int).tmod 128 = (za : Int) := by rw [Int.tmod_eq_emod_of_nonneg (by omega)]; omega
  have v10 : (s1 : Int) % 128 = (za : Int) := by omega
  have v11 : IntKind.u8.wrap (za : Int) = (za : Int) := by rw [IntKind.wrap_u8]; omega
  have v12 : (za : Int) % 256 = (za : Int) := by omega
  have HF1 := Lib.hid e1
  have HF2 := Lib.hid e2
  have HF3 := Lib.hid e3
  have HX := Lib.hid hx
  have HX6 := Lib.hid (fits60 hx)
  have EX := Lib.hid ex
  have HY := Lib.hid hy
  have EY := Lib.hid ey
  have HXp := Lib.hid hx'
  have EXp := Lib.hid ex'
  have H0 : Hid (∀ j, 56 ≤ j → bt x j = 0) := Lib.hid fun j hj => bt_over hx hj
  have HR := Lib.hid hR
  have HRp := Lib.hid hR'
  have HRc : Hid (ldV (cN pN (cN pN y).val) (clN x) = R) := Lib.hid (by rw [cN_val]; exact hR)
  have ZR := Lib.hid zR
  clear hm hv ea EF55 E55 E255 hz0 hz5 h7 hq hmm hp hr hs hx ex hy ey hR hR' zR hx' ex' e1 e2 e3 z0l z5l hs1 hs2 hza hzb
  have HT := Lib.hid hT
  clear hT
  have H := Lib.hid (Ow.start w)
  go_enter Tryd.func8, Tryd.ntmps8
  go_upto_region 16 with (first
    | ((fail_if_success have := g2); (with_reducible apply own_box H); (case hgd => exact rfl); (case ho => exact rfl); (case hx => exact rfl); intro w2 g2 H' _ _; replace H := H'; clear H'; go_simp)
    | ((fail_if_success have := g3); (fail_if_success have := g3); (with_reducible apply own_box H); (case hgd => exact rfl); (case ho => exact rfl); (case hx => exact rfl); intro w3 g3 H' _ _; replace H := H'; clear H'; go_simp)
    | ((with_reducible apply own_load rowB H); (case hgd => exact rfl); (case ho => exact rfl); (case hx => exact rfl); (case hi => first | exact at0 | exact at1 | exact at2 | exact at3 | exact at4 | exact at5 | exact at6 | exact at7 | exact at8 | exact at9); intro _ _; go_simp)
    | ((fail_if_success have := mk1); (with_reducible refine (lawBytes_row _ HX.out EX.out).mono ?_); rintro e wc ⟨gk, ck, rfl, hc, hg, hr, hb⟩; replace H := Lib.hid (H.out.add hb hg hr); have LK := Lib.hid hc; have mk1 := trivial; clear hb hg hr hc)
    | ((fail_if_success have := mk2); (with_reducible refine (HM.out _).mono ?_); rintro e wc ⟨rfl, hb⟩; replace H := Lib.hid (H.out.call hb); have mk2 := trivial; clear hb)
    | ((fail_if_success have := g6); (fail_if_success have := g6); (with_reducible apply own_alloc nilE H); (case hgd => exact rfl); (case ho => exact rfl); intro w6 g6 H' _ _; replace H := H'; clear H'; go_simp)
    | ((with_reducible apply own_store rowE H); (case hgd => exact rfl); (case ho => exact rfl); (case hx => exact rfl); (case hy => exact rfl); (case hi => first | exact at0 | exact at1 | exact at2 | exact at3 | exact at4 | exact at5 | exact at6 | exact at7 | exact at8 | exact at9); intro ws H' _ _; replace H := H'; clear H'; simp only [List.set_cons_zero] at H; go_simp)
    | ((fail_if_success have := gm); (with_reducible apply own_new H); (case hgd => exact rfl); (case ho => exact rfl); (case hs => exact rfl); (case hx => exact rfl); (case hS => exact (ybc_sb (H.out.row 1 rfl) LK.out HX.out).sl); (case h0 => exact H0.out); (case hn => omega); (case hl => omega); intro wm gm cm LM H' _ _; replace H := H'; clear H'; go_simp)
    | ((fail_if_success have := mkp); (with_reducible apply own_put4 (N := 60) H); (case hgd => exact rfl); (case ho => exact rfl); (case hs => exact rfl); (case hy => exact rfl); (case hc => exact LM.out); (case hx => exact HX.out); (case hn => omega); (case hN => exact rfl); intro wp gp kp LP H' _ _; replace H := H'; clear H'; have mkp := trivial; go_simp)
    | ((with_reducible apply own_load rowE H); (case hgd => exact rfl); (case ho => exact rfl); (case hx => exact rfl); (case hi => first | exact at0 | exact at1 | exact at2 | exact at3 | exact at4 | exact at5 | exact at6 | exact at7 | exact at8 | exact at9); intro _ _; go_simp)
    | ((fail_if_success have := VA); (with_reducible refine (ladder_k _ (HT.out.below H.out.bel) (by omega) (ybc_sb (H.out.row 2 rfl) LK.out HX.out) HV.out).mono ?_); rintro e wc ⟨h1, rfl, hv, hb⟩; replace H := Lib.hid (H.out.call hb); have VA := Lib.hid hv; clear hb hv)
    | ((fail_if_success have := g9); (fail_if_success have := g9); (with_reducible apply own_alloc nilE H); (case hgd => exact rfl); (case ho => exact rfl); intro w9 g9 H' _ _; replace H := H'; clear H'; go_simp)
    | ((fail_if_success have := VB); (with_reducible refine (ladder_k _ (HT.out.below H.out.bel) (by omega) (ybc_sb (H.out.row 1 rfl) LP.out HX6.out) HV.out).mono ?_); rintro e wc ⟨h2, rfl, hv, hb⟩; replace H := Lib.hid (H.out.call hb); have VB := Lib.hid hv; clear hb hv)
    | ((fail_if_success have := g11); (fail_if_success have := g11); (with_reducible apply own_alloc nilE H); (case hgd => exact rfl); (case ho => exact rfl); intro w11 g11 H' _ _; replace H := H'; clear H'; go_simp)
    | ((fail_if_success have := mk3); (with_reducible refine (lawBytes_row _ HY.out EY.out).mono ?_); rintro e wc ⟨gb, cb, rfl, hc, hg, hr, hb⟩; replace H := Lib.hid (H.out.add hb hg hr); have LB := Lib.hid hc; have mk3 := trivial; clear hb hg hr hc)
    | ((fail_if_success have := mk4); (with_reducible refine (bytes_sb _ HV.out).mono ?_); rintro e wc ⟨gc, cc, rfl, hs, hb⟩; replace H := Lib.hid (H.out.call hb); have mk4 := trivial; clear hb; have SC := Lib.hid hs; clear hs)
    | ((fail_if_success have := mk5); (with_reducible refine (x448_row _ (HT.out.below H.out.bel) (ybc_sb (H.out.row 5 rfl) LK.out HX.out) (ybc_sb (H.out.row 0 rfl) LB.out HY.out) HR.out ZR.out).mono ?_); rintro e wc ⟨gq, cq, oq, rfl, hg, hr, hF, hb⟩; replace H := Lib.hid (H.out.add hb hg hr); replace SC := Lib.hid (SC.out.call hb); have FQ := Lib.hid hF; have mk5 := trivial; clear hb hg hr hF)
    | ((fail_if_success have := mk6); (with_reducible refine (x448_row _ (HT.out.below H.out.bel) (ybc_sb (H.out.row 6 rfl) LK.out HX.out) SC.out HRc.out ZR.out).mono ?_); rintro e wc ⟨gs, cs, os, rfl, hg, hr, hF, hb⟩; replace H := Lib.hid (H.out.add hb hg hr); have FS := Lib.hid hF; have mk6 := trivial; clear hb hg hr hF)
    | ((with_reducible apply own_loadg rowE H); (case hw => exact rfl); (case ho => exact rfl); (case hx => exact rfl); (case hi => first | exact at0 | exact at1 | exact at2 | exact at3 | exact at4 | exact at5 | exact at6 | exact at7 | exact at8 | exact at9); intro _ _; go_simp)
    | ((with_reducible refine (equal_kt _ (HT.out.below H.out.bel) VA.out VB.out rfl).mono ?_); rintro e wc ⟨rfl, hb⟩; replace H := Lib.hid (H.out.call hb); clear hb)
    | ((fail_if_success have := mk7); (with_reducible refine (cmp_any (n := 56) _ (by omega) (FQ.out _ (H.out.row 1 rfl)) (FS.out _ (H.out.row 0 rfl))).mono ?_); rintro e wc ⟨rfl, hb⟩; replace H := Lib.hid (H.out.call hb); have mk7 := trivial; clear hb)
    | ((with_reducible apply own_loadg rowB H); (case hw => exact rfl); (case ho => exact rfl); (case hx => exact rfl); (case hi => first | exact at0 | exact at1 | exact at2 | exact at3 | exact at4 | exact at5 | exact at6 | exact at7 | exact at8 | exact at9); intro _ _; go_simp)
    | ((fail_if_success have := mk8); (with_reducible refine (lawBytes_x _ HX.out EX.out).mono ?_); rintro e wc ⟨am, cm2, rfl, hs, hb⟩; replace H := Lib.hid (H.out.call hb); have mk8 := trivial; clear hb; have SM := Lib.hid hs; clear hs)
    | ((fail_if_success have := mk9); (with_reducible refine (cmp_any (n := 56) _ (by omega) (ybc_sb (H.out.row 7 rfl) LK.out HX.out) SM.out).mono ?_); rintro e wc ⟨rfl, hb⟩; replace H := Lib.hid (H.out.call hb); have mk9 := trivial; clear hb)
    | ((fail_if_success have := mk10); (with_reducible refine (lawBytes_x _ HY.out EY.out).mono ?_); rintro e wc ⟨an, cn2, rfl, hs, hb⟩; replace H := Lib.hid (H.out.call hb); have mk10 := trivial; clear hb; have SN := Lib.hid hs; clear hs)
    | ((fail_if_success have := mk11); (with_reducible refine (cmp_any (n := 56) _ (by omega) (ybc_sb (H.out.row 2 rfl) LB.out HY.out) SN.out).mono ?_); rintro e wc ⟨rfl, hb⟩; replace H := Lib.hid (H.out.call hb); have mk11 := trivial; clear hb))
  refine wp_region_noPanic ?_
  refine wp_region_held_drew (S := fun W => True) (by kernel_rfl) (trivial) (fun hH => ?_)
  replace H := Lib.hid H.out.drew
  generalize World.drew _ = w8 at *
  refine held_value 0 101 (.slice (some ⟨gk, 0, none⟩) 56 ck) rfl rfl (by kernel_rfl) (by kernel_rfl) (by kernel_rfl) rfl hH (fun w hw => by go_simp) ?_
  try simp only [Act.put, List.setIfInBounds_toArray, List.set_cons_zero, List.set_cons_succ]
  refine held_value 1 102 (.slice (some ⟨gk, 0, none⟩) 56 ck) rfl rfl (by kernel_rfl) (by kernel_rfl) (by kernel_rfl) rfl hH (fun w hw => by go_simp) ?_
  try simp only [Act.put, List.setIfInBounds_toArray, List.set_cons_zero, List.set_cons_succ]
  refine held_value 2 103 (.pointer (some ⟨gk, 0, none⟩)) rfl rfl (by kernel_rfl) (by kernel_rfl) (by kernel_rfl) rfl hH (fun w hw => by go_simp) ?_
  try simp only [Act.put, List.setIfInBounds_toArray, List.set_cons_zero, List.set_cons_succ]
  refine held_value 7 108 (.slice (some ⟨gk, 0, none⟩) 56 ck) rfl rfl (by kernel_rfl) (by kernel_rfl) (by kernel_rfl) rfl hH (fun w hw => by go_simp) ?_
  try simp only [Act.put, List.setIfInBounds_toArray, List.set_cons_zero, List.set_cons_succ]
  refine held_value 8 109 (.pointer (some ⟨gk, 0, none⟩)) rfl rfl (by kernel_rfl) (by kernel_rfl) (by kernel_rfl) rfl hH (fun w hw => by go_simp) ?_
  try simp only [Act.put, List.setIfInBounds_toArray, List.set_cons_zero, List.set_cons_succ]
  refine wpAnyH_ready (rs := [3, 9]) (by kernel_rfl) (by simp) ?_
  refine AllReadyH.cons (o := _) rfl (fun K hK => ?_) (AllReadyH.cons (o := _) rfl (fun K hK => ?_) AllReadyH.nil)
  · skip
    refine own_wp_getb 104 rfl 7 H.out rfl rfl rfl (Nat.lt_of_lt_of_le (by omega : 0 < 56) LK.out) G0.out ?_
    refine hK.out _ _ hH (fun hN => ?_)
    clear hK K hH
    have hH := hN
    clear hN
    try simp only [Act.put, List.setIfInBounds_toArray, List.set_cons_zero, List.set_cons_succ]
    refine held_value 4 105 (.int .u8 (q : Int)) rfl rfl (by kernel_rfl) (by kernel_rfl) (by kernel_rfl) rfl hH (fun w hw => by go_simp) ?_
    try simp only [Act.put, List.setIfInBounds_toArray, List.set_cons_zero, List.set_cons_succ]
    refine held_value 5 106 (.int .u8 (m : Int)) rfl rfl (by kernel_rfl) (by kernel_rfl) (by kernel_rfl) rfl hH (fun w hw => by go_simp) ?_
    try simp only [Act.put, List.setIfInBounds_toArray, List.set_cons_zero, List.set_cons_succ]
    refine held_value 6 107 (.int .u8 (p : Int)) rfl rfl (by kernel_rfl) (by kernel_rfl) (by kernel_rfl) rfl hH (fun w hw => by go_simp) ?_
    try simp only [Act.put, List.setIfInBounds_toArray, List.set_cons_zero, List.set_cons_succ]
    refine wpAnyH_ready (rs := [9]) (by kernel_rfl) (by simp) ?_
    refine AllReadyH.cons (o := _) rfl (fun K hK => ?_) AllReadyH.nil
    refine own_wp_getb 110 rfl 7 H.out rfl rfl rfl (Nat.lt_of_lt_of_le (by omega : 0 < 56) LK.out) G0.out ?_
    refine hK.out _ _ hH (fun hN => ?_)
    clear hK K hH
    have hH := hN
    clear hN
    try simp only [Act.put, List.setIfInBounds_toArray, List.set_cons_zero, List.set_cons_succ]
    refine held_value 10 111 (.int .u8 (r : Int)) rfl rfl (by kernel_rfl) (by kernel_rfl) (by kernel_rfl) rfl hH (fun w hw => by go_simp) ?_
    try simp only [Act.put, List.setIfInBounds_toArray, List.set_cons_zero, List.set_cons_succ]
    refine held_value 11 112 (.int .u8 (s : Int)) rfl rfl (by kernel_rfl) (by kernel_rfl) (by kernel_rfl) rfl hH (fun w hw => by go_simp) ?_
    try simp only [Act.put, List.setIfInBounds_toArray, List.set_cons_zero, List.set_cons_succ]
    refine held_value 12 113 (.pointer (some ⟨gk, 0, none⟩)) rfl rfl (by kernel_rfl) (by kernel_rfl) (by kernel_rfl) rfl hH (fun w hw => by go_simp) ?_
    try simp only [Act.put, List.setIfInBounds_toArray, List.set_cons_zero, List.set_cons_succ]
    refine wpAnyH_ready (rs := [13]) (by kernel_rfl) (by simp) ?_
    refine AllReadyH.cons (o := _) rfl (fun K hK => ?_) AllReadyH.nil
    refine own_wp_putb 7 H.out rfl rfl (T0.out.symm) rfl (Nat.lt_of_lt_of_le (by omega : 0 < 56) LK.out) HF1.out ?_
    intro ws HS
    simp only [List.set_cons_zero, List.set_cons_succ] at HS
    replace H := Lib.hid HS
    refine hK.out _ _ (trivial) (fun hN => ?_)
    clear hK K HS hH
    have hH := hN
    clear hN
    try simp only [Act.put, List.setIfInBounds_toArray]
    try simp only [Act.put]
    refine wpAnyH_done (by kernel_rfl) ?_ _
    refine NoPanic.normal ?_
    clear hH
    go_upto_region 18 with (first
      | ((with_reducible apply own_getb H); (case hgd => exact rfl); (case ho => exact rfl); (case hx => exact rfl); (case hi => first | exact at0 | exact at1 | exact at2 | exact at3 | exact at4 | exact at5 | exact at6 | exact at7 | exact at8 | exact at9); (case hj => exact Nat.lt_of_lt_of_le (by omega : 55 < 56) LK.out); intro _ _; rw [G55.out]; go_simp)
      | ((fail_if_success have := mk12); (with_reducible apply own_putb (v := (BitVec.ofNat 8 s1)) H); (case hgd => exact rfl); (case ho => exact rfl); (case hx => exact rfl); (case hy => exact T2.out.symm); (case hi => first | exact at0 | exact at1 | exact at2 | exact at3 | exact at4 | exact at5 | exact at6 | exact at7 | exact at8 | exact at9); (case hj => exact Nat.lt_of_lt_of_le (by omega : 55 < 56) LK.out); intro ws H' _ _; replace H := H'; clear H'; have mk12 := trivial; simp only [List.set_cons_zero, List.set_cons_succ] at H; rw [HF2.out] at H; go_simp))
    have CA : Hid (World.cell? _ ⟨g2, 55, none⟩ = some (.int .u8 (z5 : Int))) := Lib.hid (by rw [← GA.out]; exact H.out.cell 9 rfl 55 (by omega))
    have CK : Hid (World.cell? _ ⟨gk, 55, none⟩ = some (.int .u8 (s1 : Int))) := Lib.hid (by rw [← G255.out]; exact H.out.cell 7 rfl 55 (Nat.lt_of_lt_of_le (by omega : 55 < 56) LK.out))
    refine wp_region_noPanic ?_
    refine wp_region_held_drew (S := fun W => W.heap[g2]? = some (Blk 23 .u8 56 (UB f)) ∧ W.cell? ⟨g2, 55, none⟩ = some (.int .u8 (z5 : Int)) ∧ W.cell? ⟨gk, 55, none⟩ = some (.int .u8 (s1 : Int))) (by kernel_rfl) (⟨H.out.drew.row 9 rfl, CA.out, CK.out⟩) (fun hH => ?_)
    replace H := Lib.hid H.out.drew
    replace CA := Lib.hid (show (World.drew _).cell? _ = _ from CA.out)
    replace CK := Lib.hid (show (World.drew _).cell? _ = _ from CK.out)
    generalize World.drew _ = w8 at *
    refine held_value 0 121 (.pointer (some ⟨g2, 55, none⟩)) rfl rfl (by kernel_rfl) (by kernel_rfl) (by kernel_rfl) rfl hH (fun w hw => by go_simp) ?_
    try simp only [Act.put, List.setIfInBounds_toArray, List.set_cons_zero, List.set_cons_succ]
    refine held_value 1 122 (.int .u8 (z5 : Int)) rfl rfl (by kernel_rfl) (by kernel_rfl) (by kernel_rfl) rfl hH (fun w hw => by have hc := hw.2.1; go_simp) ?_
    try simp only [Act.put, List.setIfInBounds_toArray, List.set_cons_zero, List.set_cons_succ]
    refine held_value 2 123 (.int .u8 (za : Int)) rfl rfl (by kernel_rfl) (by kernel_rfl) (by kernel_rfl) rfl hH (fun w hw => by go_simp) ?_
    try simp only [Act.put, List.setIfInBounds_toArray, List.set_cons_zero, List.set_cons_succ]
    refine held_value 3 124 (.slice (some ⟨gk, 0, none⟩) 56 ck) rfl rfl (by kernel_rfl) (by kernel_rfl) (by kernel_rfl) rfl hH (fun w hw => by go_simp) ?_
    try simp only [Act.put, List.setIfInBounds_toArray, List.set_cons_zero, List.set_cons_succ]
    refine held_value 4 125 (.pointer (some ⟨gk, 55, none⟩)) rfl rfl (by kernel_rfl) (by kernel_rfl) (by kernel_rfl) rfl hH (fun w hw => by go_simp) ?_
    try simp only [Act.put, List.setIfInBounds_toArray, List.set_cons_zero, List.set_cons_succ]
    refine held_value 5 126 (.int .u8 (s1 : Int)) rfl rfl (by kernel_rfl) (by kernel_rfl) (by kernel_rfl) rfl hH (fun w hw => by have hc := hw.2.2; go_simp) ?_
    try simp only [Act.put, List.setIfInBounds_toArray, List.set_cons_zero, List.set_cons_succ]
    refine held_value 6 127 (.int .u8 (za : Int)) rfl rfl (by kernel_rfl) (by kernel_rfl) (by kernel_rfl) rfl hH (fun w hw => by go_simp) ?_
    try simp only [Act.put, List.setIfInBounds_toArray, List.set_cons_zero, List.set_cons_succ]
    refine held_value 7 128 (.bool false) rfl rfl (by kernel_rfl) (by kernel_rfl) (by kernel_rfl) rfl hH (fun w hw => by go_simp) ?_
    try simp only [Act.put, List.setIfInBounds_toArray, List.set_cons_zero, List.set_cons_succ]
    try simp only [Act.put]
    refine wpAnyH_done (by kernel_rfl) ?_ _
    refine NoPanic.normal ?_
    clear hH
    rw [HF3.out] at H
    go_wp2_with (first
      | ((fail_if_success have := mk14); (with_reducible refine (x448_row _ (HT.out.below H.out.bel) (ybc_num (H.out.row 7 rfl) LK.out EXp.out HXp.out) (ybc_sb (H.out.row 2 rfl) LB.out HY.out) HRp.out ZR.out).mono ?_); rintro e wc ⟨gt, ct, ot, rfl, hg, hr, hF, hb⟩; replace H := Lib.hid (H.out.add hb hg hr); have FT := Lib.hid hF; have mk14 := trivial; clear hb hg hr hF)
      | ((fail_if_success have := mk15); (with_reducible refine (cmp_any (n := 56) _ (by omega) (FQ.out _ (H.out.row 2 rfl)) (FT.out _ (H.out.row 0 rfl))).mono ?_); rintro e wc ⟨rfl, hb⟩; replace H := Lib.hid (H.out.call hb); have mk15 := trivial; clear hb)
      | ((with_reducible refine (awake10_k _ (HT.out.below H.out.bel)).mono ?_); rintro e wc ⟨rfl, hb⟩; replace H := Lib.hid (H.out.call hb); clear hb))
    go_ret
    exact ⟨rfl, H.out.bel⟩
  · skip
    refine own_wp_getb 110 rfl 7 H.out rfl rfl rfl (Nat.lt_of_lt_of_le (by omega : 0 < 56) LK.out) G0.out ?_
    refine hK.out _ _ hH (fun hN => ?_)
    clear hK K hH
    have hH := hN
    clear hN
    try simp only [Act.put, List.setIfInBounds_toArray, List.set_cons_zero, List.set_cons_succ]
    refine held_value 10 111 (.int .u8 (r : Int)) rfl rfl (by kernel_rfl) (by kernel_rfl) (by kernel_rfl) rfl hH (fun w hw => by go_simp) ?_
    try simp only [Act.put, List.setIfInBounds_toArray, List.set_cons_zero, List.set_cons_succ]
    refine wpAnyH_ready (rs := [3]) (by kernel_rfl) (by simp) ?_
    refine AllReadyH.cons (o := _) rfl (fun K hK => ?_) AllReadyH.nil
    refine own_wp_getb 104 rfl 7 H.out rfl rfl rfl (Nat.lt_of_lt_of_le (by omega : 0 < 56) LK.out) G0.out ?_
    refine hK.out _ _ hH (fun hN => ?_)
    clear hK K hH
    have hH := hN
    clear hN
    try simp only [Act.put, List.setIfInBounds_toArray, List.set_cons_zero, List.set_cons_succ]
    refine held_value 4 105 (.int .u8 (q : Int)) rfl rfl (by kernel_rfl) (by kernel_rfl) (by kernel_rfl) rfl hH (fun w hw => by go_simp) ?_
    try simp only [Act.put, List.setIfInBounds_toArray, List.set_cons_zero, List.set_cons_succ]
    refine held_value 5 106 (.int .u8 (m : Int)) rfl rfl (by kernel_rfl) (by kernel_rfl) (by kernel_rfl) rfl hH (fun w hw => by go_simp) ?_
    try simp only [Act.put, List.setIfInBounds_toArray, List.set_cons_zero, List.set_cons_succ]
    refine held_value 6 107 (.int .u8 (p : Int)) rfl rfl (by kernel_rfl) (by kernel_rfl) (by kernel_rfl) rfl hH (fun w hw => by go_simp) ?_
    try simp only [Act.put, List.setIfInBounds_toArray, List.set_cons_zero, List.set_cons_succ]
    refine held_value 11 112 (.int .u8 (s : Int)) rfl rfl (by kernel_rfl) (by kernel_rfl) (by kernel_rfl) rfl hH (fun w hw => by go_simp) ?_
    try simp only [Act.put, List.setIfInBounds_toArray, List.set_cons_zero, List.set_cons_succ]
    refine held_value 12 113 (.pointer (some ⟨gk, 0, none⟩)) rfl rfl (by kernel_rfl) (by kernel_rfl) (by kernel_rfl) rfl hH (fun w hw => by go_simp) ?_
    try simp only [Act.put, List.setIfInBounds_toArray, List.set_cons_zero, List.set_cons_succ]
    refine wpAnyH_ready (rs := [13]) (by kernel_rfl) (by simp) ?_
    refine AllReadyH.cons (o := _) rfl (fun K hK => ?_) AllReadyH.nil
    refine own_wp_putb 7 H.out rfl rfl (T0.out.symm) rfl (Nat.lt_of_lt_of_le (by omega : 0 < 56) LK.out) HF1.out ?_
    intro ws HS
    simp only [List.set_cons_zero, List.set_cons_succ] at HS
    replace H := Lib.hid HS
    refine hK.out _ _ (trivial) (fun hN => ?_)
    clear hK K HS hH
    have hH := hN
    clear hN
    try simp only [Act.put, List.setIfInBounds_toArray]
    try simp only [Act.put]
    refine wpAnyH_done (by kernel_rfl) ?_ _
    refine NoPanic.normal ?_
    clear hH
    go_upto_region 18 with (first
      | ((with_reducible apply own_getb H); (case hgd => exact rfl); (case ho => exact rfl); (case hx => exact rfl); (case hi => first | exact at0 | exact at1 | exact at2 | exact at3 | exact at4 | exact at5 | exact at6 | exact at7 | exact at8 | exact at9); (case hj => exact Nat.lt_of_lt_of_le (by omega : 55 < 56) LK.out); intro _ _; rw [G55.out]; go_simp)
      | ((fail_if_success have := mk12); (with_reducible apply own_putb (v := (BitVec.ofNat 8 s1)) H); (case hgd => exact rfl); (case ho => exact rfl); (case hx => exact rfl); (case hy => exact T2.out.symm); (case hi => first | exact at0 | exact at1 | exact at2 | exact at3 | exact at4 | exact at5 | exact at6 | exact at7 | exact at8 | exact at9); (case hj => exact Nat.lt_of_lt_of_le (by omega : 55 < 56) LK.out); intro ws H' _ _; replace H := H'; clear H'; have mk12 := trivial; simp only [List.set_cons_zero, List.set_cons_succ] at H; rw [HF2.out] at H; go_simp))
    have CA : Hid (World.cell? _ ⟨g2, 55, none⟩ = some (.int .u8 (z5 : Int))) := Lib.hid (by rw [← GA.out]; exact H.out.cell 9 rfl 55 (by omega))
    have CK : Hid (World.cell? _ ⟨gk, 55, none⟩ = some (.int .u8 (s1 : Int))) := Lib.hid (by rw [← G255.out]; exact H.out.cell 7 rfl 55 (Nat.lt_of_lt_of_le (by omega : 55 < 56) LK.out))
    refine wp_region_noPanic ?_
    refine wp_region_held_drew (S := fun W => W.heap[g2]? = some (Blk 23 .u8 56 (UB f)) ∧ W.cell? ⟨g2, 55, none⟩ = some (.int .u8 (z5 : Int)) ∧ W.cell? ⟨gk, 55, none⟩ = some (.int .u8 (s1 : Int))) (by kernel_rfl) (⟨H.out.drew.row 9 rfl, CA.out, CK.out⟩) (fun hH => ?_)
    replace H := Lib.hid H.out.drew
    replace CA := Lib.hid (show (World.drew _).cell? _ = _ from CA.out)
    replace CK := Lib.hid (show (World.drew _).cell? _ = _ from CK.out)
    generalize World.drew _ = w8 at *
    refine held_value 0 121 (.pointer (some ⟨g2, 55, none⟩)) rfl rfl (by kernel_rfl) (by kernel_rfl) (by kernel_rfl) rfl hH (fun w hw => by go_simp) ?_
    try simp only [Act.put, List.setIfInBounds_toArray, List.set_cons_zero, List.set_cons_succ]
    refine held_value 1 122 (.int .u8 (z5 : Int)) rfl rfl (by kernel_rfl) (by kernel_rfl) (by kernel_rfl) rfl hH (fun w hw => by have hc := hw.2.1; go_simp) ?_
    try simp only [Act.put, List.setIfInBounds_toArray, List.set_cons_zero, List.set_cons_succ]
    refine held_value 2 123 (.int .u8 (za : Int)) rfl rfl (by kernel_rfl) (by kernel_rfl) (by kernel_rfl) rfl hH (fun w hw => by go_simp) ?_
    try simp only [Act.put, List.setIfInBounds_toArray, List.set_cons_zero, List.set_cons_succ]
    refine held_value 3 124 (.slice (some ⟨gk, 0, none⟩) 56 ck) rfl rfl (by kernel_rfl) (by kernel_rfl) (by kernel_rfl) rfl hH (fun w hw => by go_simp) ?_
    try simp only [Act.put, List.setIfInBounds_toArray, List.set_cons_zero, List.set_cons_succ]
    refine held_value 4 125 (.pointer (some ⟨gk, 55, none⟩)) rfl rfl (by kernel_rfl) (by kernel_rfl) (by kernel_rfl) rfl hH (fun w hw => by go_simp) ?_
    try simp only [Act.put, List.setIfInBounds_toArray, List.set_cons_zero, List.set_cons_succ]
    refine held_value 5 126 (.int .u8 (s1 : Int)) rfl rfl (by kernel_rfl) (by kernel_rfl) (by kernel_rfl) rfl hH (fun w hw => by have hc := hw.2.2; go_simp) ?_
    try simp only [Act.put, List.setIfInBounds_toArray, List.set_cons_zero, List.set_cons_succ]
    refine held_value 6 127 (.int .u8 (za : Int)) rfl rfl (by kernel_rfl) (by kernel_rfl) (by kernel_rfl) rfl hH (fun w hw => by go_simp) ?_
    try simp only [Act.put, List.setIfInBounds_toArray, List.set_cons_zero, List.set_cons_succ]
    refine held_value 7 128 (.bool false) rfl rfl (by kernel_rfl) (by kernel_rfl) (by kernel_rfl) rfl hH (fun w hw => by go_simp) ?_
    try simp only [Act.put, List.setIfInBounds_toArray, List.set_cons_zero, List.set_cons_succ]
    try simp only [Act.put]
    refine wpAnyH_done (by kernel_rfl) ?_ _
    refine NoPanic.normal ?_
    clear hH
    rw [HF3.out] at H
    go_wp2_with (first
      | ((fail_if_success have := mk14); (with_reducible refine (x448_row _ (HT.out.below H.out.bel) (ybc_num (H.out.row 7 rfl) LK.out EXp.out HXp.out) (ybc_sb (H.out.row 2 rfl) LB.out HY.out) HRp.out ZR.out).mono ?_); rintro e wc ⟨gt, ct, ot, rfl, hg, hr, hF, hb⟩; replace H := Lib.hid (H.out.add hb hg hr); have FT := Lib.hid hF; have mk14 := trivial; clear hb hg hr hF)
      | ((fail_if_success have := mk15); (with_reducible refine (cmp_any (n := 56) _ (by omega) (FQ.out _ (H.out.row 2 rfl)) (FT.out _ (H.out.row 0 rfl))).mono ?_); rintro e wc ⟨rfl, hb⟩; replace H := Lib.hid (H.out.call hb); have mk15 := trivial; clear hb)
      | ((with_reducible refine (awake10_k _ (HT.out.below H.out.bel)).mono ?_); rintro e wc ⟨rfl, hb⟩; replace H := Lib.hid (H.out.call hb); clear hb))
    go_ret
    exact ⟨rfl, H.out.bel⟩
set_option maxRecDepth 20000 in
set_option maxHeartbeats 12800000 in
theorem lsame_ns {x x' y : Nat} {R : K} {F1 F2 F3 : Nat → BitVec 8} (f g : Nat → BitVec 8) (w : World) (hT : Tp w) (hx : x < 2 ^ (8 * 56)) (ex : ∀ i, i < 56 → bt x i = f i) (hy : y < 2 ^ (8 * 56)) (ey : ∀ i, i < 56 → bt y i = g i)
    (hR : ldV (cN pN y) (clN x) = R) (hR' : ldV (cN pN y) (clN x') = R) (zR : R ≠ 0) (h7 : (bt x 55).toNat = 127) (hx' : x' < 2 ^ (8 * 56)) (ex' : ∀ i, i < 56 → bt x' i = F3 i)
    (e1 : upd8 (bt x) 0 (tn0 (bt x 0)) = F1) (e2 : upd8 F1 55 (BitVec.ofNat 8 (((bt x 55).toNat + 128) % 256 % 255)) = F2) (e3 : upd8 F2 55 255 = F3) :
    Calls Tryd.prog 8 #[.agg (AZ .u8 56 (UB f)), .agg (AZ .u8 56 (UB g))] w fun e w' => e = .returned (.bool true) ∧ Below w.heap.size w w' := by
  obtain ⟨fe, hm, hv⟩ := raw_x g ey hy
  have HM := Lib.hid hm
  have HV := Lib.hid hv
  have ea : AZ .u8 56 (UB f) = AZ .u8 56 (UB (bt x)) := AZ_congr fun i hi => by
    unfold UB
    rw [ex i hi]
  have EF55 : f 55 = bt x 55 := (ex 55 (by omega)).symm
  have E55 : F1 55 = bt x 55 := by
    rw [← e1]
    rfl
  have E255 : F2 55 = BitVec.ofNat 8 (((bt x 55).toNat + 128) % 256 % 255) := by
    rw [← e2]
    exact if_pos rfl
  obtain ⟨z0, hz0⟩ : ∃ z, (bt x 0).toNat = z := ⟨_, rfl⟩
  have z0l : z0 < 256 := by rw [← hz0]; exact (bt x 0).isLt
  obtain ⟨z5, hz5⟩ : ∃ z, (bt x 55).toNat = z := ⟨_, rfl⟩
  have z5l : z5 < 256 := by rw [← hz5]; exact (bt x 55).isLt
  rw [hz5] at h7 e2 E255
  have G0 : Hid (U (bt x 0) = .int .u8 (z0 : Int)) := Lib.hid (by rw [u_nat, hz0])
  have G55 : Hid (U (F1 55) = .int .u8 (z5 : Int)) := Lib.hid (by rw [E55, u_nat, hz5])
  have GA : Hid (U (f 55) = .int .u8 (z5 : Int)) := Lib.hid (by rw [EF55, u_nat, hz5])
  obtain ⟨q, hq⟩ : ∃ q, z0 / 4 = q := ⟨_, rfl⟩
  obtain ⟨m, hmm⟩ : ∃ m, q * 4 = m := ⟨_, rfl⟩
  obtain ⟨p, hp⟩ : ∃ p, m + 3 = p := ⟨_, rfl⟩
  obtain ⟨r, hr⟩ : ∃ r, z0 % 4 = r := ⟨_, rfl⟩
  obtain ⟨s, hs⟩ : ∃ s, p - r = s := ⟨_, rfl⟩
  have T0 : Hid (U (tn0 (bt x 0)) = .int .u8 (s : Int)) := Lib.hid (by
    unfold tn0
    rw [hz0, show 4 * (z0 / 4) + 3 - z0 % 4 = s by omega]
    exact u_of s (by omega))
  have t1 : (z0 : Int).tdiv 4 = (q : Int) := by rw [Int.tdiv_eq_ediv_of_nonneg (by omega)]; omega
  have t2 : (z0 : Int) / 4 = (q : Int) := by omega
  have t3 : IntKind.u8.wrap (q : Int) = (q : Int) := by rw [IntKind.wrap_u8]; omega
  have t4' : (q : Int) % 256 = (q : Int) := by omega
  have t5 : (q : Int) * 4 = (m : Int) := by omega
  have t6 : IntKind.u8.wrap (m : Int) = (m : Int) := by rw [IntKind.wrap_u8]; omega
  have t7 : (m : Int) % 256 = (m : Int) := by omega
  have t8 : (m : Int) + 3 = (p : Int) := by omega
  have t9 : IntKind.u8.wrap (p : Int) = (p : Int) := by rw [IntKind.wrap_u8]; omega
  have t10 : (p : Int) % 256 = (p : Int) := by omega
  have t11 : (z0 : Int).tmod 4 = (r : Int) := by rw [Int.tmod_eq_emod_of_nonneg (by omega)]; omega
  have t12 : (z0 : Int) % 4 = (r : Int) := by omega
  have t13 : IntKind.u8.wrap (r : Int) = (r : Int) := by rw [IntKind.wrap_u8]; omega
  have t14 : (r : Int) % 256 = (r : Int) := by omega
  have t15 : (p : Int) - (r : Int) = (s : Int) := by omega
  have t16 : IntKind.u8.wrap (s : Int) = (s : Int) := by rw [IntKind.wrap_u8]; omega
  have t17 : (s : Int) % 256 = (s : Int) := by omega
  obtain rfl : z5 = 127 := h7
  replace G55 : Hid (U (F1 55) = .int .u8 127) := Lib.hid G55.out
  replace GA : Hid (U (f 55) = .int .u8 127) := Lib.hid GA.out
  have G255 : Hid (U (F2 55) = .int .u8 0) := Lib.hid (by rw [E255]; rfl)
  have T2 : Hid (U (BitVec.ofNat 8 ((127 + 128) % 256 % 255)) = .int .u8 0) := Lib.hid rfl
  have T3 : Hid (U (255 : BitVec 8) = .int .u8 255) := Lib.hid rfl
  have HF1 := Lib.hid e1
  have HF2 := Lib.hid e2
  have HF3 := Lib.hid e3
  have HX := Lib.hid hx
  have HX6 := Lib.hid (fits60 hx)
  have EX := Lib.hid ex
  have HY := Lib.hid hy
  have EY := Lib.hid ey
  have HXp := Lib.hid hx'
  have EXp := Lib.hid ex'
  have H0 : Hid (∀ j, 56 ≤ j → bt x j = 0) := Lib.hid fun j hj => bt_over hx hj
  have HR := Lib.hid hR
  have HRp := Lib.hid hR'
  have HRc : Hid (ldV (cN pN (cN pN y).val) (clN x) = R) := Lib.hid (by rw [cN_val]; exact hR)
  have ZR := Lib.hid zR
  clear hm hv ea EF55 E55 E255 hz0 hz5 hq hmm hp hr hs hx ex hy ey hR hR' zR hx' ex' e1 e2 e3 z0l z5l
  have HT := Lib.hid hT
  clear hT
  have H := Lib.hid (Ow.start w)
  go_enter Tryd.func8, Tryd.ntmps8
  go_upto_region 16 with (first
    | ((fail_if_success have := g2); (with_reducible apply own_box H); (case hgd => exact rfl); (case ho => exact rfl); (case hx => exact rfl); intro w2 g2 H' _ _; replace H := H'; clear H'; go_simp)
    | ((fail_if_success have := g3); (fail_if_success have := g3); (with_reducible apply own_box H); (case hgd => exact rfl); (case ho => exact rfl); (case hx => exact rfl); intro w3 g3 H' _ _; replace H := H'; clear H'; go_simp)
    | ((with_reducible apply own_load rowB H); (case hgd => exact rfl); (case ho => exact rfl); (case hx => exact rfl); (case hi => first | exact at0 | exact at1 | exact at2 | exact at3 | exact at4 | exact at5 | exact at6 | exact at7 | exact at8 | exact at9); intro _ _; go_simp)
    | ((fail_if_success have := mk1); (with_reducible refine (lawBytes_row _ HX.out EX.out).mono ?_); rintro e wc ⟨gk, ck, rfl, hc, hg, hr, hb⟩; replace H := Lib.hid (H.out.add hb hg hr); have LK := Lib.hid hc; have mk1 := trivial; clear hb hg hr hc)
    | ((fail_if_success have := mk2); (with_reducible refine (HM.out _).mono ?_); rintro e wc ⟨rfl, hb⟩; replace H := Lib.hid (H.out.call hb); have mk2 := trivial; clear hb)
    | ((fail_if_success have := g6); (fail_if_success have := g6); (with_reducible apply own_alloc nilE H); (case hgd => exact rfl); (case ho => exact rfl); intro w6 g6 H' _ _; replace H := H'; clear H'; go_simp)
    | ((with_reducible apply own_store rowE H); (case hgd => exact rfl); (case ho => exact rfl); (case hx => exact rfl); (case hy => exact rfl); (case hi => first | exact at0 | exact at1 | exact at2 | exact at3 | exact at4 | exact at5 | exact at6 | exact at7 | exact at8 | exact at9); intro ws H' _ _; replace H := H'; clear H'; simp only [List.set_cons_zero] at H; go_simp)
    | ((fail_if_success have := gm); (with_reducible apply own_new H); (case hgd => exact rfl); (case ho => exact rfl); (case hs => exact rfl); (case hx => exact rfl); (case hS => exact (ybc_sb (H.out.row 1 rfl) LK.out HX.out).sl); (case h0 => exact H0.out); (case hn => omega); (case hl => omega); intro wm gm cm LM H' _ _; replace H := H'; clear H'; go_simp)
    | ((fail_if_success have := mkp); (with_reducible apply own_put4 (N := 60) H); (case hgd => exact rfl); (case ho => exact rfl); (case hs => exact rfl); (case hy => exact rfl); (case hc => exact LM.out); (case hx => exact HX.out); (case hn => omega); (case hN => exact rfl); intro wp gp kp LP H' _ _; replace H := H'; clear H'; have mkp := trivial; go_simp)
    | ((with_reducible apply own_load rowE H); (case hgd => exact rfl); (case ho => exact rfl); (case hx => exact rfl); (case hi => first | exact at0 | exact at1 | exact at2 | exact at3 | exact at4 | exact at5 | exact at6 | exact at7 | exact at8 | exact at9); intro _ _; go_simp)
    | ((fail_if_success have := VA); (with_reducible refine (ladder_k _ (HT.out.below H.out.bel) (by omega) (ybc_sb (H.out.row 2 rfl) LK.out HX.out) HV.out).mono ?_); rintro e wc ⟨h1, rfl, hv, hb⟩; replace H := Lib.hid (H.out.call hb); have VA := Lib.hid hv; clear hb hv)
    | ((fail_if_success have := g9); (fail_if_success have := g9); (with_reducible apply own_alloc nilE H); (case hgd => exact rfl); (case ho => exact rfl); intro w9 g9 H' _ _; replace H := H'; clear H'; go_simp)
    | ((fail_if_success have := VB); (with_reducible refine (ladder_k _ (HT.out.below H.out.bel) (by omega) (ybc_sb (H.out.row 1 rfl) LP.out HX6.out) HV.out).mono ?_); rintro e wc ⟨h2, rfl, hv, hb⟩; replace H := Lib.hid (H.out.call hb); have VB := Lib.hid hv; clear hb hv)
    | ((fail_if_success have := g11); (fail_if_success have := g11); (with_reducible apply own_alloc nilE H); (case hgd => exact rfl); (case ho => exact rfl); intro w11 g11 H' _ _; replace H := H'; clear H'; go_simp)
    | ((fail_if_success have := mk3); (with_reducible refine (lawBytes_row _ HY.out EY.out).mono ?_); rintro e wc ⟨gb, cb, rfl, hc, hg, hr, hb⟩; replace H := Lib.hid (H.out.add hb hg hr); have LB := Lib.hid hc; have mk3 := trivial; clear hb hg hr hc)
    | ((fail_if_success have := mk4); (with_reducible refine (bytes_sb _ HV.out).mono ?_); rintro e wc ⟨gc, cc, rfl, hs, hb⟩; replace H := Lib.hid (H.out.call hb); have mk4 := trivial; clear hb; have SC := Lib.hid hs; clear hs)
    | ((fail_if_success have := mk5); (with_reducible refine (x448_row _ (HT.out.below H.out.bel) (ybc_sb (H.out.row 5 rfl) LK.out HX.out) (ybc_sb (H.out.row 0 rfl) LB.out HY.out) HR.out ZR.out).mono ?_); rintro e wc ⟨gq, cq, oq, rfl, hg, hr, hF, hb⟩; replace H := Lib.hid (H.out.add hb hg hr); replace SC := Lib.hid (SC.out.call hb); have FQ := Lib.hid hF; have mk5 := trivial; clear hb hg hr hF)
    | ((fail_if_success have := mk6); (with_reducible refine (x448_row _ (HT.out.below H.out.bel) (ybc_sb (H.out.row 6 rfl) LK.out HX.out) SC.out HRc.out ZR.out).mono ?_); rintro e wc ⟨gs, cs, os, rfl, hg, hr, hF, hb⟩; replace H := Lib.hid (H.out.add hb hg hr); have FS := Lib.hid hF; have mk6 := trivial; clear hb hg hr hF)
    | ((with_reducible apply own_loadg rowE H); (case hw => exact rfl); (case ho => exact rfl); (case hx => exact rfl); (case hi => first | exact at0 | exact at1 | exact at2 | exact at3 | exact at4 | exact at5 | exact at6 | exact at7 | exact at8 | exact at9); intro _ _; go_simp)
    | ((with_reducible refine (equal_kt _ (HT.out.below H.out.bel) VA.out VB.out rfl).mono ?_); rintro e wc ⟨rfl, hb⟩; replace H := Lib.hid (H.out.call hb); clear hb)
    | ((fail_if_success have := mk7); (with_reducible refine (cmp_any (n := 56) _ (by omega) (FQ.out _ (H.out.row 1 rfl)) (FS.out _ (H.out.row 0 rfl))).mono ?_); rintro e wc ⟨rfl, hb⟩; replace H := Lib.hid (H.out.call hb); have mk7 := trivial; clear hb)
    | ((with_reducible apply own_loadg rowB H); (case hw => exact rfl); (case ho => exact rfl); (case hx => exact rfl); (case hi => first | exact at0 | exact at1 | exact at2 | exact at3 | exact at4 | exact at5 | exact at6 | exact at7 | exact at8 | exact at9); intro _ _; go_simp)
    | ((fail_if_success have := mk8); (with_reducible refine (lawBytes_x _ HX.out EX.out).mono ?_); rintro e wc ⟨am, cm2, rfl, hs, hb⟩; replace H := Lib.hid (H.out.call hb); have mk8 := trivial; clear hb; have SM := Lib.hid hs; clear hs)
    | ((fail_if_success have := mk9); (with_reducible refine (cmp_any (n := 56) _ (by omega) (ybc_sb (H.out.row 7 rfl) LK.out HX.out) SM.out).mono ?_); rintro e wc ⟨rfl, hb⟩; replace H := Lib.hid (H.out.call hb); have mk9 := trivial; clear hb)
    | ((fail_if_success have := mk10); (with_reducible refine (lawBytes_x _ HY.out EY.out).mono ?_); rintro e wc ⟨an, cn2, rfl, hs, hb⟩; replace H := Lib.hid (H.out.call hb); have mk10 := trivial; clear hb; have SN := Lib.hid hs; clear hs)
    | ((fail_if_success have := mk11); (with_reducible refine (cmp_any (n := 56) _ (by omega) (ybc_sb (H.out.row 2 rfl) LB.out HY.out) SN.out).mono ?_); rintro e wc ⟨rfl, hb⟩; replace H := Lib.hid (H.out.call hb); have mk11 := trivial; clear hb))
  refine wp_region_noPanic ?_
  refine wp_region_held_drew (S := fun W => True) (by kernel_rfl) (trivial) (fun hH => ?_)
  replace H := Lib.hid H.out.drew
  generalize World.drew _ = w8 at *
  refine held_value 0 101 (.slice (some ⟨gk, 0, none⟩) 56 ck) rfl rfl (by kernel_rfl) (by kernel_rfl) (by kernel_rfl) rfl hH (fun w hw => by go_simp) ?_
  try simp only [Act.put, List.setIfInBounds_toArray, List.set_cons_zero, List.set_cons_succ]
  refine held_value 1 102 (.slice (some ⟨gk, 0, none⟩) 56 ck) rfl rfl (by kernel_rfl) (by kernel_rfl) (by kernel_rfl) rfl hH (fun w hw => by go_simp) ?_
  try simp only [Act.put, List.setIfInBounds_toArray, List.set_cons_zero, List.set_cons_succ]
  refine held_value 2 103 (.pointer (some ⟨gk, 0, none⟩)) rfl rfl (by kernel_rfl) (by kernel_rfl) (by kernel_rfl) rfl hH (fun w hw => by go_simp) ?_
  try simp only [Act.put, List.setIfInBounds_toArray, List.set_cons_zero, List.set_cons_succ]
  refine held_value 7 108 (.slice (some ⟨gk, 0, none⟩) 56 ck) rfl rfl (by kernel_rfl) (by kernel_rfl) (by kernel_rfl) rfl hH (fun w hw => by go_simp) ?_
  try simp only [Act.put, List.setIfInBounds_toArray, List.set_cons_zero, List.set_cons_succ]
  refine held_value 8 109 (.pointer (some ⟨gk, 0, none⟩)) rfl rfl (by kernel_rfl) (by kernel_rfl) (by kernel_rfl) rfl hH (fun w hw => by go_simp) ?_
  try simp only [Act.put, List.setIfInBounds_toArray, List.set_cons_zero, List.set_cons_succ]
  refine wpAnyH_ready (rs := [3, 9]) (by kernel_rfl) (by simp) ?_
  refine AllReadyH.cons (o := _) rfl (fun K hK => ?_) (AllReadyH.cons (o := _) rfl (fun K hK => ?_) AllReadyH.nil)
  · skip
    refine own_wp_getb 104 rfl 7 H.out rfl rfl rfl (Nat.lt_of_lt_of_le (by omega : 0 < 56) LK.out) G0.out ?_
    refine hK.out _ _ hH (fun hN => ?_)
    clear hK K hH
    have hH := hN
    clear hN
    try simp only [Act.put, List.setIfInBounds_toArray, List.set_cons_zero, List.set_cons_succ]
    refine held_value 4 105 (.int .u8 (q : Int)) rfl rfl (by kernel_rfl) (by kernel_rfl) (by kernel_rfl) rfl hH (fun w hw => by go_simp) ?_
    try simp only [Act.put, List.setIfInBounds_toArray, List.set_cons_zero, List.set_cons_succ]
    refine held_value 5 106 (.int .u8 (m : Int)) rfl rfl (by kernel_rfl) (by kernel_rfl) (by kernel_rfl) rfl hH (fun w hw => by go_simp) ?_
    try simp only [Act.put, List.setIfInBounds_toArray, List.set_cons_zero, List.set_cons_succ]
    refine held_value 6 107 (.int .u8 (p : Int)) rfl rfl (by kernel_rfl) (by kernel_rfl) (by kernel_rfl) rfl hH (fun w hw => by go_simp) ?_
    try simp only [Act.put, List.setIfInBounds_toArray, List.set_cons_zero, List.set_cons_succ]
    refine wpAnyH_ready (rs := [9]) (by kernel_rfl) (by simp) ?_
    refine AllReadyH.cons (o := _) rfl (fun K hK => ?_) AllReadyH.nil
    refine own_wp_getb 110 rfl 7 H.out rfl rfl rfl (Nat.lt_of_lt_of_le (by omega : 0 < 56) LK.out) G0.out ?_
    refine hK.out _ _ hH (fun hN => ?_)
    clear hK K hH
    have hH := hN
    clear hN
    try simp only [Act.put, List.setIfInBounds_toArray, List.set_cons_zero, List.set_cons_succ]
    refine held_value 10 111 (.int .u8 (r : Int)) rfl rfl (by kernel_rfl) (by kernel_rfl) (by kernel_rfl) rfl hH (fun w hw => by go_simp) ?_
    try simp only [Act.put, List.setIfInBounds_toArray, List.set_cons_zero, List.set_cons_succ]
    refine held_value 11 112 (.int .u8 (s : Int)) rfl rfl (by kernel_rfl) (by kernel_rfl) (by kernel_rfl) rfl hH (fun w hw => by go_simp) ?_
    try simp only [Act.put, List.setIfInBounds_toArray, List.set_cons_zero, List.set_cons_succ]
    refine held_value 12 113 (.pointer (some ⟨gk, 0, none⟩)) rfl rfl (by kernel_rfl) (by kernel_rfl) (by kernel_rfl) rfl hH (fun w hw => by go_simp) ?_
    try simp only [Act.put, List.setIfInBounds_toArray, List.set_cons_zero, List.set_cons_succ]
    refine wpAnyH_ready (rs := [13]) (by kernel_rfl) (by simp) ?_
    refine AllReadyH.cons (o := _) rfl (fun K hK => ?_) AllReadyH.nil
    refine own_wp_putb 7 H.out rfl rfl (T0.out.symm) rfl (Nat.lt_of_lt_of_le (by omega : 0 < 56) LK.out) HF1.out ?_
    intro ws HS
    simp only [List.set_cons_zero, List.set_cons_succ] at HS
    replace H := Lib.hid HS
    refine hK.out _ _ (trivial) (fun hN => ?_)
    clear hK K HS hH
    have hH := hN
    clear hN
    try simp only [Act.put, List.setIfInBounds_toArray]
    try simp only [Act.put]
    refine wpAnyH_done (by kernel_rfl) ?_ _
    refine NoPanic.normal ?_
    clear hH
    go_upto_region 18 with (first
      | ((with_reducible apply own_getb H); (case hgd => exact rfl); (case ho => exact rfl); (case hx => exact rfl); (case hi => first | exact at0 | exact at1 | exact at2 | exact at3 | exact at4 | exact at5 | exact at6 | exact at7 | exact at8 | exact at9); (case hj => exact Nat.lt_of_lt_of_le (by omega : 55 < 56) LK.out); intro _ _; rw [G55.out]; go_simp)
      | ((fail_if_success have := mk12); (with_reducible apply own_putb (v := (BitVec.ofNat 8 ((127 + 128) % 256 % 255))) H); (case hgd => exact rfl); (case ho => exact rfl); (case hx => exact rfl); (case hy => exact T2.out.symm); (case hi => first | exact at0 | exact at1 | exact at2 | exact at3 | exact at4 | exact at5 | exact at6 | exact at7 | exact at8 | exact at9); (case hj => exact Nat.lt_of_lt_of_le (by omega : 55 < 56) LK.out); intro ws H' _ _; replace H := H'; clear H'; have mk12 := trivial; simp only [List.set_cons_zero, List.set_cons_succ] at H; rw [HF2.out] at H; go_simp))
    have CA : Hid (World.cell? _ ⟨g2, 55, none⟩ = some (.int .u8 (127 : Int))) := Lib.hid (by rw [← GA.out]; exact H.out.cell 9 rfl 55 (by omega))
    have CK : Hid (World.cell? _ ⟨gk, 55, none⟩ = some (.int .u8 (0 : Int))) := Lib.hid (by rw [← G255.out]; exact H.out.cell 7 rfl 55 (Nat.lt_of_lt_of_le (by omega : 55 < 56) LK.out))
    refine wp_region_noPanic ?_
    refine wp_region_held_drew (S := fun W => W.heap[g2]? = some (Blk 23 .u8 56 (UB f)) ∧ W.cell? ⟨g2, 55, none⟩ = some (.int .u8 (127 : Int)) ∧ W.cell? ⟨gk, 55, none⟩ = some (.int .u8 (0 : Int))) (by kernel_rfl) (⟨H.out.drew.row 9 rfl, CA.out, CK.out⟩) (fun hH => ?_)
    replace H := Lib.hid H.out.drew
    replace CA := Lib.hid (show (World.drew _).cell? _ = _ from CA.out)
    replace CK := Lib.hid (show (World.drew _).cell? _ = _ from CK.out)
    generalize World.drew _ = w8 at *
    refine held_value 0 121 (.pointer (some ⟨g2, 55, none⟩)) rfl rfl (by kernel_rfl) (by kernel_rfl) (by kernel_rfl) rfl hH (fun w hw => by go_simp) ?_
    try simp only [Act.put, List.setIfInBounds_toArray, List.set_cons_zero, List.set_cons_succ]
    refine held_value 1 122 (.int .u8 (127 : Int)) rfl rfl (by kernel_rfl) (by kernel_rfl) (by kernel_rfl) rfl hH (fun w hw => by have hc := hw.2.1; go_simp) ?_
    try simp only [Act.put, List.setIfInBounds_toArray, List.set_cons_zero, List.set_cons_succ]
    refine held_value 2 123 (.int .u8 (127 : Int)) rfl rfl (by kernel_rfl) (by kernel_rfl) (by kernel_rfl) rfl hH (fun w hw => by go_simp) ?_
    try simp only [Act.put, List.setIfInBounds_toArray, List.set_cons_zero, List.set_cons_succ]
    refine held_value 3 124 (.slice (some ⟨gk, 0, none⟩) 56 ck) rfl rfl (by kernel_rfl) (by kernel_rfl) (by kernel_rfl) rfl hH (fun w hw => by go_simp) ?_
    try simp only [Act.put, List.setIfInBounds_toArray, List.set_cons_zero, List.set_cons_succ]
    refine held_value 4 125 (.pointer (some ⟨gk, 55, none⟩)) rfl rfl (by kernel_rfl) (by kernel_rfl) (by kernel_rfl) rfl hH (fun w hw => by go_simp) ?_
    try simp only [Act.put, List.setIfInBounds_toArray, List.set_cons_zero, List.set_cons_succ]
    refine held_value 5 126 (.int .u8 (0 : Int)) rfl rfl (by kernel_rfl) (by kernel_rfl) (by kernel_rfl) rfl hH (fun w hw => by have hc := hw.2.2; go_simp) ?_
    try simp only [Act.put, List.setIfInBounds_toArray, List.set_cons_zero, List.set_cons_succ]
    refine held_value 6 127 (.int .u8 (0 : Int)) rfl rfl (by kernel_rfl) (by kernel_rfl) (by kernel_rfl) rfl hH (fun w hw => by go_simp) ?_
    try simp only [Act.put, List.setIfInBounds_toArray, List.set_cons_zero, List.set_cons_succ]
    refine held_value 7 128 (.bool true) rfl rfl (by kernel_rfl) (by kernel_rfl) (by kernel_rfl) rfl hH (fun w hw => by go_simp) ?_
    try simp only [Act.put, List.setIfInBounds_toArray, List.set_cons_zero, List.set_cons_succ]
    try simp only [Act.put]
    refine wpAnyH_done (by kernel_rfl) ?_ _
    refine NoPanic.normal ?_
    clear hH
    go_wp2_with (first
      | ((fail_if_success have := mk13); (with_reducible apply own_putb (v := 255) H); (case hgd => exact rfl); (case ho => exact rfl); (case hx => exact rfl); (case hy => exact T3.out.symm); (case hi => first | exact at0 | exact at1 | exact at2 | exact at3 | exact at4 | exact at5 | exact at6 | exact at7 | exact at8 | exact at9); (case hj => exact Nat.lt_of_lt_of_le (by omega : 55 < 56) LK.out); intro ws H' _ _; replace H := H'; clear H'; have mk13 := trivial; simp only [List.set_cons_zero, List.set_cons_succ] at H; rw [HF3.out] at H; go_simp)
      | ((with_reducible apply own_get oneB H); (case hgd => exact rfl); (case ho => exact rfl); (case hx => exact rfl); (case hi => first | exact at0 | exact at1 | exact at2 | exact at3 | exact at4 | exact at5 | exact at6 | exact at7 | exact at8 | exact at9); (case hj => omega); intro _ _; rw [show Value.int .u8 (UB f 55) = U (f 55) from rfl, GA.out]; go_simp)
      | ((fail_if_success have := mk14); (with_reducible refine (x448_row _ (HT.out.below H.out.bel) (ybc_num (H.out.row 7 rfl) LK.out EXp.out HXp.out) (ybc_sb (H.out.row 2 rfl) LB.out HY.out) HRp.out ZR.out).mono ?_); rintro e wc ⟨gt, ct, ot, rfl, hg, hr, hF, hb⟩; replace H := Lib.hid (H.out.add hb hg hr); have FT := Lib.hid hF; have mk14 := trivial; clear hb hg hr hF)
      | ((fail_if_success have := mk15); (with_reducible refine (cmp_any (n := 56) _ (by omega) (FQ.out _ (H.out.row 2 rfl)) (FT.out _ (H.out.row 0 rfl))).mono ?_); rintro e wc ⟨rfl, hb⟩; replace H := Lib.hid (H.out.call hb); have mk15 := trivial; clear hb)
      | ((with_reducible refine (awake10_k _ (HT.out.below H.out.bel)).mono ?_); rintro e wc ⟨rfl, hb⟩; replace H := Lib.hid (H.out.call hb); clear hb))
    go_ret
    exact ⟨rfl, H.out.bel⟩
  · skip
    refine own_wp_getb 110 rfl 7 H.out rfl rfl rfl (Nat.lt_of_lt_of_le (by omega : 0 < 56) LK.out) G0.out ?_
    refine hK.out _ _ hH (fun hN => ?_)
    clear hK K hH
    have hH := hN
    clear hN
    try simp only [Act.put, List.setIfInBounds_toArray, List.set_cons_zero, List.set_cons_succ]
    refine held_value 10 111 (.int .u8 (r : Int)) rfl rfl (by kernel_rfl) (by kernel_rfl) (by kernel_rfl) rfl hH (fun w hw => by go_simp) ?_
    try simp only [Act.put, List.setIfInBounds_toArray, List.set_cons_zero, List.set_cons_succ]
    refine wpAnyH_ready (rs := [3]) (by kernel_rfl) (by simp) ?_
    refine AllReadyH.cons (o := _) rfl (fun K hK => ?_) AllReadyH.nil
    refine own_wp_getb 104 rfl 7 H.out rfl rfl rfl (Nat.lt_of_lt_of_le (by omega : 0 < 56) LK.out) G0.out ?_
    refine hK.out _ _ hH (fun hN => ?_)
    clear hK K hH
    have hH := hN
    clear hN
    try simp only [Act.put, List.setIfInBounds_toArray, List.set_cons_zero, List.set_cons_succ]
    refine held_value 4 105 (.int .u8 (q : Int)) rfl rfl (by kernel_rfl) (by kernel_rfl) (by kernel_rfl) rfl hH (fun w hw => by go_simp) ?_
    try simp only [Act.put, List.setIfInBounds_toArray, List.set_cons_zero, List.set_cons_succ]
    refine held_value 5 106 (.int .u8 (m : Int)) rfl rfl (by kernel_rfl) (by kernel_rfl) (by kernel_rfl) rfl hH (fun w hw => by go_simp) ?_
    try simp only [Act.put, List.setIfInBounds_toArray, List.set_cons_zero, List.set_cons_succ]
    refine held_value 6 107 (.int .u8 (p : Int)) rfl rfl (by kernel_rfl) (by kernel_rfl) (by kernel_rfl) rfl hH (fun w hw => by go_simp) ?_
    try simp only [Act.put, List.setIfInBounds_toArray, List.set_cons_zero, List.set_cons_succ]
    refine held_value 11 112 (.int .u8 (s : Int)) rfl rfl (by kernel_rfl) (by kernel_rfl) (by kernel_rfl) rfl hH (fun w hw => by go_simp) ?_
    try simp only [Act.put, List.setIfInBounds_toArray, List.set_cons_zero, List.set_cons_succ]
    refine held_value 12 113 (.pointer (some ⟨gk, 0, none⟩)) rfl rfl (by kernel_rfl) (by kernel_rfl) (by kernel_rfl) rfl hH (fun w hw => by go_simp) ?_
    try simp only [Act.put, List.setIfInBounds_toArray, List.set_cons_zero, List.set_cons_succ]
    refine wpAnyH_ready (rs := [13]) (by kernel_rfl) (by simp) ?_
    refine AllReadyH.cons (o := _) rfl (fun K hK => ?_) AllReadyH.nil
    refine own_wp_putb 7 H.out rfl rfl (T0.out.symm) rfl (Nat.lt_of_lt_of_le (by omega : 0 < 56) LK.out) HF1.out ?_
    intro ws HS
    simp only [List.set_cons_zero, List.set_cons_succ] at HS
    replace H := Lib.hid HS
    refine hK.out _ _ (trivial) (fun hN => ?_)
    clear hK K HS hH
    have hH := hN
    clear hN
    try simp only [Act.put, List.setIfInBounds_toArray]
    try simp only [Act.put]
    refine wpAnyH_done (by kernel_rfl) ?_ _
    refine NoPanic.normal ?_
    clear hH
    go_upto_region 18 with (first
      | ((with_reducible apply own_getb H); (case hgd => exact rfl); (case ho => exact rfl); (case hx => exact rfl); (case hi => first | exact at0 | exact at1 | exact at2 | exact at3 | exact at4 | exact at5 | exact at6 | exact at7 | exact at8 | exact at9); (case hj => exact Nat.lt_of_lt_of_le (by omega : 55 < 56) LK.out); intro _ _; rw [G55.out]; go_simp)
      | ((fail_if_success have := mk12); (with_reducible apply own_putb (v := (BitVec.ofNat 8 ((127 + 128) % 256 % 255))) H); (case hgd => exact rfl); (case ho => exact rfl); (case hx => exact rfl); (case hy => exact T2.out.symm); (case hi => first | exact at0 | exact at1 | exact at2 | exact at3 | exact at4 | exact at5 | exact at6 | exact at7 | exact at8 | exact at9); (case hj => exact Nat.lt_of_lt_of_le (by omega : 55 < 56) LK.out); intro ws H' _ _; replace H := H'; clear H'; have mk12 := trivial; simp only [List.set_cons_zero, List.set_cons_succ] at H; rw [HF2.out] at H; go_simp))
    have CA : Hid (World.cell? _ ⟨g2, 55, none⟩ = some (.int .u8 (127 : Int))) := Lib.hid (by rw [← GA.out]; exact H.out.cell 9 rfl 55 (by omega))
    have CK : Hid (World.cell? _ ⟨gk, 55, none⟩ = some (.int .u8 (0 : Int))) := Lib.hid (by rw [← G255.out]; exact H.out.cell 7 rfl 55 (Nat.lt_of_lt_of_le (by omega : 55 < 56) LK.out))
    refine wp_region_noPanic ?_
    refine wp_region_held_drew (S := fun W => W.heap[g2]? = some (Blk 23 .u8 56 (UB f)) ∧ W.cell? ⟨g2, 55, none⟩ = some (.int .u8 (127 : Int)) ∧ W.cell? ⟨gk, 55, none⟩ = some (.int .u8 (0 : Int))) (by kernel_rfl) (⟨H.out.drew.row 9 rfl, CA.out, CK.out⟩) (fun hH => ?_)
    replace H := Lib.hid H.out.drew
    replace CA := Lib.hid (show (World.drew _).cell? _ = _ from CA.out)
    replace CK := Lib.hid (show (World.drew _).cell? _ = _ from CK.out)
    generalize World.drew _ = w8 at *
    refine held_value 0 121 (.pointer (some ⟨g2, 55, none⟩)) rfl rfl (by kernel_rfl) (by kernel_rfl) (by kernel_rfl) rfl hH (fun w hw => by go_simp) ?_
    try simp only [Act.put, List.setIfInBounds_toArray, List.set_cons_zero, List.set_cons_succ]
    refine held_value 1 122 (.int .u8 (127 : Int)) rfl rfl (by kernel_rfl) (by kernel_rfl) (by kernel_rfl) rfl hH (fun w hw => by have hc := hw.2.1; go_simp) ?_
    try simp only [Act.put, List.setIfInBounds_toArray, List.set_cons_zero, List.set_cons_succ]
    refine held_value 2 123 (.int .u8 (127 : Int)) rfl rfl (by kernel_rfl) (by kernel_rfl) (by kernel_rfl) rfl hH (fun w hw => by go_simp) ?_
    try simp only [Act.put, List.setIfInBounds_toArray, List.set_cons_zero, List.set_cons_succ]
    refine held_value 3 124 (.slice (some ⟨gk, 0, none⟩) 56 ck) rfl rfl (by kernel_rfl) (by kernel_rfl) (by kernel_rfl) rfl hH (fun w hw => by go_simp) ?_
    try simp only [Act.put, List.setIfInBounds_toArray, List.set_cons_zero, List.set_cons_succ]
    refine held_value 4 125 (.pointer (some ⟨gk, 55, none⟩)) rfl rfl (by kernel_rfl) (by kernel_rfl) (by kernel_rfl) rfl hH (fun w hw => by go_simp) ?_
    try simp only [Act.put, List.setIfInBounds_toArray, List.set_cons_zero, List.set_cons_succ]
    refine held_value 5 126 (.int .u8 (0 : Int)) rfl rfl (by kernel_rfl) (by kernel_rfl) (by kernel_rfl) rfl hH (fun w hw => by have hc := hw.2.2; go_simp) ?_
    try simp only [Act.put, List.setIfInBounds_toArray, List.set_cons_zero, List.set_cons_succ]
    refine held_value 6 127 (.int .u8 (0 : Int)) rfl rfl (by kernel_rfl) (by kernel_rfl) (by kernel_rfl) rfl hH (fun w hw => by go_simp) ?_
    try simp only [Act.put, List.setIfInBounds_toArray, List.set_cons_zero, List.set_cons_succ]
    refine held_value 7 128 (.bool true) rfl rfl (by kernel_rfl) (by kernel_rfl) (by kernel_rfl) rfl hH (fun w hw => by go_simp) ?_
    try simp only [Act.put, List.setIfInBounds_toArray, List.set_cons_zero, List.set_cons_succ]
    try simp only [Act.put]
    refine wpAnyH_done (by kernel_rfl) ?_ _
    refine NoPanic.normal ?_
    clear hH
    go_wp2_with (first
      | ((fail_if_success have := mk13); (with_reducible apply own_putb (v := 255) H); (case hgd => exact rfl); (case ho => exact rfl); (case hx => exact rfl); (case hy => exact T3.out.symm); (case hi => first | exact at0 | exact at1 | exact at2 | exact at3 | exact at4 | exact at5 | exact at6 | exact at7 | exact at8 | exact at9); (case hj => exact Nat.lt_of_lt_of_le (by omega : 55 < 56) LK.out); intro ws H' _ _; replace H := H'; clear H'; have mk13 := trivial; simp only [List.set_cons_zero, List.set_cons_succ] at H; rw [HF3.out] at H; go_simp)
      | ((with_reducible apply own_get oneB H); (case hgd => exact rfl); (case ho => exact rfl); (case hx => exact rfl); (case hi => first | exact at0 | exact at1 | exact at2 | exact at3 | exact at4 | exact at5 | exact at6 | exact at7 | exact at8 | exact at9); (case hj => omega); intro _ _; rw [show Value.int .u8 (UB f 55) = U (f 55) from rfl, GA.out]; go_simp)
      | ((fail_if_success have := mk14); (with_reducible refine (x448_row _ (HT.out.below H.out.bel) (ybc_num (H.out.row 7 rfl) LK.out EXp.out HXp.out) (ybc_sb (H.out.row 2 rfl) LB.out HY.out) HRp.out ZR.out).mono ?_); rintro e wc ⟨gt, ct, ot, rfl, hg, hr, hF, hb⟩; replace H := Lib.hid (H.out.add hb hg hr); have FT := Lib.hid hF; have mk14 := trivial; clear hb hg hr hF)
      | ((fail_if_success have := mk15); (with_reducible refine (cmp_any (n := 56) _ (by omega) (FQ.out _ (H.out.row 2 rfl)) (FT.out _ (H.out.row 0 rfl))).mono ?_); rintro e wc ⟨rfl, hb⟩; replace H := Lib.hid (H.out.call hb); have mk15 := trivial; clear hb)
      | ((with_reducible refine (awake10_k _ (HT.out.below H.out.bel)).mono ?_); rintro e wc ⟨rfl, hb⟩; replace H := Lib.hid (H.out.call hb); clear hb))
    go_ret
    exact ⟨rfl, H.out.bel⟩
set_option maxRecDepth 20000 in
set_option maxHeartbeats 12800000 in
theorem lsame_zo {x x' y : Nat} {R : K} {F1 F2 F3 : Nat → BitVec 8} (f g : Nat → BitVec 8) (w : World) (hT : Tp w) (hx : x < 2 ^ (8 * 56)) (ex : ∀ i, i < 56 → bt x i = f i) (hy : y < 2 ^ (8 * 56)) (ey : ∀ i, i < 56 → bt y i = g i)
    (hR : ldV (cN pN y) (clN x) = R) (hR' : ldV (cN pN y) (clN x') = R) (zR : R = 0) (h7 : (bt x 55).toNat ≠ 127) (hx' : x' < 2 ^ (8 * 56)) (ex' : ∀ i, i < 56 → bt x' i = F3 i)
    (e1 : upd8 (bt x) 0 (tn0 (bt x 0)) = F1) (e2 : upd8 F1 55 (BitVec.ofNat 8 (((bt x 55).toNat + 128) % 256 % 255)) = F2) (e3 : F2 = F3) :
    Calls Tryd.prog 8 #[.agg (AZ .u8 56 (UB f)), .agg (AZ .u8 56 (UB g))] w fun e w' => e = .returned (.bool true) ∧ Below w.heap.size w w' := by
  obtain ⟨fe, hm, hv⟩ := raw_x g ey hy
  have HM := Lib.hid hm
  have HV := Lib.hid hv
  have ea : AZ .u8 56 (UB f) = AZ .u8 56 (UB (bt x)) := AZ_congr fun i hi => by
    unfold UB
    rw [ex i hi]
  have EF55 : f 55 = bt x 55 := (ex 55 (by omega)).symm
  have E55 : F1 55 = bt x 55 := by
    rw [← e1]
    rfl
  have E255 : F2 55 = BitVec.ofNat 8 (((bt x 55).toNat + 128) % 256 % 255) := by
    rw [← e2]
    exact if_pos rfl
  obtain ⟨z0, hz0⟩ : ∃ z, (bt x 0).toNat = z := ⟨_, rfl⟩
  have z0l : z0 < 256 := by rw [← hz0]; exact (bt x 0).isLt
  obtain ⟨z5, hz5⟩ : ∃ z, (bt x 55).toNat = z := ⟨_, rfl⟩
  have z5l : z5 < 256 := by rw [← hz5]; exact (bt x 55).isLt
  rw [hz5] at h7 e2 E255
  have G0 : Hid (U (bt x 0) = .int .u8 (z0 : Int)) := Lib.hid (by rw [u_nat, hz0])
  have G55 : Hid (U (F1 55) = .int .u8 (z5 : Int)) := Lib.hid (by rw [E55, u_nat, hz5])
  have GA : Hid (U (f 55) = .int .u8 (z5 : Int)) := Lib.hid (by rw [EF55, u_nat, hz5])
  obtain ⟨q, hq⟩ : ∃ q, z0 / 4 = q := ⟨_, rfl⟩
  obtain ⟨m, hmm⟩ : ∃ m, q * 4 = m := ⟨_, rfl⟩
  obtain ⟨p, hp⟩ : ∃ p, m + 3 = p := ⟨_, rfl⟩
  obtain ⟨r, hr⟩ : ∃ r, z0 % 4 = r := ⟨_, rfl⟩
  obtain ⟨s, hs⟩ : ∃ s, p - r = s := ⟨_, rfl⟩
  have T0 : Hid (U (tn0 (bt x 0)) = .int .u8 (s : Int)) := Lib.hid (by
    unfold tn0
    rw [hz0, show 4 * (z0 / 4) + 3 - z0 % 4 = s by omega]
    exact u_of s (by omega))
  have t1 : (z0 : Int).tdiv 4 = (q : Int) := by rw [Int.tdiv_eq_ediv_of_nonneg (by omega)]; omega
  have t2 : (z0 : Int) / 4 = (q : Int) := by omega
  have t3 : IntKind.u8.wrap (q : Int) = (q : Int) := by rw [IntKind.wrap_u8]; omega
  have t4' : (q : Int) % 256 = (q : Int) := by omega
  have t5 : (q : Int) * 4 = (m : Int) := by omega
  have t6 : IntKind.u8.wrap (m : Int) = (m : Int) := by rw [IntKind.wrap_u8]; omega
  have t7 : (m : Int) % 256 = (m : Int) := by omega
  have t8 : (m : Int) + 3 = (p : Int) := by omega
  have t9 : IntKind.u8.wrap (p : Int) = (p : Int) := by rw [IntKind.wrap_u8]; omega
  have t10 : (p : Int) % 256 = (p : Int) := by omega
  have t11 : (z0 : Int).tmod 4 = (r : Int) := by rw [Int.tmod_eq_emod_of_nonneg (by omega)]; omega
  have t12 : (z0 : Int) % 4 = (r : Int) := by omega
  have t13 : IntKind.u8.wrap (r : Int) = (r : Int) := by rw [IntKind.wrap_u8]; omega
  have t14 : (r : Int) % 256 = (r : Int) := by omega
  have t15 : (p : Int) - (r : Int) = (s : Int) := by omega
  have t16 : IntKind.u8.wrap (s : Int) = (s : Int) := by rw [IntKind.wrap_u8]; omega
  have t17 : (s : Int) % 256 = (s : Int) := by omega
  obtain ⟨s1, hs1⟩ : ∃ s, (z5 + 128) % 256 = s := ⟨_, rfl⟩
  have hs2 : s1 % 255 = s1 := by omega
  rw [hs1, hs2] at e2 E255
  have G255 : Hid (U (F2 55) = .int .u8 (s1 : Int)) := Lib.hid (by rw [E255]; exact u_of s1 (by omega))
  have T2 : Hid (U (BitVec.ofNat 8 s1) = .int .u8 (s1 : Int)) := Lib.hid (u_of s1 (by omega))
  obtain ⟨za, hza⟩ : ∃ a, z5 % 128 = a := ⟨_, rfl⟩
  have hzb : s1 % 128 = za := by omega
  have v1 : IntKind.u8.wrap ((z5 : Int) + 128) = (s1 : Int) := by rw [IntKind.wrap_u8]; omega
  have v2 : ((z5 : Int) + 128) % 256 = (s1 : Int) := by omega
  have v3 : (s1 : Int).tmod 255 = (s1 : Int) := by rw [Int.tmod_eq_emod_of_nonneg (by omega)]; omega
  have v4 : (s1 : Int) % 255 = (s1 : Int) := by omega
  have v5 : IntKind.u8.wrap (s1 : Int) = (s1 : Int) := by rw [IntKind.wrap_u8]; omega
  have v6 : (s1 : Int) % 256 = (s1 : Int) := by omega
  have v7 : (z5 : Int).tmod 128 = (za : Int) := by rw [Int.tmod_eq_emod_of_nonneg (by omega)]; omega
  have v8 : (z5 : Int) % 128 = (za : Int) := by omega
  have v9 : (s1 : Int).tmod 128 = (za : Int) := by rw [Int.tmod_eq_emod_of_nonneg (by omega)]; omega
  have v10 : (s1 : Int) % 128 = (za : Int) := by omega
  have v11 : IntKind.u8.wrap (za : Int) = (za : Int) := by rw [IntKind.wrap_u8]; omega
  have v12 : (za : Int) % 256 = (za : Int) := by omega
  have HF1 := Lib.hid e1
  have HF2 := Lib.hid e2
  have HF3 := Lib.hid e3
  have HX := Lib.hid hx
  have HX6 := Lib.hid (fits60 hx)
  have EX := Lib.hid ex
  have HY := Lib.hid hy
  have EY := Lib.hid ey
  have HXp := Lib.hid hx'
  have EXp := Lib.hid ex'
  have H0 : Hid (∀ j, 56 ≤ j → bt x j = 0) := Lib.hid fun j hj => bt_over hx hj
  have HR := Lib.hid hR
  have HRp := Lib.hid hR'
  have HRc : Hid (ldV (cN pN (cN pN y).val) (clN x) = R) := Lib.hid (by rw [cN_val]; exact hR)
  have ZR := Lib.hid zR
  clear hm hv ea EF55 E55 E255 hz0 hz5 h7 hq hmm hp hr hs hx ex hy ey hR hR' zR hx' ex' e1 e2 e3 z0l z5l hs1 hs2 hza hzb
  have HT := Lib.hid hT
  clear hT
  have H := Lib.hid (Ow.start w)
  go_enter Tryd.func8, Tryd.ntmps8
  go_upto_region 16 with (first
    | ((fail_if_success have := g2); (with_reducible apply own_box H); (case hgd => exact rfl); (case ho => exact rfl); (case hx => exact rfl); intro w2 g2 H' _ _; replace H := H'; clear H'; go_simp)
    | ((fail_if_success have := g3); (fail_if_success have := g3); (with_reducible apply own_box H); (case hgd => exact rfl); (case ho => exact rfl); (case hx => exact rfl); intro w3 g3 H' _ _; replace H := H'; clear H'; go_simp)
    | ((with_reducible apply own_load rowB H); (case hgd => exact rfl); (case ho => exact rfl); (case hx => exact rfl); (case hi => first | exact at0 | exact at1 | exact at2 | exact at3 | exact at4 | exact at5 | exact at6 | exact at7 | exact at8 | exact at9); intro _ _; go_simp)
    | ((fail_if_success have := mk1); (with_reducible refine (lawBytes_row _ HX.out EX.out).mono ?_); rintro e wc ⟨gk, ck, rfl, hc, hg, hr, hb⟩; replace H := Lib.hid (H.out.add hb hg hr); have LK := Lib.hid hc; have mk1 := trivial; clear hb hg hr hc)
    | ((fail_if_success have := mk2); (with_reducible refine (HM.out _).mono ?_); rintro e wc ⟨rfl, hb⟩; replace H := Lib.hid (H.out.call hb); have mk2 := trivial; clear hb)
    | ((fail_if_success have := g6); (fail_if_success have := g6); (with_reducible apply own_alloc nilE H); (case hgd => exact rfl); (case ho => exact rfl); intro w6 g6 H' _ _; replace H := H'; clear H'; go_simp)
    | ((with_reducible apply own_store rowE H); (case hgd => exact rfl); (case ho => exact rfl); (case hx => exact rfl); (case hy => exact rfl); (case hi => first | exact at0 | exact at1 | exact at2 | exact at3 | exact at4 | exact at5 | exact at6 | exact at7 | exact at8 | exact at9); intro ws H' _ _; replace H := H'; clear H'; simp only [List.set_cons_zero] at H; go_simp)
    | ((fail_if_success have := gm); (with_reducible apply own_new H); (case hgd => exact rfl); (case ho => exact rfl); (case hs => exact rfl); (case hx => exact rfl); (case hS => exact (ybc_sb (H.out.row 1 rfl) LK.out HX.out).sl); (case h0 => exact H0.out); (case hn => omega); (case hl => omega); intro wm gm cm LM H' _ _; replace H := H'; clear H'; go_simp)
    | ((fail_if_success have := mkp); (with_reducible apply own_put4 (N := 60) H); (case hgd => exact rfl); (case ho => exact rfl); (case hs => exact rfl); (case hy => exact rfl); (case hc => exact LM.out); (case hx => exact HX.out); (case hn => omega); (case hN => exact rfl); intro wp gp kp LP H' _ _; replace H := H'; clear H'; have mkp := trivial; go_simp)
    | ((with_reducible apply own_load rowE H); (case hgd => exact rfl); (case ho => exact rfl); (case hx => exact rfl); (case hi => first | exact at0 | exact at1 | exact at2 | exact at3 | exact at4 | exact at5 | exact at6 | exact at7 | exact at8 | exact at9); intro _ _; go_simp)
    | ((fail_if_success have := VA); (with_reducible refine (ladder_k _ (HT.out.below H.out.bel) (by omega) (ybc_sb (H.out.row 2 rfl) LK.out HX.out) HV.out).mono ?_); rintro e wc ⟨h1, rfl, hv, hb⟩; replace H := Lib.hid (H.out.call hb); have VA := Lib.hid hv; clear hb hv)
    | ((fail_if_success have := g9); (fail_if_success have := g9); (with_reducible apply own_alloc nilE H); (case hgd => exact rfl); (case ho => exact rfl); intro w9 g9 H' _ _; replace H := H'; clear H'; go_simp)
    | ((fail_if_success have := VB); (with_reducible refine (ladder_k _ (HT.out.below H.out.bel) (by omega) (ybc_sb (H.out.row 1 rfl) LP.out HX6.out) HV.out).mono ?_); rintro e wc ⟨h2, rfl, hv, hb⟩; replace H := Lib.hid (H.out.call hb); have VB := Lib.hid hv; clear hb hv)
    | ((fail_if_success have := g11); (fail_if_success have := g11); (with_reducible apply own_alloc nilE H); (case hgd => exact rfl); (case ho => exact rfl); intro w11 g11 H' _ _; replace H := H'; clear H'; go_simp)
    | ((fail_if_success have := mk3); (with_reducible refine (lawBytes_row _ HY.out EY.out).mono ?_); rintro e wc ⟨gb, cb, rfl, hc, hg, hr, hb⟩; replace H := Lib.hid (H.out.add hb hg hr); have LB := Lib.hid hc; have mk3 := trivial; clear hb hg hr hc)
    | ((fail_if_success have := mk4); (with_reducible refine (bytes_sb _ HV.out).mono ?_); rintro e wc ⟨gc, cc, rfl, hs, hb⟩; replace H := Lib.hid (H.out.call hb); have mk4 := trivial; clear hb; have SC := Lib.hid hs; clear hs)
    | ((fail_if_success have := mk5); (with_reducible refine (x448_z _ (HT.out.below H.out.bel) (ybc_sb (H.out.row 5 rfl) LK.out HX.out) (ybc_sb (H.out.row 0 rfl) LB.out HY.out) HR.out ZR.out).mono ?_); rintro e wc ⟨aq, cq, rfl, hs, hb⟩; replace H := Lib.hid (H.out.call hb); replace SC := Lib.hid (SC.out.call hb); have FQ := Lib.hid (fun W => sb_zero hs W); have mk5 := trivial; clear hb hs)
    | ((fail_if_success have := mk6); (with_reducible refine (x448_z _ (HT.out.below H.out.bel) (ybc_sb (H.out.row 5 rfl) LK.out HX.out) SC.out HRc.out ZR.out).mono ?_); rintro e wc ⟨as_, cs, rfl, hs, hb⟩; replace H := Lib.hid (H.out.call hb); have FS := Lib.hid (fun W => sb_zero hs W); have mk6 := trivial; clear hb hs)
    | ((with_reducible apply own_loadg rowE H); (case hw => exact rfl); (case ho => exact rfl); (case hx => exact rfl); (case hi => first | exact at0 | exact at1 | exact at2 | exact at3 | exact at4 | exact at5 | exact at6 | exact at7 | exact at8 | exact at9); intro _ _; go_simp)
    | ((with_reducible refine (equal_kt _ (HT.out.below H.out.bel) VA.out VB.out rfl).mono ?_); rintro e wc ⟨rfl, hb⟩; replace H := Lib.hid (H.out.call hb); clear hb)
    | ((fail_if_success have := mk7); (with_reducible refine (cmp_any (n := 0) _ (by omega) (FQ.out _) (FS.out _)).mono ?_); rintro e wc ⟨rfl, hb⟩; replace H := Lib.hid (H.out.call hb); have mk7 := trivial; clear hb)
    | ((with_reducible apply own_loadg rowB H); (case hw => exact rfl); (case ho => exact rfl); (case hx => exact rfl); (case hi => first | exact at0 | exact at1 | exact at2 | exact at3 | exact at4 | exact at5 | exact at6 | exact at7 | exact at8 | exact at9); intro _ _; go_simp)
    | ((fail_if_success have := mk8); (with_reducible refine (lawBytes_x _ HX.out EX.out).mono ?_); rintro e wc ⟨am, cm2, rfl, hs, hb⟩; replace H := Lib.hid (H.out.call hb); have mk8 := trivial; clear hb; have SM := Lib.hid hs; clear hs)
    | ((fail_if_success have := mk9); (with_reducible refine (cmp_any (n := 56) _ (by omega) (ybc_sb (H.out.row 5 rfl) LK.out HX.out) SM.out).mono ?_); rintro e wc ⟨rfl, hb⟩; replace H := Lib.hid (H.out.call hb); have mk9 := trivial; clear hb)
    | ((fail_if_success have := mk10); (with_reducible refine (lawBytes_x _ HY.out EY.out).mono ?_); rintro e wc ⟨an, cn2, rfl, hs, hb⟩; replace H := Lib.hid (H.out.call hb); have mk10 := trivial; clear hb; have SN := Lib.hid hs; clear hs)
    | ((fail_if_success have := mk11); (with_reducible refine (cmp_any (n := 56) _ (by omega) (ybc_sb (H.out.row 0 rfl) LB.out HY.out) SN.out).mono ?_); rintro e wc ⟨rfl, hb⟩; replace H := Lib.hid (H.out.call hb); have mk11 := trivial; clear hb))
  refine wp_region_noPanic ?_
  refine wp_region_held_drew (S := fun W => True) (by kernel_rfl) (trivial) (fun hH => ?_)
  replace H := Lib.hid H.out.drew
  generalize World.drew _ = w8 at *
  refine held_value 0 101 (.slice (some ⟨gk, 0, none⟩) 56 ck) rfl rfl (by kernel_rfl) (by kernel_rfl) (by kernel_rfl) rfl hH (fun w hw => by go_simp) ?_
  try simp only [Act.put, List.setIfInBounds_toArray, List.set_cons_zero, List.set_cons_succ]
  refine held_value 1 102 (.slice (some ⟨gk, 0, none⟩) 56 ck) rfl rfl (by kernel_rfl) (by kernel_rfl) (by kernel_rfl) rfl hH (fun w hw => by go_simp) ?_
  try simp only [Act.put, List.setIfInBounds_toArray, List.set_cons_zero, List.set_cons_succ]
  refine held_value 2 103 (.pointer (some ⟨gk, 0, none⟩)) rfl rfl (by kernel_rfl) (by kernel_rfl) (by kernel_rfl) rfl hH (fun w hw => by go_simp) ?_
  try simp only [Act.put, List.setIfInBounds_toArray, List.set_cons_zero, List.set_cons_succ]
  refine held_value 7 108 (.slice (some ⟨gk, 0, none⟩) 56 ck) rfl rfl (by kernel_rfl) (by kernel_rfl) (by kernel_rfl) rfl hH (fun w hw => by go_simp) ?_
  try simp only [Act.put, List.setIfInBounds_toArray, List.set_cons_zero, List.set_cons_succ]
  refine held_value 8 109 (.pointer (some ⟨gk, 0, none⟩)) rfl rfl (by kernel_rfl) (by kernel_rfl) (by kernel_rfl) rfl hH (fun w hw => by go_simp) ?_
  try simp only [Act.put, List.setIfInBounds_toArray, List.set_cons_zero, List.set_cons_succ]
  refine wpAnyH_ready (rs := [3, 9]) (by kernel_rfl) (by simp) ?_
  refine AllReadyH.cons (o := _) rfl (fun K hK => ?_) (AllReadyH.cons (o := _) rfl (fun K hK => ?_) AllReadyH.nil)
  · skip
    refine own_wp_getb 104 rfl 5 H.out rfl rfl rfl (Nat.lt_of_lt_of_le (by omega : 0 < 56) LK.out) G0.out ?_
    refine hK.out _ _ hH (fun hN => ?_)
    clear hK K hH
    have hH := hN
    clear hN
    try simp only [Act.put, List.setIfInBounds_toArray, List.set_cons_zero, List.set_cons_succ]
    refine held_value 4 105 (.int .u8 (q : Int)) rfl rfl (by kernel_rfl) (by kernel_rfl) (by kernel_rfl) rfl hH (fun w hw => by go_simp) ?_
    try simp only [Act.put, List.setIfInBounds_toArray, List.set_cons_zero, List.set_cons_succ]
    refine held_value 5 106 (.int .u8 (m : Int)) rfl rfl (by kernel_rfl) (by kernel_rfl) (by kernel_rfl) rfl hH (fun w hw => by go_simp) ?_
    try simp only [Act.put, List.setIfInBounds_toArray, List.set_cons_zero, List.set_cons_succ]
    refine held_value 6 107 (.int .u8 (p : Int)) rfl rfl (by kernel_rfl) (by kernel_rfl) (by kernel_rfl) rfl hH (fun w hw => by go_simp) ?_
    try simp only [Act.put, List.setIfInBounds_toArray, List.set_cons_zero, List.set_cons_succ]
    refine wpAnyH_ready (rs := [9]) (by kernel_rfl) (by simp) ?_
    refine AllReadyH.cons (o := _) rfl (fun K hK => ?_) AllReadyH.nil
    refine own_wp_getb 110 rfl 5 H.out rfl rfl rfl (Nat.lt_of_lt_of_le (by omega : 0 < 56) LK.out) G0.out ?_
    refine hK.out _ _ hH (fun hN => ?_)
    clear hK K hH
    have hH := hN
    clear hN
    try simp only [Act.put, List.setIfInBounds_toArray, List.set_cons_zero, List.set_cons_succ]
    refine held_value 10 111 (.int .u8 (r : Int)) rfl rfl (by kernel_rfl) (by kernel_rfl) (by kernel_rfl) rfl hH (fun w hw => by go_simp) ?_
    try simp only [Act.put, List.setIfInBounds_toArray, List.set_cons_zero, List.set_cons_succ]
    refine held_value 11 112 (.int .u8 (s : Int)) rfl rfl (by kernel_rfl) (by kernel_rfl) (by kernel_rfl) rfl hH (fun w hw => by go_simp) ?_
    try simp only [Act.put, List.setIfInBounds_toArray, List.set_cons_zero, List.set_cons_succ]
    refine held_value 12 113 (.pointer (some ⟨gk, 0, none⟩)) rfl rfl (by kernel_rfl) (by kernel_rfl) (by kernel_rfl) rfl hH (fun w hw => by go_simp) ?_
    try simp only [Act.put, List.setIfInBounds_toArray, List.set_cons_zero, List.set_cons_succ]
    refine wpAnyH_ready (rs := [13]) (by kernel_rfl) (by simp) ?_
    refine AllReadyH.cons (o := _) rfl (fun K hK => ?_) AllReadyH.nil
    refine own_wp_putb 5 H.out rfl rfl (T0.out.symm) rfl (Nat.lt_of_lt_of_le (by omega : 0 < 56) LK.out) HF1.out ?_
    intro ws HS
    simp only [List.set_cons_zero, List.set_cons_succ] at HS
    replace H := Lib.hid HS
    refine hK.out _ _ (trivial) (fun hN => ?_)
    clear hK K HS hH
    have hH := hN
    clear hN
    try simp only [Act.put, List.setIfInBounds_toArray]
    try simp only [Act.put]
    refine wpAnyH_done (by kernel_rfl) ?_ _
    refine NoPanic.normal ?_
    clear hH
    go_upto_region 18 with (first
      | ((with_reducible apply own_getb H); (case hgd => exact rfl); (case ho => exact rfl); (case hx => exact rfl); (case hi => first | exact at0 | exact at1 | exact at2 | exact at3 | exact at4 | exact at5 | exact at6 | exact at7 | exact at8 | exact at9); (case hj => exact Nat.lt_of_lt_of_le (by omega : 55 < 56) LK.out); intro _ _; rw [G55.out]; go_simp)
      | ((fail_if_success have := mk12); (with_reducible apply own_putb (v := (BitVec.ofNat 8 s1)) H); (case hgd => exact rfl); (case ho => exact rfl); (case hx => exact rfl); (case hy => exact T2.out.symm); (case hi => first | exact at0 | exact at1 | exact at2 | exact at3 | exact at4 | exact at5 | exact at6 | exact at7 | exact at8 | exact at9); (case hj => exact Nat.lt_of_lt_of_le (by omega : 55 < 56) LK.out); intro ws H' _ _; replace H := H'; clear H'; have mk12 := trivial; simp only [List.set_cons_zero, List.set_cons_succ] at H; rw [HF2.out] at H; go_simp))
    have CA : Hid (World.cell? _ ⟨g2, 55, none⟩ = some (.int .u8 (z5 : Int))) := Lib.hid (by rw [← GA.out]; exact H.out.cell 7 rfl 55 (by omega))
    have CK : Hid (World.cell? _ ⟨gk, 55, none⟩ = some (.int .u8 (s1 : Int))) := Lib.hid (by rw [← G255.out]; exact H.out.cell 5 rfl 55 (Nat.lt_of_lt_of_le (by omega : 55 < 56) LK.out))
    refine wp_region_noPanic ?_
    refine wp_region_held_drew (S := fun W => W.heap[g2]? = some (Blk 23 .u8 56 (UB f)) ∧ W.cell? ⟨g2, 55, none⟩ = some (.int .u8 (z5 : Int)) ∧ W.cell? ⟨gk, 55, none⟩ = some (.int .u8 (s1 : Int))) (by kernel_rfl) (⟨H.out.drew.row 7 rfl, CA.out, CK.out⟩) (fun hH => ?_)
    replace H := Lib.hid H.out.drew
    replace CA := Lib.hid (show (World.drew _).cell? _ = _ from CA.out)
    replace CK := Lib.hid (show (World.drew _).cell? _ = _ from CK.out)
    generalize World.drew _ = w8 at *
    refine held_value 0 121 (.pointer (some ⟨g2, 55, none⟩)) rfl rfl (by kernel_rfl) (by kernel_rfl) (by kernel_rfl) rfl hH (fun w hw => by go_simp) ?_
    try simp only [Act.put, List.setIfInBounds_toArray, List.set_cons_zero, List.set_cons_succ]
    refine held_value 1 122 (.int .u8 (z5 : Int)) rfl rfl (by kernel_rfl) (by kernel_rfl) (by kernel_rfl) rfl hH (fun w hw => by have hc := hw.2.1; go_simp) ?_
    try simp only [Act.put, List.setIfInBounds_toArray, List.set_cons_zero, List.set_cons_succ]
    refine held_value 2 123 (.int .u8 (za : Int)) rfl rfl (by kernel_rfl) (by kernel_rfl) (by kernel_rfl) rfl hH (fun w hw => by go_simp) ?_
    try simp only [Act.put, List.setIfInBounds_toArray, List.set_cons_zero, List.set_cons_succ]
    refine held_value 3 124 (.slice (some ⟨gk, 0, none⟩) 56 ck) rfl rfl (by kernel_rfl) (by kernel_rfl) (by kernel_rfl) rfl hH (fun w hw => by go_simp) ?_
    try simp only [Act.put, List.setIfInBounds_toArray, List.set_cons_zero, List.set_cons_succ]
    refine held_value 4 125 (.pointer (some ⟨gk, 55, none⟩)) rfl rfl (by kernel_rfl) (by kernel_rfl) (by kernel_rfl) rfl hH (fun w hw => by go_simp) ?_
    try simp only [Act.put, List.setIfInBounds_toArray, List.set_cons_zero, List.set_cons_succ]
    refine held_value 5 126 (.int .u8 (s1 : Int)) rfl rfl (by kernel_rfl) (by kernel_rfl) (by kernel_rfl) rfl hH (fun w hw => by have hc := hw.2.2; go_simp) ?_
    try simp only [Act.put, List.setIfInBounds_toArray, List.set_cons_zero, List.set_cons_succ]
    refine held_value 6 127 (.int .u8 (za : Int)) rfl rfl (by kernel_rfl) (by kernel_rfl) (by kernel_rfl) rfl hH (fun w hw => by go_simp) ?_
    try simp only [Act.put, List.setIfInBounds_toArray, List.set_cons_zero, List.set_cons_succ]
    refine held_value 7 128 (.bool false) rfl rfl (by kernel_rfl) (by kernel_rfl) (by kernel_rfl) rfl hH (fun w hw => by go_simp) ?_
    try simp only [Act.put, List.setIfInBounds_toArray, List.set_cons_zero, List.set_cons_succ]
    try simp only [Act.put]
    refine wpAnyH_done (by kernel_rfl) ?_ _
    refine NoPanic.normal ?_
    clear hH
    rw [HF3.out] at H
    go_wp2_with (first
      | ((fail_if_success have := mk14); (with_reducible refine (x448_z _ (HT.out.below H.out.bel) (ybc_num (H.out.row 5 rfl) LK.out EXp.out HXp.out) (ybc_sb (H.out.row 0 rfl) LB.out HY.out) HRp.out ZR.out).mono ?_); rintro e wc ⟨at_, ct, rfl, hs, hb⟩; replace H := Lib.hid (H.out.call hb); have FT := Lib.hid (fun W => sb_zero hs W); have mk14 := trivial; clear hb hs)
      | ((fail_if_success have := mk15); (with_reducible refine (cmp_any (n := 0) _ (by omega) (FQ.out _) (FT.out _)).mono ?_); rintro e wc ⟨rfl, hb⟩; replace H := Lib.hid (H.out.call hb); have mk15 := trivial; clear hb)
      | ((with_reducible refine (awake10_k _ (HT.out.below H.out.bel)).mono ?_); rintro e wc ⟨rfl, hb⟩; replace H := Lib.hid (H.out.call hb); clear hb))
    go_ret
    exact ⟨rfl, H.out.bel⟩
  · skip
    refine own_wp_getb 110 rfl 5 H.out rfl rfl rfl (Nat.lt_of_lt_of_le (by omega : 0 < 56) LK.out) G0.out ?_
    refine hK.out _ _ hH (fun hN => ?_)
    clear hK K hH
    have hH := hN
    clear hN
    try simp only [Act.put, List.setIfInBounds_toArray, List.set_cons_zero, List.set_cons_succ]
    refine held_value 10 111 (.int .u8 (r : Int)) rfl rfl (by kernel_rfl) (by kernel_rfl) (by kernel_rfl) rfl hH (fun w hw => by go_simp) ?_
    try simp only [Act.put, List.setIfInBounds_toArray, List.set_cons_zero, List.set_cons_succ]
    refine wpAnyH_ready (rs := [3]) (by kernel_rfl) (by simp) ?_
    refine AllReadyH.cons (o := _) rfl (fun K hK => ?_) AllReadyH.nil
    refine own_wp_getb 104 rfl 5 H.out rfl rfl rfl (Nat.lt_of_lt_of_le (by omega : 0 < 56) LK.out) G0.out ?_
    refine hK.out _ _ hH (fun hN => ?_)
    clear hK K hH
    have hH := hN
    clear hN
    try simp only [Act.put, List.setIfInBounds_toArray, List.set_cons_zero, List.set_cons_succ]
    refine held_value 4 105 (.int .u8 (q : Int)) rfl rfl (by kernel_rfl) (by kernel_rfl) (by kernel_rfl) rfl hH (fun w hw => by go_simp) ?_
    try simp only [Act.put, List.setIfInBounds_toArray, List.set_cons_zero, List.set_cons_succ]
    refine held_value 5 106 (.int .u8 (m : Int)) rfl rfl (by kernel_rfl) (by kernel_rfl) (by kernel_rfl) rfl hH (fun w hw => by go_simp) ?_
    try simp only [Act.put, List.setIfInBounds_toArray, List.set_cons_zero, List.set_cons_succ]
    refine held_value 6 107 (.int .u8 (p : Int)) rfl rfl (by kernel_rfl) (by kernel_rfl) (by kernel_rfl) rfl hH (fun w hw => by go_simp) ?_
    try simp only [Act.put, List.setIfInBounds_toArray, List.set_cons_zero, List.set_cons_succ]
    refine held_value 11 112 (.int .u8 (s : Int)) rfl rfl (by kernel_rfl) (by kernel_rfl) (by kernel_rfl) rfl hH (fun w hw => by go_simp) ?_
    try simp only [Act.put, List.setIfInBounds_toArray, List.set_cons_zero, List.set_cons_succ]
    refine held_value 12 113 (.pointer (some ⟨gk, 0, none⟩)) rfl rfl (by kernel_rfl) (by kernel_rfl) (by kernel_rfl) rfl hH (fun w hw => by go_simp) ?_
    try simp only [Act.put, List.setIfInBounds_toArray, List.set_cons_zero, List.set_cons_succ]
    refine wpAnyH_ready (rs := [13]) (by kernel_rfl) (by simp) ?_
    refine AllReadyH.cons (o := _) rfl (fun K hK => ?_) AllReadyH.nil
    refine own_wp_putb 5 H.out rfl rfl (T0.out.symm) rfl (Nat.lt_of_lt_of_le (by omega : 0 < 56) LK.out) HF1.out ?_
    intro ws HS
    simp only [List.set_cons_zero, List.set_cons_succ] at HS
    replace H := Lib.hid HS
    refine hK.out _ _ (trivial) (fun hN => ?_)
    clear hK K HS hH
    have hH := hN
    clear hN
    try simp only [Act.put, List.setIfInBounds_toArray]
    try simp only [Act.put]
    refine wpAnyH_done (by kernel_rfl) ?_ _
    refine NoPanic.normal ?_
    clear hH
    go_upto_region 18 with (first
      | ((with_reducible apply own_getb H); (case hgd => exact rfl); (case ho => exact rfl); (case hx => exact rfl); (case hi => first | exact at0 | exact at1 | exact at2 | exact at3 | exact at4 | exact at5 | exact at6 | exact at7 | exact at8 | exact at9); (case hj => exact Nat.lt_of_lt_of_le (by omega : 55 < 56) LK.out); intro _ _; rw [G55.out]; go_simp)
      | ((fail_if_success have := mk12); (with_reducible apply own_putb (v := (BitVec.ofNat 8 s1)) H); (case hgd => exact rfl); (case ho => exact rfl); (case hx => exact rfl); (case hy => exact T2.out.symm); (case hi => first | exact at0 | exact at1 | exact at2 | exact at3 | exact at4 | exact at5 | exact at6 | exact at7 | exact at8 | exact at9); (case hj => exact Nat.lt_of_lt_of_le (by omega : 55 < 56) LK.out); intro ws H' _ _; replace H := H'; clear H'; have mk12 := trivial; simp only [List.set_cons_zero, List.set_cons_succ] at H; rw [HF2.out] at H; go_simp))
    have CA : Hid (World.cell? _ ⟨g2, 55, none⟩ = some (.int .u8 (z5 : Int))) := Lib.hid (by rw [← GA.out]; exact H.out.cell 7 rfl 55 (by omega))
    have CK : Hid (World.cell? _ ⟨gk, 55, none⟩ = some (.int .u8 (s1 : Int))) := Lib.hid (by rw [← G255.out]; exact H.out.cell 5 rfl 55 (Nat.lt_of_lt_of_le (by omega : 55 < 56) LK.out))
    refine wp_region_noPanic ?_
    refine wp_region_held_drew (S := fun W => W.heap[g2]? = some (Blk 23 .u8 56 (UB f)) ∧ W.cell? ⟨g2, 55, none⟩ = some (.int .u8 (z5 : Int)) ∧ W.cell? ⟨gk, 55, none⟩ = some (.int .u8 (s1 : Int))) (by kernel_rfl) (⟨H.out.drew.row 7 rfl, CA.out, CK.out⟩) (fun hH => ?_)
    replace H := Lib.hid H.out.drew
    replace CA := Lib.hid (show (World.drew _).cell? _ = _ from CA.out)
    replace CK := Lib.hid (show (World.drew _).cell? _ = _ from CK.out)
    generalize World.drew _ = w8 at *
    refine held_value 0 121 (.pointer (some ⟨g2, 55, none⟩)) rfl rfl (by kernel_rfl) (by kernel_rfl) (by kernel_rfl) rfl hH (fun w hw => by go_simp) ?_
    try simp only [Act.put, List.setIfInBounds_toArray, List.set_cons_zero, List.set_cons_succ]
    refine held_value 1 122 (.int .u8 (z5 : Int)) rfl rfl (by kernel_rfl) (by kernel_rfl) (by kernel_rfl) rfl hH (fun w hw => by have hc := hw.2.1; go_simp) ?_
    try simp only [Act.put, List.setIfInBounds_toArray, List.set_cons_zero, List.set_cons_succ]
    refine held_value 2 123 (.int .u8 (za : Int)) rfl rfl (by kernel_rfl) (by kernel_rfl) (by kernel_rfl) rfl hH (fun w hw => by go_simp) ?_
    try simp only [Act.put, List.setIfInBounds_toArray, List.set_cons_zero, List.set_cons_succ]
    refine held_value 3 124 (.slice (some ⟨gk, 0, none⟩) 56 ck) rfl rfl (by kernel_rfl) (by kernel_rfl) (by kernel_rfl) rfl hH (fun w hw => by go_simp) ?_
    try simp only [Act.put, List.setIfInBounds_toArray, List.set_cons_zero, List.set_cons_succ]
    refine held_value 4 125 (.pointer (some ⟨gk, 55, none⟩)) rfl rfl (by kernel_rfl) (by kernel_rfl) (by kernel_rfl) rfl hH (fun w hw => by go_simp) ?_
    try simp only [Act.put, List.setIfInBounds_toArray, List.set_cons_zero, List.set_cons_succ]
    refine held_value 5 126 (.int .u8 (s1 : Int)) rfl rfl (by kernel_rfl) (by kernel_rfl) (by kernel_rfl) rfl hH (fun w hw => by have hc := hw.2.2; go_simp) ?_
    try simp only [Act.put, List.setIfInBounds_toArray, List.set_cons_zero, List.set_cons_succ]
    refine held_value 6 127 (.int .u8 (za : Int)) rfl rfl (by kernel_rfl) (by kernel_rfl) (by kernel_rfl) rfl hH (fun w hw => by go_simp) ?_
    try simp only [Act.put, List.setIfInBounds_toArray, List.set_cons_zero, List.set_cons_succ]
    refine held_value 7 128 (.bool false) rfl rfl (by kernel_rfl) (by kernel_rfl) (by kernel_rfl) rfl hH (fun w hw => by go_simp) ?_
    try simp only [Act.put, List.setIfInBounds_toArray, List.set_cons_zero, List.set_cons_succ]
    try simp only [Act.put]
    refine wpAnyH_done (by kernel_rfl) ?_ _
    refine NoPanic.normal ?_
    clear hH
    rw [HF3.out] at H
    go_wp2_with (first
      | ((fail_if_success have := mk14); (with_reducible refine (x448_z _ (HT.out.below H.out.bel) (ybc_num (H.out.row 5 rfl) LK.out EXp.out HXp.out) (ybc_sb (H.out.row 0 rfl) LB.out HY.out) HRp.out ZR.out).mono ?_); rintro e wc ⟨at_, ct, rfl, hs, hb⟩; replace H := Lib.hid (H.out.call hb); have FT := Lib.hid (fun W => sb_zero hs W); have mk14 := trivial; clear hb hs)
      | ((fail_if_success have := mk15); (with_reducible refine (cmp_any (n := 0) _ (by omega) (FQ.out _) (FT.out _)).mono ?_); rintro e wc ⟨rfl, hb⟩; replace H := Lib.hid (H.out.call hb); have mk15 := trivial; clear hb)
      | ((with_reducible refine (awake10_k _ (HT.out.below H.out.bel)).mono ?_); rintro e wc ⟨rfl, hb⟩; replace H := Lib.hid (H.out.call hb); clear hb))
    go_ret
    exact ⟨rfl, H.out.bel⟩
set_option maxRecDepth 20000 in
set_option maxHeartbeats 12800000 in
theorem lsame_zs {x x' y : Nat} {R : K} {F1 F2 F3 : Nat → BitVec 8} (f g : Nat → BitVec 8) (w : World) (hT : Tp w) (hx : x < 2 ^ (8 * 56)) (ex : ∀ i, i < 56 → bt x i = f i) (hy : y < 2 ^ (8 * 56)) (ey : ∀ i, i < 56 → bt y i = g i)
    (hR : ldV (cN pN y) (clN x) = R) (hR' : ldV (cN pN y) (clN x') = R) (zR : R = 0) (h7 : (bt x 55).toNat = 127) (hx' : x' < 2 ^ (8 * 56)) (ex' : ∀ i, i < 56 → bt x' i = F3 i)
    (e1 : upd8 (bt x) 0 (tn0 (bt x 0)) = F1) (e2 : upd8 F1 55 (BitVec.ofNat 8 (((bt x 55).toNat + 128) % 256 % 255)) = F2) (e3 : upd8 F2 55 255 = F3) :
    Calls Tryd.prog 8 #[.agg (AZ .u8 56 (UB f)), .agg (AZ .u8 56 (UB g))] w fun e w' => e = .returned (.bool true) ∧ Below w.heap.size w w' := by
  obtain ⟨fe, hm, hv⟩ := raw_x g ey hy
  have HM := Lib.hid hm
  have HV := Lib.hid hv
  have ea : AZ .u8 56 (UB f) = AZ .u8 56 (UB (bt x)) := AZ_congr fun i hi => by
    unfold UB
    rw [ex i hi]
  have EF55 : f 55 = bt x 55 := (ex 55 (by omega)).symm
  have E55 : F1 55 = bt x 55 := by
    rw [← e1]
    rfl
  have E255 : F2 55 = BitVec.ofNat 8 (((bt x 55).toNat + 128) % 256 % 255) := by
    rw [← e2]
    exact if_pos rfl
  obtain ⟨z0, hz0⟩ : ∃ z, (bt x 0).toNat = z := ⟨_, rfl⟩
  have z0l : z0 < 256 := by rw [← hz0]; exact (bt x 0).isLt
  obtain ⟨z5, hz5⟩ : ∃ z, (bt x 55).toNat = z := ⟨_, rfl⟩
  have z5l : z5 < 256 := by rw [← hz5]; exact (bt x 55).isLt
  rw [hz5] at h7 e2 E255
  have G0 : Hid (U (bt x 0) = .int .u8 (z0 : Int)) := Lib.hid (by rw [u_nat, hz0])
  have G55 : Hid (U (F1 55) = .int .u8 (z5 : Int)) := Lib.hid (by rw [E55, u_nat, hz5])
  have GA : Hid (U (f 55) = .int .u8 (z5 : Int)) := Lib.hid (by rw [EF55, u_nat, hz5])
  obtain ⟨q, hq⟩ : ∃ q, z0 / 4 = q := ⟨_, rfl⟩
  obtain ⟨m, hmm⟩ : ∃ m, q * 4 = m := ⟨_, rfl⟩
  obtain ⟨p, hp⟩ : ∃ p, m + 3 = p := ⟨_, rfl⟩
  obtain ⟨r, hr⟩ : ∃ r, z0 % 4 = r := ⟨_, rfl⟩
  obtain ⟨s, hs⟩ : ∃ s, p - r = s := ⟨_, rfl⟩
  have T0 : Hid (U (tn0 (bt x 0)) = .int .u8 (s : Int)) := Lib.hid (by
    unfold tn0
    rw [hz0, show 4 * (z0 / 4) + 3 - z0 % 4 = s by omega]
    exact u_of s (by omega))
  have t1 : (z0 : Int).tdiv 4 = (q : Int) := by rw [Int.tdiv_eq_ediv_of_nonneg (by omega)]; omega
  have t2 : (z0 : Int) / 4 = (q : Int) := by omega
  have t3 : IntKind.u8.wrap (q : Int) = (q : Int) := by rw [IntKind.wrap_u8]; omega
  have t4' : (q : Int) % 256 = (q : Int) := by omega
  have t5 : (q : Int) * 4 = (m : Int) := by omega
  have t6 : IntKind.u8.wrap (m : Int) = (m : Int) := by rw [IntKind.wrap_u8]; omega
  have t7 : (m : Int) % 256 = (m : Int) := by omega
  have t8 : (m : Int) + 3 = (p : Int) := by omega
  have t9 : IntKind.u8.wrap (p : Int) = (p : Int) := by rw [IntKind.wrap_u8]; omega
  have t10 : (p : Int) % 256 = (p : Int) := by omega
  have t11 : (z0 : Int).tmod 4 = (r : Int) := by rw [Int.tmod_eq_emod_of_nonneg (by omega)]; omega
  have t12 : (z0 : Int) % 4 = (r : Int) := by omega
  have t13 : IntKind.u8.wrap (r : Int) = (r : Int) := by rw [IntKind.wrap_u8]; omega
  have t14 : (r : Int) % 256 = (r : Int) := by omega
  have t15 : (p : Int) - (r : Int) = (s : Int) := by omega
  have t16 : IntKind.u8.wrap (s : Int) = (s : Int) := by rw [IntKind.wrap_u8]; omega
  have t17 : (s : Int) % 256 = (s : Int) := by omega
  obtain rfl : z5 = 127 := h7
  replace G55 : Hid (U (F1 55) = .int .u8 127) := Lib.hid G55.out
  replace GA : Hid (U (f 55) = .int .u8 127) := Lib.hid GA.out
  have G255 : Hid (U (F2 55) = .int .u8 0) := Lib.hid (by rw [E255]; rfl)
  have T2 : Hid (U (BitVec.ofNat 8 ((127 + 128) % 256 % 255)) = .int .u8 0) := Lib.hid rfl
  have T3 : Hid (U (255 : BitVec 8) = .int .u8 255) := Lib.hid rfl
  have HF1 := Lib.hid e1
  have HF2 := Lib.hid e2
  have HF3 := Lib.hid e3
  have HX := Lib.hid hx
  have HX6 := Lib.hid (fits60 hx)
  have EX := Lib.hid ex
  have HY := Lib.hid hy
  have EY := Lib.hid ey
  have HXp := Lib.hid hx'
  have EXp := Lib.hid ex'
  have H0 : Hid (∀ j, 56 ≤ j → bt x j = 0) := Lib.hid fun j hj => bt_over hx hj
  have HR := Lib.hid hR
  have HRp := Lib.hid hR'
  have HRc : Hid (ldV (cN pN (cN pN y).val) (clN x) = R) := Lib.hid (by rw [cN_val]; exact hR)
  have ZR := Lib.hid zR
  clear hm hv ea EF55 E55 E255 hz0 hz5 hq hmm hp hr hs hx ex hy ey hR hR' zR hx' ex' e1 e2 e3 z0l z5l
  have HT := Lib.hid hT
  clear hT
  have H := Lib.hid (Ow.start w)
  go_enter Tryd.func8, Tryd.ntmps8
  go_upto_region 16 with (first
    | ((fail_if_success have := g2); (with_reducible apply own_box H); (case hgd => exact rfl); (case ho => exact rfl); (case hx => exact rfl); intro w2 g2 H' _ _; replace H := H'; clear H'; go_simp)
    | ((fail_if_success have := g3); (fail_if_success have := g3); (with_reducible apply own_box H); (case hgd => exact rfl); (case ho => exact rfl); (case hx => exact rfl); intro w3 g3 H' _ _; replace H := H'; clear H'; go_simp)
    | ((with_reducible apply own_load rowB H); (case hgd => exact rfl); (case ho => exact rfl); (case hx => exact rfl); (case hi => first | exact at0 | exact at1 | exact at2 | exact at3 | exact at4 | exact at5 | exact at6 | exact at7 | exact at8 | exact at9); intro _ _; go_simp)
    | ((fail_if_success have := mk1); (with_reducible refine (lawBytes_row _ HX.out EX.out).mono ?_); rintro e wc ⟨gk, ck, rfl, hc, hg, hr, hb⟩; replace H := Lib.hid (H.out.add hb hg hr); have LK := Lib.hid hc; have mk1 := trivial; clear hb hg hr hc)
    | ((fail_if_success have := mk2); (with_reducible refine (HM.out _).mono ?_); rintro e wc ⟨rfl, hb⟩; replace H := Lib.hid (H.out.call hb); have mk2 := trivial; clear hb)
    | ((fail_if_success have := g6); (fail_if_success have := g6); (with_reducible apply own_alloc nilE H); (case hgd => exact rfl); (case ho => exact rfl); intro w6 g6 H' _ _; replace H := H'; clear H'; go_simp)
    | ((with_reducible apply own_store rowE H); (case hgd => exact rfl); (case ho => exact rfl); (case hx => exact rfl); (case hy => exact rfl); (case hi => first | exact at0 | exact at1 | exact at2 | exact at3 | exact at4 | exact at5 | exact at6 | exact at7 | exact at8 | exact at9); intro ws H' _ _; replace H := H'; clear H'; simp only [List.set_cons_zero] at H; go_simp)
    | ((fail_if_success have := gm); (with_reducible apply own_new H); (case hgd => exact rfl); (case ho => exact rfl); (case hs => exact rfl); (case hx => exact rfl); (case hS => exact (ybc_sb (H.out.row 1 rfl) LK.out HX.out).sl); (case h0 => exact H0.out); (case hn => omega); (case hl => omega); intro wm gm cm LM H' _ _; replace H := H'; clear H'; go_simp)
    | ((fail_if_success have := mkp); (with_reducible apply own_put4 (N := 60) H); (case hgd => exact rfl); (case ho => exact rfl); (case hs => exact rfl); (case hy => exact rfl); (case hc => exact LM.out); (case hx => exact HX.out); (case hn => omega); (case hN => exact rfl); intro wp gp kp LP H' _ _; replace H := H'; clear H'; have mkp := trivial; go_simp)
    | ((with_reducible apply own_load rowE H); (case hgd => exact rfl); (case ho => exact rfl); (case hx => exact rfl); (case hi => first | exact at0 | exact at1 | exact at2 | exact at3 | exact at4 | exact at5 | exact at6 | exact at7 | exact at8 | exact at9); intro _ _; go_simp)
    | ((fail_if_success have := VA); (with_reducible refine (ladder_k _ (HT.out.below H.out.bel) (by omega) (ybc_sb (H.out.row 2 rfl) LK.out HX.out) HV.out).mono ?_); rintro e wc ⟨h1, rfl, hv, hb⟩; replace H := Lib.hid (H.out.call hb); have VA := Lib.hid hv; clear hb hv)
    | ((fail_if_success have := g9); (fail_if_success have := g9); (with_reducible apply own_alloc nilE H); (case hgd => exact rfl); (case ho => exact rfl); intro w9 g9 H' _ _; replace H := H'; clear H'; go_simp)
    | ((fail_if_success have := VB); (with_reducible refine (ladder_k _ (HT.out.below H.out.bel) (by omega) (ybc_sb (H.out.row 1 rfl) LP.out HX6.out) HV.out).mono ?_); rintro e wc ⟨h2, rfl, hv, hb⟩; replace H := Lib.hid (H.out.call hb); have VB := Lib.hid hv; clear hb hv)
    | ((fail_if_success have := g11); (fail_if_success have := g11); (with_reducible apply own_alloc nilE H); (case hgd => exact rfl); (case ho => exact rfl); intro w11 g11 H' _ _; replace H := H'; clear H'; go_simp)
    | ((fail_if_success have := mk3); (with_reducible refine (lawBytes_row _ HY.out EY.out).mono ?_); rintro e wc ⟨gb, cb, rfl, hc, hg, hr, hb⟩; replace H := Lib.hid (H.out.add hb hg hr); have LB := Lib.hid hc; have mk3 := trivial; clear hb hg hr hc)
    | ((fail_if_success have := mk4); (with_reducible refine (bytes_sb _ HV.out).mono ?_); rintro e wc ⟨gc, cc, rfl, hs, hb⟩; replace H := Lib.hid (H.out.call hb); have mk4 := trivial; clear hb; have SC := Lib.hid hs; clear hs)
    | ((fail_if_success have := mk5); (with_reducible refine (x448_z _ (HT.out.below H.out.bel) (ybc_sb (H.out.row 5 rfl) LK.out HX.out) (ybc_sb (H.out.row 0 rfl) LB.out HY.out) HR.out ZR.out).mono ?_); rintro e wc ⟨aq, cq, rfl, hs, hb⟩; replace H := Lib.hid (H.out.call hb); replace SC := Lib.hid (SC.out.call hb); have FQ := Lib.hid (fun W => sb_zero hs W); have mk5 := trivial; clear hb hs)
    | ((fail_if_success have := mk6); (with_reducible refine (x448_z _ (HT.out.below H.out.bel) (ybc_sb (H.out.row 5 rfl) LK.out HX.out) SC.out HRc.out ZR.out).mono ?_); rintro e wc ⟨as_, cs, rfl, hs, hb⟩; replace H := Lib.hid (H.out.call hb); have FS := Lib.hid (fun W => sb_zero hs W); have mk6 := trivial; clear hb hs)
    | ((with_reducible apply own_loadg rowE H); (case hw => exact rfl); (case ho => exact rfl); (case hx => exact rfl); (case hi => first | exact at0 | exact at1 | exact at2 | exact at3 | exact at4 | exact at5 | exact at6 | exact at7 | exact at8 | exact at9); intro _ _; go_simp)
    | ((with_reducible refine (equal_kt _ (HT.out.below H.out.bel) VA.out VB.out rfl).mono ?_); rintro e wc ⟨rfl, hb⟩; replace H := Lib.hid (H.out.call hb); clear hb)
    | ((fail_if_success have := mk7); (with_reducible refine (cmp_any (n := 0) _ (by omega) (FQ.out _) (FS.out _)).mono ?_); rintro e wc ⟨rfl, hb⟩; replace H := Lib.hid (H.out.call hb); have mk7 := trivial; clear hb)
    | ((with_reducible apply own_loadg rowB H); (case hw => exact rfl); (case ho => exact rfl); (case hx => exact rfl); (case hi => first | exact at0 | exact at1 | exact at2 | exact at3 | exact at4 | exact at5 | exact at6 | exact at7 | exact at8 | exact at9); intro _ _; go_simp)
    | ((fail_if_success have := mk8); (with_reducible refine (lawBytes_x _ HX.out EX.out).mono ?_); rintro e wc ⟨am, cm2, rfl, hs, hb⟩; replace H := Lib.hid (H.out.call hb); have mk8 := trivial; clear hb; have SM := Lib.hid hs; clear hs)
    | ((fail_if_success have := mk9); (with_reducible refine (cmp_any (n := 56) _ (by omega) (ybc_sb (H.out.row 5 rfl) LK.out HX.out) SM.out).mono ?_); rintro e wc ⟨rfl, hb⟩; replace H := Lib.hid (H.out.call hb); have mk9 := trivial; clear hb)
    | ((fail_if_success have := mk10); (with_reducible refine (lawBytes_x _ HY.out EY.out).mono ?_); rintro e wc ⟨an, cn2, rfl, hs, hb⟩; replace H := Lib.hid (H.out.call hb); have mk10 := trivial; clear hb; have SN := Lib.hid hs; clear hs)
    | ((fail_if_success have := mk11); (with_reducible refine (cmp_any (n := 56) _ (by omega) (ybc_sb (H.out.row 0 rfl) LB.out HY.out) SN.out).mono ?_); rintro e wc ⟨rfl, hb⟩; replace H := Lib.hid (H.out.call hb); have mk11 := trivial; clear hb))
  refine wp_region_noPanic ?_
  refine wp_region_held_drew (S := fun W => True) (by kernel_rfl) (trivial) (fun hH => ?_)
  replace H := Lib.hid H.out.drew
  generalize World.drew _ = w8 at *
  refine held_value 0 101 (.slice (some ⟨gk, 0, none⟩) 56 ck) rfl rfl (by kernel_rfl) (by kernel_rfl) (by kernel_rfl) rfl hH (fun w hw => by go_simp) ?_
  try simp only [Act.put, List.setIfInBounds_toArray, List.set_cons_zero, List.set_cons_succ]
  refine held_value 1 102 (.slice (some ⟨gk, 0, none⟩) 56 ck) rfl rfl (by kernel_rfl) (by kernel_rfl) (by kernel_rfl) rfl hH (fun w hw => by go_simp) ?_
  try simp only [Act.put, List.setIfInBounds_toArray, List.set_cons_zero, List.set_cons_succ]
  refine held_value 2 103 (.pointer (some ⟨gk, 0, none⟩)) rfl rfl (by kernel_rfl) (by kernel_rfl) (by kernel_rfl) rfl hH (fun w hw => by go_simp) ?_
  try simp only [Act.put, List.setIfInBounds_toArray, List.set_cons_zero, List.set_cons_succ]
  refine held_value 7 108 (.slice (some ⟨gk, 0, none⟩) 56 ck) rfl rfl (by kernel_rfl) (by kernel_rfl) (by kernel_rfl) rfl hH (fun w hw => by go_simp) ?_
  try simp only [Act.put, List.setIfInBounds_toArray, List.set_cons_zero, List.set_cons_succ]
  refine held_value 8 109 (.pointer (some ⟨gk, 0, none⟩)) rfl rfl (by kernel_rfl) (by kernel_rfl) (by kernel_rfl) rfl hH (fun w hw => by go_simp) ?_
  try simp only [Act.put, List.setIfInBounds_toArray, List.set_cons_zero, List.set_cons_succ]
  refine wpAnyH_ready (rs := [3, 9]) (by kernel_rfl) (by simp) ?_
  refine AllReadyH.cons (o := _) rfl (fun K hK => ?_) (AllReadyH.cons (o := _) rfl (fun K hK => ?_) AllReadyH.nil)
  · skip
    refine own_wp_getb 104 rfl 5 H.out rfl rfl rfl (Nat.lt_of_lt_of_le (by omega : 0 < 56) LK.out) G0.out ?_
    refine hK.out _ _ hH (fun hN => ?_)
    clear hK K hH
    have hH := hN
    clear hN
    try simp only [Act.put, List.setIfInBounds_toArray, List.set_cons_zero, List.set_cons_succ]
    refine held_value 4 105 (.int .u8 (q : Int)) rfl rfl (by kernel_rfl) (by kernel_rfl) (by kernel_rfl) rfl hH (fun w hw => by go_simp) ?_
    try simp only [Act.put, List.setIfInBounds_toArray, List.set_cons_zero, List.set_cons_succ]
    refine held_value 5 106 (.int .u8 (m : Int)) rfl rfl (by kernel_rfl) (by kernel_rfl) (by kernel_rfl) rfl hH (fun w hw => by go_simp) ?_
    try simp only [Act.put, List.setIfInBounds_toArray, List.set_cons_zero, List.set_cons_succ]
    refine held_value 6 107 (.int .u8 (p : Int)) rfl rfl (by kernel_rfl) (by kernel_rfl) (by kernel_rfl) rfl hH (fun w hw => by go_simp) ?_
    try simp only [Act.put, List.setIfInBounds_toArray, List.set_cons_zero, List.set_cons_succ]
    refine wpAnyH_ready (rs := [9]) (by kernel_rfl) (by simp) ?_
    refine AllReadyH.cons (o := _) rfl (fun K hK => ?_) AllReadyH.nil
    refine own_wp_getb 110 rfl 5 H.out rfl rfl rfl (Nat.lt_of_lt_of_le (by omega : 0 < 56) LK.out) G0.out ?_
    refine hK.out _ _ hH (fun hN => ?_)
    clear hK K hH
    have hH := hN
    clear hN
    try simp only [Act.put, List.setIfInBounds_toArray, List.set_cons_zero, List.set_cons_succ]
    refine held_value 10 111 (.int .u8 (r : Int)) rfl rfl (by kernel_rfl) (by kernel_rfl) (by kernel_rfl) rfl hH (fun w hw => by go_simp) ?_
    try simp only [Act.put, List.setIfInBounds_toArray, List.set_cons_zero, List.set_cons_succ]
    refine held_value 11 112 (.int .u8 (s : Int)) rfl rfl (by kernel_rfl) (by kernel_rfl) (by kernel_rfl) rfl hH (fun w hw => by go_simp) ?_
    try simp only [Act.put, List.setIfInBounds_toArray, List.set_cons_zero, List.set_cons_succ]
    refine held_value 12 113 (.pointer (some ⟨gk, 0, none⟩)) rfl rfl (by kernel_rfl) (by kernel_rfl) (by kernel_rfl) rfl hH (fun w hw => by go_simp) ?_
    try simp only [Act.put, List.setIfInBounds_toArray, List.set_cons_zero, List.set_cons_succ]
    refine wpAnyH_ready (rs := [13]) (by kernel_rfl) (by simp) ?_
    refine AllReadyH.cons (o := _) rfl (fun K hK => ?_) AllReadyH.nil
    refine own_wp_putb 5 H.out rfl rfl (T0.out.symm) rfl (Nat.lt_of_lt_of_le (by omega : 0 < 56) LK.out) HF1.out ?_
    intro ws HS
    simp only [List.set_cons_zero, List.set_cons_succ] at HS
    replace H := Lib.hid HS
    refine hK.out _ _ (trivial) (fun hN => ?_)
    clear hK K HS hH
    have hH := hN
    clear hN
    try simp only [Act.put, List.setIfInBounds_toArray]
    try simp only [Act.put]
    refine wpAnyH_done (by kernel_rfl) ?_ _
    refine NoPanic.normal ?_
    clear hH
    go_upto_region 18 with (first
      | ((with_reducible apply own_getb H); (case hgd => exact rfl); (case ho => exact rfl); (case hx => exact rfl); (case hi => first | exact at0 | exact at1 | exact at2 | exact at3 | exact at4 | exact at5 | exact at6 | exact at7 | exact at8 | exact at9); (case hj => exact Nat.lt_of_lt_of_le (by omega : 55 < 56) LK.out); intro _ _; rw [G55.out]; go_simp)
      | ((fail_if_success have := mk12); (with_reducible apply own_putb (v := (BitVec.ofNat 8 ((127 + 128) % 256 % 255))) H); (case hgd => exact rfl); (case ho => exact rfl); (case hx => exact rfl); (case hy => exact T2.out.symm); (case hi => first | exact at0 | exact at1 | exact at2 | exact at3 | exact at4 | exact at5 | exact at6 | exact at7 | exact at8 | exact at9); (case hj => exact Nat.lt_of_lt_of_le (by omega : 55 < 56) LK.out); intro ws H' _ _; replace H := H'; clear H'; have mk12 := trivial; simp only [List.set_cons_zero, List.set_cons_succ] at H; rw [HF2.out] at H; go_simp))
    have CA : Hid (World.cell? _ ⟨g2, 55, none⟩ = some (.int .u8 (127 : Int))) := Lib.hid (by rw [← GA.out]; exact H.out.cell 7 rfl 55 (by omega))
    have CK : Hid (World.cell? _ ⟨gk, 55, none⟩ = some (.int .u8 (0 : Int))) := Lib.hid (by rw [← G255.out]; exact H.out.cell 5 rfl 55 (Nat.lt_of_lt_of_le (by omega : 55 < 56) LK.out))
    refine wp_region_noPanic ?_
    refine wp_region_held_drew (S := fun W => W.heap[g2]? = some (Blk 23 .u8 56 (UB f)) ∧ W.cell? ⟨g2, 55, none⟩ = some (.int .u8 (127 : Int)) ∧ W.cell? ⟨gk, 55, none⟩ = some (.int .u8 (0 : Int))) (by kernel_rfl) (⟨H.out.drew.row 7 rfl, CA.out, CK.out⟩) (fun hH => ?_)
    replace H := Lib.hid H.out.drew
    replace CA := Lib.hid (show (World.drew _).cell? _ = _ from CA.out)
    replace CK := Lib.hid (show (World.drew _).cell? _ = _ from CK.out)
    generalize World.drew _ = w8 at *
    refine held_value 0 121 (.pointer (some ⟨g2, 55, none⟩)) rfl rfl (by kernel_rfl) (by kernel_rfl) (by kernel_rfl) rfl hH (fun w hw => by go_simp) ?_
    try simp only [Act.put, List.setIfInBounds_toArray, List.set_cons_zero, List.set_cons_succ]
    refine held_value 1 122 (.int .u8 (127 : Int)) rfl rfl (by kernel_rfl) (by kernel_rfl) (by kernel_rfl) rfl hH (fun w hw => by have hc := hw.2.1; go_simp) ?_
    try simp only [Act.put, List.setIfInBounds_toArray, List.set_cons_zero, List.set_cons_succ]
    refine held_value 2 123 (.int .u8 (127 : Int)) rfl rfl (by kernel_rfl) (by kernel_rfl) (by kernel_rfl) rfl hH (fun w hw => by go_simp) ?_
    try simp only [Act.put, List.setIfInBounds_toArray, List.set_cons_zero, List.set_cons_succ]
    refine held_value 3 124 (.slice (some ⟨gk, 0, none⟩) 56 ck) rfl rfl (by kernel_rfl) (by kernel_rfl) (by kernel_rfl) rfl hH (fun w hw => by go_simp) ?_
    try simp only [Act.put, List.setIfInBounds_toArray, List.set_cons_zero, List.set_cons_succ]
    refine held_value 4 125 (.pointer (some ⟨gk, 55, none⟩)) rfl rfl (by kernel_rfl) (by kernel_rfl) (by kernel_rfl) rfl hH (fun w hw => by go_simp) ?_
    try simp only [Act.put, List.setIfInBounds_toArray, List.set_cons_zero, List.set_cons_succ]
    refine held_value 5 126 (.int .u8 (0 : Int)) rfl rfl (by kernel_rfl) (by kernel_rfl) (by kernel_rfl) rfl hH (fun w hw => by have hc := hw.2.2; go_simp) ?_
    try simp only [Act.put, List.setIfInBounds_toArray, List.set_cons_zero, List.set_cons_succ]
    refine held_value 6 127 (.int .u8 (0 : Int)) rfl rfl (by kernel_rfl) (by kernel_rfl) (by kernel_rfl) rfl hH (fun w hw => by go_simp) ?_
    try simp only [Act.put, List.setIfInBounds_toArray, List.set_cons_zero, List.set_cons_succ]
    refine held_value 7 128 (.bool true) rfl rfl (by kernel_rfl) (by kernel_rfl) (by kernel_rfl) rfl hH (fun w hw => by go_simp) ?_
    try simp only [Act.put, List.setIfInBounds_toArray, List.set_cons_zero, List.set_cons_succ]
    try simp only [Act.put]
    refine wpAnyH_done (by kernel_rfl) ?_ _
    refine NoPanic.normal ?_
    clear hH
    go_wp2_with (first
      | ((fail_if_success have := mk13); (with_reducible apply own_putb (v := 255) H); (case hgd => exact rfl); (case ho => exact rfl); (case hx => exact rfl); (case hy => exact T3.out.symm); (case hi => first | exact at0 | exact at1 | exact at2 | exact at3 | exact at4 | exact at5 | exact at6 | exact at7 | exact at8 | exact at9); (case hj => exact Nat.lt_of_lt_of_le (by omega : 55 < 56) LK.out); intro ws H' _ _; replace H := H'; clear H'; have mk13 := trivial; simp only [List.set_cons_zero, List.set_cons_succ] at H; rw [HF3.out] at H; go_simp)
      | ((with_reducible apply own_get oneB H); (case hgd => exact rfl); (case ho => exact rfl); (case hx => exact rfl); (case hi => first | exact at0 | exact at1 | exact at2 | exact at3 | exact at4 | exact at5 | exact at6 | exact at7 | exact at8 | exact at9); (case hj => omega); intro _ _; rw [show Value.int .u8 (UB f 55) = U (f 55) from rfl, GA.out]; go_simp)
      | ((fail_if_success have := mk14); (with_reducible refine (x448_z _ (HT.out.below H.out.bel) (ybc_num (H.out.row 5 rfl) LK.out EXp.out HXp.out) (ybc_sb (H.out.row 0 rfl) LB.out HY.out) HRp.out ZR.out).mono ?_); rintro e wc ⟨at_, ct, rfl, hs, hb⟩; replace H := Lib.hid (H.out.call hb); have FT := Lib.hid (fun W => sb_zero hs W); have mk14 := trivial; clear hb hs)
      | ((fail_if_success have := mk15); (with_reducible refine (cmp_any (n := 0) _ (by omega) (FQ.out _) (FT.out _)).mono ?_); rintro e wc ⟨rfl, hb⟩; replace H := Lib.hid (H.out.call hb); have mk15 := trivial; clear hb)
      | ((with_reducible refine (awake10_k _ (HT.out.below H.out.bel)).mono ?_); rintro e wc ⟨rfl, hb⟩; replace H := Lib.hid (H.out.call hb); clear hb))
    go_ret
    exact ⟨rfl, H.out.bel⟩
  · skip
    refine own_wp_getb 110 rfl 5 H.out rfl rfl rfl (Nat.lt_of_lt_of_le (by omega : 0 < 56) LK.out) G0.out ?_
    refine hK.out _ _ hH (fun hN => ?_)
    clear hK K hH
    have hH := hN
    clear hN
    try simp only [Act.put, List.setIfInBounds_toArray, List.set_cons_zero, List.set_cons_succ]
    refine held_value 10 111 (.int .u8 (r : Int)) rfl rfl (by kernel_rfl) (by kernel_rfl) (by kernel_rfl) rfl hH (fun w hw => by go_simp) ?_
    try simp only [Act.put, List.setIfInBounds_toArray, List.set_cons_zero, List.set_cons_succ]
    refine wpAnyH_ready (rs := [3]) (by kernel_rfl) (by simp) ?_
    refine AllReadyH.cons (o := _) rfl (fun K hK => ?_) AllReadyH.nil
    refine own_wp_getb 104 rfl 5 H.out rfl rfl rfl (Nat.lt_of_lt_of_le (by omega : 0 < 56) LK.out) G0.out ?_
    refine hK.out _ _ hH (fun hN => ?_)
    clear hK K hH
    have hH := hN
    clear hN
    try simp only [Act.put, List.setIfInBounds_toArray, List.set_cons_zero, List.set_cons_succ]
    refine held_value 4 105 (.int .u8 (q : Int)) rfl rfl (by kernel_rfl) (by kernel_rfl) (by kernel_rfl) rfl hH (fun w hw => by go_simp) ?_
    try simp only [Act.put, List.setIfInBounds_toArray, List.set_cons_zero, List.set_cons_succ]
    refine held_value 5 106 (.int .u8 (m : Int)) rfl rfl (by kernel_rfl) (by kernel_rfl) (by kernel_rfl) rfl hH (fun w hw => by go_simp) ?_
    try simp only [Act.put, List.setIfInBounds_toArray, List.set_cons_zero, List.set_cons_succ]
    refine held_value 6 107 (.int .u8 (p : Int)) rfl rfl (by kernel_rfl) (by kernel_rfl) (by kernel_rfl) rfl hH (fun w hw => by go_simp) ?_
    try simp only [Act.put, List.setIfInBounds_toArray, List.set_cons_zero, List.set_cons_succ]
    refine held_value 11 112 (.int .u8 (s : Int)) rfl rfl (by kernel_rfl) (by kernel_rfl) (by kernel_rfl) rfl hH (fun w hw => by go_simp) ?_
    try simp only [Act.put, List.setIfInBounds_toArray, List.set_cons_zero, List.set_cons_succ]
    refine held_value 12 113 (.pointer (some ⟨gk, 0, none⟩)) rfl rfl (by kernel_rfl) (by kernel_rfl) (by kernel_rfl) rfl hH (fun w hw => by go_simp) ?_
    try simp only [Act.put, List.setIfInBounds_toArray, List.set_cons_zero, List.set_cons_succ]
    refine wpAnyH_ready (rs := [13]) (by kernel_rfl) (by simp) ?_
    refine AllReadyH.cons (o := _) rfl (fun K hK => ?_) AllReadyH.nil
    refine own_wp_putb 5 H.out rfl rfl (T0.out.symm) rfl (Nat.lt_of_lt_of_le (by omega : 0 < 56) LK.out) HF1.out ?_
    intro ws HS
    simp only [List.set_cons_zero, List.set_cons_succ] at HS
    replace H := Lib.hid HS
    refine hK.out _ _ (trivial) (fun hN => ?_)
    clear hK K HS hH
    have hH := hN
    clear hN
    try simp only [Act.put, List.setIfInBounds_toArray]
    try simp only [Act.put]
    refine wpAnyH_done (by kernel_rfl) ?_ _
    refine NoPanic.normal ?_
    clear hH
    go_upto_region 18 with (first
      | ((with_reducible apply own_getb H); (case hgd => exact rfl); (case ho => exact rfl); (case hx => exact rfl); (case hi => first | exact at0 | exact at1 | exact at2 | exact at3 | exact at4 | exact at5 | exact at6 | exact at7 | exact at8 | exact at9); (case hj => exact Nat.lt_of_lt_of_le (by omega : 55 < 56) LK.out); intro _ _; rw [G55.out]; go_simp)
      | ((fail_if_success have := mk12); (with_reducible apply own_putb (v := (BitVec.ofNat 8 ((127 + 128) % 256 % 255))) H); (case hgd => exact rfl); (case ho => exact rfl); (case hx => exact rfl); (case hy => exact T2.out.symm); (case hi => first | exact at0 | exact at1 | exact at2 | exact at3 | exact at4 | exact at5 | exact at6 | exact at7 | exact at8 | exact at9); (case hj => exact Nat.lt_of_lt_of_le (by omega : 55 < 56) LK.out); intro ws H' _ _; replace H := H'; clear H'; have mk12 := trivial; simp only [List.set_cons_zero, List.set_cons_succ] at H; rw [HF2.out] at H; go_simp))
    have CA : Hid (World.cell? _ ⟨g2, 55, none⟩ = some (.int .u8 (127 : Int))) := Lib.hid (by rw [← GA.out]; exact H.out.cell 7 rfl 55 (by omega))
    have CK : Hid (World.cell? _ ⟨gk, 55, none⟩ = some (.int .u8 (0 : Int))) := Lib.hid (by rw [← G255.out]; exact H.out.cell 5 rfl 55 (Nat.lt_of_lt_of_le (by omega : 55 < 56) LK.out))
    refine wp_region_noPanic ?_
    refine wp_region_held_drew (S := fun W => W.heap[g2]? = some (Blk 23 .u8 56 (UB f)) ∧ W.cell? ⟨g2, 55, none⟩ = some (.int .u8 (127 : Int)) ∧ W.cell? ⟨gk, 55, none⟩ = some (.int .u8 (0 : Int))) (by kernel_rfl) (⟨H.out.drew.row 7 rfl, CA.out, CK.out⟩) (fun hH => ?_)
    replace H := Lib.hid H.out.drew
    replace CA := Lib.hid (show (World.drew _).cell? _ = _ from CA.out)
    replace CK := Lib.hid (show (World.drew _).cell? _ = _ from CK.out)
    generalize World.drew _ = w8 at *
    refine held_value 0 121 (.pointer (some ⟨g2, 55, none⟩)) rfl rfl (by kernel_rfl) (by kernel_rfl) (by kernel_rfl) rfl hH (fun w hw => by go_simp) ?_
    try simp only [Act.put, List.setIfInBounds_toArray, List.set_cons_zero, List.set_cons_succ]
    refine held_value 1 122 (.int .u8 (127 : Int)) rfl rfl (by kernel_rfl) (by kernel_rfl) (by kernel_rfl) rfl hH (fun w hw => by have hc := hw.2.1; go_simp) ?_
    try simp only [Act.put, List.setIfInBounds_toArray, List.set_cons_zero, List.set_cons_succ]
    refine held_value 2 123 (.int .u8 (127 : Int)) rfl rfl (by kernel_rfl) (by kernel_rfl) (by kernel_rfl) rfl hH (fun w hw => by go_simp) ?_
    try simp only [Act.put, List.setIfInBounds_toArray, List.set_cons_zero, List.set_cons_succ]
    refine held_value 3 124 (.slice (some ⟨gk, 0, none⟩) 56 ck) rfl rfl (by kernel_rfl) (by kernel_rfl) (by kernel_rfl) rfl hH (fun w hw => by go_simp) ?_
    try simp only [Act.put, List.setIfInBounds_toArray, List.set_cons_zero, List.set_cons_succ]
    refine held_value 4 125 (.pointer (some ⟨gk, 55, none⟩)) rfl rfl (by kernel_rfl) (by kernel_rfl) (by kernel_rfl) rfl hH (fun w hw => by go_simp) ?_
    try simp only [Act.put, List.setIfInBounds_toArray, List.set_cons_zero, List.set_cons_succ]
    refine held_value 5 126 (.int .u8 (0 : Int)) rfl rfl (by kernel_rfl) (by kernel_rfl) (by kernel_rfl) rfl hH (fun w hw => by have hc := hw.2.2; go_simp) ?_
    try simp only [Act.put, List.setIfInBounds_toArray, List.set_cons_zero, List.set_cons_succ]
    refine held_value 6 127 (.int .u8 (0 : Int)) rfl rfl (by kernel_rfl) (by kernel_rfl) (by kernel_rfl) rfl hH (fun w hw => by go_simp) ?_
    try simp only [Act.put, List.setIfInBounds_toArray, List.set_cons_zero, List.set_cons_succ]
    refine held_value 7 128 (.bool true) rfl rfl (by kernel_rfl) (by kernel_rfl) (by kernel_rfl) rfl hH (fun w hw => by go_simp) ?_
    try simp only [Act.put, List.setIfInBounds_toArray, List.set_cons_zero, List.set_cons_succ]
    try simp only [Act.put]
    refine wpAnyH_done (by kernel_rfl) ?_ _
    refine NoPanic.normal ?_
    clear hH
    go_wp2_with (first
      | ((fail_if_success have := mk13); (with_reducible apply own_putb (v := 255) H); (case hgd => exact rfl); (case ho => exact rfl); (case hx => exact rfl); (case hy => exact T3.out.symm); (case hi => first | exact at0 | exact at1 | exact at2 | exact at3 | exact at4 | exact at5 | exact at6 | exact at7 | exact at8 | exact at9); (case hj => exact Nat.lt_of_lt_of_le (by omega : 55 < 56) LK.out); intro ws H' _ _; replace H := H'; clear H'; have mk13 := trivial; simp only [List.set_cons_zero, List.set_cons_succ] at H; rw [HF3.out] at H; go_simp)
      | ((with_reducible apply own_get oneB H); (case hgd => exact rfl); (case ho => exact rfl); (case hx => exact rfl); (case hi => first | exact at0 | exact at1 | exact at2 | exact at3 | exact at4 | exact at5 | exact at6 | exact at7 | exact at8 | exact at9); (case hj => omega); intro _ _; rw [show Value.int .u8 (UB f 55) = U (f 55) from rfl, GA.out]; go_simp)
      | ((fail_if_success have := mk14); (with_reducible refine (x448_z _ (HT.out.below H.out.bel) (ybc_num (H.out.row 5 rfl) LK.out EXp.out HXp.out) (ybc_sb (H.out.row 0 rfl) LB.out HY.out) HRp.out ZR.out).mono ?_); rintro e wc ⟨at_, ct, rfl, hs, hb⟩; replace H := Lib.hid (H.out.call hb); have FT := Lib.hid (fun W => sb_zero hs W); have mk14 := trivial; clear hb hs)
      | ((fail_if_success have := mk15); (with_reducible refine (cmp_any (n := 0) _ (by omega) (FQ.out _) (FT.out _)).mono ?_); rintro e wc ⟨rfl, hb⟩; replace H := Lib.hid (H.out.call hb); have mk15 := trivial; clear hb)
      | ((with_reducible refine (awake10_k _ (HT.out.below H.out.bel)).mono ?_); rintro e wc ⟨rfl, hb⟩; replace H := Lib.hid (H.out.call hb); clear hb))
    go_ret
    exact ⟨rfl, H.out.bel⟩
theorem same10_walk (f g : Nat → BitVec 8) (w : World) (hT : Tp w) : Calls Tryd.prog 8 #[.agg (AZ .u8 56 (UB f)), .agg (AZ .u8 56 (UB g))] w fun e w' => e = .returned (.bool true) ∧ Below w.heap.size w w' := by
  obtain ⟨x, hx, ex⟩ := bytes_of f 56
  obtain ⟨y, hy, ey⟩ := bytes_of g 56
  by_cases h7 : (bt x 55).toNat = 127
  · obtain ⟨x', hx', ex'⟩ := bytes_of (upd8 (upd8 (upd8 (bt x) 0 (tn0 (bt x 0))) 55 (BitVec.ofNat 8 (((bt x 55).toNat + 128) % 256 % 255))) 55 255) 56
    have hc : clN x' = clN x := turned_clN fun i hi => by
      rw [ex' i hi]
      unfold upd8 tn55
      rw [if_pos h7]
      by_cases e : i = 55
      · rw [if_pos e, if_pos e]
      · rw [if_neg e, if_neg e, if_neg e]
    by_cases zR : ldV (cN pN y) (clN x) = 0
    · exact lsame_zs f g w hT hx ex hy ey rfl (by rw [hc]) zR h7 hx' ex' rfl rfl rfl
    · exact lsame_ns f g w hT hx ex hy ey rfl (by rw [hc]) zR h7 hx' ex' rfl rfl rfl
  · obtain ⟨x', hx', ex'⟩ := bytes_of (upd8 (upd8 (bt x) 0 (tn0 (bt x 0))) 55 (BitVec.ofNat 8 (((bt x 55).toNat + 128) % 256 % 255))) 56
    have e : ((bt x 55).toNat + 128) % 256 % 255 = ((bt x 55).toNat + 128) % 256 := by
      have := (bt x 55).isLt
      omega
    have hc : clN x' = clN x := turned_clN fun i hi => by
      rw [ex' i hi, e]
      unfold tn55
      rw [if_neg h7]
    by_cases zR : ldV (cN pN y) (clN x) = 0
    · exact lsame_zo f g w hT hx ex hy ey rfl (by rw [hc]) zR h7 hx' ex' rfl rfl rfl
    · exact lsame_no f g w hT hx ex hy ey rfl (by rw [hc]) zR h7 hx' ex' rfl rfl rfl
end Go.Proofs.YtckmboebipbpbaaDoor
