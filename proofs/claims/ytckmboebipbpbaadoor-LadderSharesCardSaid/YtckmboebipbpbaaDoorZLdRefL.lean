/-
  The contract of chicoryref10's Ladder. No statement is proved here: lemmas for the walks.
-/
import Derived.Test.YtckmboebipbpbaaDoorZLdRef
import Derived.Test.YtckmboebipbpbaaDoorBuR
import Derived.Deep.CutRange
import Derived.Deep.LoopGhost
namespace Go.Proofs.YtckmboebipbpbaaDoor
open Go.RowKit

theorem lad_one (u : K) (t n m : Nat) {b : Bool} (hm : n / 2 = m) (hb : decide (n % 2 = 1) = b) : lad cK u (t + 1) n = ldB cK u b (lad cK u t m) := by rw [lad_succ, hm, hb]
theorem ld_half (x j : Nat) : x / 2 ^ j / 2 = x / 2 ^ (j + 1) := by rw [Nat.div_div_eq_div_mul, ← Nat.pow_succ]
set_option maxRecDepth 8000 in
set_option maxHeartbeats 3200000 in
theorem refLadder_k {u : K} (a : Option Addr) (n c x : Nat) (w : World) (hn : n ≤ 1000) (hs : Sb w w.heap.size a n c x) :
    Calls Tryd.prog 18 #[.slice a n c, FV u.val] w fun e w' => e = .returned (FV (ldV u x).val) ∧ Below w.heap.size w w' := by
  obtain ⟨O, hO⟩ : ∃ O : K, O = 0 := ⟨_, rfl⟩
  have ZO := Lib.hid hO
  have HS := Lib.hid hs
  have hl : bl x ≤ 8 * n := (bl_le x _).2 hs.fits
  obtain ⟨nn, hnn⟩ : ∃ nn, bl x = nn := ⟨_, rfl⟩
  have HX : Hid (x / 2 ^ nn = 0) := Lib.hid (by rw [← hnn]; exact Nat.div_eq_of_lt (bl_fits x))
  have HF : Hid (x < 2 ^ nn) := Lib.hid (by rw [← hnn]; exact bl_fits x)
  have HL : Hid (∀ w, Sb w w.heap.size a n c x → Calls Tryd.prog 47 #[.slice a n c] w fun e w' => e = .returned (.int .i64 (nn : Int)) ∧ w' = w) := Lib.hid (fun w h => hnn ▸ refLen_any a n c x w (by omega) h)
  have HBI : Hid (∀ (j : Nat) w, j ≤ 8000 → Sb w w.heap.size a n c x → Calls Tryd.prog 48 #[.slice a n c, .int .i64 (j : Int)] w fun e w' => e = .returned (.int .i64 (((x / 2 ^ j % 2 : Nat)) : Int)) ∧ w' = w) := Lib.hid (fun j w hj h => by
    have := refBit_any a n c x (j : Int) w (by omega) (by omega) h
    have e : bitI x (j : Int) = ((x / 2 ^ j % 2 : Nat) : Int) := by
      unfold bitI
      rw [if_neg (by omega)]
      rfl
    rwa [e] at this)
  have n8000 : (nn : Int) ≤ 8000 := by omega
  have fn1 : IntKind.i64.wrap ((nn : Int) - 1) = (nn : Int) - 1 := IntWalk.i64_in _ (by omega)
  clear hs hl hnn hn hO
  have H := Lib.hid (Ow.start w)
  go_enter Tryd.func18, Tryd.ntmps18
  go_upto_region 1 with (first
    | ((fail_if_success have := g3); (with_reducible apply own_box H); (case hgd => exact rfl); (case ho => exact rfl); (case hx => exact rfl); intro w3 g3 H' _ _; replace H := H'; clear H'; go_simp)
    | ((fail_if_success have := g4); (with_reducible apply own_alloc intsF.zero H); (case hgd => exact rfl); (case ho => exact rfl); intro w4 g4 H' _ _; replace H := H'; clear H'; go_simp))
  go_cut [5] from 7 to 10 (fun v5 wx => ∃ g5, v5 = .pointer (some ⟨g5, 0, none⟩) ∧ Ow w wx [(g5, Blk 38 .i64 64 ((t4 16 (dF ((ofZ (1))).val) (dF (O).val) (dF (u).val) (dF ((ofZ (1))).val)))), (g4, Blk 36 .i64 16 fun _ => 0), (g3, Blk 36 .i64 16 (dF (u).val))])
  case first =>
    go_wp2_with fail
    refine wp_region_noPanic ?_
    refine wp_region_held_drew (S := fun W => W.heap[g3]? = some (Blk 36 .i64 16 (dF (u).val))) (by kernel_rfl) (H.out.drew.row 1 rfl) (fun hH => ?_)
    replace H := Lib.hid H.out.drew
    generalize World.drew _ = w8 at *
    refine held_row 1 8 rowF rfl rfl (by kernel_rfl) (by kernel_rfl) (by kernel_rfl) rfl hH rfl rfl (fun _ h => h) ?_
    try simp only [Act.put, List.setIfInBounds_toArray, List.set_cons_zero, List.set_cons_succ]
    refine wpAnyH_ready (rs := [0, 4]) (by kernel_rfl) (by simp) ?_
    refine AllReadyH.cons (o := _) rfl (fun K hK => ?_) (AllReadyH.cons (o := _) rfl (fun K hK => ?_) AllReadyH.nil)
    · skip
      go_simp
      refine (refInt_k _ (1) (by omega) (by omega)).mono ?_
      rintro e wc ⟨rfl, hb⟩
      replace H := Lib.hid (H.out.call hb)
      refine hK.out _ _ (H.out.row 1 rfl) (fun hN => ?_)
      clear hK K hH hb
      have hH := hN
      clear hN
      try simp only [Act.put, List.setIfInBounds_toArray, List.set_cons_zero, List.set_cons_succ]
      refine wpAnyH_ready (rs := [2, 4]) (by kernel_rfl) (by simp) ?_
      refine AllReadyH.cons (o := _) rfl (fun K hK => ?_) (AllReadyH.cons (o := _) rfl (fun K hK => ?_) AllReadyH.nil)
      · skip
        go_simp
        refine (refInt_k _ (1) (by omega) (by omega)).mono ?_
        rintro e wc ⟨rfl, hb⟩
        replace H := Lib.hid (H.out.call hb)
        refine hK.out _ _ (H.out.row 1 rfl) (fun hN => ?_)
        clear hK K hH hb
        have hH := hN
        clear hN
        try simp only [Act.put, List.setIfInBounds_toArray, List.set_cons_zero, List.set_cons_succ]
        refine held_F43 3 10 ZO.out rfl rfl (by kernel_rfl) (by kernel_rfl) (by kernel_rfl) rfl hH rfl rfl rfl rfl ?_
        try simp only [Act.put, List.setIfInBounds_toArray, List.set_cons_zero, List.set_cons_succ]
        refine wpAnyH_ready (rs := [4]) (by kernel_rfl) (by simp) ?_
        refine AllReadyH.cons (o := _) rfl (fun K hK => ?_) AllReadyH.nil
        refine own_wp_allocB 5 rfl nilF4 H.out rfl ?_
        intro w5 g5 H3 hb
        replace H := Lib.hid H3
        refine hK.out _ _ (H.out.row 2 rfl) (fun hN => ?_)
        clear hK K hH H3 hb
        have hH := hN
        clear hN
        try simp only [Act.put, List.setIfInBounds_toArray, List.set_cons_zero, List.set_cons_succ]
        refine wpAnyH_ready (rs := [5]) (by kernel_rfl) (by simp) ?_
        refine AllReadyH.cons (o := _) rfl (fun K hK => ?_) AllReadyH.nil
        refine own_wp_store 0 rowF4 H.out rfl rfl rfl rfl ?_
        intro ws HS
        simp only [List.set_cons_zero] at HS
        replace H := Lib.hid HS
        refine hK.out _ _ (H.out.row 2 rfl) (fun hN => ?_)
        clear hK K HS hH
        have hH := hN
        clear hN
        try simp only [Act.put, List.setIfInBounds_toArray]
        try simp only [Act.put]
        refine wpAnyH_done (by kernel_rfl) ?_ _
        refine NoPanic.normal ?_
        clear hH
        clear ZO HX HF HL HBI HS
        go_wp2_with fail
        go_meet
        exact ⟨g5, rfl, H.out⟩
      · skip
        refine own_wp_allocB 5 rfl nilF4 H.out rfl ?_
        intro w5 g5 H3 hb
        replace H := Lib.hid H3
        refine hK.out _ _ (H.out.row 2 rfl) (fun hN => ?_)
        clear hK K hH H3 hb
        have hH := hN
        clear hN
        try simp only [Act.put, List.setIfInBounds_toArray, List.set_cons_zero, List.set_cons_succ]
        refine wpAnyH_ready (rs := [2]) (by kernel_rfl) (by simp) ?_
        refine AllReadyH.cons (o := _) rfl (fun K hK => ?_) AllReadyH.nil
        go_simp
        refine (refInt_k _ (1) (by omega) (by omega)).mono ?_
        rintro e wc ⟨rfl, hb⟩
        replace H := Lib.hid (H.out.call hb)
        refine hK.out _ _ (H.out.row 2 rfl) (fun hN => ?_)
        clear hK K hH hb
        have hH := hN
        clear hN
        try simp only [Act.put, List.setIfInBounds_toArray, List.set_cons_zero, List.set_cons_succ]
        refine held_F43 3 10 ZO.out rfl rfl (by kernel_rfl) (by kernel_rfl) (by kernel_rfl) rfl hH rfl rfl rfl rfl ?_
        try simp only [Act.put, List.setIfInBounds_toArray, List.set_cons_zero, List.set_cons_succ]
        refine wpAnyH_ready (rs := [5]) (by kernel_rfl) (by simp) ?_
        refine AllReadyH.cons (o := _) rfl (fun K hK => ?_) AllReadyH.nil
        refine own_wp_store 0 rowF4 H.out rfl rfl rfl rfl ?_
        intro ws HS
        simp only [List.set_cons_zero] at HS
        replace H := Lib.hid HS
        refine hK.out _ _ (H.out.row 2 rfl) (fun hN => ?_)
        clear hK K HS hH
        have hH := hN
        clear hN
        try simp only [Act.put, List.setIfInBounds_toArray]
        try simp only [Act.put]
        refine wpAnyH_done (by kernel_rfl) ?_ _
        refine NoPanic.normal ?_
        clear hH
        clear ZO HX HF HL HBI HS
        go_wp2_with fail
        go_meet
        exact ⟨g5, rfl, H.out⟩
    · skip
      refine own_wp_allocB 5 rfl nilF4 H.out rfl ?_
      intro w5 g5 H3 hb
      replace H := Lib.hid H3
      refine hK.out _ _ (H.out.row 2 rfl) (fun hN => ?_)
      clear hK K hH H3 hb
      have hH := hN
      clear hN
      try simp only [Act.put, List.setIfInBounds_toArray, List.set_cons_zero, List.set_cons_succ]
      refine wpAnyH_ready (rs := [0]) (by kernel_rfl) (by simp) ?_
      refine AllReadyH.cons (o := _) rfl (fun K hK => ?_) AllReadyH.nil
      go_simp
      refine (refInt_k _ (1) (by omega) (by omega)).mono ?_
      rintro e wc ⟨rfl, hb⟩
      replace H := Lib.hid (H.out.call hb)
      refine hK.out _ _ (H.out.row 2 rfl) (fun hN => ?_)
      clear hK K hH hb
      have hH := hN
      clear hN
      try simp only [Act.put, List.setIfInBounds_toArray, List.set_cons_zero, List.set_cons_succ]
      refine wpAnyH_ready (rs := [2]) (by kernel_rfl) (by simp) ?_
      refine AllReadyH.cons (o := _) rfl (fun K hK => ?_) AllReadyH.nil
      go_simp
      refine (refInt_k _ (1) (by omega) (by omega)).mono ?_
      rintro e wc ⟨rfl, hb⟩
      replace H := Lib.hid (H.out.call hb)
      refine hK.out _ _ (H.out.row 2 rfl) (fun hN => ?_)
      clear hK K hH hb
      have hH := hN
      clear hN
      try simp only [Act.put, List.setIfInBounds_toArray, List.set_cons_zero, List.set_cons_succ]
      refine held_F43 3 10 ZO.out rfl rfl (by kernel_rfl) (by kernel_rfl) (by kernel_rfl) rfl hH rfl rfl rfl rfl ?_
      try simp only [Act.put, List.setIfInBounds_toArray, List.set_cons_zero, List.set_cons_succ]
      refine wpAnyH_ready (rs := [5]) (by kernel_rfl) (by simp) ?_
      refine AllReadyH.cons (o := _) rfl (fun K hK => ?_) AllReadyH.nil
      refine own_wp_store 0 rowF4 H.out rfl rfl rfl rfl ?_
      intro ws HS
      simp only [List.set_cons_zero] at HS
      replace H := Lib.hid HS
      refine hK.out _ _ (H.out.row 2 rfl) (fun hN => ?_)
      clear hK K HS hH
      have hH := hN
      clear hN
      try simp only [Act.put, List.setIfInBounds_toArray]
      try simp only [Act.put]
      refine wpAnyH_done (by kernel_rfl) ?_ _
      refine NoPanic.normal ?_
      clear hH
      clear ZO HX HF HL HBI HS
      go_wp2_with fail
      go_meet
      exact ⟨g5, rfl, H.out⟩
  clear H
  obtain ⟨g5, rfl, HRR⟩ := hcut
  have H := Lib.hid HRR
  clear HRR 
  rw [ofZ_one, ZO.out] at H
  clear ZO
  go_wp2_with (first
    | ((with_reducible refine (HL.out _ ((HS.out.below H.out.bel).more H.out.bel.size)).mono ?_); rintro e w' ⟨rfl, hww⟩; have hww' := hww.symm; subst hww'))
  clear fn1
  go_loopw [6] (fun v6 wr => ∃ (m : Nat) (s : L4 pN), m ≤ nn ∧ v6 = .int .i64 ((m : Int) - 1) ∧ s = lad cK u (nn - m) (x / 2 ^ m) ∧ Ow w wr [(g5, Blk 38 .i64 64 (L4v s)), (g4, Blk 36 .i64 16 fun _ => 0), (g3, Blk 36 .i64 16 (dF (u).val))]) (fun v6 _ => (intOf v6 + 1).toNat)
  case atStart => exact ⟨nn, ⟨1, 0, u, 1⟩, Nat.le_refl _, rfl, by rw [Nat.sub_self]; rfl, H.out⟩
  case round =>
    clear H
    obtain ⟨m, s, hm, rfl, hp, HR⟩ := hrel
    have HP := Lib.hid hp
    have H := Lib.hid HR
    clear hp HR
    cases m with
    | zero =>
      rw [show ((0 : Nat) : Int) - 1 = -1 from rfl]
      go_upto_region 9 with fail
      have HQ : Hid (s.x0 * inv s.z0 = ldV u x) := Lib.hid (by
        have h := ldV_lad u HF.out
        rw [HP.out, Nat.sub_zero, Nat.pow_zero, Nat.div_one]
        exact h)
      clear HP HX HF HL HBI HS
      refine wp_region_noPanic ?_
      refine wp_region_held_drew (S := fun W => W.heap[g5]? = some (Blk 38 .i64 64 ((L4v s)))) (by kernel_rfl) (H.out.drew.row 0 rfl) (fun hH => ?_)
      replace H := Lib.hid H.out.drew
      generalize World.drew _ = w8 at *
      refine held_value 0 45 (.pointer (some ⟨g5, 0, none⟩)) rfl rfl (by kernel_rfl) (by kernel_rfl) (by kernel_rfl) rfl hH (fun w hw => by go_simp) ?_
      try simp only [Act.put, List.setIfInBounds_toArray, List.set_cons_zero, List.set_cons_succ]
      refine held_part 1 46 rowF rfl rfl (by kernel_rfl) (by kernel_rfl) (by kernel_rfl) rfl hH rfl rfl part4_0 (fun _ h => h) ?_
      try simp only [Act.put, List.setIfInBounds_toArray, List.set_cons_zero, List.set_cons_succ]
      refine held_value 2 47 (.pointer (some ⟨g5, 16, none⟩)) rfl rfl (by kernel_rfl) (by kernel_rfl) (by kernel_rfl) rfl hH (fun w hw => by go_simp) ?_
      try simp only [Act.put, List.setIfInBounds_toArray, List.set_cons_zero, List.set_cons_succ]
      refine held_part 3 48 rowF rfl rfl (by kernel_rfl) (by kernel_rfl) (by kernel_rfl) rfl hH rfl rfl part4_1 (fun _ h => h) ?_
      try simp only [Act.put, List.setIfInBounds_toArray, List.set_cons_zero, List.set_cons_succ]
      refine wpAnyH_ready (rs := [4]) (by kernel_rfl) (by simp) ?_
      refine AllReadyH.cons (o := _) rfl (fun K hK => ?_) AllReadyH.nil
      go_simp
      refine (refInverse_k _).mono ?_
      rintro e wc ⟨rfl, hb⟩
      replace H := Lib.hid (H.out.call hb)
      refine hK.out _ _ (H.out.row 0 rfl) (fun hN => ?_)
      clear hK K hH hb
      have hH := hN
      clear hN
      try simp only [Act.put, List.setIfInBounds_toArray, List.set_cons_zero, List.set_cons_succ]
      refine wpAnyH_ready (rs := [5]) (by kernel_rfl) (by simp) ?_
      refine AllReadyH.cons (o := _) rfl (fun K hK => ?_) AllReadyH.nil
      go_simp
      refine (refMul_k _ _ _).mono ?_
      rintro e wc ⟨rfl, hb⟩
      replace H := Lib.hid (H.out.call hb)
      refine hK.out _ _ (H.out.row 0 rfl) (fun hN => ?_)
      clear hK K hH hb
      have hH := hN
      clear hN
      try simp only [Act.put, List.setIfInBounds_toArray, List.set_cons_zero, List.set_cons_succ]
      refine wpAnyH_ready (rs := [6]) (by kernel_rfl) (by simp) ?_
      refine AllReadyH.cons (o := _) rfl (fun K hK => ?_) AllReadyH.nil
      refine own_wp_store 1 rowF H.out rfl rfl rfl rfl ?_
      intro ws HS
      simp only [List.set_cons_zero, List.set_cons_succ] at HS
      replace H := Lib.hid HS
      refine hK.out _ _ (H.out.row 0 rfl) (fun hN => ?_)
      clear hK K HS hH
      have hH := hN
      clear hN
      try simp only [Act.put, List.setIfInBounds_toArray]
      try simp only [Act.put]
      refine wpAnyH_done (by kernel_rfl) ?_ _
      refine NoPanic.normal ?_
      clear hH
      rw [HQ.out] at H
      clear HQ
      go_wp2_with fail
      exact bodyPost_ret (own_result 1 rowF rfl _ H rfl rfl) rfl ⟨rfl, H.out.bel⟩
    | succ j =>
      have ej : ((j + 1 : Nat) : Int) - 1 = (j : Int) := by omega
      rw [ej]
      clear ej
      have hid : decide ((0 : Int) ≤ (j : Int)) = true := by simp
      have HJ := Lib.hid hm
      have j8000 : (j : Int) ≤ 8000 := by omega
      have j8000' : j ≤ 8000 := by omega
      have HBJ := Lib.hid (fun w h => HBI.out j w j8000' h)
      have HE : ∀ b, decide (x / 2 ^ j % 2 = 1) = b → lad cK u (nn - j) (x / 2 ^ j) = ldB cK u b s := fun b hb => by
        rw [HP.out, show nn - j = nn - (j + 1) + 1 by omega]
        exact lad_one u _ _ _ (ld_half x j) hb
      rcases Nat.mod_two_eq_zero_or_one (x / 2 ^ j) with hu2 | hu2
      · have HE2 := Lib.hid (HE false (by rw [hu2]; rfl))
        rw [hu2] at HBJ
        clear hu2 hm HE HP
        go_wp2_with (first
          | ((with_reducible apply own_load rowF H); (case hgd => exact rfl); (case ho => exact rfl); (case hx => exact rfl); (case hi => first | exact at0 | exact at1 | exact at2 | exact at3 | exact at4 | exact at5 | exact at6 | exact at7 | exact at8 | exact at9); intro _ _; go_simp)
          | ((with_reducible apply own_load rowF4 H); (case hgd => exact rfl); (case ho => exact rfl); (case hx => exact rfl); (case hi => first | exact at0 | exact at1 | exact at2 | exact at3 | exact at4 | exact at5 | exact at6 | exact at7 | exact at8 | exact at9); intro _ _; go_simp)
          | ((with_reducible apply own_load_p rowF H); (case hgd => exact rfl); (case ho => exact rfl); (case hx => exact rfl); (case hi => first | exact at0 | exact at1 | exact at2 | exact at3 | exact at4 | exact at5 | exact at6 | exact at7 | exact at8 | exact at9); (case hp => first | exact part4_0 | exact part4_1 | exact part4_2 | exact part4_3); intro _ _; go_simp)
          | ((with_reducible apply lay_build_F4); (case hgd => exact rfl); (case ho => exact rfl); (case hx => exact rfl); (case hy => exact rfl); (case hz => exact rfl); (case hu => exact rfl); intro _ _; go_simp)
          | ((with_reducible apply own_store rowF4 H); (case hgd => exact rfl); (case ho => exact rfl); (case hx => exact rfl); (case hy => exact rfl); (case hi => first | exact at0 | exact at1 | exact at2 | exact at3 | exact at4 | exact at5 | exact at6 | exact at7 | exact at8 | exact at9); intro ws H' _ _; replace H := H'; clear H'; simp only [List.set_cons_zero] at H; go_simp)
          | ((with_reducible refine (HBJ.out _ ((HS.out.below H.out.bel).more H.out.bel.size)).mono ?_); rintro e w' ⟨rfl, hww⟩; have hww' := hww.symm; subst hww')
          | ((with_reducible refine (refStep_k _).mono ?_); rintro e wc ⟨rfl, hb⟩; replace H := Lib.hid (H.out.call hb); clear hb))
        go_roundw
        case rel => exact ⟨j, _, by have := HJ.out; omega, by go_num, HE2.out.symm, H.out⟩
        case measure => (simp [intOf] <;> omega)
      · have HE2 := Lib.hid (HE true (by rw [hu2]; rfl))
        rw [hu2] at HBJ
        clear hu2 hm HE HP
        go_wp2_with (first
          | ((with_reducible apply own_load rowF H); (case hgd => exact rfl); (case ho => exact rfl); (case hx => exact rfl); (case hi => first | exact at0 | exact at1 | exact at2 | exact at3 | exact at4 | exact at5 | exact at6 | exact at7 | exact at8 | exact at9); intro _ _; go_simp)
          | ((with_reducible apply own_load rowF4 H); (case hgd => exact rfl); (case ho => exact rfl); (case hx => exact rfl); (case hi => first | exact at0 | exact at1 | exact at2 | exact at3 | exact at4 | exact at5 | exact at6 | exact at7 | exact at8 | exact at9); intro _ _; go_simp)
          | ((with_reducible apply own_load_p rowF H); (case hgd => exact rfl); (case ho => exact rfl); (case hx => exact rfl); (case hi => first | exact at0 | exact at1 | exact at2 | exact at3 | exact at4 | exact at5 | exact at6 | exact at7 | exact at8 | exact at9); (case hp => first | exact part4_0 | exact part4_1 | exact part4_2 | exact part4_3); intro _ _; go_simp)
          | ((with_reducible apply lay_build_F4); (case hgd => exact rfl); (case ho => exact rfl); (case hx => exact rfl); (case hy => exact rfl); (case hz => exact rfl); (case hu => exact rfl); intro _ _; go_simp)
          | ((with_reducible apply own_store rowF4 H); (case hgd => exact rfl); (case ho => exact rfl); (case hx => exact rfl); (case hy => exact rfl); (case hi => first | exact at0 | exact at1 | exact at2 | exact at3 | exact at4 | exact at5 | exact at6 | exact at7 | exact at8 | exact at9); intro ws H' _ _; replace H := H'; clear H'; simp only [List.set_cons_zero] at H; go_simp)
          | ((with_reducible refine (HBJ.out _ ((HS.out.below H.out.bel).more H.out.bel.size)).mono ?_); rintro e w' ⟨rfl, hww⟩; have hww' := hww.symm; subst hww')
          | ((with_reducible refine (refStep_k _).mono ?_); rintro e wc ⟨rfl, hb⟩; replace H := Lib.hid (H.out.call hb); clear hb))
        go_roundw
        case rel => exact ⟨j, _, by have := HJ.out; omega, by go_num, HE2.out.symm, H.out⟩
        case measure => (simp [intOf] <;> omega)
end Go.Proofs.YtckmboebipbpbaaDoor
