/-
  Lemmas for the walks, several texts in one. No statement is proved here.
-/
import Derived.Test.YtkkmjlkeohkgnaaGreatDoorBuI
import Derived.Test.YtkkmjlkeohkgnaaGreatDoorZPtAdd
import Derived.Test.YtkkmjlkeohkgnaaGreatDoorZPtEq
import Derived.Test.YtkkmjlkeohkgnaaGreatDoorBuB
import Derived.Laws.BitsAllLaws
import Derived.Deep.CutRange
/-
  The contracts of comb's Same, beyond, doubled and Powers. No statement is proved here: lemmas for the walks.
-/
namespace Go.Proofs.YtkkmjlkeohkgnaaGreatDoor
open Go.RowKit

theorem same_int {a b : Int} (h1 : -9223372036854775808 ≤ a) (h2 : a ≤ 9223372036854775807) (h3 : -9223372036854775808 ≤ b) (h4 : b ≤ 9223372036854775807) :
    ∃ u : Nat, u < 18446744073709551616 ∧ IntKind.u64.wrap (bits .xor .i64 a b) = (u : Int) ∧ (u = 0 ↔ a = b) := by
  obtain ⟨x, hx⟩ : ∃ x : BitVec 64, BitVec.ofInt 64 a ^^^ BitVec.ofInt 64 b = x := ⟨_, rfl⟩
  have e1 : bits .xor .i64 a b = IntKind.i64.wrap (x.toNat : Int) := by rw [← hx]; rfl
  refine ⟨x.toNat, x.isLt, ?_, ?_⟩
  · rw [e1, IntKind.wrap_u64, IntKind.wrap_i64]
    have := x.isLt
    omega
  · constructor
    · intro h
      have hz : x = 0#64 := BitVec.eq_of_toNat_eq h
      rw [hz] at hx
      have he := BitVec.xor_eq_zero_iff.1 hx
      have := congrArg BitVec.toNat he
      rw [BitVec.toNat_ofInt, BitVec.toNat_ofInt, show ((2 ^ 64 : Nat) : Int) = 18446744073709551616 from rfl] at this
      omega
    · intro h
      rw [← hx, h, BitVec.xor_self]
      rfl
theorem same_top (u : Nat) (hu : u < 18446744073709551616) (h0 : u ≠ 0) : bits .or .u64 (u : Int) (IntKind.u64.wrap (-(u : Int))) / 9223372036854775808 = 1 := by
  have e : IntKind.u64.wrap (-(u : Int)) = ((18446744073709551616 - u : Nat) : Int) := by
    rw [IntKind.wrap_u64]
    omega
  rw [e, u64_or_nat _ _ hu (by omega)]
  have a1 : u ≤ u ||| (18446744073709551616 - u) := Nat.left_le_or
  have a2 : 18446744073709551616 - u ≤ u ||| (18446744073709551616 - u) := Nat.right_le_or
  have a3 : u ||| (18446744073709551616 - u) < 18446744073709551616 := Nat.or_lt_two_pow (n := 64) hu (by omega)
  omega
set_option maxRecDepth 8000 in
set_option maxHeartbeats 3200000 in
theorem csame_k (a b : Int) (w : World) (h1 : -9223372036854775808 ≤ a) (h2 : a ≤ 9223372036854775807) (h3 : -9223372036854775808 ≤ b) (h4 : b ≤ 9223372036854775807) {z : Int} (hz : (if a = b then 1 else 0) = z) :
    Calls Tryz.prog 130 #[.int .i64 a, .int .i64 b] w fun e w' => e = .returned (.int .i64 z) ∧ Below w.heap.size w w' := by
  obtain ⟨u, hu, he, hi⟩ := same_int h1 h2 h3 h4
  have EX : Hid (bits .xor .i64 1 (wrap64 (bits .or .u64 (IntKind.u64.wrap (bits .xor .i64 a b)) (IntKind.u64.wrap (-IntKind.u64.wrap (bits .xor .i64 a b))) / 9223372036854775808)) = z) := Lib.hid (by
    rw [he, ← hz]
    by_cases h : a = b
    · rw [if_pos h, hi.2 h]
      decide +kernel
    · rw [if_neg h, same_top u hu fun e => h (hi.1 e)]
      decide +kernel)
  clear hz he hi hu
  go_enter Tryz.func130, Tryz.ntmps130
  go_wp2_with fail
  go_ret
  exact ⟨by rw [← EX.out]; rfl, Below.refl _ _⟩
set_option maxRecDepth 8000 in
set_option maxHeartbeats 3200000 in
theorem beyond_k (a b c : Int) (w : World) {z : Bool} (hz : (decide (a < b) || decide (c < a)) = z) :
    Calls Tryz.prog 129 #[.int .i64 a, .int .i64 b, .int .i64 c] w fun e w' => e = .returned (.bool z) ∧ w' = w := by
  go_enter Tryz.func129, Tryz.ntmps129
  by_cases hx : a < b
  · have d1 : decide (a < b) = true := by simpa using hx
    rw [d1] at hz
    have HZ := Lib.hid hz
    clear hx hz
    go_wp2_with fail
    go_ret
    exact ⟨by rw [← HZ.out]; rfl, rfl⟩
  · have d1 : decide (a < b) = false := by simpa using hx
    rw [d1] at hz
    have HZ := Lib.hid hz
    clear hx hz
    go_wp2_with fail
    go_ret
    exact ⟨by rw [← HZ.out]; rfl, rfl⟩













































end Go.Proofs.YtkkmjlkeohkgnaaGreatDoor

/-
  The contracts of comb's Look. No statement is proved here: lemmas for the walks.
-/
namespace Go.Proofs.YtkkmjlkeohkgnaaGreatDoor
open Go.RowKit




















set_option maxRecDepth 8000 in
set_option maxHeartbeats 3200000 in
theorem look_k {a : Option Addr} {n c : Nat} {P : Nat → Pt pN dK} (w : World) (hT : Tp w) (hs : Pts w w.heap.size a n c P) (hn : n ≤ 1000) (i : Nat) (hi : i < n) (z : Int) (hz : z = (i : Int)) :
    Calls Tryz.prog 114 #[.slice a n c, .int .i64 z] w fun e w' => ∃ r, e = .returned (.tuple #[PO r, .int .i64 0]) ∧ PtK r (P i) ∧ Below w.heap.size w w' := by
  subst hz
  obtain ⟨b, o, _, rfl, hb, _, _⟩ := hs.get i hi
  have HP : Hid (∀ k, k < n → ∃ v, PtK v (P k) ∧ ∀ W, Below w.heap.size w W → ∀ j, j < 24 → W.cell? ⟨b, o + k * 24 + j, none⟩ = some (.int .u64 (v j))) := Lib.hid fun k hk => by
    obtain ⟨b', o', v, e, hb', hv, hc⟩ := hs.get k hk
    cases e
    exact ⟨v, hv, fun W hW j hj => (hW.cell (p := ⟨b, o + k * 24 + j, none⟩) hb').trans (hc j hj)⟩
  have BY1 : Hid ((decide ((i : Int) < 0) || decide ((n : Int) - 1 < (i : Int))) = false) := Lib.hid (by simp; omega)
  have f1 : IntKind.i64.wrap ((n : Int) - 1) = (n : Int) - 1 := IntWalk.i64_in _ (by omega)
  have HI := Lib.hid hi
  have n1000 : (n : Int) ≤ 1000 := by omega
  clear hs hb hi
  have HT := Lib.hid hT
  clear hT
  have H := Lib.hid (Ow.start w)
  go_enter Tryz.func114, Tryz.ntmps114
  go_wp2_with (first
    | ((fail_if_success have := g4); (with_reducible apply own_alloc nilPt H); (case hgd => exact rfl); (case ho => exact rfl); intro w4 g4 H' _ _; replace H := H'; clear H'; go_simp)
    | ((fail_if_success have := V0); (with_reducible refine (identity_k _ (HT.out.below H.out.bel)).mono ?_); rintro e wc ⟨k0, rfl, hv, hb⟩; replace H := Lib.hid (H.out.call hb); have V0 := Lib.hid hv; clear hb hv)
    | ((fail_if_success have := g6); (with_reducible apply own_alloc nilPt H); (case hgd => exact rfl); (case ho => exact rfl); intro w6 g6 H' _ _; replace H := H'; clear H'; go_simp)
    | ((with_reducible apply own_store rowPt H); (case hgd => exact rfl); (case ho => exact rfl); (case hx => exact rfl); (case hy => exact rfl); (case hi => first | exact at0 | exact at1 | exact at2 | exact at3 | exact at4 | exact at5 | exact at6 | exact at7 | exact at8 | exact at9); intro ws H' _ _; replace H := H'; clear H'; simp only [List.set_cons_zero] at H; go_simp)
    | ((fail_if_success have := by1); (with_reducible refine (beyond_k _ _ _ _ BY1.out).mono ?_); rintro e w' ⟨rfl, hww⟩; have hww' := hww.symm; subst hww'; have by1 := trivial; clear hww))
  clear BY1 by1 f1
  go_loopw [18] (fun v18 wr => ∃ (k : Nat) (v : Nat → Int), k ≤ n ∧ v18 = .int .i64 (k : Int) ∧ PtK v (if i < k then P i else pzero) ∧ Ow w wr [(g6, Blk 30 .u64 24 v), (g4, Blk 30 .u64 24 fun _ => 0)]) (fun v18 _ => (n - (intOf v18).toNat))
  case atStart => exact ⟨0, k0, Nat.zero_le _, rfl, V0.out.eq (by rw [if_neg (by omega)]), H.out⟩
  case round =>
    clear H V0
    obtain ⟨k, v, hk, rfl, hp, HR⟩ := hrel
    have VP := Lib.hid hp
    have H := Lib.hid HR
    clear hp HR
    by_cases hlt : k < n
    · have hid : decide ((k : Int) < (n : Int)) = true := by simp; omega
      have hid' : decide (k < n) = true := by simpa using hlt
      have HL := Lib.hid hlt
      have k999 : (k : Int) ≤ 999 := by omega
      have kn : (k : Int) < (n : Int) := by omega
      obtain ⟨v1, hv1, hc1⟩ := HP.out k hlt
      have V1 := Lib.hid hv1
      have HC := Lib.hid hc1
      have HQ : Hid ((if (if (i : Int) = (k : Int) then (1 : Int) else 0) % 2 = 0 then (if i < k then P i else pzero) else P k) = if i < k + 1 then P i else pzero) := Lib.hid (by
        by_cases h : i = k
        · subst h
          rw [if_pos rfl, if_neg (by decide), if_pos (by omega)]
        · rw [if_neg (show ¬ (i : Int) = (k : Int) by omega), if_pos (by decide)]
          by_cases h2 : i < k
          · rw [if_pos h2, if_pos (by omega)]
          · rw [if_neg h2, if_neg (by omega)])
      obtain ⟨y, hy⟩ : ∃ y : Int, (if (i : Int) = (k : Int) then (1 : Int) else 0) = y := ⟨_, rfl⟩
      rw [hy] at HQ
      have HY := Lib.hid hy
      have i9 : (i : Int) ≤ 9223372036854775807 := by have := HI.out; omega
      clear hlt hk hv1 hc1 hy hn
      go_upto_region 7 with (first
        | ((with_reducible apply lay_one rowPt); (case hgd => exact rfl); (case ho => exact rfl); (case hx => exact rfl); (case hc => exact HC.out _ H.out.bel); intro _ _; go_simp)
        | ((fail_if_success have := g8); (with_reducible apply own_alloc nilPt H); (case hgd => exact rfl); (case ho => exact rfl); intro w8 g8 H' _ _; replace H := H'; clear H'; go_simp)
        | ((with_reducible apply own_store rowPt H); (case hgd => exact rfl); (case ho => exact rfl); (case hx => exact rfl); (case hy => exact rfl); (case hi => first | exact at0 | exact at1 | exact at2 | exact at3 | exact at4 | exact at5 | exact at6 | exact at7 | exact at8 | exact at9); intro ws H' _ _; replace H := H'; clear H'; simp only [List.set_cons_zero] at H; go_simp))
      refine wp_region_noPanic ?_
      refine wp_region_held_drew (S := fun W => W.heap[g8]? = some (Blk 30 .u64 24 (v1))) (by kernel_rfl) (H.out.drew.row 0 rfl) (fun hH => ?_)
      replace H := Lib.hid H.out.drew
      generalize World.drew _ = w8 at *
      refine held_value 0 23 (.int .i64 i) rfl rfl (by kernel_rfl) (by kernel_rfl) (by kernel_rfl) rfl hH (fun w hw => by go_simp) ?_
      try simp only [Act.put, List.setIfInBounds_toArray, List.set_cons_zero, List.set_cons_succ]
      refine held_value 1 24 (.int .i64 k) rfl rfl (by kernel_rfl) (by kernel_rfl) (by kernel_rfl) rfl hH (fun w hw => by go_simp) ?_
      try simp only [Act.put, List.setIfInBounds_toArray, List.set_cons_zero, List.set_cons_succ]
      refine held_row 4 27 rowPt rfl rfl (by kernel_rfl) (by kernel_rfl) (by kernel_rfl) rfl hH rfl rfl (fun _ h => h) ?_
      try simp only [Act.put, List.setIfInBounds_toArray, List.set_cons_zero, List.set_cons_succ]
      refine wpAnyH_ready (rs := [2, 3]) (by kernel_rfl) (by simp) ?_
      refine AllReadyH.cons (o := _) rfl (fun K hK => ?_) (AllReadyH.cons (o := _) rfl (fun K hK => ?_) AllReadyH.nil)
      · skip
        go_simp
        refine (csame_k _ _ _ (by omega) i9 (by omega) (by omega) HY.out).mono ?_
        rintro e wc ⟨rfl, hb⟩
        replace H := Lib.hid (H.out.call hb)
        refine hK.out _ _ (H.out.row 0 rfl) (fun hN => ?_)
        clear hK K hH hb
        have hH := hN
        clear hN
        try simp only [Act.put, List.setIfInBounds_toArray, List.set_cons_zero, List.set_cons_succ]
        refine wpAnyH_ready (rs := [3]) (by kernel_rfl) (by simp) ?_
        refine AllReadyH.cons (o := _) rfl (fun K hK => ?_) AllReadyH.nil
        refine own_wp_load 26 rfl 1 rowPt H.out rfl rfl rfl ?_
        refine hK.out _ _ hH (fun hN => ?_)
        clear hK K hH
        have hH := hN
        clear hN
        try simp only [Act.put, List.setIfInBounds_toArray, List.set_cons_zero, List.set_cons_succ]
        refine wpAnyH_ready (rs := [5]) (by kernel_rfl) (by simp) ?_
        refine AllReadyH.cons (o := _) rfl (fun K hK => ?_) AllReadyH.nil
        go_simp
        refine (ptSelect_k y _ VP.out V1.out HQ.out).mono ?_
        rintro e wc ⟨k28, rfl, hv, hb⟩
        replace H := Lib.hid (H.out.call hb)
        have HV28 := Lib.hid hv
        refine hK.out _ _ (H.out.row 0 rfl) (fun hN => ?_)
        clear hK K hH hb hv
        have hH := hN
        clear hN
        try simp only [Act.put, List.setIfInBounds_toArray, List.set_cons_zero, List.set_cons_succ]
        refine wpAnyH_ready (rs := [6]) (by kernel_rfl) (by simp) ?_
        refine AllReadyH.cons (o := _) rfl (fun K hK => ?_) AllReadyH.nil
        refine own_st 1 rfl rowPt H.out rfl rfl rfl rfl ?_
        intro ws HS
        simp only [List.set_cons_zero, List.set_cons_succ] at HS
        replace H := Lib.hid HS
        refine hK.out _ _ (H.out.row 0 rfl) (fun hN => ?_)
        clear hK K HS hH
        have hH := hN
        clear hN
        try simp only [List.setIfInBounds_toArray]
        try simp only [Act.put]
        refine wpAnyH_done (by kernel_rfl) ?_ _
        refine NoPanic.normal ?_
        clear hH
        go_wp2_with fail
        go_roundw
        case rel => exact ⟨k + 1, k28, by have := HL.out; omega, by go_num, HV28.out, H.out.pop⟩
        case measure => (have := HL.out; simp [intOf] <;> omega)
      · skip
        refine own_wp_load 26 rfl 1 rowPt H.out rfl rfl rfl ?_
        refine hK.out _ _ hH (fun hN => ?_)
        clear hK K hH
        have hH := hN
        clear hN
        try simp only [Act.put, List.setIfInBounds_toArray, List.set_cons_zero, List.set_cons_succ]
        refine wpAnyH_ready (rs := [2]) (by kernel_rfl) (by simp) ?_
        refine AllReadyH.cons (o := _) rfl (fun K hK => ?_) AllReadyH.nil
        go_simp
        refine (csame_k _ _ _ (by omega) i9 (by omega) (by omega) HY.out).mono ?_
        rintro e wc ⟨rfl, hb⟩
        replace H := Lib.hid (H.out.call hb)
        refine hK.out _ _ (H.out.row 0 rfl) (fun hN => ?_)
        clear hK K hH hb
        have hH := hN
        clear hN
        try simp only [Act.put, List.setIfInBounds_toArray, List.set_cons_zero, List.set_cons_succ]
        refine wpAnyH_ready (rs := [5]) (by kernel_rfl) (by simp) ?_
        refine AllReadyH.cons (o := _) rfl (fun K hK => ?_) AllReadyH.nil
        go_simp
        refine (ptSelect_k y _ VP.out V1.out HQ.out).mono ?_
        rintro e wc ⟨k28, rfl, hv, hb⟩
        replace H := Lib.hid (H.out.call hb)
        have HV28 := Lib.hid hv
        refine hK.out _ _ (H.out.row 0 rfl) (fun hN => ?_)
        clear hK K hH hb hv
        have hH := hN
        clear hN
        try simp only [Act.put, List.setIfInBounds_toArray, List.set_cons_zero, List.set_cons_succ]
        refine wpAnyH_ready (rs := [6]) (by kernel_rfl) (by simp) ?_
        refine AllReadyH.cons (o := _) rfl (fun K hK => ?_) AllReadyH.nil
        refine own_st 1 rfl rowPt H.out rfl rfl rfl rfl ?_
        intro ws HS
        simp only [List.set_cons_zero, List.set_cons_succ] at HS
        replace H := Lib.hid HS
        refine hK.out _ _ (H.out.row 0 rfl) (fun hN => ?_)
        clear hK K HS hH
        have hH := hN
        clear hN
        try simp only [List.setIfInBounds_toArray]
        try simp only [Act.put]
        refine wpAnyH_done (by kernel_rfl) ?_ _
        refine NoPanic.normal ?_
        clear hH
        go_wp2_with fail
        go_roundw
        case rel => exact ⟨k + 1, k28, by have := HL.out; omega, by go_num, HV28.out, H.out.pop⟩
        case measure => (have := HL.out; simp [intOf] <;> omega)
    · obtain rfl : n = k := by omega
      have hid : decide ((n : Int) < (n : Int)) = false := by simp
      have hid' : decide (n < n) = false := by simp
      clear hlt hk hn
      go_wp2_with (first
        | ((with_reducible apply own_load rowPt H); (case hgd => exact rfl); (case ho => exact rfl); (case hx => exact rfl); (case hi => first | exact at0 | exact at1 | exact at2 | exact at3 | exact at4 | exact at5 | exact at6 | exact at7 | exact at8 | exact at9); intro _ _; go_simp)
        | ((with_reducible apply own_store rowPt H); (case hgd => exact rfl); (case ho => exact rfl); (case hx => exact rfl); (case hy => exact rfl); (case hi => first | exact at0 | exact at1 | exact at2 | exact at3 | exact at4 | exact at5 | exact at6 | exact at7 | exact at8 | exact at9); intro ws H' _ _; replace H := H'; clear H'; simp only [List.set_cons_zero, List.set_cons_succ] at H; go_simp))

      exact bodyPost_ret (own_result_slot 1 rowPt rfl _ H rfl rfl rfl) rfl ⟨_, rfl, VP.out.eq (if_pos HI.out), H.out.bel⟩
end Go.Proofs.YtkkmjlkeohkgnaaGreatDoor
