/-
  The walk of CombLooks. No statement is proved here: lemmas for the walks.
-/
import Derived.Test.YtjcfoilfdmameaaGreatDoorZCbAwake
import Derived.Test.YtjcfoilfdmameaaGreatDoorZCbPoints
import Derived.Test.YtjcfoilfdmameaaGreatDoorBuT
import Derived.Deep.CutRange
namespace Go.Proofs.YtjcfoilfdmameaaGreatDoor
open Go.RowKit

set_option maxRecDepth 8000 in
set_option maxHeartbeats 3200000 in
theorem looks_many {a : Option Addr} {n c : Nat} {N : Nat → Nat} {Z : Nat → Int} {i : Int} (w : World) (hT : Tp w) (_hs : Spots w w.heap.size a n c N Z) (hn : 6 < n) :
    Calls Tryz.prog 3 #[.slice a n c, .int .i64 i] w fun e w' => e = .returned (.bool true) ∧ Below w.heap.size w w' := by
  have d1 : decide ((6 : Int) < (n : Int)) = true := by simp; omega
  clear hn
  have HT := Lib.hid hT
  clear hT
  have H := Lib.hid (Ow.start w)
  go_enter Tryz.func3, Tryz.ntmps3
  go_wp2_with (first
    | ((with_reducible refine (awake11_k _ (HT.out.below H.out.bel)).mono ?_); rintro e wc ⟨rfl, hb⟩; replace H := Lib.hid (H.out.call hb); clear hb))
  go_ret
  exact ⟨rfl, H.out.bel⟩
set_option maxRecDepth 8000 in
set_option maxHeartbeats 3200000 in
theorem looks_none {a : Option Addr} {n c : Nat} {N : Nat → Nat} {Z : Nat → Int} {i : Int} (w : World) (hT : Tp w) (hs : Spots w w.heap.size a n c N Z) (hn : n ≤ 6) (q : Nat) (hq : q < n) (hok : ∀ i, i < q → okS (N i) (Z i) = true) (hno : okS (N q) (Z q) = false) :
    Calls Tryz.prog 3 #[.slice a n c, .int .i64 i] w fun e w' => e = .returned (.bool true) ∧ Below w.heap.size w w' := by
  have d1 : decide ((6 : Int) < (n : Int)) = false := by simp; omega
  have HS := Lib.hid hs
  have HQ := Lib.hid hq
  have HOK := Lib.hid hok
  have HNO := Lib.hid hno
  clear hs hq hok hno
  have HT := Lib.hid hT
  clear hT
  have H := Lib.hid (Ow.start w)
  go_enter Tryz.func3, Tryz.ntmps3
  go_wp2_with (first
    | ((with_reducible refine (points_no _ (HT.out.below H.out.bel) HS.out hn q HQ.out HOK.out HNO.out).mono ?_); rintro e wc ⟨rfl, hb⟩; replace H := Lib.hid (H.out.call hb); clear hb)
    | ((with_reducible refine (awake11_k _ (HT.out.below H.out.bel)).mono ?_); rintro e wc ⟨rfl, hb⟩; replace H := Lib.hid (H.out.call hb); clear hb))
  go_ret
  exact ⟨rfl, H.out.bel⟩
set_option maxRecDepth 8000 in
set_option maxHeartbeats 3200000 in
theorem looks_neg {a : Option Addr} {n c : Nat} {N : Nat → Nat} {Z : Nat → Int} {i : Int} (w : World) (hT : Tp w) (hs : Spots w w.heap.size a n c N Z) (hn : n ≤ 6) (hok : ∀ i, i < n → okS (N i) (Z i) = true) (hi : i < 0) :
    Calls Tryz.prog 3 #[.slice a n c, .int .i64 i] w fun e w' => e = .returned (.bool true) ∧ Below w.heap.size w w' := by
  have d1 : decide ((6 : Int) < (n : Int)) = false := by simp; omega
  have HI : Hid (i < 0 ∨ (n : Int) ≤ i) := Lib.hid (.inl hi)
  have d2 : decide (i < 0) = true := by simp; omega
  clear hi
  have HS := Lib.hid hs
  have HOK := Lib.hid hok
  clear hs hok
  have HT := Lib.hid hT
  clear hT
  have H := Lib.hid (Ow.start w)
  go_enter Tryz.func3, Tryz.ntmps3
  go_wp2_with (first
    | ((fail_if_success have := mk1); (with_reducible refine (points_yes _ HT.out HS.out hn HOK.out).mono ?_); rintro e w0 ⟨a', c', P, rfl, hP, hb⟩; have HP := Lib.hid hP; have HB0 := Lib.hid hb; replace HT := Lib.hid (HT.out.below hb); replace H := Lib.hid (Ow.start w0); have mk1 := trivial; clear hb hP)
    | ((with_reducible refine (look_bad _ (HT.out.below H.out.bel) (HP.out.call H.out.bel) (by omega) i HI.out).mono ?_); rintro e wc ⟨k7, rfl, hb⟩; replace H := Lib.hid (H.out.call hb); clear hb)
    | ((fail_if_success have := g7); (with_reducible apply own_alloc nilPt H); (case hgd => exact rfl); (case ho => exact rfl); intro w7 g7 H' _ _; replace H := H'; clear H'; go_simp)
    | ((with_reducible apply own_store rowPt H); (case hgd => exact rfl); (case ho => exact rfl); (case hx => exact rfl); (case hy => exact rfl); (case hi => first | exact at0 | exact at1 | exact at2 | exact at3 | exact at4 | exact at5 | exact at6 | exact at7 | exact at8 | exact at9); intro ws H' _ _; replace H := H'; clear H'; simp only [List.set_cons_zero] at H; go_simp)
    | ((with_reducible refine (awake11_k _ (HT.out.below H.out.bel)).mono ?_); rintro e wc ⟨rfl, hb⟩; replace H := Lib.hid (H.out.call hb); clear hb))
  go_ret
  exact ⟨rfl, HB0.out.trans (H.out.bel.mono HB0.out.size)⟩
set_option maxRecDepth 8000 in
set_option maxHeartbeats 3200000 in
theorem looks_far {a : Option Addr} {n c : Nat} {N : Nat → Nat} {Z : Nat → Int} {i : Int} (w : World) (hT : Tp w) (hs : Spots w w.heap.size a n c N Z) (hn : n ≤ 6) (hok : ∀ i, i < n → okS (N i) (Z i) = true) (hi : (n : Int) ≤ i) :
    Calls Tryz.prog 3 #[.slice a n c, .int .i64 i] w fun e w' => e = .returned (.bool true) ∧ Below w.heap.size w w' := by
  have d1 : decide ((6 : Int) < (n : Int)) = false := by simp; omega
  have HI : Hid (i < 0 ∨ (n : Int) ≤ i) := Lib.hid (.inr hi)
  have d2 : decide (i < 0) = false := by simp; omega
  have d3 : decide ((n : Int) ≤ i) = true := by simp; omega
  clear hi
  have HS := Lib.hid hs
  have HOK := Lib.hid hok
  clear hs hok
  have HT := Lib.hid hT
  clear hT
  have H := Lib.hid (Ow.start w)
  go_enter Tryz.func3, Tryz.ntmps3
  go_wp2_with (first
    | ((fail_if_success have := mk1); (with_reducible refine (points_yes _ HT.out HS.out hn HOK.out).mono ?_); rintro e w0 ⟨a', c', P, rfl, hP, hb⟩; have HP := Lib.hid hP; have HB0 := Lib.hid hb; replace HT := Lib.hid (HT.out.below hb); replace H := Lib.hid (Ow.start w0); have mk1 := trivial; clear hb hP)
    | ((with_reducible refine (look_bad _ (HT.out.below H.out.bel) (HP.out.call H.out.bel) (by omega) i HI.out).mono ?_); rintro e wc ⟨k7, rfl, hb⟩; replace H := Lib.hid (H.out.call hb); clear hb)
    | ((fail_if_success have := g7); (with_reducible apply own_alloc nilPt H); (case hgd => exact rfl); (case ho => exact rfl); intro w7 g7 H' _ _; replace H := H'; clear H'; go_simp)
    | ((with_reducible apply own_store rowPt H); (case hgd => exact rfl); (case ho => exact rfl); (case hx => exact rfl); (case hy => exact rfl); (case hi => first | exact at0 | exact at1 | exact at2 | exact at3 | exact at4 | exact at5 | exact at6 | exact at7 | exact at8 | exact at9); intro ws H' _ _; replace H := H'; clear H'; simp only [List.set_cons_zero] at H; go_simp)
    | ((with_reducible refine (awake11_k _ (HT.out.below H.out.bel)).mono ?_); rintro e wc ⟨rfl, hb⟩; replace H := Lib.hid (H.out.call hb); clear hb))
  go_ret
  exact ⟨rfl, HB0.out.trans (H.out.bel.mono HB0.out.size)⟩
set_option maxRecDepth 8000 in
set_option maxHeartbeats 3200000 in
theorem looks_k {a : Option Addr} {n c : Nat} {N : Nat → Nat} {Z : Nat → Int} {i : Nat} (w : World) (hT : Tp w) (hs : Spots w w.heap.size a n c N Z) (hn : n ≤ 6) (hok : ∀ i, i < n → okS (N i) (Z i) = true) (hi : i < n) :
    Calls Tryz.prog 3 #[.slice a n c, .int .i64 (i : Int)] w fun e w' => e = .returned (.bool true) ∧ Below w.heap.size w w' := by
  have d1 : decide ((6 : Int) < (n : Int)) = false := by simp; omega
  have HI := Lib.hid hi
  have d2 : decide ((i : Int) < 0) = false := by simp
  have d3 : decide ((n : Int) ≤ (i : Int)) = false := by simp; omega
  have d3' : decide (n ≤ i) = false := by simp; omega
  clear hi
  have HS := Lib.hid hs
  have HOK := Lib.hid hok
  clear hs hok
  have HT := Lib.hid hT
  clear hT
  have H := Lib.hid (Ow.start w)
  go_enter Tryz.func3, Tryz.ntmps3
  go_wp2_with (first
    | ((fail_if_success have := mk1); (with_reducible refine (points_yes _ HT.out HS.out hn HOK.out).mono ?_); rintro e w0 ⟨a', c', P, rfl, hP, hb⟩; have HP := Lib.hid hP; have HB0 := Lib.hid hb; replace HT := Lib.hid (HT.out.below hb); replace H := Lib.hid (Ow.start w0); have mk1 := trivial; clear hb hP)
    | ((fail_if_success have := mk2); (with_reducible refine (look_k _ (HT.out.below H.out.bel) (HP.out.call H.out.bel) (by omega) i HI.out (i : Int) rfl).mono ?_); rintro e wc ⟨k7, rfl, hv, hb⟩; replace H := Lib.hid (H.out.call hb); have V7 := Lib.hid hv; have mk2 := trivial; clear hb hv)
    | ((fail_if_success have := g7); (with_reducible apply own_alloc nilPt H); (case hgd => exact rfl); (case ho => exact rfl); intro w7 g7 H' _ _; replace H := H'; clear H'; go_simp)
    | ((with_reducible apply own_store rowPt H); (case hgd => exact rfl); (case ho => exact rfl); (case hx => exact rfl); (case hy => exact rfl); (case hi => first | exact at0 | exact at1 | exact at2 | exact at3 | exact at4 | exact at5 | exact at6 | exact at7 | exact at8 | exact at9); intro ws H' _ _; replace H := H'; clear H'; simp only [List.set_cons_zero] at H; go_simp))
  clear d1 d2 d3 d3' mk1 mk2
  have n6 : (n : Int) ≤ 6 := by omega
  obtain ⟨wl, hwl⟩ : ∃ wl, wl = ws := ⟨_, rfl⟩
  subst hwl
  have HL := H
  go_loopw [9, 10] (fun v9 v10 wr => ∃ (j : Nat) (G : Nat → Nat → Int), j ≤ n ∧ v10 = .int .i64 (j : Int) ∧ OwnR wr wl.heap.size 32 .u64 24 v9 j G ∧ (∀ t, t < j → PtK (G t) pB) ∧ Below wl.heap.size wl wr) (fun _ v10 _ => (n - (intOf v10).toNat))
  case atStart => exact ⟨0, fun _ _ => 0, Nat.zero_le _, rfl, ⟨rfl, .inl ⟨rfl, rfl⟩⟩, fun j h => by omega, Below.refl _ _⟩
  case round =>
    clear H
    obtain ⟨j, G, hj, rfl, hR, hG, hB⟩ := hrel
    obtain ⟨v9, hv9⟩ : ∃ v9, v9 = u9 := ⟨_, rfl⟩
    subst hv9
    have HROW := Lib.hid hR
    have HG := Lib.hid hG
    have HW := Lib.hid hB
    have HBS := hB.size
    clear hR hG hB
    by_cases hlt : j < n
    · have hid : decide ((j : Int) < (n : Int)) = true := by simp; omega
      have hid' : decide (j < n) = true := by simpa using hlt
      have HJ := Lib.hid hlt
      have j6 : (j : Int) ≤ 6 := by omega
      have HT2 := Lib.hid (HT.out.below ((HL.out.call HW.out).bel))
      have H := Lib.hid (Ow.start wr)
      clear hlt hj
      go_wp2_with (first
        | ((fail_if_success have := VB); (with_reducible refine (base_k _ (HT2.out.below H.out.bel)).mono ?_); rintro e wc ⟨kb, rfl, hv, hb⟩; replace H := Lib.hid (H.out.call hb); have VB := Lib.hid hv; clear hb hv)
        | ((fail_if_success have := g52); (with_reducible apply own_build1P H); (case hgd => exact rfl); (case ho => exact rfl); (case hx => exact rfl); intro w52 g52 H' _ _; replace H := H'; clear H'; go_simp)
        | ((with_reducible apply own_appP HROW HBS H); (case hd => exact rfl); (case hgd => exact rfl); (case ho => exact rfl); (case hx => exact rfl); (case hy => exact rfl); (case hi => first | exact at0 | exact at1 | exact at2 | exact at3 | exact at4 | exact at5 | exact at6 | exact at7 | exact at8 | exact at9); (case hn => omega); intro v' w' HB' HR' _ _; go_simp))

      go_roundw
      case rel => exact ⟨j + 1, _, by have := HJ.out; omega, by go_num, HR'.out, fun t ht => by
        by_cases h : t = j
        · rw [if_pos h]
          exact VB.out
        · rw [if_neg h]
          exact HG.out t (by omega), HW.out.trans HB'.out⟩
      case measure => (have := HJ.out; simp [intOf] <;> omega)
    · obtain rfl : n = j := by omega
      have hid : decide ((n : Int) < (n : Int)) = false := by simp
      have hid' : decide (n < n) = false := by simp
      have hi := HI.out
      obtain ⟨g9, c9, rfl, hc9, hg9, hbg⟩ := HROW.out.begins (P := fun _ => pB) (by omega) HG.out
      have HBG := Lib.hid hbg
      obtain ⟨b, o, v, ha, hb, hv, hc⟩ := HP.out.get i hi
      subst ha
      have VI := Lib.hid hv
      have HCI := Lib.hid (fun W (hW : Below w0.heap.size w0 W) => (⟨Nat.lt_of_lt_of_le hb hW.size, fun t ht => (hW.cell (p := ⟨b, o + i * 24 + t, none⟩) hb).trans (hc t ht)⟩ : PtAt W W.heap.size b (o + i * 24) v))
      have HWL := Lib.hid (HL.out.call HW.out).bel
      have i5 : (i : Int) ≤ 5 := by omega
      have i6 : (i : Int) < (n : Int) := by omega
      have H := Lib.hid (⟨HW.out, (fun _ hx => nomatch hx), (fun _ hx => nomatch hx), List.Pairwise.nil⟩ : Ow wl wr [])
      clear hlt hj hi hbg hb hv hc HROW HG
      go_upto_region 15 with (first
        | ((fail_if_success have := mk3); (with_reducible apply lay_one rowPt); (case hgd => exact rfl); (case ho => exact rfl); (case hx => exact rfl); (case hc => exact (HCI.out _ HWL.out).has); have mk3 := trivial; intro _ _; go_simp)
        | ((with_reducible apply own_stB HBG H hg9); (case hgd => exact rfl); (case ho => exact rfl); (case hx => exact rfl); (case hi => exact HI.out); (case hr => exact VI.out); (case hy => exact rfl); intro ws H2 HB2 _ _; clear H HBG; have H := Lib.hid (HL.out.call H2.out.bel); have HBG := HB2; clear H2 HB2; go_simp))

      clear HL HW HWL mk3
      go_upto_region 16 with (first
        | ((fail_if_success have := mk4); (with_reducible refine (look_k _ (HT.out.below H.out.bel) (HBG.out.pts hc9) (by omega) i HI.out (i : Int) rfl).mono ?_); rintro e wc ⟨k11, rfl, hv, hb⟩; replace H := Lib.hid (H.out.call hb); have V11 := Lib.hid (hv.eq (Q := P i) (if_pos rfl)); have mk4 := trivial; clear hb hv)
        | ((fail_if_success have := g11); (with_reducible apply own_alloc nilPt H); (case hgd => exact rfl); (case ho => exact rfl); intro w11 g11 H' _ _; replace H := H'; clear H'; go_simp)
        | ((with_reducible apply own_store rowPt H); (case hgd => exact rfl); (case ho => exact rfl); (case hx => exact rfl); (case hy => exact rfl); (case hi => first | exact at0 | exact at1 | exact at2 | exact at3 | exact at4 | exact at5 | exact at6 | exact at7 | exact at8 | exact at9); intro ws H' _ _; replace H := H'; clear H'; simp only [List.set_cons_zero] at H; go_simp))

      have PA := Lib.hid (HCI.out _ H.out.bel)
      clear HBG HCI mk4
      refine wp_region_noPanic ?_
      refine wp_region_held_drew (S := fun W => W.heap[g7]? = some (Blk 32 .u64 24 (k7)) ∧ W.heap[g11]? = some (Blk 32 .u64 24 (k11)) ∧ (∀ j, j < 24 → W.cell? ⟨b, o + i * 24 + j, none⟩ = some (.int .u64 (v j))) ∧ (∀ j, j < 24 → W.cell? ⟨b, o + i * 24 + j, none⟩ = some (.int .u64 (v j)))) (by kernel_rfl) (⟨H.out.drew.row 1 rfl, H.out.drew.row 0 rfl, PA.out.has, PA.out.has⟩) (fun hH => ?_)
      replace H := Lib.hid H.out.drew
      replace PA := Lib.hid PA.out.drew
      generalize World.drew _ = w8 at *
      refine held_value 0 67 (.int .i64 0) rfl rfl (by kernel_rfl) (by kernel_rfl) (by kernel_rfl) rfl hH (fun w hw => by go_simp) ?_
      try simp only [Act.put, List.setIfInBounds_toArray, List.set_cons_zero, List.set_cons_succ]
      refine held_value 1 68 (.bool true) rfl rfl (by kernel_rfl) (by kernel_rfl) (by kernel_rfl) rfl hH (fun w hw => by go_simp) ?_
      try simp only [Act.put, List.setIfInBounds_toArray, List.set_cons_zero, List.set_cons_succ]
      refine held_value 2 69 (.bool true) rfl rfl (by kernel_rfl) (by kernel_rfl) (by kernel_rfl) rfl hH (fun w hw => by go_simp) ?_
      try simp only [Act.put, List.setIfInBounds_toArray, List.set_cons_zero, List.set_cons_succ]
      refine held_value 3 70 (.int .i64 0) rfl rfl (by kernel_rfl) (by kernel_rfl) (by kernel_rfl) rfl hH (fun w hw => by go_simp) ?_
      try simp only [Act.put, List.setIfInBounds_toArray, List.set_cons_zero, List.set_cons_succ]
      refine held_value 4 71 (.bool true) rfl rfl (by kernel_rfl) (by kernel_rfl) (by kernel_rfl) rfl hH (fun w hw => by go_simp) ?_
      try simp only [Act.put, List.setIfInBounds_toArray, List.set_cons_zero, List.set_cons_succ]
      refine held_value 5 72 (.bool true) rfl rfl (by kernel_rfl) (by kernel_rfl) (by kernel_rfl) rfl hH (fun w hw => by go_simp) ?_
      try simp only [Act.put, List.setIfInBounds_toArray, List.set_cons_zero, List.set_cons_succ]
      refine held_value 6 73 (.bool true) rfl rfl (by kernel_rfl) (by kernel_rfl) (by kernel_rfl) rfl hH (fun w hw => by go_simp) ?_
      try simp only [Act.put, List.setIfInBounds_toArray, List.set_cons_zero, List.set_cons_succ]
      refine held_row 7 74 rowPt rfl rfl (by kernel_rfl) (by kernel_rfl) (by kernel_rfl) rfl hH rfl rfl (fun _ h => h.1) ?_
      try simp only [Act.put, List.setIfInBounds_toArray, List.set_cons_zero, List.set_cons_succ]
      refine held_value 8 75 (.slice (some ⟨b, o, none⟩) n c') rfl rfl (by kernel_rfl) (by kernel_rfl) (by kernel_rfl) rfl hH (fun w hw => by go_simp) ?_
      try simp only [Act.put, List.setIfInBounds_toArray, List.set_cons_zero, List.set_cons_succ]
      refine held_value 9 76 (.int .i64 (i : Int)) rfl rfl (by kernel_rfl) (by kernel_rfl) (by kernel_rfl) rfl hH (fun w hw => by go_simp) ?_
      try simp only [Act.put, List.setIfInBounds_toArray, List.set_cons_zero, List.set_cons_succ]
      refine held_value 10 77 (.pointer (some ⟨b, o + i * 24, none⟩)) rfl rfl (by kernel_rfl) (by kernel_rfl) (by kernel_rfl) rfl hH (fun w hw => by go_simp) ?_
      try simp only [Act.put, List.setIfInBounds_toArray, List.set_cons_zero, List.set_cons_succ]
      refine held_pat 11 78 rowPt rfl rfl (by kernel_rfl) (by kernel_rfl) (by kernel_rfl) rfl hH rfl rfl (fun _ h => h.2.2.1) ?_
      try simp only [Act.put, List.setIfInBounds_toArray, List.set_cons_zero, List.set_cons_succ]
      refine wpAnyH_ready (rs := [12]) (by kernel_rfl) (by simp) ?_
      refine AllReadyH.cons (o := _) rfl (fun K hK => ?_) AllReadyH.nil
      go_simp
      refine (ptEqual_k _ (HT.out.below H.out.bel) V7.out VI.out (decide_eq_true rfl)).mono ?_
      rintro e wc ⟨rfl, hb⟩
      replace PA := Lib.hid (PA.out.call hb)
      replace H := Lib.hid (H.out.call hb)
      refine hK.out _ _ (⟨H.out.row 1 rfl, H.out.row 0 rfl, PA.out.has, PA.out.has⟩) (fun hN => ?_)
      clear hK K hH hb
      have hH := hN
      clear hN
      try simp only [Act.put, List.setIfInBounds_toArray, List.set_cons_zero, List.set_cons_succ]
      refine held_value 13 80 (.bool true) rfl rfl (by kernel_rfl) (by kernel_rfl) (by kernel_rfl) rfl hH (fun w hw => by go_simp) ?_
      try simp only [Act.put, List.setIfInBounds_toArray, List.set_cons_zero, List.set_cons_succ]
      refine held_value 14 81 (.bool true) rfl rfl (by kernel_rfl) (by kernel_rfl) (by kernel_rfl) rfl hH (fun w hw => by go_simp) ?_
      try simp only [Act.put, List.setIfInBounds_toArray, List.set_cons_zero, List.set_cons_succ]
      refine held_row 15 82 rowPt rfl rfl (by kernel_rfl) (by kernel_rfl) (by kernel_rfl) rfl hH rfl rfl (fun _ h => h.2.1) ?_
      try simp only [Act.put, List.setIfInBounds_toArray, List.set_cons_zero, List.set_cons_succ]
      refine held_value 16 83 (.slice (some ⟨b, o, none⟩) n c') rfl rfl (by kernel_rfl) (by kernel_rfl) (by kernel_rfl) rfl hH (fun w hw => by go_simp) ?_
      try simp only [Act.put, List.setIfInBounds_toArray, List.set_cons_zero, List.set_cons_succ]
      refine held_value 17 84 (.int .i64 (i : Int)) rfl rfl (by kernel_rfl) (by kernel_rfl) (by kernel_rfl) rfl hH (fun w hw => by go_simp) ?_
      try simp only [Act.put, List.setIfInBounds_toArray, List.set_cons_zero, List.set_cons_succ]
      refine held_value 18 85 (.pointer (some ⟨b, o + i * 24, none⟩)) rfl rfl (by kernel_rfl) (by kernel_rfl) (by kernel_rfl) rfl hH (fun w hw => by go_simp) ?_
      try simp only [Act.put, List.setIfInBounds_toArray, List.set_cons_zero, List.set_cons_succ]
      refine held_pat 19 86 rowPt rfl rfl (by kernel_rfl) (by kernel_rfl) (by kernel_rfl) rfl hH rfl rfl (fun _ h => h.2.2.2) ?_
      try simp only [Act.put, List.setIfInBounds_toArray, List.set_cons_zero, List.set_cons_succ]
      refine wpAnyH_ready (rs := [20]) (by kernel_rfl) (by simp) ?_
      refine AllReadyH.cons (o := _) rfl (fun K hK => ?_) AllReadyH.nil
      go_simp
      refine (ptEqual_k _ (HT.out.below H.out.bel) V11.out VI.out (decide_eq_true rfl)).mono ?_
      rintro e wc ⟨rfl, hb⟩
      replace PA := Lib.hid (PA.out.call hb)
      replace H := Lib.hid (H.out.call hb)
      refine hK.out _ _ (⟨H.out.row 1 rfl, H.out.row 0 rfl, PA.out.has, PA.out.has⟩) (fun hN => ?_)
      clear hK K hH hb
      have hH := hN
      clear hN
      try simp only [Act.put, List.setIfInBounds_toArray, List.set_cons_zero, List.set_cons_succ]
      refine held_value 21 88 (.bool true) rfl rfl (by kernel_rfl) (by kernel_rfl) (by kernel_rfl) rfl hH (fun w hw => by go_simp) ?_
      try simp only [Act.put, List.setIfInBounds_toArray, List.set_cons_zero, List.set_cons_succ]
      refine held_value 22 89 (.bool true) rfl rfl (by kernel_rfl) (by kernel_rfl) (by kernel_rfl) rfl hH (fun w hw => by go_simp) ?_
      try simp only [Act.put, List.setIfInBounds_toArray, List.set_cons_zero, List.set_cons_succ]
      refine wpAnyH_ready (rs := [23]) (by kernel_rfl) (by simp) ?_
      refine AllReadyH.cons (o := _) rfl (fun K hK => ?_) AllReadyH.nil
      go_simp
      refine (awake11_k _ (HT.out.below H.out.bel)).mono ?_
      rintro e wc ⟨rfl, hb⟩
      replace PA := Lib.hid (PA.out.call hb)
      replace H := Lib.hid (H.out.call hb)
      refine hK.out _ _ (⟨H.out.row 1 rfl, H.out.row 0 rfl, PA.out.has, PA.out.has⟩) (fun hN => ?_)
      clear hK K hH hb
      have hH := hN
      clear hN
      try simp only [Act.put, List.setIfInBounds_toArray, List.set_cons_zero, List.set_cons_succ]
      refine held_value 24 91 (.bool true) rfl rfl (by kernel_rfl) (by kernel_rfl) (by kernel_rfl) rfl hH (fun w hw => by go_simp) ?_
      try simp only [Act.put, List.setIfInBounds_toArray, List.set_cons_zero, List.set_cons_succ]
      refine held_value 25 4 (.bool true) rfl rfl (by kernel_rfl) (by kernel_rfl) (by kernel_rfl) rfl hH (fun w hw => by go_simp) ?_
      try simp only [Act.put, List.setIfInBounds_toArray, List.set_cons_zero, List.set_cons_succ]
      try simp only [Act.put]
      refine wpAnyH_done (by kernel_rfl) ?_ _
      refine NoPanic.normal ?_
      clear hH
      go_wp2_with fail
      go_ret
      exact ⟨rfl, HB0.out.trans (H.out.bel.mono HB0.out.size)⟩
theorem first_not {p : Nat → Bool} : ∀ n, (∀ i, i < n → p i = true) ∨ ∃ q, q < n ∧ (∀ i, i < q → p i = true) ∧ p q = false
  | 0 => .inl fun i h => by omega
  | n + 1 => by
    rcases first_not (p := p) n with h | ⟨q, h1, h2, h3⟩
    · cases hp : p n with
      | true =>
        refine .inl fun i hi => ?_
        rcases (by omega : i < n ∨ i = n) with h' | rfl
        · exact h i h'
        · exact hp
      | false => exact .inr ⟨n, by omega, h, hp⟩
    · exact .inr ⟨q, by omega, h2, h3⟩
theorem looks_walk {a : Option Addr} {n c : Nat} {N : Nat → Nat} {Z : Nat → Int} (i : Int) (w : World) (hT : Tp w) (hs : Spots w w.heap.size a n c N Z) :
    Calls Tryz.prog 3 #[.slice a n c, .int .i64 i] w fun e w' => e = .returned (.bool true) ∧ Below w.heap.size w w' := by
  by_cases hn : 6 < n
  · exact looks_many w hT hs hn
  have hn6 : n ≤ 6 := by omega
  rcases first_not (p := fun i => okS (N i) (Z i)) n with hok | ⟨q, hq, h1, h2⟩
  · by_cases h1 : i < 0
    · exact looks_neg w hT hs hn6 hok h1
    by_cases h2 : (n : Int) ≤ i
    · exact looks_far w hT hs hn6 hok h2
    obtain ⟨j, rfl⟩ := Int.eq_ofNat_of_zero_le (show 0 ≤ i by omega)
    exact looks_k w hT hs hn6 hok (by omega)
  · exact looks_none w hT hs hn6 q hq h1 h2
end Go.Proofs.YtjcfoilfdmameaaGreatDoor
