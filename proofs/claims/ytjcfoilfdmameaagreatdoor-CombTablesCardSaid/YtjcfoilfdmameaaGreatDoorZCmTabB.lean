/-
  The walk of CombTables: a table's places. No statement is proved here: lemmas for the walks.
-/
import Derived.Test.YtjcfoilfdmameaaGreatDoorZCbAwake
import Derived.Test.YtjcfoilfdmameaaGreatDoorZCbWorth
import Derived.Deep.CutRange
namespace Go.Proofs.YtjcfoilfdmameaaGreatDoor
open Go.RowKit

set_option maxRecDepth 8000 in
set_option maxHeartbeats 3200000 in
theorem tabs_atneg {a : Option Addr} {n c x : Nat} {z : Int} {k s : Nat} {i : Int} (w : World) (hT : Tp w) (hs : Sb w w.heap.size a n c x) (ok : okS n z = true) (h1 : 1 ≤ k) (h2 : k ≤ 4) (h3 : 1 ≤ s) (h4 : s ≤ 8) (hi : i < 0) :
    Calls Tryz.prog 5 #[.agg #[.slice a n c, .int .i64 z], .agg #[.int .i64 (k : Int), .int .i64 (s : Int)], .int .i64 i] w fun e w' => e = .returned (.bool true) ∧ Below w.heap.size w w' := by
  have d0 : decide (4 < (k : Int)) = false := by first | (simp; done) | (simp; omega)
  have d1 : decide (8 < (s : Int)) = false := by first | (simp; done) | (simp; omega)
  have d2 : decide ((k : Int) < 1) = false := by first | (simp; done) | (simp; omega)
  have d3 : decide (7 < (k : Int)) = false := by first | (simp; done) | (simp; omega)
  have d4 : decide ((s : Int) < 1) = false := by first | (simp; done) | (simp; omega)
  have d5 : decide (64 < (s : Int)) = false := by first | (simp; done) | (simp; omega)
  have KB := Lib.hid (show 1 ≤ k ∧ k ≤ 4 ∧ 1 ≤ s ∧ s ≤ 8 from ⟨h1, h2, h3, h4⟩)
  obtain ⟨u, hu⟩ : ∃ u, 2 ^ k = u := ⟨_, rfl⟩
  have hu16 : u ≤ 16 := by rw [← hu]; exact Nat.le_trans (Nat.pow_le_pow_right (by omega) h2) (by decide)
  have HU : Hid (((2 ^ k : Nat) : Int) = (u : Int)) := Lib.hid (by rw [hu])
  have d8 : ((u : Int) != (u : Int)) = false := by simp
  have HI : Hid (i < 0 ∨ ((2 ^ k : Nat) : Int) ≤ i) := Lib.hid (.inl hi)
  have d9 : decide (i < 0) = true := by first | (simp; done) | (simp; omega)
  have HS := Lib.hid hs
  have OK := Lib.hid ok
  clear hs ok
  have HUU := Lib.hid hu
  clear hi hu h1 h2 h3 h4
  have HT := Lib.hid hT
  clear hT
  have H := Lib.hid (Ow.start w)
  go_enter Tryz.func5, Tryz.ntmps5
  go_wp2_with (first
    | ((fail_if_success have := g3); (with_reducible apply own_boxC H); (case hgd => exact rfl); (case ho => exact rfl); (case hx => exact rfl); intro w3 g3 H' _ _; replace H := H'; clear H'; go_simp)
    | ((fail_if_success have := g4); (with_reducible apply own_boxC H); (case hgd => exact rfl); (case ho => exact rfl); (case hx => exact rfl); intro w4 g4 H' _ _; replace H := H'; clear H'; go_simp)
    | ((with_reducible apply own_loadA rowSpK ?hC H); (case hgd => exact rfl); (case ho => exact rfl); (case hx => exact rfl); (case hi => first | exact at0 | exact at1 | exact at2 | exact at3 | exact at4 | exact at5 | exact at6 | exact at7 | exact at8 | exact at9); (case hC => exact rfl); intro _ _; go_simp)
    | ((fail_if_success have := mk1); (with_reducible refine (made11_any OK.out _ (HT.out.below H.out.bel) ((HS.out.below H.out.bel).more H.out.bel.size)).mono ?_); rintro e wc ⟨v1, r1, P, rfl, hv, hw, hb⟩; replace H := Lib.hid (H.out.call hb); have V1 := Lib.hid hv; have W1 := Lib.hid hw; have mk1 := trivial; clear hb hv hw)
    | ((fail_if_success have := g7); (with_reducible apply own_alloc nilPt H); (case hgd => exact rfl); (case ho => exact rfl); intro w7 g7 H' _ _; replace H := H'; clear H'; go_simp)
    | ((fail_if_success have := g8); (with_reducible apply own_alloc nilQt H); (case hgd => exact rfl); (case ho => exact rfl); intro w8 g8 H' _ _; replace H := H'; clear H'; go_simp)
    | ((with_reducible apply own_store rowPt H); (case hgd => exact rfl); (case ho => exact rfl); (case hx => exact rfl); (case hy => exact rfl); (case hi => first | exact at0 | exact at1 | exact at2 | exact at3 | exact at4 | exact at5 | exact at6 | exact at7 | exact at8 | exact at9); intro ws H' _ _; replace H := H'; clear H'; simp only [List.set_cons_zero, List.set_cons_succ] at H; go_simp)
    | ((with_reducible apply own_store rowQt H); (case hgd => exact rfl); (case ho => exact rfl); (case hx => exact rfl); (case hy => exact rfl); (case hi => first | exact at0 | exact at1 | exact at2 | exact at3 | exact at4 | exact at5 | exact at6 | exact at7 | exact at8 | exact at9); intro ws H' _ _; replace H := H'; clear H'; simp only [List.set_cons_zero] at H; go_simp)
    | ((with_reducible refine cd_undef ?gd ?hd ?hv ?h); (case gd => exact rfl); (case hd => exact rfl); (case hv => exact rfl); intro _ _; go_simp)
    | ((with_reducible refine cd_other ?gd ?hd ?hv ?h); (case gd => exact rfl); (case hd => exact rfl); (case hv => exact rfl); intro _ _; go_simp)
    | ((with_reducible apply own_loadC cellIn H); (case hgd => exact rfl); (case ho => exact rfl); (case hx => exact rfl); (case hi => first | exact at0 | exact at1 | exact at2 | exact at3 | exact at4 | exact at5 | exact at6 | exact at7 | exact at8 | exact at9); (case hj => exact rfl); intro _ _; go_simp)
    | ((with_reducible apply own_loadCg cellIn H); (case hw => exact rfl); (case ho => exact rfl); (case hx => exact rfl); (case hi => first | exact at0 | exact at1 | exact at2 | exact at3 | exact at4 | exact at5 | exact at6 | exact at7 | exact at8 | exact at9); (case hj => exact rfl); intro _ _; go_simp)
    | ((with_reducible apply own_load rowPt H); (case hgd => exact rfl); (case ho => exact rfl); (case hx => exact rfl); (case hi => first | exact at0 | exact at1 | exact at2 | exact at3 | exact at4 | exact at5 | exact at6 | exact at7 | exact at8 | exact at9); intro _ _; go_simp)
    | ((fail_if_success have := mk2); (with_reducible refine (cnew_k _ (HT.out.below H.out.bel) V1.out k s _ _ rfl rfl KB.out.1 (Nat.le_trans KB.out.2.1 (by omega)) KB.out.2.2.1 (Nat.le_trans KB.out.2.2.2 (by omega))).mono ?_); rintro e wc ⟨gt, L, rfl, hn, ht, hb⟩; replace H := Lib.hid (H.out.append hb hn); have TB := Lib.hid ht; have mk2 := trivial; clear hb ht hn))
  go_loop [12, 13] (fun v12 v13 => ∃ r : Nat, r ≤ k ∧ v13 = .int .i64 r ∧ v12 = .int .i64 ((2 ^ r : Nat) : Int)) (fun _ v13 => k - (intOf v13).toNat)
  case atStart => exact ⟨0, Nat.zero_le _, rfl, rfl⟩
  case round =>
    obtain ⟨r, hr, rfl, rfl⟩ := hrel
    by_cases hrk : r < k
    · have hid : decide ((r : Int) < (k : Int)) = true := by simp; omega
      have hk4 := KB.out.2.1
      obtain ⟨y, hy⟩ : ∃ y, 2 ^ r = y := ⟨_, rfl⟩
      have y16 : y ≤ 16 := by rw [← hy]; exact Nat.le_trans (Nat.pow_le_pow_right (by omega) (show r ≤ 4 by omega)) (by decide)
      obtain ⟨v, hv⟩ : ∃ v, 2 * y = v := ⟨_, rfl⟩
      have e5 : 2 * (y : Int) = (v : Int) := by omega
      have f5 : IntKind.i64.wrap (v : Int) = (v : Int) := IntWalk.i64_in _ (by omega)
      have HV : Hid (v = 2 ^ (r + 1)) := Lib.hid (by rw [← hv, ← hy, Nat.pow_succ, Nat.mul_comm])
      rw [hy]
      have f6 : IntKind.i64.wrap ((r : Int) + 1) = (r : Int) + 1 := IntWalk.i64_in _ (by omega)
      clear hy hv
      go_wp2_with (first
        | ((with_reducible apply own_loadC cellIn H); (case hgd => exact rfl); (case ho => exact rfl); (case hx => exact rfl); (case hi => first | exact at0 | exact at1 | exact at2 | exact at3 | exact at4 | exact at5 | exact at6 | exact at7 | exact at8 | exact at9); (case hj => exact rfl); intro _ _; go_simp))
      go_round
      case rel => exact ⟨r + 1, by omega, by go_num, by rw [HV.out]⟩
      case measure => (simp [intOf] <;> omega)
    · obtain rfl : r = k := by omega
      have hid : decide ((r : Int) < (r : Int)) = false := by simp
      rw [HUU.out]
      clear hrk hr HUU
      go_wp2_with (first
        | ((with_reducible apply own_loadC cellIn H); (case hgd => exact rfl); (case ho => exact rfl); (case hx => exact rfl); (case hi => first | exact at0 | exact at1 | exact at2 | exact at3 | exact at4 | exact at5 | exact at6 | exact at7 | exact at8 | exact at9); (case hj => exact rfl); intro _ _; go_simp)
        | ((fail_if_success have := mk3); (with_reducible refine (tlen_k _ (TB.out _ fun x hx => H.out.has x (by simp [hx])) (u : Int) HU.out).mono ?_); rintro e wc ⟨rfl, hb⟩; replace H := Lib.hid (H.out.call hb); have mk3 := trivial; clear hb)
        | ((fail_if_success have := mk4); (with_reducible refine (tlook_bad _ (HT.out.below H.out.bel) (TB.out _ fun x hx => H.out.has x (by simp [hx])) i HI.out).mono ?_); rintro e wc ⟨q1, rfl, hb⟩; replace H := Lib.hid (H.out.call hb); have mk4 := trivial; clear hb)
        | ((fail_if_success have := g14); (with_reducible apply own_alloc nilPt H); (case hgd => exact rfl); (case ho => exact rfl); intro w14 g14 H' _ _; replace H := H'; clear H'; go_simp)
        | ((with_reducible apply own_store rowPt H); (case hgd => exact rfl); (case ho => exact rfl); (case hx => exact rfl); (case hy => exact rfl); (case hi => first | exact at0 | exact at1 | exact at2 | exact at3 | exact at4 | exact at5 | exact at6 | exact at7 | exact at8 | exact at9); intro ws H' _ _; replace H := H'; clear H'; simp only [List.set_cons_zero] at H; go_simp)
        | ((with_reducible refine (awake11_k _ (HT.out.below H.out.bel)).mono ?_); rintro e wc ⟨rfl, hb⟩; replace H := Lib.hid (H.out.call hb); clear hb))
      go_ret
      exact ⟨rfl, H.out.bel⟩
set_option maxRecDepth 8000 in
set_option maxHeartbeats 3200000 in
theorem tabs_atfar {a : Option Addr} {n c x : Nat} {z : Int} {k s : Nat} {i : Int} (w : World) (hT : Tp w) (hs : Sb w w.heap.size a n c x) (ok : okS n z = true) (h1 : 1 ≤ k) (h2 : k ≤ 4) (h3 : 1 ≤ s) (h4 : s ≤ 8) (hi : ((2 ^ k : Nat) : Int) ≤ i) :
    Calls Tryz.prog 5 #[.agg #[.slice a n c, .int .i64 z], .agg #[.int .i64 (k : Int), .int .i64 (s : Int)], .int .i64 i] w fun e w' => e = .returned (.bool true) ∧ Below w.heap.size w w' := by
  have d0 : decide (4 < (k : Int)) = false := by first | (simp; done) | (simp; omega)
  have d1 : decide (8 < (s : Int)) = false := by first | (simp; done) | (simp; omega)
  have d2 : decide ((k : Int) < 1) = false := by first | (simp; done) | (simp; omega)
  have d3 : decide (7 < (k : Int)) = false := by first | (simp; done) | (simp; omega)
  have d4 : decide ((s : Int) < 1) = false := by first | (simp; done) | (simp; omega)
  have d5 : decide (64 < (s : Int)) = false := by first | (simp; done) | (simp; omega)
  have KB := Lib.hid (show 1 ≤ k ∧ k ≤ 4 ∧ 1 ≤ s ∧ s ≤ 8 from ⟨h1, h2, h3, h4⟩)
  obtain ⟨u, hu⟩ : ∃ u, 2 ^ k = u := ⟨_, rfl⟩
  have hu16 : u ≤ 16 := by rw [← hu]; exact Nat.le_trans (Nat.pow_le_pow_right (by omega) h2) (by decide)
  have HU : Hid (((2 ^ k : Nat) : Int) = (u : Int)) := Lib.hid (by rw [hu])
  have d8 : ((u : Int) != (u : Int)) = false := by simp
  have HI : Hid (i < 0 ∨ ((2 ^ k : Nat) : Int) ≤ i) := Lib.hid (.inr hi)
  rw [hu] at hi
  have d9 : decide (i < 0) = false := by first | (simp; done) | (simp; omega)
  have d10 : decide ((u : Int) ≤ i) = true := by first | (simp; done) | (simp; omega)
  have HS := Lib.hid hs
  have OK := Lib.hid ok
  clear hs ok
  have HUU := Lib.hid hu
  clear hi hu h1 h2 h3 h4
  have HT := Lib.hid hT
  clear hT
  have H := Lib.hid (Ow.start w)
  go_enter Tryz.func5, Tryz.ntmps5
  go_wp2_with (first
    | ((fail_if_success have := g3); (with_reducible apply own_boxC H); (case hgd => exact rfl); (case ho => exact rfl); (case hx => exact rfl); intro w3 g3 H' _ _; replace H := H'; clear H'; go_simp)
    | ((fail_if_success have := g4); (with_reducible apply own_boxC H); (case hgd => exact rfl); (case ho => exact rfl); (case hx => exact rfl); intro w4 g4 H' _ _; replace H := H'; clear H'; go_simp)
    | ((with_reducible apply own_loadA rowSpK ?hC H); (case hgd => exact rfl); (case ho => exact rfl); (case hx => exact rfl); (case hi => first | exact at0 | exact at1 | exact at2 | exact at3 | exact at4 | exact at5 | exact at6 | exact at7 | exact at8 | exact at9); (case hC => exact rfl); intro _ _; go_simp)
    | ((fail_if_success have := mk1); (with_reducible refine (made11_any OK.out _ (HT.out.below H.out.bel) ((HS.out.below H.out.bel).more H.out.bel.size)).mono ?_); rintro e wc ⟨v1, r1, P, rfl, hv, hw, hb⟩; replace H := Lib.hid (H.out.call hb); have V1 := Lib.hid hv; have W1 := Lib.hid hw; have mk1 := trivial; clear hb hv hw)
    | ((fail_if_success have := g7); (with_reducible apply own_alloc nilPt H); (case hgd => exact rfl); (case ho => exact rfl); intro w7 g7 H' _ _; replace H := H'; clear H'; go_simp)
    | ((fail_if_success have := g8); (with_reducible apply own_alloc nilQt H); (case hgd => exact rfl); (case ho => exact rfl); intro w8 g8 H' _ _; replace H := H'; clear H'; go_simp)
    | ((with_reducible apply own_store rowPt H); (case hgd => exact rfl); (case ho => exact rfl); (case hx => exact rfl); (case hy => exact rfl); (case hi => first | exact at0 | exact at1 | exact at2 | exact at3 | exact at4 | exact at5 | exact at6 | exact at7 | exact at8 | exact at9); intro ws H' _ _; replace H := H'; clear H'; simp only [List.set_cons_zero, List.set_cons_succ] at H; go_simp)
    | ((with_reducible apply own_store rowQt H); (case hgd => exact rfl); (case ho => exact rfl); (case hx => exact rfl); (case hy => exact rfl); (case hi => first | exact at0 | exact at1 | exact at2 | exact at3 | exact at4 | exact at5 | exact at6 | exact at7 | exact at8 | exact at9); intro ws H' _ _; replace H := H'; clear H'; simp only [List.set_cons_zero] at H; go_simp)
    | ((with_reducible refine cd_undef ?gd ?hd ?hv ?h); (case gd => exact rfl); (case hd => exact rfl); (case hv => exact rfl); intro _ _; go_simp)
    | ((with_reducible refine cd_other ?gd ?hd ?hv ?h); (case gd => exact rfl); (case hd => exact rfl); (case hv => exact rfl); intro _ _; go_simp)
    | ((with_reducible apply own_loadC cellIn H); (case hgd => exact rfl); (case ho => exact rfl); (case hx => exact rfl); (case hi => first | exact at0 | exact at1 | exact at2 | exact at3 | exact at4 | exact at5 | exact at6 | exact at7 | exact at8 | exact at9); (case hj => exact rfl); intro _ _; go_simp)
    | ((with_reducible apply own_loadCg cellIn H); (case hw => exact rfl); (case ho => exact rfl); (case hx => exact rfl); (case hi => first | exact at0 | exact at1 | exact at2 | exact at3 | exact at4 | exact at5 | exact at6 | exact at7 | exact at8 | exact at9); (case hj => exact rfl); intro _ _; go_simp)
    | ((with_reducible apply own_load rowPt H); (case hgd => exact rfl); (case ho => exact rfl); (case hx => exact rfl); (case hi => first | exact at0 | exact at1 | exact at2 | exact at3 | exact at4 | exact at5 | exact at6 | exact at7 | exact at8 | exact at9); intro _ _; go_simp)
    | ((fail_if_success have := mk2); (with_reducible refine (cnew_k _ (HT.out.below H.out.bel) V1.out k s _ _ rfl rfl KB.out.1 (Nat.le_trans KB.out.2.1 (by omega)) KB.out.2.2.1 (Nat.le_trans KB.out.2.2.2 (by omega))).mono ?_); rintro e wc ⟨gt, L, rfl, hn, ht, hb⟩; replace H := Lib.hid (H.out.append hb hn); have TB := Lib.hid ht; have mk2 := trivial; clear hb ht hn))
  go_loop [12, 13] (fun v12 v13 => ∃ r : Nat, r ≤ k ∧ v13 = .int .i64 r ∧ v12 = .int .i64 ((2 ^ r : Nat) : Int)) (fun _ v13 => k - (intOf v13).toNat)
  case atStart => exact ⟨0, Nat.zero_le _, rfl, rfl⟩
  case round =>
    obtain ⟨r, hr, rfl, rfl⟩ := hrel
    by_cases hrk : r < k
    · have hid : decide ((r : Int) < (k : Int)) = true := by simp; omega
      have hk4 := KB.out.2.1
      obtain ⟨y, hy⟩ : ∃ y, 2 ^ r = y := ⟨_, rfl⟩
      have y16 : y ≤ 16 := by rw [← hy]; exact Nat.le_trans (Nat.pow_le_pow_right (by omega) (show r ≤ 4 by omega)) (by decide)
      obtain ⟨v, hv⟩ : ∃ v, 2 * y = v := ⟨_, rfl⟩
      have e5 : 2 * (y : Int) = (v : Int) := by omega
      have f5 : IntKind.i64.wrap (v : Int) = (v : Int) := IntWalk.i64_in _ (by omega)
      have HV : Hid (v = 2 ^ (r + 1)) := Lib.hid (by rw [← hv, ← hy, Nat.pow_succ, Nat.mul_comm])
      rw [hy]
      have f6 : IntKind.i64.wrap ((r : Int) + 1) = (r : Int) + 1 := IntWalk.i64_in _ (by omega)
      clear hy hv
      go_wp2_with (first
        | ((with_reducible apply own_loadC cellIn H); (case hgd => exact rfl); (case ho => exact rfl); (case hx => exact rfl); (case hi => first | exact at0 | exact at1 | exact at2 | exact at3 | exact at4 | exact at5 | exact at6 | exact at7 | exact at8 | exact at9); (case hj => exact rfl); intro _ _; go_simp))
      go_round
      case rel => exact ⟨r + 1, by omega, by go_num, by rw [HV.out]⟩
      case measure => (simp [intOf] <;> omega)
    · obtain rfl : r = k := by omega
      have hid : decide ((r : Int) < (r : Int)) = false := by simp
      rw [HUU.out]
      clear hrk hr HUU
      go_wp2_with (first
        | ((with_reducible apply own_loadC cellIn H); (case hgd => exact rfl); (case ho => exact rfl); (case hx => exact rfl); (case hi => first | exact at0 | exact at1 | exact at2 | exact at3 | exact at4 | exact at5 | exact at6 | exact at7 | exact at8 | exact at9); (case hj => exact rfl); intro _ _; go_simp)
        | ((fail_if_success have := mk3); (with_reducible refine (tlen_k _ (TB.out _ fun x hx => H.out.has x (by simp [hx])) (u : Int) HU.out).mono ?_); rintro e wc ⟨rfl, hb⟩; replace H := Lib.hid (H.out.call hb); have mk3 := trivial; clear hb)
        | ((fail_if_success have := mk4); (with_reducible refine (tlook_bad _ (HT.out.below H.out.bel) (TB.out _ fun x hx => H.out.has x (by simp [hx])) i HI.out).mono ?_); rintro e wc ⟨q1, rfl, hb⟩; replace H := Lib.hid (H.out.call hb); have mk4 := trivial; clear hb)
        | ((fail_if_success have := g14); (with_reducible apply own_alloc nilPt H); (case hgd => exact rfl); (case ho => exact rfl); intro w14 g14 H' _ _; replace H := H'; clear H'; go_simp)
        | ((with_reducible apply own_store rowPt H); (case hgd => exact rfl); (case ho => exact rfl); (case hx => exact rfl); (case hy => exact rfl); (case hi => first | exact at0 | exact at1 | exact at2 | exact at3 | exact at4 | exact at5 | exact at6 | exact at7 | exact at8 | exact at9); intro ws H' _ _; replace H := H'; clear H'; simp only [List.set_cons_zero] at H; go_simp)
        | ((with_reducible refine (awake11_k _ (HT.out.below H.out.bel)).mono ?_); rintro e wc ⟨rfl, hb⟩; replace H := Lib.hid (H.out.call hb); clear hb))
      go_ret
      exact ⟨rfl, H.out.bel⟩
set_option maxRecDepth 8000 in
set_option maxHeartbeats 3200000 in
theorem tabs_atk {a : Option Addr} {n c x : Nat} {z : Int} {k s : Nat} {j m : Nat} (w : World) (hT : Tp w) (hs : Sb w w.heap.size a n c x) (ok : okS n z = true) (h1 : 1 ≤ k) (h2 : k ≤ 4) (h3 : 1 ≤ s) (h4 : s ≤ 8) (hm : (8 * s + k - 1) / k = m) (hi : j < 2 ^ k) :
    Calls Tryz.prog 5 #[.agg #[.slice a n c, .int .i64 z], .agg #[.int .i64 (k : Int), .int .i64 (s : Int)], .int .i64 (j : Int)] w fun e w' => e = .returned (.bool true) ∧ Below w.heap.size w w' := by
  have d0 : decide (4 < (k : Int)) = false := by first | (simp; done) | (simp; omega)
  have d1 : decide (8 < (s : Int)) = false := by first | (simp; done) | (simp; omega)
  have d2 : decide ((k : Int) < 1) = false := by first | (simp; done) | (simp; omega)
  have d3 : decide (7 < (k : Int)) = false := by first | (simp; done) | (simp; omega)
  have d4 : decide ((s : Int) < 1) = false := by first | (simp; done) | (simp; omega)
  have d5 : decide (64 < (s : Int)) = false := by first | (simp; done) | (simp; omega)
  have KB := Lib.hid (show 1 ≤ k ∧ k ≤ 4 ∧ 1 ≤ s ∧ s ≤ 8 from ⟨h1, h2, h3, h4⟩)
  obtain ⟨u, hu⟩ : ∃ u, 2 ^ k = u := ⟨_, rfl⟩
  have hu16 : u ≤ 16 := by rw [← hu]; exact Nat.le_trans (Nat.pow_le_pow_right (by omega) h2) (by decide)
  have HU : Hid (((2 ^ k : Nat) : Int) = (u : Int)) := Lib.hid (by rw [hu])
  have d8 : ((u : Int) != (u : Int)) = false := by simp
  have HJ := Lib.hid hi
  rw [hu] at hi
  have HM := Lib.hid hm
  have HJ5 := Lib.hid (show j ≤ 1000 by omega)
  have d9 : decide ((j : Int) < 0) = false := by first | (simp; done) | (simp; omega)
  have d10 : decide (u ≤ j) = false := by first | (simp; done) | (simp; omega)
  have HS := Lib.hid hs
  have OK := Lib.hid ok
  clear hs ok
  have HUU := Lib.hid hu
  clear hi hu h1 h2 h3 h4 hm
  have HT := Lib.hid hT
  clear hT
  have H := Lib.hid (Ow.start w)
  go_enter Tryz.func5, Tryz.ntmps5
  go_wp2_with (first
    | ((fail_if_success have := g3); (with_reducible apply own_boxC H); (case hgd => exact rfl); (case ho => exact rfl); (case hx => exact rfl); intro w3 g3 H' _ _; replace H := H'; clear H'; go_simp)
    | ((fail_if_success have := g4); (with_reducible apply own_boxC H); (case hgd => exact rfl); (case ho => exact rfl); (case hx => exact rfl); intro w4 g4 H' _ _; replace H := H'; clear H'; go_simp)
    | ((with_reducible apply own_loadA rowSpK ?hC H); (case hgd => exact rfl); (case ho => exact rfl); (case hx => exact rfl); (case hi => first | exact at0 | exact at1 | exact at2 | exact at3 | exact at4 | exact at5 | exact at6 | exact at7 | exact at8 | exact at9); (case hC => exact rfl); intro _ _; go_simp)
    | ((fail_if_success have := mk1); (with_reducible refine (made11_any OK.out _ (HT.out.below H.out.bel) ((HS.out.below H.out.bel).more H.out.bel.size)).mono ?_); rintro e wc ⟨v1, r1, P, rfl, hv, hw, hb⟩; replace H := Lib.hid (H.out.call hb); have V1 := Lib.hid hv; have W1 := Lib.hid hw; have mk1 := trivial; clear hb hv hw)
    | ((fail_if_success have := g7); (with_reducible apply own_alloc nilPt H); (case hgd => exact rfl); (case ho => exact rfl); intro w7 g7 H' _ _; replace H := H'; clear H'; go_simp)
    | ((fail_if_success have := g8); (with_reducible apply own_alloc nilQt H); (case hgd => exact rfl); (case ho => exact rfl); intro w8 g8 H' _ _; replace H := H'; clear H'; go_simp)
    | ((with_reducible apply own_store rowPt H); (case hgd => exact rfl); (case ho => exact rfl); (case hx => exact rfl); (case hy => exact rfl); (case hi => first | exact at0 | exact at1 | exact at2 | exact at3 | exact at4 | exact at5 | exact at6 | exact at7 | exact at8 | exact at9); intro ws H' _ _; replace H := H'; clear H'; simp only [List.set_cons_zero, List.set_cons_succ] at H; go_simp)
    | ((with_reducible apply own_store rowQt H); (case hgd => exact rfl); (case ho => exact rfl); (case hx => exact rfl); (case hy => exact rfl); (case hi => first | exact at0 | exact at1 | exact at2 | exact at3 | exact at4 | exact at5 | exact at6 | exact at7 | exact at8 | exact at9); intro ws H' _ _; replace H := H'; clear H'; simp only [List.set_cons_zero] at H; go_simp)
    | ((with_reducible refine cd_undef ?gd ?hd ?hv ?h); (case gd => exact rfl); (case hd => exact rfl); (case hv => exact rfl); intro _ _; go_simp)
    | ((with_reducible refine cd_other ?gd ?hd ?hv ?h); (case gd => exact rfl); (case hd => exact rfl); (case hv => exact rfl); intro _ _; go_simp)
    | ((with_reducible apply own_loadC cellIn H); (case hgd => exact rfl); (case ho => exact rfl); (case hx => exact rfl); (case hi => first | exact at0 | exact at1 | exact at2 | exact at3 | exact at4 | exact at5 | exact at6 | exact at7 | exact at8 | exact at9); (case hj => exact rfl); intro _ _; go_simp)
    | ((with_reducible apply own_loadCg cellIn H); (case hw => exact rfl); (case ho => exact rfl); (case hx => exact rfl); (case hi => first | exact at0 | exact at1 | exact at2 | exact at3 | exact at4 | exact at5 | exact at6 | exact at7 | exact at8 | exact at9); (case hj => exact rfl); intro _ _; go_simp)
    | ((with_reducible apply own_load rowPt H); (case hgd => exact rfl); (case ho => exact rfl); (case hx => exact rfl); (case hi => first | exact at0 | exact at1 | exact at2 | exact at3 | exact at4 | exact at5 | exact at6 | exact at7 | exact at8 | exact at9); intro _ _; go_simp)
    | ((fail_if_success have := mk2); (with_reducible refine (cnew_k _ (HT.out.below H.out.bel) V1.out k s _ _ rfl rfl KB.out.1 (Nat.le_trans KB.out.2.1 (by omega)) KB.out.2.2.1 (Nat.le_trans KB.out.2.2.2 (by omega))).mono ?_); rintro e wc ⟨gt, L, rfl, hn, ht, hb⟩; replace H := Lib.hid (H.out.append hb hn); have TB := Lib.hid ht; have mk2 := trivial; clear hb ht hn))
  go_loop [12, 13] (fun v12 v13 => ∃ r : Nat, r ≤ k ∧ v13 = .int .i64 r ∧ v12 = .int .i64 ((2 ^ r : Nat) : Int)) (fun _ v13 => k - (intOf v13).toNat)
  case atStart => exact ⟨0, Nat.zero_le _, rfl, rfl⟩
  case round =>
    obtain ⟨r, hr, rfl, rfl⟩ := hrel
    by_cases hrk : r < k
    · have hid : decide ((r : Int) < (k : Int)) = true := by simp; omega
      have hk4 := KB.out.2.1
      obtain ⟨y, hy⟩ : ∃ y, 2 ^ r = y := ⟨_, rfl⟩
      have y16 : y ≤ 16 := by rw [← hy]; exact Nat.le_trans (Nat.pow_le_pow_right (by omega) (show r ≤ 4 by omega)) (by decide)
      obtain ⟨v, hv⟩ : ∃ v, 2 * y = v := ⟨_, rfl⟩
      have e5 : 2 * (y : Int) = (v : Int) := by omega
      have f5 : IntKind.i64.wrap (v : Int) = (v : Int) := IntWalk.i64_in _ (by omega)
      have HV : Hid (v = 2 ^ (r + 1)) := Lib.hid (by rw [← hv, ← hy, Nat.pow_succ, Nat.mul_comm])
      rw [hy]
      have f6 : IntKind.i64.wrap ((r : Int) + 1) = (r : Int) + 1 := IntWalk.i64_in _ (by omega)
      clear hy hv
      go_wp2_with (first
        | ((with_reducible apply own_loadC cellIn H); (case hgd => exact rfl); (case ho => exact rfl); (case hx => exact rfl); (case hi => first | exact at0 | exact at1 | exact at2 | exact at3 | exact at4 | exact at5 | exact at6 | exact at7 | exact at8 | exact at9); (case hj => exact rfl); intro _ _; go_simp))
      go_round
      case rel => exact ⟨r + 1, by omega, by go_num, by rw [HV.out]⟩
      case measure => (simp [intOf] <;> omega)
    · obtain rfl : r = k := by omega
      have hid : decide ((r : Int) < (r : Int)) = false := by simp
      rw [HUU.out]
      clear hrk hr HUU
      go_upto_region 17 with (first
        | ((with_reducible apply own_loadC cellIn H); (case hgd => exact rfl); (case ho => exact rfl); (case hx => exact rfl); (case hi => first | exact at0 | exact at1 | exact at2 | exact at3 | exact at4 | exact at5 | exact at6 | exact at7 | exact at8 | exact at9); (case hj => exact rfl); intro _ _; go_simp)
        | ((fail_if_success have := mk3); (with_reducible refine (tlen_k _ (TB.out _ fun x hx => H.out.has x (by simp [hx])) (u : Int) HU.out).mono ?_); rintro e wc ⟨rfl, hb⟩; replace H := Lib.hid (H.out.call hb); have mk3 := trivial; clear hb)
        | ((fail_if_success have := mk4); (with_reducible refine (tlook_k _ (HT.out.below H.out.bel) (TB.out _ fun x hx => H.out.has x (by simp [hx])) HM.out j HJ.out _ rfl).mono ?_); rintro e wc ⟨q1, rfl, hv, hb⟩; replace H := Lib.hid (H.out.call hb); have V2 := Lib.hid hv; have mk4 := trivial; clear hb hv)
        | ((fail_if_success have := g14); (with_reducible apply own_alloc nilPt H); (case hgd => exact rfl); (case ho => exact rfl); intro w14 g14 H' _ _; replace H := H'; clear H'; go_simp)
        | ((with_reducible apply own_store rowPt H); (case hgd => exact rfl); (case ho => exact rfl); (case hx => exact rfl); (case hy => exact rfl); (case hi => first | exact at0 | exact at1 | exact at2 | exact at3 | exact at4 | exact at5 | exact at6 | exact at7 | exact at8 | exact at9); intro ws H' _ _; replace H := H'; clear H'; simp only [List.set_cons_zero] at H; go_simp))
      clear TB HU d0 d1 d2 d3 d4 d5 d8
      refine wp_region_noPanic ?_
      refine wp_region_held_drew (S := fun W => W.heap[g14]? = some (Blk 32 .u64 24 (q1)) ∧ W.heap[g4]? = some (Cs 55 #[.int .i64 (r : Int), .int .i64 (s : Int)]) ∧ W.heap[g8]? = some (Blk 45 .i64 48 (r1))) (by kernel_rfl) (⟨H.out.drew.row 0 rfl, H.out.drew.row 3 rfl, H.out.drew.row 1 rfl⟩) (fun hH => ?_)
      replace H := Lib.hid H.out.drew
      generalize World.drew _ = w8 at *
      refine held_value 0 119 (.int .i64 0) rfl rfl (by kernel_rfl) (by kernel_rfl) (by kernel_rfl) rfl hH (fun w hw => by go_simp) ?_
      try simp only [Act.put, List.setIfInBounds_toArray, List.set_cons_zero, List.set_cons_succ]
      refine held_value 1 120 (.bool true) rfl rfl (by kernel_rfl) (by kernel_rfl) (by kernel_rfl) rfl hH (fun w hw => by go_simp) ?_
      try simp only [Act.put, List.setIfInBounds_toArray, List.set_cons_zero, List.set_cons_succ]
      refine held_value 2 121 (.bool true) rfl rfl (by kernel_rfl) (by kernel_rfl) (by kernel_rfl) rfl hH (fun w hw => by go_simp) ?_
      try simp only [Act.put, List.setIfInBounds_toArray, List.set_cons_zero, List.set_cons_succ]
      refine held_row 3 122 rowPt rfl rfl (by kernel_rfl) (by kernel_rfl) (by kernel_rfl) rfl hH rfl rfl (fun _ h => h.1) ?_
      try simp only [Act.put, List.setIfInBounds_toArray, List.set_cons_zero, List.set_cons_succ]
      refine held_value 4 123 (.int .i64 (j : Int)) rfl rfl (by kernel_rfl) (by kernel_rfl) (by kernel_rfl) rfl hH (fun w hw => by go_simp) ?_
      try simp only [Act.put, List.setIfInBounds_toArray, List.set_cons_zero, List.set_cons_succ]
      refine held_value 5 124 (.pointer (some ⟨g4, 0, none⟩)) rfl rfl (by kernel_rfl) (by kernel_rfl) (by kernel_rfl) rfl hH (fun w hw => by go_simp) ?_
      try simp only [Act.put, List.setIfInBounds_toArray, List.set_cons_zero, List.set_cons_succ]
      refine held_C 6 125 cellIn rfl rfl (by kernel_rfl) (by kernel_rfl) (by kernel_rfl) rfl hH rfl rfl (fun _ h => h.2.1) rfl ?_
      try simp only [Act.put, List.setIfInBounds_toArray, List.set_cons_zero, List.set_cons_succ]
      refine held_value 7 126 (.pointer (some ⟨g4, 1, none⟩)) rfl rfl (by kernel_rfl) (by kernel_rfl) (by kernel_rfl) rfl hH (fun w hw => by go_simp) ?_
      try simp only [Act.put, List.setIfInBounds_toArray, List.set_cons_zero, List.set_cons_succ]
      refine held_C 8 127 cellIn rfl rfl (by kernel_rfl) (by kernel_rfl) (by kernel_rfl) rfl hH rfl rfl (fun _ h => h.2.1) rfl ?_
      try simp only [Act.put, List.setIfInBounds_toArray, List.set_cons_zero, List.set_cons_succ]
      refine held_row 10 129 rowQt rfl rfl (by kernel_rfl) (by kernel_rfl) (by kernel_rfl) rfl hH rfl rfl (fun _ h => h.2.2) ?_
      try simp only [Act.put, List.setIfInBounds_toArray, List.set_cons_zero, List.set_cons_succ]
      refine wpAnyH_ready (rs := [9]) (by kernel_rfl) (by simp) ?_
      refine AllReadyH.cons (o := _) rfl (fun K hK => ?_) AllReadyH.nil
      go_simp
      refine (refWorth_x j r s m _ HJ5.out KB.out.1 (Nat.le_trans KB.out.2.1 (by omega)) KB.out.2.2.1 (Nat.le_trans KB.out.2.2.2 (by omega)) HM.out).mono ?_
      rintro e wc ⟨ge128, ne128, rfl, hn, hs, hb⟩
      replace H := Lib.hid (H.out.call hb)
      have SE128 := Lib.hid hs
      have NE128 := Lib.hid hn
      refine hK.out _ _ (⟨H.out.row 0 rfl, H.out.row 3 rfl, H.out.row 1 rfl⟩) (fun hN => ?_)
      clear hK K hH hb hs hn
      have hH := hN
      clear hN
      try simp only [Act.put, List.setIfInBounds_toArray, List.set_cons_zero, List.set_cons_succ]
      refine wpAnyH_ready (rs := [11]) (by kernel_rfl) (by simp) ?_
      refine AllReadyH.cons (o := _) rfl (fun K hK => ?_) AllReadyH.nil
      go_simp
      refine (refTimes_k _ _ _ _ _ NE128.out SE128.out W1.out).mono ?_
      rintro e wc ⟨r130, rfl, hv, hb⟩
      replace SE128 := Lib.hid (SE128.out.call hb)
      replace H := Lib.hid (H.out.call hb)
      have HV130 := Lib.hid hv
      refine hK.out _ _ (⟨H.out.row 0 rfl, H.out.row 3 rfl, H.out.row 1 rfl⟩) (fun hN => ?_)
      clear hK K hH hb hv
      have hH := hN
      clear hN
      try simp only [Act.put, List.setIfInBounds_toArray, List.set_cons_zero, List.set_cons_succ]
      refine wpAnyH_ready (rs := [12]) (by kernel_rfl) (by simp) ?_
      refine AllReadyH.cons (o := _) rfl (fun K hK => ?_) AllReadyH.nil
      go_simp
      refine (same11_k _ V2.out HV130.out).mono ?_
      rintro e wc ⟨rfl, hb⟩
      replace SE128 := Lib.hid (SE128.out.call hb)
      replace H := Lib.hid (H.out.call hb)
      refine hK.out _ _ (⟨H.out.row 0 rfl, H.out.row 3 rfl, H.out.row 1 rfl⟩) (fun hN => ?_)
      clear hK K hH hb
      have hH := hN
      clear hN
      try simp only [Act.put, List.setIfInBounds_toArray, List.set_cons_zero, List.set_cons_succ]
      refine held_value 13 132 (.bool true) rfl rfl (by kernel_rfl) (by kernel_rfl) (by kernel_rfl) rfl hH (fun w hw => by go_simp) ?_
      try simp only [Act.put, List.setIfInBounds_toArray, List.set_cons_zero, List.set_cons_succ]
      refine held_value 14 133 (.bool true) rfl rfl (by kernel_rfl) (by kernel_rfl) (by kernel_rfl) rfl hH (fun w hw => by go_simp) ?_
      try simp only [Act.put, List.setIfInBounds_toArray, List.set_cons_zero, List.set_cons_succ]
      refine wpAnyH_ready (rs := [15]) (by kernel_rfl) (by simp) ?_
      refine AllReadyH.cons (o := _) rfl (fun K hK => ?_) AllReadyH.nil
      go_simp
      refine (awake11_k _ (HT.out.below H.out.bel)).mono ?_
      rintro e wc ⟨rfl, hb⟩
      replace SE128 := Lib.hid (SE128.out.call hb)
      replace H := Lib.hid (H.out.call hb)
      refine hK.out _ _ (⟨H.out.row 0 rfl, H.out.row 3 rfl, H.out.row 1 rfl⟩) (fun hN => ?_)
      clear hK K hH hb
      have hH := hN
      clear hN
      try simp only [Act.put, List.setIfInBounds_toArray, List.set_cons_zero, List.set_cons_succ]
      refine held_value 16 135 (.bool true) rfl rfl (by kernel_rfl) (by kernel_rfl) (by kernel_rfl) rfl hH (fun w hw => by go_simp) ?_
      try simp only [Act.put, List.setIfInBounds_toArray, List.set_cons_zero, List.set_cons_succ]
      refine held_value 17 6 (.bool true) rfl rfl (by kernel_rfl) (by kernel_rfl) (by kernel_rfl) rfl hH (fun w hw => by go_simp) ?_
      try simp only [Act.put, List.setIfInBounds_toArray, List.set_cons_zero, List.set_cons_succ]
      try simp only [Act.put]
      refine wpAnyH_done (by kernel_rfl) ?_ _
      refine NoPanic.normal ?_
      clear hH
      go_wp2_with fail
      go_ret
      exact ⟨rfl, H.out.bel⟩
end Go.Proofs.YtjcfoilfdmameaaGreatDoor
