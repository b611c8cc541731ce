/-
  The contracts of chicoryref04's Fits and Same, and of chicorylaw01's Bytes.
-/
import Derived.Test.YtjjdhbmlinjhjaaDoorRf4Spell
import Derived.Laws.StructEq
namespace Go.Proofs.YtjjdhbmlinjhjaaDoor
open Go.RowKit

theorem pow_56_16 : 256 ^ 56 = 268435456 ^ 16 := by decide +kernel
theorem pN_256 : pN < 256 ^ 56 := by decide +kernel
theorem bX_eq {f : Nat → BitVec 8} {m : Nat} (hm : m < 256 ^ 56) (h : ∀ i, i < 56 → f i = bX m i) : nB f 56 = m := by
  rw [nB_congr 56 h, nB_bX, Nat.mod_eq_of_lt hm]
set_option maxRecDepth 8000 in
set_option maxHeartbeats 1600000 in
theorem refFits_any (a : Option Addr) (c : Nat) (f : Nat → BitVec 8) (w : World) (hs : Sl w w.heap.size a 56 c f) :
    Calls Tryd.prog 20 #[.slice a 56 c] w fun e w' => e = .returned (.bool (decide (nB f 56 < pN))) ∧ Below w.heap.size w w' := by
  have HS := Lib.hid hs
  clear hs
  have HM : Hid (nB f 56 % pN < 256 ^ 56) := Lib.hid (Nat.lt_trans (Nat.mod_lt _ pN_pos) pN_256)
  go_enter Tryd.func20, Tryd.ntmps20
  go_wp2_with (first
    | ((with_reducible refine (refOf_any _ _ f _ HS.out).mono ?_); rintro e w1 ⟨rfl, B1⟩; have B1 := Lib.hid B1)
    | ((with_reducible refine (refBytes_any _ _).mono ?_); rintro e w2 ⟨v, rfl, N2, B2⟩; have B2 := Lib.hid (B1.out.trans (B2.mono B1.out.size)); obtain ⟨g2, c2, rfl, hg2, N2⟩ := N2; have N2 := Lib.hid N2; clear hg2))
  go_loopw [4] (fun v wr => ∃ i : Nat, i ≤ 56 ∧ v = .int .i64 i ∧ (∀ j, j < i → f j = bX (nB f 56 % pN) j) ∧ Below w2.heap.size w2 wr) (fun v _ => 56 - (intOf v).toNat)
  case atStart => exact ⟨0, by omega, rfl, fun j hj => by omega, Below.refl _ _⟩
  case round =>
    obtain ⟨i, hi, rfl, hall, HR⟩ := hrel
    by_cases hlt : i < 56
    · have hid : decide ((i : Int) < 56) = true := by simp; omega
      have i56 : (i : Int) < 56 := by omega
      obtain ⟨b, o, rfl, hbB, hcell⟩ := ((HS.out.below B2.out).more B2.out.size).get i hlt
      have hcell2 := (HR.cell (p := ⟨b, o + i, none⟩) hbB).trans hcell
      obtain ⟨b', o', e', hbB', hcell'⟩ := N2.out.get i hlt
      have e'' := Option.some.inj e'
      injection e'' with e1 e2
      subst e1 e2
      have hcell3 := (HR.cell (p := ⟨g2, 0 + i, none⟩) hbB').trans hcell'
      rw [Nat.zero_add] at hcell3
      have HH := Lib.hid HR
      have HA := Lib.hid hall
      clear HR hall e' hbB hbB' hcell hcell'
      go_wp2_with fail
      refine wp_region_still_lit (by kernel_rfl) (by kernel_rfl) ?_
      have HD := Lib.hid (Below.drew HH.out)
      have hc : wr.drew.cell? ⟨b, o + i, none⟩ = some (U (f i)) := hcell2
      have hc' : wr.drew.cell? ⟨g2, i, none⟩ = some (U (bX (nB f 56 % pN) i)) := hcell3
      clear HH hcell2 hcell3
      change wpStill _ _ wr.drew (fun a' => Exit.then _ _ Exit.normal a' wr.drew) _ _
      generalize wr.drew = w3 at *
      obtain ⟨x, hx⟩ : ∃ x, f i = x := ⟨_, rfl⟩
      obtain ⟨y, hy⟩ : ∃ y, bX (nB f 56 % pN) i = y := ⟨_, rfl⟩
      rw [hx] at hc
      rw [hy] at hc'
      have HX := Lib.hid hx
      have HY := Lib.hid hy
      clear hx hy
      by_cases hxy : x = y
      · have t1 : (U8 x != U8 y) = false := by rw [neq_U8]; simpa using hxy
        have HE := Lib.hid hxy
        clear hxy
        iterate 9 still_step
        refine wpStill_nil ?_
        clear hc hc' t1
        go_wp2_with fail
        go_roundw
        case rel => exact ⟨i + 1, by omega, by go_num, fun j hj => by
          rcases (by omega : j < i ∨ j = i) with h | h
          · exact HA.out j h
          · rw [h, HX.out, HY.out]; exact HE.out, HD.out⟩
        case measure => simp [intOf]; omega
      · have t1 : (U8 x != U8 y) = true := by rw [neq_U8]; simpa using hxy
        have HE := Lib.hid hxy
        clear hxy
        iterate 9 still_step
        refine wpStill_nil ?_
        clear hc hc' t1
        go_wp2_with fail
        go_ret
        refine ⟨?_, B2.out.trans (HD.out.mono B2.out.size)⟩
        have hn : ¬ nB f 56 < pN := fun h => by
          have e := HY.out
          rw [Nat.mod_eq_of_lt h, bX_nB f 56 i hlt, HX.out] at e
          exact HE.out e
        rw [decide_eq_false hn]
        rfl
    · obtain rfl : i = 56 := by omega
      have HH := Lib.hid HR
      have hp : nB f 56 < pN := by
        rw [bX_eq HM.out hall]
        exact Nat.mod_lt _ pN_pos
      have HP := Lib.hid hp
      clear HR hall hlt hi hp
      rw [show ((56 : Nat) : Int) = 56 from rfl]
      go_wp2_with fail
      go_ret
      exact ⟨by rw [decide_eq_true HP.out]; rfl, B2.out.trans (HH.out.mono B2.out.size)⟩
set_option maxRecDepth 8000 in
set_option maxHeartbeats 800000 in
/-- Two rows of as many bytes: are they the same? -/
theorem bytes_any (a a' : Option Addr) (n c c' : Nat) (f g : Nat → BitVec 8) (w : World) (hn : n ≤ 100000) (h1 : Sl w w.heap.size a n c f) (h2 : Sl w w.heap.size a' n c' g) :
    Calls Tryd.prog 14 #[.slice a n c, .slice a' n c'] w fun e w' => ∃ r, e = .returned (.bool r) ∧ (r = true ↔ ∀ i, i < n → f i = g i) ∧ Below w.heap.size w w' := by
  have H1 := Lib.hid h1
  have H2 := Lib.hid h2
  clear h1 h2
  have hn' : (n : Int) ≤ 100000 := by omega
  go_enter Tryd.func14, Tryd.ntmps14
  go_wp2_with fail
  go_loopw [5] (fun v wr => ∃ i : Nat, i ≤ n ∧ v = .int .i64 i ∧ (∀ j, j < i → f j = g j) ∧ Below w.heap.size w wr) (fun v _ => n - (intOf v).toNat)
  case atStart => exact ⟨0, by omega, rfl, fun j hj => by omega, Below.refl _ _⟩
  case round =>
    obtain ⟨i, hi, rfl, hall, HR⟩ := hrel
    by_cases hlt : i < n
    · have hid : decide ((i : Int) < (n : Int)) = true := by simp; omega
      obtain ⟨b, o, rfl, hbB, hcell⟩ := (H1.out.below HR).get i hlt
      obtain ⟨b', o', rfl, hbB', hcell'⟩ := (H2.out.below HR).get i hlt
      have HH := Lib.hid HR
      have HA := Lib.hid hall
      clear HR hall
      go_wp2_with fail
      refine wp_region_still_lit (by kernel_rfl) (by kernel_rfl) ?_
      have HD := Lib.hid (Below.drew HH.out)
      have hc : wr.drew.cell? ⟨b, o + i, none⟩ = some (U (f i)) := hcell
      have hc' : wr.drew.cell? ⟨b', o' + i, none⟩ = some (U (g i)) := hcell'
      clear HH hcell hcell'
      change wpStill _ _ wr.drew (fun a' => Exit.then _ _ Exit.normal a' wr.drew) _ _
      generalize wr.drew = w2 at *
      have hlt' : (i : Int) < (n : Int) := by omega
      obtain ⟨x, hx⟩ : ∃ x, f i = x := ⟨_, rfl⟩
      obtain ⟨y, hy⟩ : ∃ y, g i = y := ⟨_, rfl⟩
      rw [hx] at hc
      rw [hy] at hc'
      have HX := Lib.hid hx
      have HY := Lib.hid hy
      clear hx hy
      by_cases hxy : x = y
      · have t1 : (U8 x != U8 y) = false := by rw [neq_U8]; simpa using hxy
        have HE := Lib.hid hxy
        clear hxy
        iterate 9 still_step
        refine wpStill_nil ?_
        clear hc hc' t1
        go_wp2_with fail
        go_roundw
        case rel => exact ⟨i + 1, by omega, by go_num, fun j hj => by
          rcases (by omega : j < i ∨ j = i) with h | h
          · exact HA.out j h
          · rw [h, HX.out, HY.out]; exact HE.out, HD.out⟩
        case measure => simp [intOf]; omega
      · have t1 : (U8 x != U8 y) = true := by rw [neq_U8]; simpa using hxy
        have HE := Lib.hid hxy
        clear hxy
        iterate 9 still_step
        refine wpStill_nil ?_
        clear hc hc' t1
        go_wp2_with fail
        go_ret
        refine ⟨_, rfl, ⟨(fun h => nomatch h), fun h => ?_⟩, HD.out⟩
        have := h i hlt
        rw [HX.out, HY.out] at this
        exact absurd this HE.out
    · obtain rfl : i = n := by omega
      have HH := Lib.hid HR
      have HA := Lib.hid hall
      clear HR hall
      go_wp2_with fail
      go_ret
      exact ⟨_, rfl, ⟨fun _ => HA.out, fun _ => rfl⟩, HH.out⟩
end Go.Proofs.YtjjdhbmlinjhjaaDoor
