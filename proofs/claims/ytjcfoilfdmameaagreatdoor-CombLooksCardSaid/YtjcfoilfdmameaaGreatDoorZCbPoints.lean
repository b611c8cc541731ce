/-
  The law's points. No statement is proved here: lemmas for the walks.
-/
import Derived.Test.YtjcfoilfdmameaaGreatDoorZCbPts
import Derived.Deep.CutRange
namespace Go.Proofs.YtjcfoilfdmameaaGreatDoor
open Go.RowKit

/-- A row of points, as a slice of some. -/
theorem own_some {w : World} {base n : Nat} {v : Value} {G : Nat → Nat → Int} (h : OwnR w base 32 .u64 24 v n G) (hP : ∀ j, j < n → ∃ Q, PtK (G j) Q) : ∃ a c P, v = .slice a n c ∧ Pts w w.heap.size a n c P := by
  have hc : ∀ j, ∃ Q : Pt pN dK, j < n → PtK (G j) Q := fun j => by
    by_cases hj : j < n
    · obtain ⟨Q, hQ⟩ := hP j hj
      exact ⟨Q, fun _ => hQ⟩
    · exact ⟨pzero, fun h => absurd h hj⟩
  obtain ⟨P, hP⟩ := Classical.axiomOfChoice hc
  obtain ⟨a, c, e, hp⟩ := h.pts (P := P) hP
  exact ⟨a, c, P, e, hp⟩
set_option maxRecDepth 8000 in
set_option maxHeartbeats 3200000 in
theorem points_yes {a : Option Addr} {n c : Nat} {N : Nat → Nat} {Z : Nat → Int} (w : World) (hT : Tp w) (hs : Spots w w.heap.size a n c N Z) (hn : n ≤ 6) (hok : ∀ i, i < n → okS (N i) (Z i) = true) :
    Calls Tryz.prog 9 #[.slice a n c] w fun e w' => ∃ a' c' P, e = .returned (.tuple #[.slice a' n c', .bool true]) ∧ Pts w' w'.heap.size a' n c' P ∧ Below w.heap.size w w' := by
  have HS := Lib.hid hs
  have HOK := Lib.hid hok
  have n6 : (n : Int) ≤ 6 := by omega
  clear hs hok
  have HT := Lib.hid hT
  clear hT
  go_enter Tryz.func9, Tryz.ntmps9
  go_wp2_with fail
  go_loopw [4, 5] (fun v4 v5 wr => ∃ (i : Nat) (G : Nat → Nat → Int), i ≤ n ∧ v5 = .int .i64 (i : Int) ∧ OwnR wr w.heap.size 32 .u64 24 v4 i G ∧ (∀ j, j < i → ∃ Q, PtK (G j) Q) ∧ Below w.heap.size w wr) (fun _ v5 _ => (n - (intOf v5).toNat))
  case atStart => exact ⟨0, fun _ _ => 0, Nat.zero_le _, rfl, ⟨rfl, .inl ⟨rfl, rfl⟩⟩, fun j h => by omega, Below.refl _ _⟩
  case round =>
    obtain ⟨i, G, hi, rfl, hR, hG, hB⟩ := hrel
    obtain ⟨v4, hv4⟩ : ∃ v4, v4 = u4 := ⟨_, rfl⟩
    subst hv4
    have HROW := Lib.hid hR
    have HG := Lib.hid hG
    have HW := Lib.hid hB
    have HBS := hB.size
    clear hR hG hB
    have H := Lib.hid (Ow.start wr)
    by_cases hlt : i < n
    · have hin : i < n := hlt
      have hid : decide ((i : Int) < (n : Int)) = true := by simp; omega
      have hid' : decide (i < n) = true := by simpa using hin
      have OK := Lib.hid (HOK.out i hlt)
      obtain ⟨b, o, ai, ci, xi, ha, hx⟩ := HS.out.get i hin
      subst ha
      have HSP := Lib.hid (fun W (hW : Below wr.heap.size wr W) => hx W (HW.out.trans (hW.mono HW.out.size)))
      have HL := Lib.hid hlt
      have i6 : (i : Int) ≤ 6 := by omega
      have i7 : (i : Int) < (n : Int) := by omega
      clear hlt hi hx hn hin
      go_wp2_with (first
        | ((with_reducible apply lay_spot); (case hgd => exact rfl); (case ho => exact rfl); (case hx => exact rfl); (case h0 => exact (HSP.out _ H.out.bel).2.1); (case h1 => exact (HSP.out _ H.out.bel).2.2); intro _ _; go_simp)
        | ((fail_if_success have := V1); (with_reducible refine (made11_any OK.out _ (HT.out.below (HW.out.trans (H.out.bel.mono HW.out.size))) (HSP.out _ H.out.bel).1).mono ?_); rintro e wc ⟨v1, r1, Q1, rfl, hv, hw, hb⟩; replace H := Lib.hid (H.out.call hb); have V1 := Lib.hid hv; clear hb hv hw)
        | ((fail_if_success have := g6); (with_reducible apply own_alloc nilPt H); (case hgd => exact rfl); (case ho => exact rfl); intro w6 g6 H' _ _; replace H := H'; clear H'; go_simp)
        | ((fail_if_success have := g7); (with_reducible apply own_alloc nilQt H); (case hgd => exact rfl); (case ho => exact rfl); intro w7 g7 H' _ _; replace H := H'; clear H'; go_simp)
        | ((with_reducible apply own_store rowPt H); (case hgd => exact rfl); (case ho => exact rfl); (case hx => exact rfl); (case hy => exact rfl); (case hi => first | exact at0 | exact at1 | exact at2 | exact at3 | exact at4 | exact at5 | exact at6 | exact at7 | exact at8 | exact at9); intro ws H' _ _; replace H := H'; clear H'; simp only [List.set_cons_zero, List.set_cons_succ] at H; go_simp)
        | ((with_reducible apply own_store rowQt H); (case hgd => exact rfl); (case ho => exact rfl); (case hx => exact rfl); (case hy => exact rfl); (case hi => first | exact at0 | exact at1 | exact at2 | exact at3 | exact at4 | exact at5 | exact at6 | exact at7 | exact at8 | exact at9); intro ws H' _ _; replace H := H'; clear H'; simp only [List.set_cons_zero] at H; go_simp)
        | ((with_reducible apply own_load rowPt H); (case hgd => exact rfl); (case ho => exact rfl); (case hx => exact rfl); (case hi => first | exact at0 | exact at1 | exact at2 | exact at3 | exact at4 | exact at5 | exact at6 | exact at7 | exact at8 | exact at9); intro _ _; go_simp)
        | ((fail_if_success have := g28); (with_reducible apply own_build1P H); (case hgd => exact rfl); (case ho => exact rfl); (case hx => exact rfl); intro w28 g28 H' _ _; replace H := H'; clear H'; go_simp)
        | ((with_reducible apply own_appP HROW HBS H); (case hd => exact rfl); (case hgd => exact rfl); (case ho => exact rfl); (case hx => exact rfl); (case hy => exact rfl); (case hi => first | exact at0 | exact at1 | exact at2 | exact at3 | exact at4 | exact at5 | exact at6 | exact at7 | exact at8 | exact at9); (case hn => omega); intro v' w' HB' HR' _ _; go_simp))

      go_roundw
      case rel => exact ⟨i + 1, _, by have := HL.out; omega, by go_num, HR'.out, fun j hj => by
        by_cases h : j = i
        · exact ⟨Q1, by rw [if_pos h]; exact V1.out⟩
        · rw [if_neg h]
          exact HG.out j (by omega), HW.out.trans HB'.out⟩
      case measure => (simp [intOf] <;> omega)
    · obtain rfl : n = i := by omega
      have hid : decide ((n : Int) < (n : Int)) = false := by simp
      have hid' : decide (n < n) = false := by simp
      obtain ⟨a', c', P, rfl, hP⟩ := own_some HROW.out HG.out
      have HPP := Lib.hid hP
      clear hlt hi hn hP HROW
      go_wp2_with fail
      go_ret2
      exact ⟨a', c', P, rfl, HPP.out, HW.out⟩
set_option maxRecDepth 8000 in
set_option maxHeartbeats 3200000 in
theorem points_no {a : Option Addr} {n c : Nat} {N : Nat → Nat} {Z : Nat → Int} (w : World) (hT : Tp w) (hs : Spots w w.heap.size a n c N Z) (hn : n ≤ 6) (q : Nat) (hq : q < n) (hok : ∀ i, i < q → okS (N i) (Z i) = true) (hno : okS (N q) (Z q) = false) :
    Calls Tryz.prog 9 #[.slice a n c] w fun e w' => e = .returned (.tuple #[.slice none 0 0, .bool false]) ∧ Below w.heap.size w w' := by
  have HS := Lib.hid hs
  have HOK := Lib.hid hok
  have n6 : (n : Int) ≤ 6 := by omega
  have HNO := Lib.hid hno
  have HQ := Lib.hid hq
  clear hs hok hno hq
  have HT := Lib.hid hT
  clear hT
  go_enter Tryz.func9, Tryz.ntmps9
  go_wp2_with fail
  go_loopw [4, 5] (fun v4 v5 wr => ∃ (i : Nat) (G : Nat → Nat → Int), i ≤ q ∧ v5 = .int .i64 (i : Int) ∧ OwnR wr w.heap.size 32 .u64 24 v4 i G ∧ (∀ j, j < i → ∃ Q, PtK (G j) Q) ∧ Below w.heap.size w wr) (fun _ v5 _ => (n - (intOf v5).toNat))
  case atStart => exact ⟨0, fun _ _ => 0, Nat.zero_le _, rfl, ⟨rfl, .inl ⟨rfl, rfl⟩⟩, fun j h => by omega, Below.refl _ _⟩
  case round =>
    obtain ⟨i, G, hi, rfl, hR, hG, hB⟩ := hrel
    obtain ⟨v4, hv4⟩ : ∃ v4, v4 = u4 := ⟨_, rfl⟩
    subst hv4
    have HROW := Lib.hid hR
    have HG := Lib.hid hG
    have HW := Lib.hid hB
    have HBS := hB.size
    clear hR hG hB
    have H := Lib.hid (Ow.start wr)
    by_cases hlt : i < q
    · have hin : i < n := (by have := HQ.out; omega)
      have hid : decide ((i : Int) < (n : Int)) = true := by simp; omega
      have hid' : decide (i < n) = true := by simpa using hin
      have OK := Lib.hid (HOK.out i hlt)
      obtain ⟨b, o, ai, ci, xi, ha, hx⟩ := HS.out.get i hin
      subst ha
      have HSP := Lib.hid (fun W (hW : Below wr.heap.size wr W) => hx W (HW.out.trans (hW.mono HW.out.size)))
      have HL := Lib.hid hlt
      have i6 : (i : Int) ≤ 6 := by omega
      have i7 : (i : Int) < (n : Int) := by omega
      clear hlt hi hx hn hin
      go_wp2_with (first
        | ((with_reducible apply lay_spot); (case hgd => exact rfl); (case ho => exact rfl); (case hx => exact rfl); (case h0 => exact (HSP.out _ H.out.bel).2.1); (case h1 => exact (HSP.out _ H.out.bel).2.2); intro _ _; go_simp)
        | ((fail_if_success have := V1); (with_reducible refine (made11_any OK.out _ (HT.out.below (HW.out.trans (H.out.bel.mono HW.out.size))) (HSP.out _ H.out.bel).1).mono ?_); rintro e wc ⟨v1, r1, Q1, rfl, hv, hw, hb⟩; replace H := Lib.hid (H.out.call hb); have V1 := Lib.hid hv; clear hb hv hw)
        | ((fail_if_success have := g6); (with_reducible apply own_alloc nilPt H); (case hgd => exact rfl); (case ho => exact rfl); intro w6 g6 H' _ _; replace H := H'; clear H'; go_simp)
        | ((fail_if_success have := g7); (with_reducible apply own_alloc nilQt H); (case hgd => exact rfl); (case ho => exact rfl); intro w7 g7 H' _ _; replace H := H'; clear H'; go_simp)
        | ((with_reducible apply own_store rowPt H); (case hgd => exact rfl); (case ho => exact rfl); (case hx => exact rfl); (case hy => exact rfl); (case hi => first | exact at0 | exact at1 | exact at2 | exact at3 | exact at4 | exact at5 | exact at6 | exact at7 | exact at8 | exact at9); intro ws H' _ _; replace H := H'; clear H'; simp only [List.set_cons_zero, List.set_cons_succ] at H; go_simp)
        | ((with_reducible apply own_store rowQt H); (case hgd => exact rfl); (case ho => exact rfl); (case hx => exact rfl); (case hy => exact rfl); (case hi => first | exact at0 | exact at1 | exact at2 | exact at3 | exact at4 | exact at5 | exact at6 | exact at7 | exact at8 | exact at9); intro ws H' _ _; replace H := H'; clear H'; simp only [List.set_cons_zero] at H; go_simp)
        | ((with_reducible apply own_load rowPt H); (case hgd => exact rfl); (case ho => exact rfl); (case hx => exact rfl); (case hi => first | exact at0 | exact at1 | exact at2 | exact at3 | exact at4 | exact at5 | exact at6 | exact at7 | exact at8 | exact at9); intro _ _; go_simp)
        | ((fail_if_success have := g28); (with_reducible apply own_build1P H); (case hgd => exact rfl); (case ho => exact rfl); (case hx => exact rfl); intro w28 g28 H' _ _; replace H := H'; clear H'; go_simp)
        | ((with_reducible apply own_appP HROW HBS H); (case hd => exact rfl); (case hgd => exact rfl); (case ho => exact rfl); (case hx => exact rfl); (case hy => exact rfl); (case hi => first | exact at0 | exact at1 | exact at2 | exact at3 | exact at4 | exact at5 | exact at6 | exact at7 | exact at8 | exact at9); (case hn => omega); intro v' w' HB' HR' _ _; go_simp))

      go_roundw
      case rel => exact ⟨i + 1, _, by have := HL.out; omega, by go_num, HR'.out, fun j hj => by
        by_cases h : j = i
        · exact ⟨Q1, by rw [if_pos h]; exact V1.out⟩
        · rw [if_neg h]
          exact HG.out j (by omega), HW.out.trans HB'.out⟩
      case measure => (simp [intOf] <;> omega)
    · obtain rfl : q = i := by omega
      have hin : q < n := HQ.out
      have hid : decide ((q : Int) < (n : Int)) = true := by simp; omega
      have hid' : decide (q < n) = true := by simpa using hin
      have OK := HNO
      obtain ⟨b, o, ai, ci, xi, ha, hx⟩ := HS.out.get q hin
      subst ha
      have HSP := Lib.hid (fun W (hW : Below wr.heap.size wr W) => hx W (HW.out.trans (hW.mono HW.out.size)))
      have i6 : (q : Int) ≤ 6 := by omega
      have i7 : (q : Int) < (n : Int) := by omega
      clear hlt hi hx hn hin
      go_wp2_with (first
        | ((with_reducible apply lay_spot); (case hgd => exact rfl); (case ho => exact rfl); (case hx => exact rfl); (case h0 => exact (HSP.out _ H.out.bel).2.1); (case h1 => exact (HSP.out _ H.out.bel).2.2); intro _ _; go_simp)
        | ((fail_if_success have := V1); (with_reducible refine (made11_any OK.out _ (HT.out.below (HW.out.trans (H.out.bel.mono HW.out.size))) (HSP.out _ H.out.bel).1).mono ?_); rintro e wc ⟨v1, r1, Q1, rfl, hv, hw, hb⟩; replace H := Lib.hid (H.out.call hb); have V1 := Lib.hid hv; clear hb hv hw)
        | ((fail_if_success have := g6); (with_reducible apply own_alloc nilPt H); (case hgd => exact rfl); (case ho => exact rfl); intro w6 g6 H' _ _; replace H := H'; clear H'; go_simp)
        | ((fail_if_success have := g7); (with_reducible apply own_alloc nilQt H); (case hgd => exact rfl); (case ho => exact rfl); intro w7 g7 H' _ _; replace H := H'; clear H'; go_simp)
        | ((with_reducible apply own_store rowPt H); (case hgd => exact rfl); (case ho => exact rfl); (case hx => exact rfl); (case hy => exact rfl); (case hi => first | exact at0 | exact at1 | exact at2 | exact at3 | exact at4 | exact at5 | exact at6 | exact at7 | exact at8 | exact at9); intro ws H' _ _; replace H := H'; clear H'; simp only [List.set_cons_zero, List.set_cons_succ] at H; go_simp)
        | ((with_reducible apply own_store rowQt H); (case hgd => exact rfl); (case ho => exact rfl); (case hx => exact rfl); (case hy => exact rfl); (case hi => first | exact at0 | exact at1 | exact at2 | exact at3 | exact at4 | exact at5 | exact at6 | exact at7 | exact at8 | exact at9); intro ws H' _ _; replace H := H'; clear H'; simp only [List.set_cons_zero] at H; go_simp))

      go_ret2
      exact ⟨rfl, HW.out.trans (H.out.bel.mono HW.out.size)⟩
end Go.Proofs.YtjcfoilfdmameaaGreatDoor
