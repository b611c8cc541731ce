/-
  The walk of NumberOwn.
-/
import Derived.Test.YtmnokjapapheiaaLaOwn0
namespace Go.Proofs.Ytmnokjapapheiaa
open Go.RowKit

theorem Oz.more {wL w : World} {l : List Q3} (h : Oz wL w l) {base : Nat} {q : Q3} (hq : Fr w base q) (hb : wL.heap.size ≤ base) : Oz wL w (q :: l) :=
  ⟨h.bel, fun q' hq' => by
    rcases List.mem_cons.1 hq' with rfl | h'
    · exact hq.less hb
    · exact h.fr q' h'⟩
theorem OwnL.zero {w : World} {base m : Nat} {v : Value} {p q : Nat → Q3} (h : OwnL w base v (0 + m) (catQ p 0 q)) : OwnL w base v m q := by
  have e : catQ p 0 q = q := by
    funext i
    simp [catQ]
  rwa [Nat.zero_add, e] at h
set_option maxRecDepth 8000 in
set_option maxHeartbeats 4000000 in
theorem own_far (a : Option Addr) (n c : Nat) (a' : Option Addr) (m c' : Nat) (z : Int) (w : World) (h : 20 < n ∨ 20 < m ∨ z < -200 ∨ 200 < z) :
    Calls Try.prog 9 #[.slice a n c, .slice a' m c', .int .i64 z] w fun e w' => e = .returned (.bool true) ∧ Below w.heap.size w w' := by
  have L := Lib.hid (Lv.start w)
  by_cases hn : n ≤ 20
  · by_cases hm : m ≤ 20
    · by_cases h1 : z < -200
      · have d1 : decide (z < -200) = true := by simpa using h1
        clear h
        go_enter Try.func9, Try.ntmps9
        go_wp2_with (first
          | ((with_reducible refine (few_yes a n c _ hn).mono ?_); rintro e w' ⟨rfl, rfl⟩)
          | ((with_reducible refine (few_yes a' m c' _ hm).mono ?_); rintro e w' ⟨rfl, rfl⟩)
          | ((with_reducible refine (awake_any _).mono ?_); rintro e w1 ⟨rfl, B1⟩; replace L := Lib.hid (L.out.call B1); clear B1))
        go_ret
        exact ⟨rfl, L.out.bel⟩
      · have d1 : decide (z < -200) = false := by simpa using h1
        have h2 : 200 < z := by omega
        have d2 : decide (200 < z) = true := by simpa using h2
        clear h
        go_enter Try.func9, Try.ntmps9
        go_wp2_with (first
          | ((with_reducible refine (few_yes a n c _ hn).mono ?_); rintro e w' ⟨rfl, rfl⟩)
          | ((with_reducible refine (few_yes a' m c' _ hm).mono ?_); rintro e w' ⟨rfl, rfl⟩)
          | ((with_reducible refine (awake_any _).mono ?_); rintro e w1 ⟨rfl, B1⟩; replace L := Lib.hid (L.out.call B1); clear B1))
        go_ret
        exact ⟨rfl, L.out.bel⟩
    · clear h
      go_enter Try.func9, Try.ntmps9
      go_wp2_with (first
        | ((with_reducible refine (few_yes a n c _ hn).mono ?_); rintro e w' ⟨rfl, rfl⟩)
        | ((with_reducible refine (few_no a' m c' _ hm).mono ?_); rintro e w' ⟨rfl, rfl⟩)
        | ((with_reducible refine (awake_any _).mono ?_); rintro e w1 ⟨rfl, B1⟩; replace L := Lib.hid (L.out.call B1); clear B1))
      go_ret
      exact ⟨rfl, L.out.bel⟩
  · clear h
    go_enter Try.func9, Try.ntmps9
    go_wp2_with (first
      | ((with_reducible refine (few_no a n c _ hn).mono ?_); rintro e w' ⟨rfl, rfl⟩)
      | ((with_reducible refine (awake_any _).mono ?_); rintro e w1 ⟨rfl, B1⟩; replace L := Lib.hid (L.out.call B1); clear B1))
    go_ret
    exact ⟨rfl, L.out.bel⟩
set_option maxRecDepth 8000 in
set_option maxHeartbeats 4000000 in
theorem own_near (a : Option Addr) (n c x : Nat) (a' : Option Addr) (m c' y : Nat) (z : Int) (w : World) (Hn : n ≤ 20) (Hm : m ≤ 20) (h1 : -200 ≤ z) (h2 : z ≤ 200) (h : Sw w w.heap.size a n c x) (h' : Sw w w.heap.size a' m c' y) :
    Calls Try.prog 9 #[.slice a n c, .slice a' m c', .int .i64 z] w fun e w' => e = .returned (.bool true) ∧ Below w.heap.size w w' := by
  have L := Lib.hid (((Lv.start w).addW h).addW h')
  have d1 : decide (z < -200) = false := by simp; omega
  have d2 : decide (200 < z) = false := by simp; omega
  clear h h'
  go_enter Try.func9, Try.ntmps9
  go_wp2_with (first
    | ((with_reducible refine (few_yes a n c _ Hn).mono ?_); rintro e w' ⟨rfl, rfl⟩)
    | ((with_reducible refine (few_yes a' m c' _ Hm).mono ?_); rintro e w' ⟨rfl, rfl⟩)
    | ((with_reducible apply lay_append_words); (case hgd => exact rfl); (case ho => exact rfl); (case hs => exact rfl); (case hx => exact rfl); (case hS => exact L.out.gw 1 rfl); (case hn => omega); intro ax cx w1 SX BX _ _; have L1 := Lib.hid ((L.out.call BX).addW SX); clear L SX BX; go_simp)
    | ((with_reducible apply lay_append_words); (case hgd => exact rfl); (case ho => exact rfl); (case hs => exact rfl); (case hx => exact rfl); (case hS => exact L1.out.gw 1 rfl); (case hn => omega); intro ay cy w2 SY BY _ _; have LL := Lib.hid ((L1.out.call BY).addW SY); have OZ := Lib.hid (Oz.start w2); clear L1 SY BY; go_simp)
    | ((with_reducible refine (add_fr a n c x a' m c' y _ Hn Hm ((LL.out.gw 3 rfl).call OZ.out.bel) ((LL.out.gw 2 rfl).call OZ.out.bel)).mono ?_); rintro e w3 ⟨b1, k1, rfl, F1, B1⟩; replace OZ := Lib.hid (OZ.out.add B1 F1); clear F1 B1)
    | ((with_reducible refine (mul_fr a n c x a' m c' y _ Hn Hm ((LL.out.gw 3 rfl).call OZ.out.bel) ((LL.out.gw 2 rfl).call OZ.out.bel)).mono ?_); rintro e w4 ⟨b2, k2, rfl, F2, B2⟩; have OZ2 : Hid (Oz w2 (w4.alloc (.cells #[.slice b1 k1 k1, .slice b2 k2 k2] 24)) _) := Lib.hid ((OZ.out.add B2 F2).call ((Below.refl _ _).alloc (Nat.le_refl _) _)); clear OZ F2 B2)
    | ((with_reducible apply lay_append_nats); (case hgd => exact rfl); (case ho => exact rfl); (case hs => exact rfl); (case hx => exact rfl); (case hc => exact two_nats w4 (b1, k1, k1) (b2, k2, k2)); (case hown => exact OwnL.nil _ w2.heap.size (fun _ => (none, 0, 0))); (case hn => omega); (case hbase => exact OZ2.out.bel.size); intro lv w5 O5 B5 R5 _ _; have O1 := Lib.hid O5.zero; have OZ := Lib.hid (OZ2.out.app B5 R5); clear OZ2 O5 B5 R5; go_simp)
    | ((with_reducible refine (sub_fr a n c x a' m c' y _ Hn Hm ((LL.out.gw 3 rfl).call OZ.out.bel) ((LL.out.gw 2 rfl).call OZ.out.bel)).mono ?_); rintro e w6 ⟨b3, k3, z3, rfl, F3, B3⟩; replace OZ := Lib.hid (OZ.out.add B3 F3); replace O1 := Lib.hid (O1.out.below B3); clear F3 B3)
    | ((with_reducible refine (shift_fr a n c x z _ Hn h1 h2 ((LL.out.gw 3 rfl).call OZ.out.bel)).mono ?_); rintro e w7 ⟨b4, k4, z4, rfl, F4, B4⟩; replace OZ := Lib.hid (OZ.out.add B4 F4); replace O1 := Lib.hid (O1.out.below B4); clear F4 B4)
    | ((with_reducible refine (div_fr a n c x a' m c' y _ Hn Hm ((LL.out.gw 3 rfl).call OZ.out.bel) ((LL.out.gw 2 rfl).call OZ.out.bel)).mono ?_); rintro e w8 ⟨b5, k5, b6, k6, z5, rfl, F5, F6, B5⟩; have OZ3 : Hid (Oz w2 (w8.alloc (.cells #[.slice b3 k3 k3, .slice b4 k4 k4, .slice b5 k5 k5, .slice b6 k6 k6] 24)) _) := Lib.hid (((OZ.out.add B5 F5).more F6 OZ.out.bel.size).call ((Below.refl _ _).alloc (Nat.le_refl _) _)); have O3 : Hid (OwnL (w8.alloc (.cells #[.slice b3 k3 k3, .slice b4 k4 k4, .slice b5 k5 k5, .slice b6 k6 k6] 24)) _ _ _ _) := Lib.hid ((O1.out.below B5).below ((Below.refl _ _).alloc (Nat.le_refl _) _)); clear OZ O1 F5 F6 B5)
    | ((with_reducible apply lay_append_nats); (case hgd => exact rfl); (case ho => exact rfl); (case hs => exact rfl); (case hx => exact rfl); (case hc => exact four_nats w8 (b3, k3, k3) (b4, k4, k4) (b5, k5, k5) (b6, k6, k6)); (case hown => exact O3.out); (case hn => omega); (case hbase => exact OZ3.out.bel.size); intro lv2 w9 O9 B9 R9 _ _; obtain ⟨gl, cl, rfl, hls⟩ := (show OwnL w9 _ lv2 6 _ from O9).ls (by omega); have LS := Lib.hid hls; have OZ := Lib.hid (OZ3.out.app B9 R9); clear OZ3 O3 O9 B9 R9 hls; go_simp))
  have FRS : Hid (∀ i, i < 6 → Fr w9 w2.heap.size (catQ (pk2 (b1, k1, k1) (b2, k2, k2)) 2 (pk4 (b3, k3, k3) (b4, k4, k4) (b5, k5, k5) (b6, k6, k6)) i)) := Lib.hid (six_nats (OZ.out.get 5 rfl) (OZ.out.get 4 rfl) (OZ.out.get 3 rfl) (OZ.out.get 2 rfl) (OZ.out.get 1 rfl) (OZ.out.get 0 rfl))
  generalize catQ (pk2 (b1, k1, k1) (b2, k2, k2)) 2 (pk4 (b3, k3, k3) (b4, k4, k4) (b5, k5, k5) (b6, k6, k6)) = P at LS FRS
  go_loopw [17] (fun v17 wr => ∃ i : Nat, i ≤ 6 ∧ v17 = .int .i64 i ∧ Ls wr gl 6 P ∧ (∀ j, j < 6 → Fr wr w2.heap.size (P j)) ∧ Below w2.heap.size w2 wr) (fun v17 _ => 6 - (intOf v17).toNat)
  case atStart => exact ⟨0, by omega, rfl, LS.out, FRS.out, OZ.out.bel⟩
  case round =>
    clear LS FRS OZ
    obtain ⟨i, hi, rfl, hls, hfr, hbl⟩ := hrel
    have LS := Lib.hid hls
    have FR := Lib.hid hfr
    have BB := Lib.hid hbl
    clear hls hfr hbl
    by_cases hlt : i < 6
    · have hid : decide ((i : Int) < 6) = true := by simp; omega
      have i6 : (i : Int) < 6 := by omega
      have i6' : i < 6 := hlt
      obtain ⟨⟨qb, qn, qc⟩, hP⟩ : ∃ q, P i = q := ⟨_, rfl⟩
      have hq6 : qn ≤ 1000 := by have := (FR.out i hlt).1; rw [hP] at this; exact this
      have hqn : qb = none → qn = 0 := by have := (FR.out i hlt).2.1; rw [hP] at this; exact this
      have HQN := Lib.hid hqn
      have HP := Lib.hid hP
      clear hP hqn
      go_wp2_with fail
      go_loopw [18] (fun v18 wr' => ∃ k : Nat, k ≤ qn ∧ v18 = .int .i64 k ∧ Ls wr' gl 6 P ∧ (∀ j, j < 6 → Fr wr' w2.heap.size (P j)) ∧ Below w2.heap.size w2 wr') (fun v18 _ => qn - (intOf v18).toNat)
      case atStart => exact ⟨0, by omega, rfl, LS.out, FR.out, BB.out⟩
      case round =>
        clear LS FR BB
        obtain ⟨k, hk, rfl, hls, hfr, hbl⟩ := hrel
        have hcl := hls.cell i i6'
        rw [HP.out] at hcl
        have hfi := hfr i i6'
        rw [HP.out] at hfi
        have LS := Lib.hid hls
        have FR := Lib.hid hfr
        have BB := Lib.hid hbl
        clear hls hfr hbl
        by_cases hkn : k < qn
        · have hkd : decide ((k : Int) < (qn : Int)) = true := by simp; omega
          have hkn' : (k : Int) < (qn : Int) := by omega
          obtain ⟨ad, rfl⟩ : ∃ ad, qb = some ad := by
            cases qb with
            | none => have := HQN.out rfl; omega
            | some ad => exact ⟨ad, rfl⟩
          obtain ⟨g, N, f, rfl, hg, hr, hN⟩ := hfi.2.2 ad rfl
          have hR := Lib.hid hr
          have hG := Lib.hid hg
          have hNN : qn ≤ N := hN
          clear hr hg hfi hN
          go_wp2_with fail
          refine wp_region_still_tail 14 (by kernel_rfl) (by kernel_rfl) ?_
          change wpStill _ _ wr.drew (fun a' => wpList _ _ _ _ a' wr.drew) _ _
          have D1 := Lib.hid LS.out.drew
          have D2 : Hid (∀ j, j < 6 → Fr wr.drew w2.heap.size (P j)) := Lib.hid fun j hj => (FR.out j hj).map fun _ _ _ r => r
          have D3 := Lib.hid (Below.drew BB.out)
          have D4 := Lib.hid hR.out.drew
          clear LS FR BB hR hcl
          generalize wr.drew = w10 at *
          have hc1 : w10.cell? ⟨gl, i, none⟩ = some (.slice (some ⟨g, 0, none⟩) qn qc) := by
            have := D1.out.cell i i6'
            rwa [HP.out] at this
          have hc2 := D4.out.cell k (by omega)
          have hz2 := D4.out.thaw k
          simp only [List.take_succ_cons, List.take_zero, List.drop_succ_cons, List.drop_zero]
          iterate 14 still_step
          refine wpStill_nil ?_
          go_wp2_with fail
          go_roundw
          case rel => exact ⟨k + 1, by omega, by go_num, D1.out.set D4.out _, (fun j hj => (D2.out j hj).set g k _), D3.out.setCell hG.out _⟩
          case measure => simp [intOf]; omega
        · have hkd : decide ((k : Int) < (qn : Int)) = false := by simp; omega
          clear hfi
          go_wp2_with fail
          go_roundw
          case rel => exact ⟨i + 1, by omega, by go_num, LS.out, FR.out, BB.out⟩
          case measure => simp [intOf]; omega
    · obtain rfl : i = 6 := by omega
      clear hlt hi
      rw [show ((6 : Nat) : Int) = 6 from rfl]
      have L := Lib.hid (LL.out.call BB.out)
      clear LL LS FR BB
      go_wp2_with (first
        | ((with_reducible refine (words_any a ax n c cx x _ (by omega) (L.out.gw 3 rfl) (L.out.gw 1 rfl)).mono ?_); rintro e w11 ⟨rfl, B11⟩; replace L := Lib.hid (L.out.call B11); clear B11)
        | ((with_reducible refine (words_any a' ay m c' cy y _ (by omega) (L.out.gw 2 rfl) (L.out.gw 0 rfl)).mono ?_); rintro e w12 ⟨rfl, B12⟩; replace L := Lib.hid (L.out.call B12); clear B12)
        | ((with_reducible refine (awake_any _).mono ?_); rintro e w13 ⟨rfl, B13⟩; replace L := Lib.hid (L.out.call B13); clear B13))
      go_ret
      exact ⟨rfl, L.out.bel⟩
end Go.Proofs.Ytmnokjapapheiaa
