/-
  The contract of the law's times. No statement is proved here: lemmas for the walks.
-/
import Derived.Test.YtckmboebipbpbaaDoorZPtAdd
import Derived.Test.YtckmboebipbpbaaDoorBuN
import Derived.Test.YtckmboebipbpbaaDoorBuR
import Derived.Test.YtckmboebipbpbaaDoorBuE
import Derived.Deep.LoopGhost
namespace Go.Proofs.YtckmboebipbpbaaDoor
open Go.RowKit

theorem half_up (x j : Nat) : x / 2 ^ j = 2 * (x / 2 ^ (j + 1)) + x / 2 ^ j % 2 := by
  rw [Nat.pow_succ, ← Nat.div_div_eq_div_mul]
  omega
set_option maxRecDepth 8000 in
set_option maxHeartbeats 3200000 in
theorem lawTimes_k (a : Option Addr) (n c x : Nat) {v : Nat → Int} {P : Pt pN dK} (w : World) (hT : Tp w) (hn : n ≤ 100) (h0 : 0 < n) (hs : Sb w w.heap.size a n c x) (p1 : PtK v P) :
    Calls Tryd.prog 58 #[.slice a n c, PO v] w fun e w' => ∃ r, e = .returned (PO r) ∧ PtK r (pmul edK x P) ∧ Below w.heap.size w w' := by
  obtain ⟨b, o, rfl, hb, hcell⟩ := hold_slice hs.sl h0
  have HX : Hid (x / 2 ^ (8 * n) = 0) := Lib.hid (Nat.div_eq_of_lt hs.fits)
  have HC := Lib.hid hcell
  have HB := Lib.hid hb
  have Q := Lib.hid p1
  have HN := Lib.hid h0
  have n100 : (n : Int) ≤ 100 := by omega
  clear hs hb hcell p1 h0
  obtain ⟨nn, hnn⟩ : ∃ nn, 8 * n = nn := ⟨_, rfl⟩
  have enn : 8 * (n : Int) = (nn : Int) := by omega
  have fnn : IntKind.i64.wrap (nn : Int) = (nn : Int) := IntWalk.i64_in _ (by omega)
  have fn1 : IntKind.i64.wrap ((nn : Int) - 1) = (nn : Int) - 1 := IntWalk.i64_in _ (by omega)
  have HNN := Lib.hid hnn
  rw [hnn] at HX
  clear hnn
  have HT := Lib.hid hT
  clear hT
  have H := Lib.hid (Ow.start w)
  go_enter Tryd.func58, Tryd.ntmps58
  go_wp2_with (first
    | ((fail_if_success have := g3); (with_reducible apply own_box H); (case hgd => exact rfl); (case ho => exact rfl); (case hx => exact rfl); intro w3 g3 H' _ _; replace H := H'; clear H'; go_simp)
    | ((fail_if_success have := g4); (fail_if_success have := g4); (with_reducible apply own_alloc nilPt H); (case hgd => exact rfl); (case ho => exact rfl); intro w4 g4 H' _ _; replace H := H'; clear H'; go_simp)
    | ((fail_if_success have := V0); (with_reducible refine (identity_k _ (HT.out.below H.out.bel)).mono ?_); rintro e wc ⟨k0, rfl, hv, hb⟩; replace H := Lib.hid (H.out.call hb); clear hb; have V0 := Lib.hid hv; clear hv)
    | ((fail_if_success have := g5); (fail_if_success have := g5); (with_reducible apply own_alloc nilPt H); (case hgd => exact rfl); (case ho => exact rfl); intro w5 g5 H' _ _; replace H := H'; clear H'; go_simp)
    | ((with_reducible apply own_store rowPt H); (case hgd => exact rfl); (case ho => exact rfl); (case hx => exact rfl); (case hy => exact rfl); (case hi => first | exact at0 | exact at1 | exact at2 | exact at3 | exact at4 | exact at5 | exact at6 | exact at7 | exact at8 | exact at9); intro ws H' _ _; replace H := H'; clear H'; simp only [List.set_cons_zero] at H; go_simp))
  clear enn fnn fn1
  go_loopw [6, 7] (fun v6 v7 wr => ∃ (m : Nat) (r : Nat → Int), m ≤ nn ∧ v7 = .int .i64 ((m : Int) - 1) ∧ v6 = .bool (decide (x / 2 ^ m ≠ 0)) ∧ PtK r (pmul edK (x / 2 ^ m) P) ∧ Ow w wr [(g5, Blk 67 .u64 24 r), (g4, Blk 67 .u64 24 fun _ => 0), (g3, Blk 67 .u64 24 v)]) (fun _ v7 _ => (intOf v7 + 1).toNat)
  case atStart => exact ⟨nn, k0, Nat.le_refl _, rfl, by rw [HX.out]; rfl, by rw [HX.out]; exact V0.out.eq (pmul_zero edK P).symm, H.out⟩
  case round =>
    clear H V0
    obtain ⟨m, r, hm, rfl, rfl, hp, HR⟩ := hrel
    have VP := Lib.hid hp
    have H := Lib.hid HR
    clear hp HR
    cases m with
    | zero =>
      rw [show ((0 : Nat) : Int) - 1 = -1 from rfl]
      go_wp2_with (first
        | ((with_reducible apply own_load rowPt H); (case hgd => exact rfl); (case ho => exact rfl); (case hx => exact rfl); (case hi => first | exact at0 | exact at1 | exact at2 | exact at3 | exact at4 | exact at5 | exact at6 | exact at7 | exact at8 | exact at9); intro _ _; go_simp)
        | ((with_reducible apply own_store rowPt H); (case hgd => exact rfl); (case ho => exact rfl); (case hx => exact rfl); (case hy => exact rfl); (case hi => first | exact at0 | exact at1 | exact at2 | exact at3 | exact at4 | exact at5 | exact at6 | exact at7 | exact at8 | exact at9); intro ws H' _ _; replace H := H'; clear H'; simp only [List.set_cons_zero, List.set_cons_succ] at H; go_simp))
      exact bodyPost_ret (own_result 1 rowPt rfl _ H rfl rfl) rfl ⟨_, rfl, VP.out.eq (by rw [Nat.pow_zero, Nat.div_one]), H.out.bel⟩
    | succ j =>
      have ej : ((j + 1 : Nat) : Int) - 1 = (j : Int) := by omega
      rw [ej]
      clear ej
      have hid : decide ((0 : Int) ≤ (j : Int)) = true := by simp
      have HJ := Lib.hid hm
      obtain ⟨q, hq⟩ : ∃ q, j / 8 = q := ⟨_, rfl⟩
      obtain ⟨s, hs⟩ : ∃ s, j % 8 = s := ⟨_, rfl⟩
      have e1 : (j : Int) / 8 = (q : Int) := by omega
      have e2 : (j : Int) % 8 = (s : Int) := by omega
      have e3 : (j : Int).tmod 8 = (s : Int) := by rw [Int.tmod_eq_emod_of_nonneg (by omega)]; exact e2
      have qn : q < n := by have := HNN.out; omega
      have qn' : (q : Int) < (n : Int) := by omega
      have j800 : (j : Int) ≤ 800 := by have := HNN.out; omega
      have s8 : (s : Int) < 8 := by omega
      have hc1 : wr.cell? ⟨b, o + q, none⟩ = some (U (bt x q)) := (H.out.bel.cell (p := ⟨b, o + q, none⟩) HB.out).trans (HC.out q qn)
      rw [show U (bt x q) = .int .u8 ((dg x q : Nat) : Int) from congrArg (Value.int .u8) (U8_bt x q)] at hc1
      have hb1 : dg x q / 2 ^ s % 2 = x / 2 ^ j % 2 := by rw [← hq, ← hs, dg_bit]
      have hd := dg_lt x q
      obtain ⟨d, hd2⟩ : ∃ d, dg x q = d := ⟨_, rfl⟩
      rw [hd2] at hc1 hb1 hd
      have d256 : (d : Int) < 256 := by omega
      have HBT := Lib.hid hb1
      obtain ⟨y, hy⟩ : ∃ y, decide (x / 2 ^ (j + 1) ≠ 0) = y := ⟨_, rfl⟩
      rw [hy]
      have HY := Lib.hid hy
      clear hq hs hb1 hd2 hy hm qn
      go_wp2_with fail
      clear hc1
      go_loopw [8, 9] (fun v8 v9 wx => ∃ k : Nat, k ≤ s ∧ v9 = .int .i64 k ∧ v8 = .int .i64 ((d / 2 ^ k : Nat) : Int) ∧ Ow w wx [(g5, Blk 67 .u64 24 r), (g4, Blk 67 .u64 24 fun _ => 0), (g3, Blk 67 .u64 24 v)]) (fun _ v9 _ => s - (intOf v9).toNat)
      case atStart => exact ⟨0, by omega, rfl, by rw [Nat.pow_zero, Nat.div_one], H.out⟩
      case round =>
        clear H
        obtain ⟨k, hk, rfl, rfl, HR⟩ := hrel
        have H := Lib.hid HR
        clear HR
        have hlt : d / 2 ^ k ≤ d := Nat.div_le_self _ _
        have hh := half_once d k
        obtain ⟨u, hu⟩ : ∃ u, d / 2 ^ k = u := ⟨_, rfl⟩
        rw [hu] at hlt hh ⊢
        have Hu := Lib.hid hu
        have Hh := Lib.hid hh
        clear hu hh
        have u6 : (u : Int) ≤ 256 := by omega
        by_cases hks : k < s
        · have hid : decide ((k : Int) < (s : Int)) = true := by simp; omega
          go_wp2_with fail
          go_roundw
          case rel => exact ⟨k + 1, by omega, by go_num, by rw [← Hh.out]; congr 1, H.out⟩
          case measure => (simp [intOf] <;> omega)
        · obtain rfl : k = s := by omega
          have hid : decide ((k : Int) < (k : Int)) = false := by simp
          have HU : Hid (x / 2 ^ j = 2 * (x / 2 ^ (j + 1)) + u % 2) := Lib.hid (by rw [← Hu.out, HBT.out]; exact half_up x j)
          clear hks hk Hh hlt
          cases y with
          | false =>
            have HZ : Hid (x / 2 ^ (j + 1) = 0) := Lib.hid (by simpa using HY.out)
            have VQ : Hid (PtK r pzero) := Lib.hid (VP.out.eq (by rw [HZ.out]; exact pmul_zero edK P))
            rcases Nat.mod_two_eq_zero_or_one u with hu2 | hu2
            · have e4 : (u : Int) % 2 = 0 := by omega
              have e5 : (u : Int).tmod 2 = 0 := by rw [Int.tmod_eq_emod_of_nonneg (by omega)]; exact e4
              have HE : Hid (x / 2 ^ j = 2 * (x / 2 ^ (j + 1)) + 0) := Lib.hid (by rw [HU.out, hu2])
              clear hu2 HU
              go_wp2_with (first
                | ((with_reducible apply own_load rowPt H); (case hgd => exact rfl); (case ho => exact rfl); (case hx => exact rfl); (case hi => first | exact at0 | exact at1 | exact at2 | exact at3 | exact at4 | exact at5 | exact at6 | exact at7 | exact at8 | exact at9); intro _ _; go_simp)
                | ((with_reducible apply own_store rowPt H); (case hgd => exact rfl); (case ho => exact rfl); (case hx => exact rfl); (case hy => exact rfl); (case hi => first | exact at0 | exact at1 | exact at2 | exact at3 | exact at4 | exact at5 | exact at6 | exact at7 | exact at8 | exact at9); intro ws H' _ _; replace H := H'; clear H'; simp only [List.set_cons_zero, List.set_cons_succ] at H; go_simp))
              go_roundw
              case rel => exact ⟨j, r, by have := HJ.out; omega, by go_num, by rw [HE.out, HZ.out]; rfl, by rw [HE.out, HZ.out]; exact VQ.out.eq (pmul_zero edK P).symm, H.out⟩
              case measure => (simp [intOf] <;> omega)
            · have e4 : (u : Int) % 2 = 1 := by omega
              have e5 : (u : Int).tmod 2 = 1 := by rw [Int.tmod_eq_emod_of_nonneg (by omega)]; exact e4
              have HE : Hid (x / 2 ^ j = 2 * (x / 2 ^ (j + 1)) + 1) := Lib.hid (by rw [HU.out, hu2])
              clear hu2 HU
              go_wp2_with (first
                | ((with_reducible apply own_load rowPt H); (case hgd => exact rfl); (case ho => exact rfl); (case hx => exact rfl); (case hi => first | exact at0 | exact at1 | exact at2 | exact at3 | exact at4 | exact at5 | exact at6 | exact at7 | exact at8 | exact at9); intro _ _; go_simp)
                | ((with_reducible apply own_store rowPt H); (case hgd => exact rfl); (case ho => exact rfl); (case hx => exact rfl); (case hy => exact rfl); (case hi => first | exact at0 | exact at1 | exact at2 | exact at3 | exact at4 | exact at5 | exact at6 | exact at7 | exact at8 | exact at9); intro ws H' _ _; replace H := H'; clear H'; simp only [List.set_cons_zero] at H; go_simp)
                | ((fail_if_success have := V2); (with_reducible refine (ptAdd_k _ (HT.out.below H.out.bel) VQ.out Q.out).mono ?_); rintro e wc ⟨k2, rfl, hv, hb⟩; replace H := Lib.hid (H.out.call hb); clear hb; have V2 := Lib.hid hv; clear hv))
              go_roundw
              case rel => exact ⟨j, k2, by have := HJ.out; omega, by go_num, by rw [HE.out, HZ.out]; rfl, by rw [HE.out, HZ.out]; exact V2.out.eq (by rw [pmul_succ, pmul_zero]), H.out⟩
              case measure => (simp [intOf] <;> omega)
          | true =>
            have HZ : Hid (x / 2 ^ (j + 1) ≠ 0) := Lib.hid (by simpa using HY.out)
            rcases Nat.mod_two_eq_zero_or_one u with hu2 | hu2
            · have e4 : (u : Int) % 2 = 0 := by omega
              have e5 : (u : Int).tmod 2 = 0 := by rw [Int.tmod_eq_emod_of_nonneg (by omega)]; exact e4
              have HE : Hid (x / 2 ^ j = 2 * (x / 2 ^ (j + 1)) + 0) := Lib.hid (by rw [HU.out, hu2])
              clear hu2 HU
              go_wp2_with (first
                | ((with_reducible apply own_load rowPt H); (case hgd => exact rfl); (case ho => exact rfl); (case hx => exact rfl); (case hi => first | exact at0 | exact at1 | exact at2 | exact at3 | exact at4 | exact at5 | exact at6 | exact at7 | exact at8 | exact at9); intro _ _; go_simp)
                | ((with_reducible apply own_store rowPt H); (case hgd => exact rfl); (case ho => exact rfl); (case hx => exact rfl); (case hy => exact rfl); (case hi => first | exact at0 | exact at1 | exact at2 | exact at3 | exact at4 | exact at5 | exact at6 | exact at7 | exact at8 | exact at9); intro ws H' _ _; replace H := H'; clear H'; simp only [List.set_cons_zero] at H; go_simp)
                | ((fail_if_success have := V1); (with_reducible refine (ptDouble_k _ (HT.out.below H.out.bel) VP.out).mono ?_); rintro e wc ⟨k1, rfl, hv, hb⟩; replace H := Lib.hid (H.out.call hb); clear hb; have V1 := Lib.hid hv; clear hv))
              go_roundw
              case rel => exact ⟨j, k1, by have := HJ.out; omega, by go_num, by rw [HE.out, decide_eq_true]; have := HZ.out; omega, by rw [HE.out, Nat.add_zero, pmul_two]; exact V1.out, H.out⟩
              case measure => (simp [intOf] <;> omega)
            · have e4 : (u : Int) % 2 = 1 := by omega
              have e5 : (u : Int).tmod 2 = 1 := by rw [Int.tmod_eq_emod_of_nonneg (by omega)]; exact e4
              have HE : Hid (x / 2 ^ j = 2 * (x / 2 ^ (j + 1)) + 1) := Lib.hid (by rw [HU.out, hu2])
              clear hu2 HU
              go_wp2_with (first
                | ((with_reducible apply own_load rowPt H); (case hgd => exact rfl); (case ho => exact rfl); (case hx => exact rfl); (case hi => first | exact at0 | exact at1 | exact at2 | exact at3 | exact at4 | exact at5 | exact at6 | exact at7 | exact at8 | exact at9); intro _ _; go_simp)
                | ((with_reducible apply own_store rowPt H); (case hgd => exact rfl); (case ho => exact rfl); (case hx => exact rfl); (case hy => exact rfl); (case hi => first | exact at0 | exact at1 | exact at2 | exact at3 | exact at4 | exact at5 | exact at6 | exact at7 | exact at8 | exact at9); intro ws H' _ _; replace H := H'; clear H'; simp only [List.set_cons_zero] at H; go_simp)
                | ((fail_if_success have := V1); (with_reducible refine (ptDouble_k _ (HT.out.below H.out.bel) VP.out).mono ?_); rintro e wc ⟨k1, rfl, hv, hb⟩; replace H := Lib.hid (H.out.call hb); clear hb; have V1 := Lib.hid hv; clear hv)
                | ((fail_if_success have := V2); (with_reducible refine (ptAdd_k _ (HT.out.below H.out.bel) V1.out Q.out).mono ?_); rintro e wc ⟨k2, rfl, hv, hb⟩; replace H := Lib.hid (H.out.call hb); clear hb; have V2 := Lib.hid hv; clear hv))
              go_roundw
              case rel => exact ⟨j, k2, by have := HJ.out; omega, by go_num, by rw [HE.out, decide_eq_true]; have := HZ.out; omega, by rw [HE.out, pmul_succ, pmul_two]; exact V2.out, H.out⟩
              case measure => (simp [intOf] <;> omega)
end Go.Proofs.YtckmboebipbpbaaDoor
