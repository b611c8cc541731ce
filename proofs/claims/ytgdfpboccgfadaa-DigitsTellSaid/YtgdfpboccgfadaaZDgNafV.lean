/-
  The contract of digits.Naf. No statement is proved here: lemmas for the walks.
-/
import Derived.Test.YtgdfpboccgfadaaZDgNaf
namespace Go.Proofs.Ytgdfpboccgfadaa
open Go.RowKit

theorem skip_dg {x k i : Nat} (h : nz x k i) : updZ (mix i (ndg x k) fun _ => 0) i 0 = mix (i + 1) (ndg x k) fun _ => 0 := by
  have e : ndg x k i = 0 := by unfold ndg; rw [if_pos h]
  have := mixZ_upd i (ndg x k) fun _ => 0
  rwa [e] at this
theorem skip_mix {x k i : Nat} (h : nz x k i) : (mix i (ndg x k) fun _ => 0) = mix (i + 1) (ndg x k) fun _ => 0 := by
  rw [← skip_dg h]
  funext j
  unfold updZ
  by_cases hj : j = i
  · rw [if_pos hj, hj, mix_at]
  · rw [if_neg hj]
set_option maxRecDepth 8000 in
set_option maxHeartbeats 1600000 in
theorem carried_n {w0 : World} (w : World) {g gb gf gq : Nat} {a : Option Addr} {n c x : Nat} (nn k : Nat) (H0 : Ow w0 w [(gf, Oc 3 (.int .i64 0)), (gb, Oc 39 (Bit g)), (g, Oc 22 (.slice a n c)), (gq, Oc 3 (.int .i64 (k : Int)))]) (hs : Sb w0 w0.heap.size a n c x)
    (hn : n ≤ 64) (hk : 2 ≤ k) (hk8 : k ≤ 8) (hn1 : nn ≤ 5000) :
    Calls Try.prog 28 #[.int .i64 (nn : Int), .int .i64 (k : Int), .func (.func 29) #[] #[.pointer (some ⟨gf, 0, none⟩), .pointer (some ⟨gb, 0, none⟩), .pointer (some ⟨gq, 0, none⟩)]] w fun e w' => ∃ go, e = .returned (.slice (some ⟨go, 0, none⟩) nn nn) ∧ w0.heap.size ≤ go ∧ w'.heap[go]? = some (Blk 3 .i64 nn (ndg x k)) ∧ ∃ fr : Nat, Ow w0 w' [(go, Blk 3 .i64 nn (ndg x k)), (gf, Oc 3 (.int .i64 (fr : Int))), (gb, Oc 39 (Bit g)), (g, Oc 22 (.slice a n c)), (gq, Oc 3 (.int .i64 (k : Int)))] := by
  have HS := Lib.hid hs
  have H := Lib.hid H0
  obtain ⟨j, hj⟩ : ∃ j, k = j + 1 := ⟨k - 1, by omega⟩
  have hkj : (k : Int) - 1 = (j : Int) := by omega
  have HJ := Lib.hid hj
  have HOV : Hid (∀ i, nov x k i ≤ 1) := Lib.hid (nov_le x hk)
  have j8 : j < 8 := by omega
  clear hs H0 hj hk
  go_enter Try.func28, Try.ntmps28
  go_wp2_with fail
  go_step3
  go_wp2_with (first
    | ((with_reducible apply own_make (n := nn) H); (case hgd => exact rfl); (case ho => exact rfl); (case hx => exact rfl); (case hy => exact rfl); (case hc => omega); intro wd go H' _ _; replace H := H'; clear H'; go_simp))
  go_step3
  go_wp2_with fail
  go_loopg [8, 15] nn (fun gk v8 v wr => ∃ i : Nat, i + gk = nn ∧ v = .int .i64 i ∧ v8 = .int .i64 ((nov x k i : Nat) : Int) ∧ Ow w0 wr [(go, Blk 3 .i64 nn (mix i (ndg x k) fun _ => 0)), (gf, Oc 3 (.int .i64 ((nfr x k i : Nat) : Int))), (gb, Oc 39 (Bit g)), (g, Oc 22 (.slice a n c)), (gq, Oc 3 (.int .i64 (k : Int)))])
  case atStart => exact ⟨0, by omega, rfl, rfl, by rw [mix_zero]; exact H.out⟩
  case round =>
    clear H
    obtain ⟨i, hi, rfl, rfl, HO⟩ := hrel
    cases gk with
    | succ go9 =>
      have hlt : i < nn := by omega
      have hid : decide ((i : Int) < (nn : Int)) = true := by simp; omega
      have hov := HOV.out i
      by_cases hz : nz x k i
      · have HZ : Hid (i < nfr x k i ∨ tb x i = nov x k i) := Lib.hid hz
        have HF := Lib.hid (nfr_skip hz)
        rw [skip_mix hz] at HO
        have H := Lib.hid HO
        obtain ⟨o, eo⟩ : ∃ o, nov x k i = o := ⟨_, rfl⟩
        obtain ⟨fr, ef⟩ : ∃ fr, nfr x k i = fr := ⟨_, rfl⟩
        rw [eo] at hov HZ HF ⊢
        rw [ef] at HZ HF H
        clear HO hz eo ef
        go_wp2_with ((with_reducible refine (naf1_skip (gq := gq) i k o fr ⟨H.out.oc 3 rfl, HS.out.call H.out.bel⟩ (H.out.oc 2 rfl) (H.out.oc 1 rfl) hn (by omega) hov HZ.out).mono ?_); rintro e wc ⟨rfl, rfl⟩)
        go_roundg go9
        case rel => exact ⟨i + 1, by omega, by go_num, by rw [HF.out.2], by rw [HF.out.1]; exact H.out⟩
        case measure => omega
      · have HZ : Hid (¬ (i < nfr x k i ∨ tb x i = nov x k i)) := Lib.hid hz
        have H := Lib.hid HO
        have hpl : x / 2 ^ i % 2 ^ k < 2 ^ k := Nat.mod_lt _ (Nat.two_pow_pos k)
        have hp8 : 2 ^ k ≤ 2 ^ 8 := Nat.pow_le_pow_right (by omega) hk8
        have ht := nfr_take hz
        obtain ⟨o, eo⟩ : ∃ o, nov x k i = o := ⟨_, rfl⟩
        obtain ⟨fr, ef⟩ : ∃ fr, nfr x k i = fr := ⟨_, rfl⟩
        obtain ⟨s, es⟩ : ∃ s, x / 2 ^ i % 2 ^ k + o = s := ⟨_, rfl⟩
        have hs5 : s ≤ 512 := by omega
        obtain ⟨h, o', p, e1, hb1, e2, hb2, e3, hb3, q1, q2⟩ := over_parts HJ.out hk8 hs5
        obtain ⟨d, e4⟩ : ∃ d : Int, (s : Int) - (p : Int) = d := ⟨_, rfl⟩
        have SO : nov x k (i + 1) = o' := by
          rw [ht.2, eo, es]
          exact q1
        have SD : ndg x k i = d := by
          unfold ndg
          rw [if_neg hz, SO, eo, es, ← nat_pow, ← e4, q2]
          push_cast
          rfl
        rw [eo] at hov HZ ⊢
        rw [ef] at HZ H
        have HSO := Lib.hid SO
        have HFR := Lib.hid ht.1
        have ES := Lib.hid es
        have HE : Hid (updZ (mix i (ndg x k) fun _ => 0) i d = mix (i + 1) (ndg x k) fun _ => 0) := Lib.hid (by rw [← SD]; exact mixZ_upd i (ndg x k) fun _ => 0)
        have hd1 : -200000 ≤ d := by omega
        have hd2 : d ≤ 512 := by omega
        have hlt' : (i : Int) < (nn : Int) := by omega
        clear HO hz eo ef es SO SD q1 q2 hpl hp8 ht
        go_wp2_with (first
          | ((with_reducible refine (naf1_take i k o fr H.out HS.out hn hk8 (by omega) hov HZ.out s ES.out).mono ?_); rintro e wc ⟨rfl, hO⟩; replace H := Lib.hid hO; clear hO)
          | ((with_reducible apply own_put oneI H); (case hgd => exact rfl); (case ho => exact rfl); (case hx => exact rfl); (case hy => exact rfl); (case hi => exact at0); (case hj => omega); intro ws H' _ _; replace H := H'; clear H'; simp only [List.set_cons_zero] at H; rw [HE.out] at H; go_simp))
        go_roundg go9
        case rel => exact ⟨i + 1, by omega, by go_num, by rw [HSO.out], by rw [HFR.out]; exact H.out⟩
        case measure => omega
    | zero =>
      obtain rfl : nn = i := by omega
      have hid : decide ((nn : Int) < (nn : Int)) = false := by simp
      have H2 := Lib.hid (HO.like 0 (g := ndg x k) rfl fun j hj => mix_all _ _ _ _ hj)
      simp only [List.set_cons_zero] at H2
      clear hi HO
      generalize nov x k nn = o
      go_wp2_with fail
      try rw [Exit.noGoto_ret]
      go_ret
      exact ⟨go, rfl, H2.out.ge 0 rfl, H2.out.row 0 rfl, _, H2.out⟩
set_option maxRecDepth 8000 in
set_option maxHeartbeats 800000 in
theorem naf_bad (a : Option Addr) (n c : Nat) (k r : Int) (w : World) (hr : ask n k 2 = r) (h0 : r ≠ 0) :
    Calls Try.prog 12 #[.slice a n c, .int .i64 k] w fun e w' => e = .returned (.tuple #[.slice none 0 0, .int .i64 r]) ∧ Below w.heap.size w w' := by
  have E := Lib.hid hr
  have hne : (r != 0) = true := by simpa using h0
  clear hr h0
  have H := Lib.hid (Ow.start w)
  go_enter Try.func12, Try.ntmps12
  go_wp2_with (first
    | ((fail_if_success have := g1); (with_reducible apply own_box1 (one_int .i64 k) H); (case hgd => exact rfl); (case ho => exact rfl); (case hx => exact rfl); intro w1 g1 H' _ _; replace H := H'; clear H'; go_simp)
    | ((with_reducible apply own_load1 cellZ H); (case hgd => exact rfl); (case ho => exact rfl); (case hx => exact rfl); (case hi => exact at0); intro _ _; go_simp)
    | ((with_reducible refine (asked_v a n c k 2 _).mono ?_); rintro e w' ⟨rfl, hb⟩; rw [E.out]; replace H := Lib.hid (H.out.call hb); clear hb))
  go_ret2
  exact ⟨rfl, H.out.bel⟩
set_option maxRecDepth 8000 in
set_option maxHeartbeats 1600000 in
theorem naf_v (a : Option Addr) (n c x k : Nat) (w : World) (hn : n ≤ 64) (hk : 2 ≤ k) (hk8 : k ≤ 8) (hs : Sb w w.heap.size a n c x) :
    Calls Try.prog 12 #[.slice a n c, .int .i64 (k : Int)] w fun e w' => ∃ g, e = .returned (.tuple #[.slice (some ⟨g, 0, none⟩) (8 * n + 1) (8 * n + 1), .int .i64 0]) ∧ w.heap.size ≤ g ∧ w'.heap[g]? = some (Blk 3 .i64 (8 * n + 1) (ndg x k)) ∧ Below w.heap.size w w' := by
  have E : Hid (ask n (k : Int) 2 = 0) := Lib.hid (by unfold ask; rw [if_neg (by omega), if_neg (by omega)])
  have HS := Lib.hid hs
  obtain ⟨m, hm⟩ : ∃ m, 8 * n + 1 = m := ⟨_, rfl⟩
  have hmz : 8 * (n : Int) + 1 = (m : Int) := by omega
  have hm6 : m ≤ 600 := by omega
  rw [hm]
  clear hs hm
  have H := Lib.hid (Ow.start w)
  go_enter Try.func12, Try.ntmps12
  go_wp2_with (first
    | ((fail_if_success have := g1); (with_reducible apply own_box1 (one_int .i64 (k : Int)) H); (case hgd => exact rfl); (case ho => exact rfl); (case hx => exact rfl); intro w1 g1 H' _ _; replace H := H'; clear H'; go_simp)
    | ((with_reducible apply own_load1 cellZ H); (case hgd => exact rfl); (case ho => exact rfl); (case hx => exact rfl); (case hi => first | exact at0 | exact at3); intro _ _; go_simp)
    | ((with_reducible refine (asked_v a n c (k : Int) 2 _).mono ?_); rintro e wa ⟨rfl, hb⟩; rw [E.out]; replace H := Lib.hid (H.out.call hb); clear hb)
    | ((with_reducible refine (reader_v a n c x w _ _ H.out (HS.out.call H.out.bel)).mono ?_); rintro e wb ⟨g2, rfl, hO, _⟩; replace H := Lib.hid hO; clear hO)
    | ((fail_if_success have := g3); (with_reducible apply own_alloc1 nilF one_nil H); (case hgd => exact rfl); (case ho => exact rfl); intro w3 g3 H' _ _; replace H := H'; clear H'; go_simp)
    | ((with_reducible apply own_store1 cellF (one_func _ _ _) H); (case hgd => exact rfl); (case ho => exact rfl); (case hx => exact rfl); (case hy => exact rfl); (case hi => exact at0); intro ws H' _ _; replace H := H'; clear H'; simp only [List.set_cons_zero] at H; go_simp)
    | ((fail_if_success have := g4); (with_reducible apply own_alloc1 nilZ (one_int .i64 0) H); (case hgd => exact rfl); (case ho => exact rfl); intro w4 g4 H' _ _; replace H := H'; clear H'; go_simp)
    | ((with_reducible apply own_store1 cellZ (one_int .i64 0) H); (case hgd => exact rfl); (case ho => exact rfl); (case hx => exact rfl); (case hy => exact rfl); (case hi => exact at0); intro ws H' _ _; replace H := H'; clear H'; simp only [List.set_cons_zero] at H; go_simp)
    | ((with_reducible refine (carried_n (n := n) (a := a) (c := c) (g := g2) (gb := g3) (gf := g4) (gq := g1) _ m k H.out HS.out hn hk hk8 (by omega)).mono ?_); rintro e wd ⟨g5, rfl, hge, hrow, fr, hO⟩; replace H := Lib.hid hO; clear hO hge hrow))
  go_ret2
  exact ⟨_, rfl, H.out.ge 0 rfl, H.out.row 0 rfl, H.out.bel⟩
end Go.Proofs.Ytgdfpboccgfadaa
