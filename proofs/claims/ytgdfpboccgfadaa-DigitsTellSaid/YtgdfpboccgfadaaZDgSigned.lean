/-
  The contracts of digits.Signed and of what it hands on. No statement is proved here: lemmas for the walks.
-/
import Derived.Test.YtgdfpboccgfadaaZDgAsk
namespace Go.Proofs.Ytgdfpboccgfadaa
open Go.RowKit

theorem cellF : IsCell Try.prog 39 := ⟨fun w => by unfold isAgg; rw [Sem.run_bind, run_underlying Try.underlying39 w]; rfl, by kernel_rfl⟩
theorem cellZ : IsCell Try.prog 3 := ⟨fun w => by unfold isAgg; rw [Sem.run_bind, run_underlying Try.underlying3 w]; rfl, by kernel_rfl⟩
theorem nilF (w : World) : (zeroValue 39).run Try.prog w = .ok .nilFunc w := by kernel_rfl
theorem nilZ (w : World) : (zeroValue 3).run Try.prog w = .ok (.int .i64 0) w := by kernel_rfl
set_option maxRecDepth 8000 in
set_option maxHeartbeats 800000 in
theorem signed1_v {w : World} {g gb gq : Nat} {a : Option Addr} {n c x : Nat} (i k o : Nat) (zo : Int) (hzo : zo = (o : Int)) (hR : Rd w g a n c x) (hb : w.cell? ⟨gb, 0, none⟩ = some (Bit g)) (hc : w.cell? ⟨gq, 0, none⟩ = some (.int .i64 (k : Int)))
    (hn : n ≤ 64) (hk : k ≤ 8) (hi : i * k ≤ 10000) (ho : o ≤ 1) (s : Nat) (hs : pl x k i + o = s) :
    Calls Try.prog 27 #[.int .i64 (i : Int), .int .i64 zo, .pointer (some ⟨gb, 0, none⟩), .pointer (some ⟨gq, 0, none⟩)] w fun e w' => e = .returned (.tuple #[.int .i64 (s : Int), .bool true]) ∧ w' = w := by
  subst hzo
  have HR := Lib.hid hR
  have hmul : (i : Int) * (k : Int) = ((i * k : Nat) : Int) := by push_cast; rfl
  have EQ : Hid (tog x (i * k) 1 k = pl x k i) := Lib.hid (pl_tog x k i)
  have hpl := pl_lt x k i
  have hp8 : 2 ^ k ≤ 2 ^ 8 := Nat.pow_le_pow_right (by omega) hk
  have hp : pl x k i ≤ 256 := by omega
  obtain ⟨q, hq⟩ : ∃ q, i * k = q := ⟨_, rfl⟩
  rw [hq] at hi hmul EQ
  have es : ((pl x k i : Nat) : Int) + (o : Int) = (s : Int) := by omega
  clear hR hpl hp8 hq hs
  go_enter Try.func27, Try.ntmps27
  go_wp2_with ((with_reducible refine (together_v q 1 k (q : Int) 1 rfl (by omega) HR.out (by omega) hi (by omega) hk).mono ?_); rintro e wc ⟨rfl, rfl⟩; rw [EQ.out])
  go_ret2
  exact ⟨rfl, rfl⟩
theorem over_parts {k j s : Nat} (hj : k = j + 1) (hk8 : k ≤ 8) (hs : s ≤ 512) : ∃ h o p : Nat, wrap64 ((2 : Int) ^ j) = (h : Int) ∧ h ≤ 128 ∧ ((s : Int) + (h : Int)) / 2 ^ k = (o : Int) ∧ o ≤ 640 ∧ wrap64 ((o : Int) * 2 ^ k) = (p : Int) ∧ p ≤ 170000 ∧ (s + 2 ^ (k - 1)) / 2 ^ k = o ∧ p = o * 2 ^ k := by
  have hp : 2 ^ j ≤ 2 ^ 7 := Nat.pow_le_pow_right (by omega) (by omega)
  have hp2 : 2 ^ k ≤ 2 ^ 8 := Nat.pow_le_pow_right (by omega) hk8
  have hd := Nat.div_le_self (s + 2 ^ j) (2 ^ k)
  have hm : (s + 2 ^ j) / 2 ^ k * 2 ^ k ≤ 640 * 256 := Nat.mul_le_mul (by omega) hp2
  refine ⟨2 ^ j, (s + 2 ^ j) / 2 ^ k, (s + 2 ^ j) / 2 ^ k * 2 ^ k, ?_, by omega, ?_, by omega, ?_, by omega, by rw [hj, Nat.add_sub_cancel], rfl⟩
  · rw [← nat_pow]
    clear hd hm
    generalize 2 ^ j = u at *
    exact IntWalk.wrap64_in _ ⟨by omega, by omega⟩
  · push_cast
    rfl
  · have : ((((s + 2 ^ j) / 2 ^ k : Nat) : Int) * 2 ^ k) = (((s + 2 ^ j) / 2 ^ k * 2 ^ k : Nat) : Int) := by push_cast; rfl
    rw [this]
    exact IntWalk.wrap64_in _ ⟨by omega, by omega⟩
set_option maxRecDepth 8000 in
set_option maxHeartbeats 1600000 in
theorem carried_s {w0 : World} (w : World) {g gb gq : Nat} {a : Option Addr} {n c x : Nat} (nn k : Nat) (H0 : Ow w0 w [(gb, Oc 39 (Bit g)), (g, Oc 22 (.slice a n c)), (gq, Oc 3 (.int .i64 (k : Int)))]) (hs : Sb w0 w0.heap.size a n c x)
    (hn : n ≤ 64) (hk : 1 ≤ k) (hk8 : k ≤ 8) (hnn : nn * k ≤ 10000) (hn1 : nn ≤ 10000) :
    Calls Try.prog 28 #[.int .i64 (nn : Int), .int .i64 (k : Int), .func (.func 27) #[] #[.pointer (some ⟨gb, 0, none⟩), .pointer (some ⟨gq, 0, none⟩)]] w fun e w' => ∃ go, e = .returned (.slice (some ⟨go, 0, none⟩) nn nn) ∧ Ow w0 w' [(go, Blk 3 .i64 nn (sdg x k)), (gb, Oc 39 (Bit g)), (g, Oc 22 (.slice a n c)), (gq, Oc 3 (.int .i64 (k : Int)))] := by
  have HS := Lib.hid hs
  have H := Lib.hid H0
  have HK : Hid (∀ i, i < nn → i * k ≤ 10000) := Lib.hid fun i hi => Nat.le_trans (Nat.mul_le_mul_right k (by omega)) hnn
  obtain ⟨j, hj⟩ : ∃ j, k = j + 1 := ⟨k - 1, by omega⟩
  have hkj : (k : Int) - 1 = (j : Int) := by omega
  have HJ := Lib.hid hj
  have HOV : Hid (∀ i, sov x k i ≤ 1) := Lib.hid (sov_le x (by omega))
  have j8 : j < 8 := by omega
  clear hs H0 hnn hj
  go_enter Try.func28, Try.ntmps28
  go_wp2_with fail
  go_step3
  go_wp2_with (first
    | ((with_reducible apply own_make (n := nn) H); (case hgd => exact rfl); (case ho => exact rfl); (case hx => exact rfl); (case hy => exact rfl); (case hc => omega); intro wd go H' _ _; replace H := H'; clear H'; go_simp))
  go_step3
  go_wp2_with fail
  go_loopg [8, 15] nn (fun gk v8 v wr => ∃ i : Nat, i + gk = nn ∧ v = .int .i64 i ∧ v8 = .int .i64 ((sov x k i : Nat) : Int) ∧ Ow w0 wr [(go, Blk 3 .i64 nn (mix i (sdg x k) fun _ => 0)), (gb, Oc 39 (Bit g)), (g, Oc 22 (.slice a n c)), (gq, Oc 3 (.int .i64 (k : Int)))])
  case atStart => exact ⟨0, by omega, rfl, rfl, by rw [mix_zero]; exact H.out⟩
  case round =>
    clear H
    obtain ⟨i, hi, rfl, rfl, HO⟩ := hrel
    have H := Lib.hid HO
    clear HO
    cases gk with
    | succ go9 =>
      have hlt : i < nn := by omega
      have hid : decide ((i : Int) < (nn : Int)) = true := by simp; omega
      have HIK := Lib.hid (HK.out i hlt)
      have hov := HOV.out i
      obtain ⟨s, es⟩ : ∃ s, pl x k i + sov x k i = s := ⟨_, rfl⟩
      obtain ⟨o, eo⟩ : ∃ o, sov x k i = o := ⟨_, rfl⟩
      rw [eo] at hov es ⊢
      have ES := Lib.hid es
      have hpl := pl_lt x k i
      have hp8 : 2 ^ k ≤ 2 ^ 8 := Nat.pow_le_pow_right (by omega) hk8
      have hs5 : s ≤ 512 := by omega
      obtain ⟨h, o', p, e1, hb1, e2, hb2, e3, hb3, q1, q2⟩ := over_parts HJ.out hk8 hs5
      obtain ⟨d, e4⟩ : ∃ d : Int, (s : Int) - (p : Int) = d := ⟨_, rfl⟩
      have SO : sov x k (i + 1) = o' := by
        rw [sov, eo, es]
        exact q1
      have SD : sdg x k i = d := by
        unfold sdg
        rw [SO, eo, es, ← nat_pow, ← e4, q2]
        push_cast
        rfl
      have HSO := Lib.hid SO
      have HE : Hid (updZ (mix i (sdg x k) fun _ => 0) i d = mix (i + 1) (sdg x k) fun _ => 0) := Lib.hid (by rw [← SD]; exact mixZ_upd i (sdg x k) fun _ => 0)
      have hd1 : -200000 ≤ d := by omega
      have hd2 : d ≤ 512 := by omega
      have hlt' : (i : Int) < (nn : Int) := by omega
      clear es SO SD q1 q2 hpl hp8 hk
      go_wp2_with (first
        | ((with_reducible refine (signed1_v i k o (o : Int) rfl ⟨H.out.oc 2 rfl, HS.out.call H.out.bel⟩ (H.out.oc 1 rfl) (H.out.oc 3 rfl) hn hk8 HIK.out hov s ES.out).mono ?_); rintro e wc ⟨rfl, rfl⟩)
        | ((with_reducible apply own_put oneI H); (case hgd => exact rfl); (case ho => exact rfl); (case hx => exact rfl); (case hy => exact rfl); (case hi => exact at0); (case hj => omega); intro ws H' _ _; replace H := H'; clear H'; simp only [List.set_cons_zero] at H; rw [HE.out] at H; go_simp))
      go_roundg go9
      case rel => exact ⟨i + 1, by omega, by go_num, by rw [HSO.out], H.out⟩
      case measure => omega
    | zero =>
      obtain rfl : nn = i := by omega
      have hid : decide ((nn : Int) < (nn : Int)) = false := by simp
      have H2 := Lib.hid (H.out.like 0 (g := sdg x k) rfl fun j hj => mix_all _ _ _ _ hj)
      simp only [List.set_cons_zero] at H2
      clear hi H hk
      generalize sov x k nn = o
      go_wp2_with fail
      try rw [Exit.noGoto_ret]
      go_ret
      exact ⟨go, rfl, H2.out⟩
end Go.Proofs.Ytgdfpboccgfadaa
