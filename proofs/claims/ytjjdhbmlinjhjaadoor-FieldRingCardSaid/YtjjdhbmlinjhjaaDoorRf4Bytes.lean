/-
  The contracts of chicoryref04's Of, Bytes, Fits, Prime.
-/
import Derived.Test.YtjjdhbmlinjhjaaDoorRf4Ops
import Derived.Test.YtjjdhbmlinjhjaaDoorOwnB
import Derived.Test.YtjjdhbmlinjhjaaDoorByteM
namespace Go.Proofs.YtjjdhbmlinjhjaaDoor
open Go.RowKit

theorem byte_nat (b : BitVec 8) : ∃ c : Nat, U8 b = (c : Int) ∧ c = b.toNat ∧ c < 256 := ⟨b.toNat, rfl, rfl, b.isLt⟩
theorem dF_even (f : Nat → BitVec 8) (i : Nat) (hi : i < 8) : dF (nB f 56) (2 * i) = ((nB (fun j => f (7 * i + j)) 7 % 268435456 : Nat) : Int) := by
  unfold dF
  rw [pow_28, nB_mid f i 56 (49 - 7 * i) (by omega)]
  congr 1
  omega
theorem dF_odd (f : Nat → BitVec 8) (i : Nat) (hi : i < 8) : dF (nB f 56) (2 * i + 1) = ((nB (fun j => f (7 * i + j)) 7 / 268435456 : Nat) : Int) := by
  have h := nB_lt (fun j => f (7 * i + j)) 7
  unfold dF
  rw [Nat.pow_succ, ← Nat.div_div_eq_div_mul, pow_28, nB_mid f i 56 (49 - 7 * i) (by omega)]
  congr 1
  omega
/-- The last m of seven bytes. -/
def hB (f : Nat → BitVec 8) (i m : Nat) : Nat := nB (fun j => f (7 * i + (7 - m) + j)) m
theorem hB_step (f : Nat → BitVec 8) (i m : Nat) (hm : m < 7) : hB f i (m + 1) = hB f i m * 256 + (f (7 * i + (6 - m))).toNat := by
  have h := nB_front (fun j => f (7 * i + (7 - (m + 1)) + j)) m
  have e : (fun j => f (7 * i + (7 - (m + 1)) + (1 + j))) = fun j => f (7 * i + (7 - m) + j) := by
    funext j
    congr 1
    omega
  have e0 : 7 * i + (7 - (m + 1)) + 0 = 7 * i + (6 - m) := by omega
  rw [e, e0] at h
  unfold hB
  rw [h, Nat.mul_comm 256, Nat.add_comm]
theorem hB_lt (f : Nat → BitVec 8) (i m : Nat) (hm : m ≤ 7) : hB f i m < 72057594037927936 :=
  Nat.lt_of_lt_of_le (nB_lt _ m) (Nat.pow_le_pow_right (n := 256) (by omega) hm)
theorem mixZ_two (D : Nat → Int) (i : Nat) : updZ (updZ (mixZ (2 * i) D fun _ => 0) (2 * i) (D (2 * i))) (2 * i + 1) (D (2 * i + 1)) = mixZ (2 * (i + 1)) D fun _ => 0 := by
  rw [mixZ_upd, mixZ_upd]
  congr 1
set_option maxRecDepth 8000 in
set_option maxHeartbeats 1600000 in
theorem refOf_any (a : Option Addr) (c : Nat) (f : Nat → BitVec 8) (w : World) (hs : Sl w w.heap.size a 56 c f) :
    Calls Tryd.prog 19 #[.slice a 56 c] w fun e w' => e = .returned (FV (nB f 56 % pN)) ∧ Below w.heap.size w w' := by
  have hv : val (dF (nB f 56)) 16 = ((nB f 56 : Nat) : Int) := by
    have h : nB f 56 < 268435456 ^ 16 := Nat.lt_of_lt_of_le (nB_lt f 56) (by decide +kernel)
    rw [val_dF, Nat.mod_eq_of_lt h]
  have HN := Lib.hid (fun w => norm_any (dF (nB f 56)) w (fun i _ => by have := dF_bd (nB f 56) i; omega) (by rw [hv]; omega))
  rw [hv, left_p] at HN
  obtain ⟨b, o, rfl, hb, _⟩ := hs.get 0 (by omega)
  have hcell : ∀ i, i < 56 → w.cell? ⟨b, o + i, none⟩ = some (U (f i)) := fun i hi => by
    obtain ⟨b', o', e, _, hc⟩ := hs.get i hi
    obtain ⟨rfl, rfl⟩ : b = b' ∧ o = o' := by
      have := Option.some.inj e
      injection this with e1 e2
      exact ⟨e1, e2⟩
    exact hc
  have HC := Lib.hid hcell
  have HE := Lib.hid (dF_even f)
  have HO := Lib.hid (dF_odd f)
  have Hb := Lib.hid hb
  clear hv hs hcell hb
  have H := Lib.hid (Ow.start w)
  go_enter Tryd.func19, Tryd.ntmps19
  go_wp2_with (first
    | ((fail_if_success have := g1); (with_reducible apply own_alloc intsF.zero H); (case hgd => exact rfl); (case ho => exact rfl); intro w1 g1 H' _ _; replace H := H'; clear H'; go_simp)
    | ((fail_if_success have := g2); (with_reducible apply own_alloc intsF.zero H); (case hgd => exact rfl); (case ho => exact rfl); intro w2 g2 H' _ _; replace H := H'; clear H'; go_simp))
  go_loopw [4, 5, 6] (fun v4 v5 v6 wr => ∃ i : Nat, i ≤ 8 ∧ v4 = .int .i64 i ∧ Ow w wr [(g2, Blk 36 .i64 16 (mixZ (2 * i) (dF (nB f 56)) fun _ => 0)), (g1, Blk 36 .i64 16 fun _ => 0)]) (fun v4 _ _ _ => 8 - (intOf v4).toNat)
  case atStart => exact ⟨0, by omega, rfl, by rw [Nat.mul_zero, mixZ_zero]; exact H.out⟩
  case round =>
    clear H
    obtain ⟨i, hi, rfl, HR⟩ := hrel
    by_cases hlt : i < 8
    · have hid : decide ((i : Int) < 8) = true := by simp; omega
      have i8 : (i : Int) < 8 := by omega
      have H := Lib.hid HR
      clear HR
      go_wp2_with fail
      go_loopw [5, 6] (fun v5 v6 wr' => ∃ m : Nat, m ≤ 7 ∧ v6 = .int .i64 (6 - (m : Int)) ∧ v5 = .int .i64 ((hB f i m : Nat) : Int) ∧ Ow w wr' [(g2, Blk 36 .i64 16 (mixZ (2 * i) (dF (nB f 56)) fun _ => 0)), (g1, Blk 36 .i64 16 fun _ => 0)]) (fun _ v6 _ => (intOf v6 + 1).toNat)
      case atStart => exact ⟨0, by omega, rfl, rfl, H.out⟩
      case round =>
        clear H
        obtain ⟨m, hm, rfl, rfl, HR⟩ := hrel
        by_cases hlm : m < 7
        · obtain ⟨z, hz⟩ : ∃ z : Int, 6 - (m : Int) = z := ⟨_, rfl⟩
          obtain ⟨p, hp⟩ : ∃ p, 7 * i + (6 - m) = p := ⟨_, rfl⟩
          have e1 : 7 * (i : Int) + z = (p : Int) := by omega
          have z0 : 0 ≤ z := by omega
          have z7 : z ≤ 6 := by omega
          have hd : decide ((0 : Int) ≤ z) = true := by simpa using z0
          have p56 : p < 56 := by omega
          have p56' : (p : Int) < 56 := by omega
          have hc : wr.cell? ⟨b, o + p, none⟩ = some (U (f p)) := (HR.bel.cell (p := ⟨b, o + p, none⟩) Hb.out).trans (HC.out p p56)
          obtain ⟨y, hy, hy2, hy3⟩ := byte_nat (f p)
          rw [show U (f p) = .int .u8 (y : Int) from congrArg (Value.int .u8) hy] at hc
          have hS := Lib.hid (hB_step f i m hlm)
          rw [hp, ← hy2] at hS
          have hl := hB_lt f i (m + 1) (by omega)
          rw [hS.out] at hl
          obtain ⟨n, hn⟩ : ∃ n, hB f i m = n := ⟨_, rfl⟩
          rw [hn] at hl hS ⊢
          rw [hz]
          have nb : (n : Int) * 256 + (y : Int) < 72057594037927936 := by omega
          have H := Lib.hid HR
          have HZ := Lib.hid hz
          clear HR hn hp hy hy2 hl hz
          go_wp2_with fail
          go_roundw
          case rel => exact ⟨m + 1, by omega, (by have := HZ.out; go_num), by rw [hS.out]; go_num, H.out⟩
          case measure => simp [intOf]; omega
        · obtain rfl : m = 7 := by omega
          have e7 : (6 : Int) - ((7 : Nat) : Int) = -1 := rfl
          rw [e7]
          have hl := hB_lt f i 7 (by omega)
          have E1 := HE.out i hlt
          have E2 := HO.out i hlt
          have hh : nB (fun j => f (7 * i + j)) 7 = hB f i 7 := by unfold hB; rfl
          rw [hh] at E1 E2
          have HM := Lib.hid (mixZ_two (dF (nB f 56)) i)
          obtain ⟨n, hn⟩ : ∃ n, hB f i 7 = n := ⟨_, rfl⟩
          rw [hn] at hl E1 E2 ⊢
          obtain ⟨x, hx⟩ : ∃ x, n % 268435456 = x := ⟨_, rfl⟩
          obtain ⟨y, hy⟩ : ∃ y, n / 268435456 = y := ⟨_, rfl⟩
          have e1 : (n : Int) % 268435456 = (x : Int) := by omega
          have e2 : (n : Int) / 268435456 = (y : Int) := by omega
          obtain ⟨q, hq⟩ : ∃ q, 2 * i = q := ⟨_, rfl⟩
          have e3 : 2 * (i : Int) = (q : Int) := by omega
          have q14 : q ≤ 14 := by omega
          have nb : (n : Int) < 72057594037927936 := by omega
          have xb : (x : Int) < 268435456 := by omega
          have yb : (y : Int) < 268435456 := by omega
          have q14' : (q : Int) ≤ 14 := by omega
          rw [hx] at E1
          rw [hy] at E2
          rw [hq] at HR HM E1 E2
          rw [E1, E2] at HM
          have H := Lib.hid HR
          have Hq := Lib.hid hq
          clear HR hn hx hy E1 E2 hh e7 hlm hm hl hq
          go_wp2_with (first
            | ((with_reducible apply own_put oneI H); (case hgd => exact rfl); (case ho => exact rfl); (case hx => exact rfl); (case hy => exact rfl); (case hi => first | exact at0 | exact at1 | exact at2 | exact at3 | exact at4 | exact at5 | exact at6); (case hj => omega); intro ws H' _ _; replace H := H'; clear H'; simp only [List.set_cons_zero] at H; go_simp))
          rw [e1, HM.out] at H
          go_roundw
          case rel => exact ⟨i + 1, by omega, by go_num, H.out⟩
          case measure => simp [intOf]; omega
    · obtain rfl : i = 8 := by omega
      clear hlt hi
      rw [show ((8 : Nat) : Int) = 8 from rfl]
      have H := Lib.hid (HR.like 0 (g := dF (nB f 56)) rfl fun k hk => mixZ_all _ _ _ _ hk)
      simp only [List.set_cons_zero] at H
      clear HR
      go_wp2_with (first
        | ((with_reducible apply own_load rowF H); (case hgd => exact rfl); (case ho => exact rfl); (case hx => exact rfl); (case hi => first | exact at0 | exact at1 | exact at2 | exact at3 | exact at4 | exact at5 | exact at6); intro _ _; go_simp)
        | ((with_reducible refine (HN.out _).mono ?_); rintro e wc ⟨rfl, hb⟩; replace H := Lib.hid (H.out.call hb); clear hb)
        | ((with_reducible apply own_store rowF H); (case hgd => exact rfl); (case ho => exact rfl); (case hx => exact rfl); (case hy => exact rfl); (case hi => first | exact at0 | exact at1 | exact at2 | exact at3 | exact at4 | exact at5 | exact at6); intro ws H' _ _; replace H := H'; clear H'; simp only [List.set_cons_zero, List.set_cons_succ] at H; go_simp))
      exact bodyPost_ret (own_result 1 rowF rfl _ H rfl rfl) rfl ⟨rfl, H.out.bel⟩
end Go.Proofs.YtjjdhbmlinjhjaaDoor
