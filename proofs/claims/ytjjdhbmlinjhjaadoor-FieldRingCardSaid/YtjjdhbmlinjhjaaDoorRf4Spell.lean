/-
  The contracts of chicoryref04's Bytes, Prime, Fits.
-/
import Derived.Test.YtjjdhbmlinjhjaaDoorRf4Bytes
namespace Go.Proofs.YtjjdhbmlinjhjaaDoor
open Go.RowKit

/-- A new row of bytes. -/
def New (w W : World) (v : Value) (n : Nat) (f : Nat → BitVec 8) : Prop := ∃ g c, v = .slice (some ⟨g, 0, none⟩) n c ∧ w.heap.size ≤ g ∧ Sl W W.heap.size (some ⟨g, 0, none⟩) n c f
theorem limb_dF (x i : Nat) : dF x (2 * i) + dF x (2 * i + 1) * 268435456 = ((x / 256 ^ (7 * i) % 72057594037927936 : Nat) : Int) := by
  unfold dF
  rw [Nat.pow_succ, ← Nat.div_div_eq_div_mul, pow_28]
  generalize x / 256 ^ (7 * i) = y
  omega
theorem byte_dF (x i k : Nat) (hk : k < 7) : x / 256 ^ (7 * i) % 72057594037927936 / 256 ^ k % 256 = x / 256 ^ (7 * i + k) % 256 := by
  rw [Nat.pow_add, ← Nat.div_div_eq_div_mul]
  generalize x / 256 ^ (7 * i) = y
  obtain rfl | rfl | rfl | rfl | rfl | rfl | rfl : k = 0 ∨ k = 1 ∨ k = 2 ∨ k = 3 ∨ k = 4 ∨ k = 5 ∨ k = 6 := by omega
  all_goals omega
set_option maxRecDepth 8000 in
set_option maxHeartbeats 1600000 in
theorem refBytes_any (x : Nat) (w : World) :
    Calls Tryd.prog 44 #[FV x] w fun e w' => ∃ v, e = .returned v ∧ New w w' v 56 (bX x) ∧ Below w.heap.size w w' := by
  have HL := Lib.hid (limb_dF x)
  have HY := Lib.hid (byte_dF x)
  have HD := Lib.hid (dF_bd x)
  have H := Lib.hid (Ow.start w)
  go_enter Tryd.func44, Tryd.ntmps44
  go_wp2_with (first
    | ((fail_if_success have := g1); (with_reducible apply own_box H); (case hgd => exact rfl); (case ho => exact rfl); (case hx => exact rfl); intro w1 g1 H' _ _; replace H := H'; clear H'; go_simp))
  have B1 : Hid (Below w.heap.size w w1) := Lib.hid H.out.bel
  go_loopw [3, 4, 5, 6] (fun v3 v4 _ _ wr => ∃ i : Nat, i ≤ 8 ∧ v4 = .int .i64 i ∧ OwnB wr w1.heap.size v3 (7 * i) (bX x) ∧ Below w1.heap.size w1 wr) (fun _ v4 _ _ _ => 8 - (intOf v4).toNat)
  case atStart => exact ⟨0, by omega, rfl, OwnB.nil _ _ _, Below.refl _ _⟩
  case round =>
    obtain ⟨i, hi, rfl, HO, HB⟩ := hrel
    by_cases hlt : i < 8
    · have hid : decide ((i : Int) < 8) = true := by simp; omega
      have i8 : (i : Int) < 8 := by omega
      obtain ⟨q, hq⟩ : ∃ q, 2 * i = q := ⟨_, rfl⟩
      have e3 : 2 * (i : Int) = (q : Int) := by omega
      have q14 : q ≤ 14 := by omega
      have q14' : (q : Int) ≤ 14 := by omega
      have hl := HL.out i
      rw [hq] at hl
      obtain ⟨r, hr⟩ : ∃ r, q + 1 = r := ⟨_, rfl⟩
      rw [hr] at hl
      have e4 : (q : Int) + 1 = (r : Int) := by omega
      have q16 : (q : Int) < 16 := by omega
      have r16 : r < 16 := by omega
      have r16' : (r : Int) < 16 := by omega
      have f1 : IntKind.i64.wrap (q : Int) = (q : Int) := IntWalk.i64_in _ (by omega)
      have f2 : IntKind.i64.wrap (r : Int) = (r : Int) := IntWalk.i64_in _ (by omega)
      clear hr
      have HO1 := Lib.hid HO
      have HB1 := Lib.hid HB
      clear HO HB
      go_wp2_with fail
      refine wp_region_still_lit (by kernel_rfl) (by kernel_rfl) ?_
      change wpStill _ _ wr.drew (fun a' => Exit.then _ _ Exit.normal a' wr.drew) _ _
      have b1 := HD.out q
      have b2 := HD.out r
      have hc1 : wr.drew.cell? ⟨g1, q, none⟩ = some (.int .i64 (dF x q)) := by
        have hc := H.out.cell 0 rfl q (by omega)
        exact ((Below.drew HB1.out).cell (p := ⟨g1, q, none⟩) (lt_row (H.out.row 0 rfl))).trans hc
      have hc2 : wr.drew.cell? ⟨g1, r, none⟩ = some (.int .i64 (dF x r)) := by
        have hc := H.out.cell 0 rfl r r16
        exact ((Below.drew HB1.out).cell (p := ⟨g1, r, none⟩) (lt_row (H.out.row 0 rfl))).trans hc
      have HO2 : Hid (OwnB wr.drew w1.heap.size _ (7 * i) (bX x)) := Lib.hid HO1.out
      have HB2 := Lib.hid (Below.drew HB1.out)
      clear HO1 HB1
      generalize wr.drew = w2 at *
      obtain ⟨a, ha⟩ : ∃ a, dF x q = a := ⟨_, rfl⟩
      obtain ⟨b, hb⟩ : ∃ b, dF x r = b := ⟨_, rfl⟩
      rw [ha] at b1 hc1 hl
      rw [hb] at b2 hc2 hl
      obtain ⟨b11, b12⟩ := b1
      obtain ⟨b21, b22⟩ := b2
      obtain ⟨n, hn⟩ : ∃ n, x / 256 ^ (7 * i) % 72057594037927936 = n := ⟨_, rfl⟩
      have nb : n < 72057594037927936 := by omega
      rw [hn] at hl
      have Hn := Lib.hid hn
      have nb' : (n : Int) < 72057594037927936 := by omega
      have f3 : IntKind.i64.wrap (b * 268435456) = b * 268435456 := IntWalk.i64_in _ (by omega)
      have f4 : IntKind.i64.wrap (n : Int) = (n : Int) := IntWalk.i64_in _ (by omega)
      clear ha hb hn hq
      iterate 12 still_step
      refine wpStill_nil ?_
      clear hc1 hc2 f1 f2 f3 f4 hl b11 b12 b21 b22
      go_wp2_with fail
      go_loopw [3, 5, 6] (fun v3 v5 v6 wr => ∃ k : Nat, k ≤ 7 ∧ v6 = .int .i64 k ∧ v5 = .int .i64 ((n / 256 ^ k : Nat) : Int) ∧ OwnB wr w1.heap.size v3 (7 * i + k) (bX x) ∧ Below w1.heap.size w1 wr) (fun _ _ v6 _ => 7 - (intOf v6).toNat)
      case atStart => exact ⟨0, by omega, rfl, by rw [Nat.pow_zero, Nat.div_one], HO2.out, HB2.out⟩
      case round =>
        clear HO2 HB2
        obtain ⟨k, hk, rfl, rfl, HO, HB⟩ := hrel
        by_cases hlk : k < 7
        · have hkd : decide ((k : Int) < 7) = true := by simp; omega
          have k7 : (k : Int) < 7 := by omega
          have hy := HY.out i k hlk
          rw [Hn.out] at hy
          have hU := Lib.hid (U8_bX x (7 * i + k))
          rw [← hy] at hU
          have HS : Hid (n / 256 ^ (k + 1) = n / 256 ^ k / 256) := Lib.hid (by rw [Nat.pow_succ, Nat.div_div_eq_div_mul])
          have yb : n / 256 ^ k < 72057594037927936 := Nat.lt_of_le_of_lt (Nat.div_le_self _ _) nb
          obtain ⟨y, hy'⟩ : ∃ y, n / 256 ^ k = y := ⟨_, rfl⟩
          rw [hy'] at hU HS yb ⊢
          obtain ⟨b, hb⟩ : ∃ b, y % 256 = b := ⟨_, rfl⟩
          obtain ⟨z, hz⟩ : ∃ z, y / 256 = z := ⟨_, rfl⟩
          rw [hb] at hU
          rw [hz] at HS
          have e1 : (y : Int) % 256 = (b : Int) := by omega
          have e2 : (y : Int) / 256 = (z : Int) := by omega
          have b256 : (b : Int) < 256 := by omega
          have yb' : (y : Int) < 72057594037927936 := by omega
          have HO1 := Lib.hid HO
          have HB1 := Lib.hid HB
          have hz' : w1.heap.size ≤ wr.heap.size := HB.size
          clear HO HB hy' hb hz hy yb
          go_wp2_with ((with_reducible apply lay_append_byte); (case hgd => exact rfl); (case ho => exact rfl); (case hs => exact rfl); (case hx => exact rfl); (case hown => exact HO1.out.alloc _); (case hc => rw [show U (bX x (7 * i + k)) = .int .u8 (b : Int) from congrArg (Value.int .u8) hU.out]; simp); (case hn => omega); (case hbase => simpa using Nat.le_succ_of_le hz'); intro v' w' ho' hb' _ _; go_simp)
          go_roundw
          case rel => exact ⟨k + 1, by omega, by go_num, by rw [HS.out], ho', (HB1.out.alloc hz' _).trans hb'⟩
          case measure => simp [intOf]; omega
        · obtain rfl : k = 7 := by omega
          clear hlk hk
          rw [show ((7 : Nat) : Int) = 7 from rfl]
          have HO1 := Lib.hid HO
          have HB1 := Lib.hid HB
          clear HO HB
          go_wp2_with fail
          go_roundw
          case rel => exact ⟨i + 1, by omega, by go_num, by rw [show 7 * (i + 1) = 7 * i + 7 by omega]; exact HO1.out, HB1.out⟩
          case measure => simp [intOf]; omega
    · obtain rfl : i = 8 := by omega
      clear hlt hi
      rw [show ((8 : Nat) : Int) = 8 from rfl]
      have HO1 := Lib.hid HO
      have HB1 := Lib.hid HB
      clear HO HB
      go_wp2_with fail
      go_ret
      obtain ⟨g, c, cur, rfl, hg, hrow, hsl⟩ := HO1.out.sl (by omega)
      exact ⟨_, rfl, ⟨g, c, rfl, Nat.le_trans B1.out.size hg, hsl⟩, B1.out.trans (HB1.out.mono B1.out.size)⟩
theorem refPrime_any (w : World) :
    Calls Tryd.prog 16 #[] w fun e w' => ∃ v, e = .returned v ∧ New w w' v 56 (bX pN) ∧ Below w.heap.size w w' := by
  have HP : Hid (Value.agg (AZ .i64 16 pF) = FV pN) := Lib.hid (FV_of pF_bd (by rw [val_p, pZ_eq]))
  go_enter Tryd.func16, Tryd.ntmps16
  go_wp2_with (first
    | ((with_reducible refine (prime_any _).mono ?_); rw [HP.out]; rintro e w1 ⟨rfl, B1⟩; have B1 := Lib.hid B1)
    | ((with_reducible refine (refBytes_any pN _).mono ?_); rintro e w2 ⟨v, rfl, N2, B2⟩; have N2 := Lib.hid N2; have B2 := Lib.hid B2))
  go_ret
  obtain ⟨g, c, rfl, hg, hs⟩ := N2.out
  exact ⟨_, rfl, ⟨g, c, rfl, Nat.le_trans B1.out.size hg, hs⟩, B1.out.trans (B2.out.mono B1.out.size)⟩
end Go.Proofs.YtjjdhbmlinjhjaaDoor
