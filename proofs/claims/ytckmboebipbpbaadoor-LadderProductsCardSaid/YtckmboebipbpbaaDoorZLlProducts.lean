/-
  The walk of LadderProducts. No statement is proved here: lemmas for the walks.
-/
import Derived.Test.YtckmboebipbpbaaDoorZLdAwake
import Derived.Deep.CutRange
namespace Go.Proofs.YtckmboebipbpbaaDoor
open Go.RowKit

theorem byte_v (x i r : Nat) (h : x / 2 ^ (8 * i) % 256 = r) : U (bt x i) = .int .u8 (r : Int) := by
  have e : U8 (bt x i) = (r : Int) := by
    show ((bt x i).toNat : Int) = _
    rw [bt_nat, h]
  exact congrArg (Value.int .u8) e
set_option maxRecDepth 20000 in
set_option maxHeartbeats 12800000 in
theorem products_m0 {m n : Int} (u : Nat → BitVec 8) (w : World) (hT : Tp w) (h : m < 0) :
    Calls Tryd.prog 9 #[.int .i64 m, .int .i64 n, .agg (AZ .u8 56 (UB u))] w fun e w' => e = .returned (.bool true) ∧ Below w.heap.size w w' := by
  have d0 : decide (m < 0) = true := by simpa using h
  clear h
  obtain ⟨f1, a1, hm1, hp1, hv1⟩ := raw_k u
  have HM1 := Lib.hid hm1
  have HP1 := Lib.hid hp1
  have HV1 := Lib.hid hv1
  clear hm1 hp1 hv1
  have HT := Lib.hid hT
  clear hT
  have H := Lib.hid (Ow.start w)
  go_enter Tryd.func9, Tryd.ntmps9
  go_wp2_with (first
    | ((fail_if_success have := g5); (with_reducible apply own_box H); (case hgd => exact rfl); (case ho => exact rfl); (case hx => exact rfl); intro w5 g5 H' _ _; replace H := H'; clear H'; go_simp)
    | ((with_reducible apply own_load rowB H); (case hgd => exact rfl); (case ho => exact rfl); (case hx => exact rfl); (case hi => first | exact at0 | exact at1 | exact at2 | exact at3 | exact at4 | exact at5 | exact at6 | exact at7 | exact at8 | exact at9); intro _ _; go_simp)
    | ((with_reducible refine (HM1.out _).mono ?_); rintro e wc ⟨rfl, hb⟩; replace H := Lib.hid (H.out.call hb); clear hb)
    | ((fail_if_success have := g7); (fail_if_success have := g7); (with_reducible apply own_alloc nilE H); (case hgd => exact rfl); (case ho => exact rfl); intro w7 g7 H' _ _; replace H := H'; clear H'; go_simp)
    | ((with_reducible apply own_store rowE H); (case hgd => exact rfl); (case ho => exact rfl); (case hx => exact rfl); (case hy => exact rfl); (case hi => first | exact at0 | exact at1 | exact at2 | exact at3 | exact at4 | exact at5 | exact at6 | exact at7 | exact at8 | exact at9); intro ws H' _ _; replace H := H'; clear H'; simp only [List.set_cons_zero] at H; go_simp)
    | ((with_reducible refine (awake10_k _ (HT.out.below H.out.bel)).mono ?_); rintro e wc ⟨rfl, hb⟩; replace H := Lib.hid (H.out.call hb); clear hb))
  go_ret
  exact ⟨rfl, H.out.bel⟩
set_option maxRecDepth 20000 in
set_option maxHeartbeats 12800000 in
theorem products_m1 {m n : Int} (u : Nat → BitVec 8) (w : World) (hT : Tp w) (h0 : 0 ≤ m) (h : 65535 < m) :
    Calls Tryd.prog 9 #[.int .i64 m, .int .i64 n, .agg (AZ .u8 56 (UB u))] w fun e w' => e = .returned (.bool true) ∧ Below w.heap.size w w' := by
  have d0 : decide (m < 0) = false := by simp; omega
  have d1 : decide ((65535 : Int) < m) = true := by simpa using h
  clear h0 h
  obtain ⟨f1, a1, hm1, hp1, hv1⟩ := raw_k u
  have HM1 := Lib.hid hm1
  have HP1 := Lib.hid hp1
  have HV1 := Lib.hid hv1
  clear hm1 hp1 hv1
  have HT := Lib.hid hT
  clear hT
  have H := Lib.hid (Ow.start w)
  go_enter Tryd.func9, Tryd.ntmps9
  go_wp2_with (first
    | ((fail_if_success have := g5); (with_reducible apply own_box H); (case hgd => exact rfl); (case ho => exact rfl); (case hx => exact rfl); intro w5 g5 H' _ _; replace H := H'; clear H'; go_simp)
    | ((with_reducible apply own_load rowB H); (case hgd => exact rfl); (case ho => exact rfl); (case hx => exact rfl); (case hi => first | exact at0 | exact at1 | exact at2 | exact at3 | exact at4 | exact at5 | exact at6 | exact at7 | exact at8 | exact at9); intro _ _; go_simp)
    | ((with_reducible refine (HM1.out _).mono ?_); rintro e wc ⟨rfl, hb⟩; replace H := Lib.hid (H.out.call hb); clear hb)
    | ((fail_if_success have := g7); (fail_if_success have := g7); (with_reducible apply own_alloc nilE H); (case hgd => exact rfl); (case ho => exact rfl); intro w7 g7 H' _ _; replace H := H'; clear H'; go_simp)
    | ((with_reducible apply own_store rowE H); (case hgd => exact rfl); (case ho => exact rfl); (case hx => exact rfl); (case hy => exact rfl); (case hi => first | exact at0 | exact at1 | exact at2 | exact at3 | exact at4 | exact at5 | exact at6 | exact at7 | exact at8 | exact at9); intro ws H' _ _; replace H := H'; clear H'; simp only [List.set_cons_zero] at H; go_simp)
    | ((with_reducible refine (awake10_k _ (HT.out.below H.out.bel)).mono ?_); rintro e wc ⟨rfl, hb⟩; replace H := Lib.hid (H.out.call hb); clear hb))
  go_ret
  exact ⟨rfl, H.out.bel⟩
set_option maxRecDepth 20000 in
set_option maxHeartbeats 12800000 in
theorem products_n0 {m n : Int} (u : Nat → BitVec 8) (w : World) (hT : Tp w) (h0 : 0 ≤ m) (h1 : m ≤ 65535) (h : n < 0) :
    Calls Tryd.prog 9 #[.int .i64 m, .int .i64 n, .agg (AZ .u8 56 (UB u))] w fun e w' => e = .returned (.bool true) ∧ Below w.heap.size w w' := by
  have d0 : decide (m < 0) = false := by simp; omega
  have d1 : decide ((65535 : Int) < m) = false := by simp; omega
  have d2 : decide (n < 0) = true := by simpa using h
  clear h0 h1 h
  obtain ⟨f1, a1, hm1, hp1, hv1⟩ := raw_k u
  have HM1 := Lib.hid hm1
  have HP1 := Lib.hid hp1
  have HV1 := Lib.hid hv1
  clear hm1 hp1 hv1
  have HT := Lib.hid hT
  clear hT
  have H := Lib.hid (Ow.start w)
  go_enter Tryd.func9, Tryd.ntmps9
  go_wp2_with (first
    | ((fail_if_success have := g5); (with_reducible apply own_box H); (case hgd => exact rfl); (case ho => exact rfl); (case hx => exact rfl); intro w5 g5 H' _ _; replace H := H'; clear H'; go_simp)
    | ((with_reducible apply own_load rowB H); (case hgd => exact rfl); (case ho => exact rfl); (case hx => exact rfl); (case hi => first | exact at0 | exact at1 | exact at2 | exact at3 | exact at4 | exact at5 | exact at6 | exact at7 | exact at8 | exact at9); intro _ _; go_simp)
    | ((with_reducible refine (HM1.out _).mono ?_); rintro e wc ⟨rfl, hb⟩; replace H := Lib.hid (H.out.call hb); clear hb)
    | ((fail_if_success have := g7); (fail_if_success have := g7); (with_reducible apply own_alloc nilE H); (case hgd => exact rfl); (case ho => exact rfl); intro w7 g7 H' _ _; replace H := H'; clear H'; go_simp)
    | ((with_reducible apply own_store rowE H); (case hgd => exact rfl); (case ho => exact rfl); (case hx => exact rfl); (case hy => exact rfl); (case hi => first | exact at0 | exact at1 | exact at2 | exact at3 | exact at4 | exact at5 | exact at6 | exact at7 | exact at8 | exact at9); intro ws H' _ _; replace H := H'; clear H'; simp only [List.set_cons_zero] at H; go_simp)
    | ((with_reducible refine (awake10_k _ (HT.out.below H.out.bel)).mono ?_); rintro e wc ⟨rfl, hb⟩; replace H := Lib.hid (H.out.call hb); clear hb))
  go_ret
  exact ⟨rfl, H.out.bel⟩
set_option maxRecDepth 20000 in
set_option maxHeartbeats 12800000 in
theorem products_n1 {m n : Int} (u : Nat → BitVec 8) (w : World) (hT : Tp w) (h0 : 0 ≤ m) (h1 : m ≤ 65535) (h2 : 0 ≤ n) (h : 65535 < n) :
    Calls Tryd.prog 9 #[.int .i64 m, .int .i64 n, .agg (AZ .u8 56 (UB u))] w fun e w' => e = .returned (.bool true) ∧ Below w.heap.size w w' := by
  have d0 : decide (m < 0) = false := by simp; omega
  have d1 : decide ((65535 : Int) < m) = false := by simp; omega
  have d2 : decide (n < 0) = false := by simp; omega
  have d3 : decide ((65535 : Int) < n) = true := by simpa using h
  clear h0 h1 h2 h
  obtain ⟨f1, a1, hm1, hp1, hv1⟩ := raw_k u
  have HM1 := Lib.hid hm1
  have HP1 := Lib.hid hp1
  have HV1 := Lib.hid hv1
  clear hm1 hp1 hv1
  have HT := Lib.hid hT
  clear hT
  have H := Lib.hid (Ow.start w)
  go_enter Tryd.func9, Tryd.ntmps9
  go_wp2_with (first
    | ((fail_if_success have := g5); (with_reducible apply own_box H); (case hgd => exact rfl); (case ho => exact rfl); (case hx => exact rfl); intro w5 g5 H' _ _; replace H := H'; clear H'; go_simp)
    | ((with_reducible apply own_load rowB H); (case hgd => exact rfl); (case ho => exact rfl); (case hx => exact rfl); (case hi => first | exact at0 | exact at1 | exact at2 | exact at3 | exact at4 | exact at5 | exact at6 | exact at7 | exact at8 | exact at9); intro _ _; go_simp)
    | ((with_reducible refine (HM1.out _).mono ?_); rintro e wc ⟨rfl, hb⟩; replace H := Lib.hid (H.out.call hb); clear hb)
    | ((fail_if_success have := g7); (fail_if_success have := g7); (with_reducible apply own_alloc nilE H); (case hgd => exact rfl); (case ho => exact rfl); intro w7 g7 H' _ _; replace H := H'; clear H'; go_simp)
    | ((with_reducible apply own_store rowE H); (case hgd => exact rfl); (case ho => exact rfl); (case hx => exact rfl); (case hy => exact rfl); (case hi => first | exact at0 | exact at1 | exact at2 | exact at3 | exact at4 | exact at5 | exact at6 | exact at7 | exact at8 | exact at9); intro ws H' _ _; replace H := H'; clear H'; simp only [List.set_cons_zero] at H; go_simp)
    | ((with_reducible refine (awake10_k _ (HT.out.below H.out.bel)).mono ?_); rintro e wc ⟨rfl, hb⟩; replace H := Lib.hid (H.out.call hb); clear hb))
  go_ret
  exact ⟨rfl, H.out.bel⟩
set_option maxRecDepth 20000 in
set_option maxHeartbeats 12800000 in
theorem products_near {m n : Nat} (u : Nat → BitVec 8) (w : World) (hT : Tp w) (hm : m ≤ 65535) (hn : n ≤ 65535) :
    Calls Tryd.prog 9 #[.int .i64 (m : Int), .int .i64 (n : Int), .agg (AZ .u8 56 (UB u))] w fun e w' => e = .returned (.bool true) ∧ Below w.heap.size w w' := by
  have dm0 : decide ((m : Int) < 0) = false := by simp
  have dm1 : decide ((65535 : Int) < (m : Int)) = false := by simp; omega
  have dn0 : decide ((n : Int) < 0) = false := by simp
  have dn1 : decide ((65535 : Int) < (n : Int)) = false := by simp; omega
  obtain ⟨p, hp⟩ : ∃ p, m * n = p := ⟨_, rfl⟩
  have hpl : p ≤ 65535 * 65535 := by rw [← hp]; exact Nat.mul_le_mul hm hn
  have emul : (m : Int) * (n : Int) = (p : Int) := by rw [← hp]; push_cast; rfl
  have fp : wrap64 (p : Int) = (p : Int) := IntWalk.wrap64_in _ ⟨by omega, by omega⟩
  obtain ⟨r0, hr0⟩ : ∃ r, m % 256 = r := ⟨_, rfl⟩
  obtain ⟨q0, hq0⟩ : ∃ r, m / 256 = r := ⟨_, rfl⟩
  have tr0 : (m : Int).tmod 256 = (r0 : Int) := by rw [Int.tmod_eq_emod_of_nonneg (by omega)]; omega
  have ur0 : (m : Int) % 256 = (r0 : Int) := by omega
  have tq0 : (m : Int).tdiv 256 = (q0 : Int) := by rw [Int.tdiv_eq_ediv_of_nonneg (by omega)]; omega
  have uq0 : (m : Int) / 256 = (q0 : Int) := by omega
  have wr0 : IntKind.u8.wrap (r0 : Int) = (r0 : Int) := by rw [IntKind.wrap_u8]; omega
  have wq0 : IntKind.u8.wrap (q0 : Int) = (q0 : Int) := by rw [IntKind.wrap_u8]; omega
  have xr0 : (r0 : Int) % 256 = (r0 : Int) := by omega
  have xq0 : (q0 : Int) % 256 = (q0 : Int) := by omega
  have Br0 : Hid (U (bt m 0) = .int .u8 (r0 : Int)) := Lib.hid (byte_v m 0 r0 (by omega))
  have Bq0 : Hid (U (bt m 1) = .int .u8 (q0 : Int)) := Lib.hid (byte_v m 1 q0 (by show m / 256 % 256 = _; omega))
  have Fm : Hid (m < 2 ^ (8 * 2)) := Lib.hid (by show m < 65536; omega)
  obtain ⟨r1, hr1⟩ : ∃ r, n % 256 = r := ⟨_, rfl⟩
  obtain ⟨q1, hq1⟩ : ∃ r, n / 256 = r := ⟨_, rfl⟩
  have tr1 : (n : Int).tmod 256 = (r1 : Int) := by rw [Int.tmod_eq_emod_of_nonneg (by omega)]; omega
  have ur1 : (n : Int) % 256 = (r1 : Int) := by omega
  have tq1 : (n : Int).tdiv 256 = (q1 : Int) := by rw [Int.tdiv_eq_ediv_of_nonneg (by omega)]; omega
  have uq1 : (n : Int) / 256 = (q1 : Int) := by omega
  have wr1 : IntKind.u8.wrap (r1 : Int) = (r1 : Int) := by rw [IntKind.wrap_u8]; omega
  have wq1 : IntKind.u8.wrap (q1 : Int) = (q1 : Int) := by rw [IntKind.wrap_u8]; omega
  have xr1 : (r1 : Int) % 256 = (r1 : Int) := by omega
  have xq1 : (q1 : Int) % 256 = (q1 : Int) := by omega
  have Br1 : Hid (U (bt n 0) = .int .u8 (r1 : Int)) := Lib.hid (byte_v n 0 r1 (by omega))
  have Bq1 : Hid (U (bt n 1) = .int .u8 (q1 : Int)) := Lib.hid (byte_v n 1 q1 (by show n / 256 % 256 = _; omega))
  have Fn : Hid (n < 2 ^ (8 * 2)) := Lib.hid (by show n < 65536; omega)
  obtain ⟨s0, hs0⟩ : ∃ r, p % 256 = r := ⟨_, rfl⟩
  obtain ⟨v1, hv1'⟩ : ∃ r, p / 256 = r := ⟨_, rfl⟩
  obtain ⟨s1, hs1⟩ : ∃ r, v1 % 256 = r := ⟨_, rfl⟩
  obtain ⟨v2, hv2'⟩ : ∃ r, p / 65536 = r := ⟨_, rfl⟩
  obtain ⟨s2, hs2⟩ : ∃ r, v2 % 256 = r := ⟨_, rfl⟩
  obtain ⟨s3, hs3⟩ : ∃ r, p / 16777216 = r := ⟨_, rfl⟩
  have ts0 : (p : Int).tmod 256 = (s0 : Int) := by rw [Int.tmod_eq_emod_of_nonneg (by omega)]; omega
  have us0 : (p : Int) % 256 = (s0 : Int) := by omega
  have ws0 : IntKind.u8.wrap (s0 : Int) = (s0 : Int) := by rw [IntKind.wrap_u8]; omega
  have xs0 : (s0 : Int) % 256 = (s0 : Int) := by omega
  have tv1 : (p : Int).tdiv 256 = (v1 : Int) := by rw [Int.tdiv_eq_ediv_of_nonneg (by omega)]; omega
  have uv1 : (p : Int) / 256 = (v1 : Int) := by omega
  have ts1 : (v1 : Int).tmod 256 = (s1 : Int) := by rw [Int.tmod_eq_emod_of_nonneg (by omega)]; omega
  have us1 : (v1 : Int) % 256 = (s1 : Int) := by omega
  have ws1 : IntKind.u8.wrap (s1 : Int) = (s1 : Int) := by rw [IntKind.wrap_u8]; omega
  have xs1 : (s1 : Int) % 256 = (s1 : Int) := by omega
  have tv2 : (p : Int).tdiv 65536 = (v2 : Int) := by rw [Int.tdiv_eq_ediv_of_nonneg (by omega)]; omega
  have uv2 : (p : Int) / 65536 = (v2 : Int) := by omega
  have ts2 : (v2 : Int).tmod 256 = (s2 : Int) := by rw [Int.tmod_eq_emod_of_nonneg (by omega)]; omega
  have us2 : (v2 : Int) % 256 = (s2 : Int) := by omega
  have ws2 : IntKind.u8.wrap (s2 : Int) = (s2 : Int) := by rw [IntKind.wrap_u8]; omega
  have xs2 : (s2 : Int) % 256 = (s2 : Int) := by omega
  have ts3 : (p : Int).tdiv 16777216 = (s3 : Int) := by rw [Int.tdiv_eq_ediv_of_nonneg (by omega)]; omega
  have us3 : (p : Int) / 16777216 = (s3 : Int) := by omega
  have ws3 : IntKind.u8.wrap (s3 : Int) = (s3 : Int) := by rw [IntKind.wrap_u8]; omega
  have xs3 : (s3 : Int) % 256 = (s3 : Int) := by omega
  have Bs0 : Hid (U (bt p 0) = .int .u8 (s0 : Int)) := Lib.hid (byte_v p 0 s0 (by show p / 1 % 256 = _; omega))
  have Bs1 : Hid (U (bt p 1) = .int .u8 (s1 : Int)) := Lib.hid (byte_v p 1 s1 (by show p / 256 % 256 = _; omega))
  have Bs2 : Hid (U (bt p 2) = .int .u8 (s2 : Int)) := Lib.hid (byte_v p 2 s2 (by show p / 65536 % 256 = _; omega))
  have Bs3 : Hid (U (bt p 3) = .int .u8 (s3 : Int)) := Lib.hid (byte_v p 3 s3 (by show p / 16777216 % 256 = _; omega))
  have Fp : Hid (p < 2 ^ (8 * 4)) := Lib.hid (by show p < 4294967296; omega)
  have HPP := Lib.hid hp
  clear hp hpl hm hn hr0 hq0 hr1 hq1 hs0 hv1' hs1 hv2' hs2 hs3
  obtain ⟨f1, a1, hm1, hp1, hv1⟩ := raw_k u
  have HM1 := Lib.hid hm1
  have HP1 := Lib.hid hp1
  have HV1 := Lib.hid hv1
  clear hm1 hp1 hv1
  have HT := Lib.hid hT
  clear hT
  have H := Lib.hid (Ow.start w)
  go_enter Tryd.func9, Tryd.ntmps9
  go_wp2_with (first
    | ((fail_if_success have := g5); (with_reducible apply own_box H); (case hgd => exact rfl); (case ho => exact rfl); (case hx => exact rfl); intro w5 g5 H' _ _; replace H := H'; clear H'; go_simp)
    | ((with_reducible apply own_load rowB H); (case hgd => exact rfl); (case ho => exact rfl); (case hx => exact rfl); (case hi => first | exact at0 | exact at1 | exact at2 | exact at3 | exact at4 | exact at5 | exact at6 | exact at7 | exact at8 | exact at9); intro _ _; go_simp)
    | ((with_reducible refine (HM1.out _).mono ?_); rintro e wc ⟨rfl, hb⟩; replace H := Lib.hid (H.out.call hb); clear hb)
    | ((fail_if_success have := g7); (fail_if_success have := g7); (with_reducible apply own_alloc nilE H); (case hgd => exact rfl); (case ho => exact rfl); intro w7 g7 H' _ _; replace H := H'; clear H'; go_simp)
    | ((with_reducible apply own_store rowE H); (case hgd => exact rfl); (case ho => exact rfl); (case hx => exact rfl); (case hy => exact rfl); (case hi => first | exact at0 | exact at1 | exact at2 | exact at3 | exact at4 | exact at5 | exact at6 | exact at7 | exact at8 | exact at9); intro ws H' _ _; replace H := H'; clear H'; simp only [List.set_cons_zero] at H; go_simp)
    | ((with_reducible apply own_load rowE H); (case hgd => exact rfl); (case ho => exact rfl); (case hx => exact rfl); (case hi => first | exact at0 | exact at1 | exact at2 | exact at3 | exact at4 | exact at5 | exact at6 | exact at7 | exact at8 | exact at9); intro _ _; go_simp)
    | ((fail_if_success have := g53); (with_reducible apply lay_b2 (x := m) H); (case hgd => exact rfl); (case ho => exact rfl); (case h0 => exact Br0.out.symm); (case h1 => exact Bq0.out.symm); intro w53 g53 H' _ _; replace H := H'; clear H'; go_simp)
    | ((fail_if_success have := VA); (with_reducible refine (ladder_k _ (HT.out.below H.out.bel) (by omega) (yb_sb (H.out.row 0 rfl) Fm.out) HV1.out).mono ?_); rintro e wc ⟨h1, rfl, hv, hb⟩; replace H := Lib.hid (H.out.call hb); have VA := Lib.hid hv; clear hb hv)
    | ((fail_if_success have := g10); (fail_if_success have := g10); (with_reducible apply own_alloc nilE H); (case hgd => exact rfl); (case ho => exact rfl); intro w10 g10 H' _ _; replace H := H'; clear H'; go_simp)
    | ((fail_if_success have := g65); (with_reducible apply lay_b2 (x := n) H); (case hgd => exact rfl); (case ho => exact rfl); (case h0 => exact Br1.out.symm); (case h1 => exact Bq1.out.symm); intro w65 g65 H' _ _; replace H := H'; clear H'; go_simp)
    | ((fail_if_success have := VB); (with_reducible refine (ladder_k _ (HT.out.below H.out.bel) (by omega) (yb_sb (H.out.row 0 rfl) Fn.out) VA.out).mono ?_); rintro e wc ⟨h2, rfl, hv, hb⟩; replace H := Lib.hid (H.out.call hb); have VB := Lib.hid hv; clear hb hv)
    | ((fail_if_success have := g12); (fail_if_success have := g12); (with_reducible apply own_alloc nilE H); (case hgd => exact rfl); (case ho => exact rfl); intro w12 g12 H' _ _; replace H := H'; clear H'; go_simp)
    | ((fail_if_success have := g85); (with_reducible apply lay_b4 (x := p) H); (case hgd => exact rfl); (case ho => exact rfl); (case h0 => exact Bs0.out.symm); (case h1 => exact Bs1.out.symm); (case h2 => exact Bs2.out.symm); (case h3 => exact Bs3.out.symm); intro w85 g85 H' _ _; replace H := H'; clear H'; go_simp)
    | ((fail_if_success have := VC); (with_reducible refine (ladder_k _ (HT.out.below H.out.bel) (by omega) (yb_sb (H.out.row 0 rfl) Fp.out) HV1.out).mono ?_); rintro e wc ⟨h3, rfl, hv, hb⟩; replace H := Lib.hid (H.out.call hb); have VC := Lib.hid hv; clear hb hv)
    | ((fail_if_success have := g14); (fail_if_success have := g14); (with_reducible apply own_alloc nilE H); (case hgd => exact rfl); (case ho => exact rfl); intro w14 g14 H' _ _; replace H := H'; clear H'; go_simp)
    | ((with_reducible apply own_loadg rowE H); (case hw => exact rfl); (case ho => exact rfl); (case hx => exact rfl); (case hi => first | exact at0 | exact at1 | exact at2 | exact at3 | exact at4 | exact at5 | exact at6 | exact at7 | exact at8 | exact at9); intro _ _; go_simp)
    | ((with_reducible refine (equal_kt _ (HT.out.below H.out.bel) VB.out VC.out (by rw [ldV_mul, HPP.out])).mono ?_); rintro e wc ⟨rfl, hb⟩; replace H := Lib.hid (H.out.call hb); clear hb)
    | ((with_reducible refine (awake10_k _ (HT.out.below H.out.bel)).mono ?_); rintro e wc ⟨rfl, hb⟩; replace H := Lib.hid (H.out.call hb); clear hb))
  go_ret
  exact ⟨rfl, H.out.bel⟩
theorem products_walk (m n : Int) (u : Nat → BitVec 8) (w : World) (hT : Tp w) :
    Calls Tryd.prog 9 #[.int .i64 m, .int .i64 n, .agg (AZ .u8 56 (UB u))] w fun e w' => e = .returned (.bool true) ∧ Below w.heap.size w w' := by
  by_cases h0 : m < 0
  · exact products_m0 u w hT h0
  by_cases h1 : 65535 < m
  · exact products_m1 u w hT (by omega) h1
  by_cases h2 : n < 0
  · exact products_n0 u w hT (by omega) (by omega) h2
  by_cases h3 : 65535 < n
  · exact products_n1 u w hT (by omega) (by omega) (by omega) h3
  obtain ⟨m, rfl⟩ := Int.eq_ofNat_of_zero_le (by omega : 0 ≤ m)
  obtain ⟨n, rfl⟩ := Int.eq_ofNat_of_zero_le (by omega : 0 ≤ n)
  exact products_near u w hT (by omega) (by omega)
end Go.Proofs.YtckmboebipbpbaaDoor
