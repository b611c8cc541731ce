/-
  The contracts of digits.Naf and of what it hands on. No statement is proved here: lemmas for the walks.
-/
import Derived.Test.YtgdfpboccgfadaaZDgSigned
namespace Go.Proofs.Ytgdfpboccgfadaa
open Go.RowKit

set_option maxRecDepth 8000 in
set_option maxHeartbeats 800000 in
/-- A place that is free no more, or a bit that is just what goes over: no digit. -/
theorem naf1_skip {w : World} {g gb gf gq : Nat} {a : Option Addr} {n c x : Nat} (i _k o fr : Nat) (hR : Rd w g a n c x) (hb : w.cell? ⟨gb, 0, none⟩ = some (Bit g)) (hc : w.cell? ⟨gf, 0, none⟩ = some (.int .i64 (fr : Int)))
    (hn : n ≤ 64) (hi : i ≤ 10000) (_ho : o ≤ 1) (hz : i < fr ∨ tb x i = o) :
    Calls Try.prog 29 #[.int .i64 (i : Int), .int .i64 (o : Int), .pointer (some ⟨gf, 0, none⟩), .pointer (some ⟨gb, 0, none⟩), .pointer (some ⟨gq, 0, none⟩)] w fun e w' => e = .returned (.tuple #[.int .i64 0, .bool false]) ∧ w' = w := by
  have HR := Lib.hid hR
  by_cases hf : i < fr
  · have d0 : decide (i < fr) = true := by simpa using hf
    clear hR hz hf
    go_enter Try.func29, Try.ntmps29
    go_wp2_with fail
    go_ret2
    exact ⟨rfl, rfl⟩
  · have d0 : decide (i < fr) = false := by simpa using hf
    have EB := Lib.hid (hz.resolve_left hf)
    have eo : ((o : Int) == (o : Int)) = true := by simp
    clear hR hz hf
    go_enter Try.func29, Try.ntmps29
    go_wp2_with ((with_reducible refine (bit_v i (i : Int) rfl HR.out (by omega) (by omega)).mono ?_); rintro e wc ⟨rfl, rfl⟩; rw [EB.out])
    go_ret2
    exact ⟨rfl, rfl⟩
set_option maxRecDepth 8000 in
set_option maxHeartbeats 800000 in
theorem naf1_take {w0 w : World} {go g gb gf gq : Nat} {oo : Obj} {a : Option Addr} {n c x : Nat} (i k o fr : Nat)
    (H0 : Ow w0 w [(go, oo), (gf, Oc 3 (.int .i64 (fr : Int))), (gb, Oc 39 (Bit g)), (g, Oc 22 (.slice a n c)), (gq, Oc 3 (.int .i64 (k : Int)))]) (hs : Sb w0 w0.heap.size a n c x)
    (hn : n ≤ 64) (hk8 : k ≤ 8) (hi : i ≤ 10000) (ho : o ≤ 1) (hz : ¬ (i < fr ∨ tb x i = o)) (s : Nat) (hss : x / 2 ^ i % 2 ^ k + o = s) :
    Calls Try.prog 29 #[.int .i64 (i : Int), .int .i64 (o : Int), .pointer (some ⟨gf, 0, none⟩), .pointer (some ⟨gb, 0, none⟩), .pointer (some ⟨gq, 0, none⟩)] w fun e w' => e = .returned (.tuple #[.int .i64 (s : Int), .bool true]) ∧ Ow w0 w' [(go, oo), (gf, Oc 3 (.int .i64 ((i + k : Nat) : Int))), (gb, Oc 39 (Bit g)), (g, Oc 22 (.slice a n c)), (gq, Oc 3 (.int .i64 (k : Int)))] := by
  have HS := Lib.hid hs
  have H := Lib.hid H0
  have d0 : decide (i < fr) = false := by
    have : ¬ i < fr := fun h => hz (.inl h)
    simpa using this
  have ht : ¬ tb x i = o := fun h => hz (.inr h)
  have htb := tb_lt x i
  obtain ⟨b, eb⟩ : ∃ b, tb x i = b := ⟨_, rfl⟩
  rw [eb] at ht htb
  have EB := Lib.hid eb
  have eo : ((b : Int) == (o : Int)) = false := by rw [beq_eq_false_iff_ne]; omega
  have EQ : Hid (tog x i 1 k = x / 2 ^ i % 2 ^ k) := Lib.hid (tog_one x i k)
  have hpl : x / 2 ^ i % 2 ^ k < 2 ^ k := Nat.mod_lt _ (Nat.two_pow_pos k)
  have hp8 : 2 ^ k ≤ 2 ^ 8 := Nat.pow_le_pow_right (by omega) hk8
  obtain ⟨y, ey⟩ : ∃ y, x / 2 ^ i % 2 ^ k = y := ⟨_, rfl⟩
  rw [ey] at hss hpl EQ
  have hy : y ≤ 256 := by omega
  have es : (y : Int) + (o : Int) = (s : Int) := by omega
  obtain ⟨z, ez⟩ : ∃ z, i + k = z := ⟨_, rfl⟩
  have ezi : (i : Int) + (k : Int) = (z : Int) := by omega
  have hzb : z ≤ 20000 := by omega
  rw [ez]
  clear hs H0 hz ht htb eb hpl hp8 ey hss ez
  go_enter Try.func29, Try.ntmps29
  go_wp2_with (first
    | ((with_reducible apply own_load1 cellZ H); (case hgd => exact rfl); (case ho => exact rfl); (case hx => exact rfl); (case hi => first | exact at1 | exact at4); intro _ _; go_simp)
    | ((with_reducible apply own_load1 cellF H); (case hgd => exact rfl); (case ho => exact rfl); (case hx => exact rfl); (case hi => exact at2); intro _ _; go_simp)
    | ((with_reducible apply own_load1g cellF H); (case hw => exact rfl); (case ho => exact rfl); (case hx => exact rfl); (case hi => exact at2); intro _ _; go_simp)
    | ((with_reducible apply own_store1 cellZ (one_int .i64 (z : Int)) H); (case hgd => exact rfl); (case ho => exact rfl); (case hx => exact rfl); (case hy => exact rfl); (case hi => exact at1); intro ws H' _ _; replace H := H'; clear H'; simp only [List.set_cons_zero, List.set_cons_succ] at H; go_simp)
    | ((with_reducible refine (bit_v i (i : Int) rfl ⟨H.out.oc 3 rfl, HS.out.call H.out.bel⟩ (by omega) (by omega)).mono ?_); rintro e wc ⟨rfl, rfl⟩; rw [EB.out])
    | ((with_reducible refine (together_v i 1 k (i : Int) 1 rfl (by omega) ⟨H.out.oc 3 rfl, HS.out.call H.out.bel⟩ (by omega) (by omega) (by omega) hk8).mono ?_); rintro e wc ⟨rfl, rfl⟩; rw [EQ.out]))
  go_ret2
  exact ⟨rfl, H.out⟩
end Go.Proofs.Ytgdfpboccgfadaa
