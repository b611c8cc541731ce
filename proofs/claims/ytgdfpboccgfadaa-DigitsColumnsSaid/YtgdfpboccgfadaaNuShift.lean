/-
  The contract of number.Shift.
-/
import Derived.Test.YtgdfpboccgfadaaNuUp
import Derived.Test.YtgdfpboccgfadaaNuDown
namespace Go.Proofs.Ytgdfpboccgfadaa
open Go.RowKit

/-- A number whose bits go up, or down. -/
def shf (x : Nat) (s : Int) : Nat := if s < 0 then x / 2 ^ (-s).toNat else x * 2 ^ s.toNat
set_option maxRecDepth 8000 in
set_option maxHeartbeats 1000000 in
theorem shift_bad (a : Option Addr) (n c : Nat) (s : Int) (w : World) (hs : s < -65536 ∨ 65536 < s) :
    Calls Try.prog 39 #[.slice a n c, .int .i64 s] w fun e w' => e = .returned (.tuple #[.slice none 0 0, .int .i64 10]) ∧ w' = w := by
  rcases hs with hs | hs
  · have h1 : decide (s < -65536) = true := by simpa using hs
    go_enter Try.func39, Try.ntmps39
    go_wp2
    go_ret2
    exact ⟨rfl, rfl⟩
  · have h1 : decide (s < -65536) = false := by simp; omega
    have h2 : decide (65536 < s) = true := by simpa using hs
    go_enter Try.func39, Try.ntmps39
    go_wp2
    go_ret2
    exact ⟨rfl, rfl⟩
set_option maxRecDepth 8000 in
set_option maxHeartbeats 1000000 in
theorem shift_any (a : Option Addr) (n c x : Nat) (s : Int) (w : World) (hn : n ≤ 400000) (h1 : -65536 ≤ s) (h2 : s ≤ 65536) (h : Sw w w.heap.size a n c x) :
    Calls Try.prog 39 #[.slice a n c, .int .i64 s] w fun e w' => ∃ v, e = .returned (.tuple #[v, .int .i64 0]) ∧ Got w w' v (shf x s) := by
  have d1 : decide (s < -65536) = false := by simp; omega
  have d2 : decide (65536 < s) = false := by simp; omega
  have H := Lib.hid h
  clear h
  by_cases h0 : s < 0
  · have d3 : decide (s < 0) = true := by simpa using h0
    obtain ⟨t, ht⟩ : ∃ t : Nat, (-s).toNat = t := ⟨_, rfl⟩
    obtain rfl : s = -(t : Int) := by omega
    have Hs : Hid (shf x (-(t : Int)) = x / 2 ^ t) := Lib.hid (by unfold shf; rw [if_pos h0, ht])
    have t6 : t ≤ 65536 := by omega
    have e1 : - -(t : Int) = (t : Int) := by omega
    clear ht
    go_enter Try.func39, Try.ntmps39
    go_wp2_with ((with_reducible refine (down_any a n c x t _ (by omega) (by omega) H.out).mono ?_); rintro e w' ⟨v, rfl, hv⟩; have hv := Lib.hid hv)
    go_ret2
    exact ⟨_, rfl, by rw [Hs.out]; exact hv.out⟩
  · have d3 : decide (s < 0) = false := by simp; omega
    obtain ⟨t, ht⟩ : ∃ t : Nat, s.toNat = t := ⟨_, rfl⟩
    obtain rfl : s = (t : Int) := by omega
    have Hs : Hid (shf x (t : Int) = x * 2 ^ t) := Lib.hid (by unfold shf; rw [if_neg h0, ht])
    have t6 : t ≤ 65536 := by omega
    clear ht h0
    go_enter Try.func39, Try.ntmps39
    go_wp2_with ((with_reducible refine (nup_any a n c x t _ (by omega) (by omega) H.out).mono ?_); rintro e w' ⟨v, rfl, hv⟩; have hv := Lib.hid hv)
    go_ret2
    exact ⟨_, rfl, by rw [Hs.out]; exact hv.out⟩
end Go.Proofs.Ytgdfpboccgfadaa
