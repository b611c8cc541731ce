/-
  The contract of number.Sub.
-/
import Derived.Test.YtmnokjapapheiaaNuCopy
import Derived.Test.YtmnokjapapheiaaNuLess
import Derived.Test.YtmnokjapapheiaaNuCmp
namespace Go.Proofs.Ytmnokjapapheiaa
open Go.RowKit

set_option maxHeartbeats 1000000 in
theorem sub_lt (a : Option Addr) (n c x : Nat) (a' : Option Addr) (m c' y : Nat) (w : World) (hn : n ≤ 900000) (hm : m ≤ 900000) (h : Sw w w.heap.size a n c x) (h' : Sw w w.heap.size a' m c' y) (hlt : x < y) :
    Calls Try.prog 29 #[.slice a n c, .slice a' m c'] w fun e w' => e = .returned (.tuple #[.slice none 0 0, .int .i64 10]) ∧ w' = w := by
  have H := Lib.hid h
  have H' := Lib.hid h'
  have Hc := Lib.hid (cmp_lt hlt)
  clear h h' hlt
  go_enter Try.func29, Try.ntmps29
  go_wp2_with ((with_reducible refine (compare_any a n c x a' m c' y _ (by omega) (by omega) H.out H'.out).mono ?_); rintro e w' ⟨rfl, rfl⟩; rw [Hc.out])
  go_ret2
  exact ⟨rfl, rfl⟩
set_option maxHeartbeats 1000000 in
theorem sub_ge (a : Option Addr) (n c x : Nat) (a' : Option Addr) (m c' y : Nat) (w : World) (hn : n ≤ 900000) (hm : m ≤ 900000) (h : Sw w w.heap.size a n c x) (h' : Sw w w.heap.size a' m c' y) (hge : y ≤ x) :
    Calls Try.prog 29 #[.slice a n c, .slice a' m c'] w fun e w' => ∃ v, e = .returned (.tuple #[v, .int .i64 0]) ∧ Got w w' v (x - y) := by
  have hfit : x - y < 2 ^ (64 * n) := by have := h.fits; omega
  have Hf := Lib.hid hfit
  have H := Lib.hid h
  have H' := Lib.hid h'
  obtain ⟨z, hz⟩ : ∃ z, cmp x y = z := ⟨_, rfl⟩
  have hz0 : decide (z < 0) = false := by
    subst hz; unfold cmp
    rw [if_neg (by omega)]
    split <;> simp
  have hz1 : -1 ≤ z ∧ z ≤ 1 := by
    subst hz; unfold cmp
    split
    · omega
    · split <;> omega
  have Hz := Lib.hid hz
  have Hge := Lib.hid hge
  clear h h' hz hfit hge
  obtain ⟨hz2, hz3⟩ := hz1
  go_enter Try.func29, Try.ntmps29
  go_wp2_with (first
    | ((with_reducible refine (compare_any a n c x a' m c' y _ (by omega) (by omega) H.out H'.out).mono ?_); rintro e w' ⟨rfl, rfl⟩; rw [Hz.out])
    | ((with_reducible apply lay_makeW); (case hgd => exact rfl); (case ho => exact rfl); (case hx => exact rfl); (case hy => exact rfl); (case hc => omega); intro _ _; go_simp)
    | ((with_reducible apply lay_copyW); (case hgd => exact rfl); (case ho => exact rfl); (case hr => exact RowW.new _ _ _); (case hd => exact rfl); (case hs => exact rfl); (case hS => exact H.out.below ((Below.refl _ _).alloc (Nat.le_refl _) _)); (case hk => omega); intro w2 R2 B2 _ _; have R2 := Lib.hid R2; have B2 := Lib.hid B2; go_simp)
    | ((with_reducible refine (lessen_any _ n x a' m c' y _ (by omega) (by omega) R2.out Hge.out ((H'.out.below ((Below.refl _ _).alloc (Nat.le_refl _) _)).below B2.out)).mono ?_); rintro e w3 ⟨rfl, R3, B3⟩; have R3 := Lib.hid R3; have B3 := Lib.hid B3)
    | ((with_reducible refine (trim_any _ _ _ (x - y) _ (by omega) (R3.out.sw (Nat.le_refl _) Hf.out R3.out.lt)).mono ?_); rintro e w4 ⟨rfl, rfl⟩))
  go_ret2
  exact ⟨_, rfl, _, n, rfl, Nat.le_refl _, R3.out, (dl_le 64 _ _ (by omega)).2 Hf.out, ((Below.refl _ _).alloc (Nat.le_refl _) _).trans (B2.out.trans B3.out)⟩
end Go.Proofs.Ytmnokjapapheiaa
