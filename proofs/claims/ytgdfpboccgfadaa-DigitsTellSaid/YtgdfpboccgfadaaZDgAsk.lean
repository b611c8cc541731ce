/-
  The contracts of digits.beyond and digits.asked. No statement is proved here: lemmas for the walks.
-/
import Derived.Test.YtgdfpboccgfadaaZDgLeaf
namespace Go.Proofs.Ytgdfpboccgfadaa
open Go.RowKit

set_option maxRecDepth 8000 in
set_option maxHeartbeats 800000 in
theorem beyond_v {w : World} {g : Nat} {a0 a1 a2 a3 a4 a5 a6 a7 : Int} {t : TypeId} (r : Int) (hr : (if a0 < a1 ∨ a2 < a0 then a3 else if a4 < a5 ∨ a6 < a4 then a7 else 0) = r) (hrow : w.heap[g]? = some (.cells #[.int .i64 a0, .int .i64 a1, .int .i64 a2, .int .i64 a3, .int .i64 a4, .int .i64 a5, .int .i64 a6, .int .i64 a7] t)) :
    Calls Try.prog 43 #[.slice (some ⟨g, 0, none⟩) 2 2] w fun e w' => e = .returned (.int .i64 r) ∧ Below w.heap.size w w' := by
  have hg := row_lt hrow
  have HR : Hid (∀ wr, Below w.heap.size w wr → wr.heap[g]? = some (.cells #[.int .i64 a0, .int .i64 a1, .int .i64 a2, .int .i64 a3, .int .i64 a4, .int .i64 a5, .int .i64 a6, .int .i64 a7] t)) := Lib.hid fun wr h => (h.block _ hg).trans hrow
  have ER := Lib.hid hr
  clear hrow hr
  go_enter Try.func43, Try.ntmps43
  go_wp2_with fail
  go_loopw [7] (fun v wr => ∃ i : Nat, i ≤ 2 ∧ v = .int .i64 i ∧ (0 < i → ¬ (a0 < a1 ∨ a2 < a0)) ∧ (1 < i → ¬ (a4 < a5 ∨ a6 < a4)) ∧ Below w.heap.size w wr) (fun v _ => 2 - (intOf v).toNat)
  case atStart => exact ⟨0, by omega, rfl, by omega, by omega, Below.refl _ _⟩
  case round =>
    obtain ⟨i, hi, rfl, h0, h1, hb⟩ := hrel
    have hrow := HR.out wr hb
    rcases (by omega : i = 0 ∨ i = 1 ∨ i = 2) with rfl | rfl | rfl
    · have c0 : wr.cell? ⟨g, 0, none⟩ = some (.int .i64 a0) := by rw [cell_of_row _ _ _ _ _ _ hrow]; rfl
      have c1 : wr.cell? ⟨g, 1, none⟩ = some (.int .i64 a1) := by rw [cell_of_row _ _ _ _ _ _ hrow]; rfl
      have c2 : wr.cell? ⟨g, 2, none⟩ = some (.int .i64 a2) := by rw [cell_of_row _ _ _ _ _ _ hrow]; rfl
      have c3 : wr.cell? ⟨g, 3, none⟩ = some (.int .i64 a3) := by rw [cell_of_row _ _ _ _ _ _ hrow]; rfl
      have HB := Lib.hid hb
      clear hrow hb h0 h1 hi
      by_cases hx : a0 < a1
      · have d0 : decide (a0 < a1) = true := by simpa using hx
        have E : Hid (a0 < a1 ∨ a2 < a0) := Lib.hid (.inl hx)
        clear hx
        go_wp2_with fail
        go_ret
        exact ⟨by rw [← ER.out, if_pos E.out]; rfl, HB.out.alloc (HB.out.size) _⟩
      · have d0 : decide (a0 < a1) = false := by simpa using hx
        by_cases hy : a2 < a0
        · have d1 : decide (a2 < a0) = true := by simpa using hy
          have E : Hid (a0 < a1 ∨ a2 < a0) := Lib.hid (.inr hy)
          clear hx hy
          go_wp2_with fail
          go_ret
          exact ⟨by rw [← ER.out, if_pos E.out]; rfl, HB.out.alloc (HB.out.size) _⟩
        · have d1 : decide (a2 < a0) = false := by simpa using hy
          have E : Hid (¬ (a0 < a1 ∨ a2 < a0)) := Lib.hid (fun h => h.elim hx hy)
          clear hx hy
          go_wp2_with fail
          go_roundw
          case rel => exact ⟨1, by omega, by go_num, fun _ => E.out, by omega, HB.out.alloc (HB.out.size) _⟩
          case measure => simp [intOf]
    · have c4 : wr.cell? ⟨g, 4, none⟩ = some (.int .i64 a4) := by rw [cell_of_row _ _ _ _ _ _ hrow]; rfl
      have c5 : wr.cell? ⟨g, 5, none⟩ = some (.int .i64 a5) := by rw [cell_of_row _ _ _ _ _ _ hrow]; rfl
      have c6 : wr.cell? ⟨g, 6, none⟩ = some (.int .i64 a6) := by rw [cell_of_row _ _ _ _ _ _ hrow]; rfl
      have c7 : wr.cell? ⟨g, 7, none⟩ = some (.int .i64 a7) := by rw [cell_of_row _ _ _ _ _ _ hrow]; rfl
      have HB := Lib.hid hb
      have HN := Lib.hid (h0 (by omega))
      clear hrow hb h0 h1 hi
      by_cases hx : a4 < a5
      · have d0 : decide (a4 < a5) = true := by simpa using hx
        have E : Hid (a4 < a5 ∨ a6 < a4) := Lib.hid (.inl hx)
        clear hx
        go_wp2_with fail
        go_ret
        exact ⟨by rw [← ER.out, if_neg HN.out, if_pos E.out]; rfl, HB.out.alloc (HB.out.size) _⟩
      · have d0 : decide (a4 < a5) = false := by simpa using hx
        by_cases hy : a6 < a4
        · have d1 : decide (a6 < a4) = true := by simpa using hy
          have E : Hid (a4 < a5 ∨ a6 < a4) := Lib.hid (.inr hy)
          clear hx hy
          go_wp2_with fail
          go_ret
          exact ⟨by rw [← ER.out, if_neg HN.out, if_pos E.out]; rfl, HB.out.alloc (HB.out.size) _⟩
        · have d1 : decide (a6 < a4) = false := by simpa using hy
          have E : Hid (¬ (a4 < a5 ∨ a6 < a4)) := Lib.hid (fun h => h.elim hx hy)
          clear hx hy
          go_wp2_with fail
          go_roundw
          case rel => exact ⟨2, by omega, by go_num, fun _ => HN.out, fun _ => E.out, HB.out.alloc (HB.out.size) _⟩
          case measure => simp [intOf]
    · have HN := Lib.hid (h0 (by omega))
      have HM := Lib.hid (h1 (by omega))
      have HB := Lib.hid hb
      clear hrow hb h0 h1 hi
      go_wp2_with fail
      go_ret
      exact ⟨by rw [← ER.out, if_neg HN.out, if_neg HM.out]; rfl, HB.out⟩
/-- What is wrong with bytes, or with how they are to be cut. -/
def ask (n : Nat) (k least : Int) : Int := if 64 < n then 11 else if k < least ∨ 8 < k then 10 else 0
theorem ask_eq (n : Nat) (k least : Int) : (if (n : Int) < 0 ∨ (64 : Int) < (n : Int) then (11 : Int) else if k < least ∨ 8 < k then 10 else 0) = ask n k least := by
  unfold ask
  by_cases h : 64 < n
  · rw [if_pos (by omega), if_pos h]
  · rw [if_neg (by omega), if_neg h]
set_option maxRecDepth 8000 in
set_option maxHeartbeats 800000 in
theorem asked_v (a : Option Addr) (n c : Nat) (k least : Int) (w : World) :
    Calls Try.prog 23 #[.slice a n c, .int .i64 k, .int .i64 least] w fun e w' => e = .returned (.int .i64 (ask n k least)) ∧ Below w.heap.size w w' := by
  have E := Lib.hid (ask_eq n k least)
  generalize ask n k least = r at *
  go_enter Try.func23, Try.ntmps23
  go_wp2_with ((with_reducible refine (beyond_v r E.out (heap_alloc_last _ _)).mono ?_); rintro e w' ⟨rfl, hb⟩; have HB := Lib.hid ((below_alloc _ _).trans (hb.mono (by simp))); clear hb)
  go_ret
  exact ⟨rfl, HB.out⟩
end Go.Proofs.Ytgdfpboccgfadaa
