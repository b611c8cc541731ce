/-
  The contracts of what the laws of digits call: wrong, Ints, same. No statement is proved here: lemmas for the walks.
-/
import Derived.Test.YtgdfpboccgfadaaZDgAsk
namespace Go.Proofs.Ytgdfpboccgfadaa
open Go.RowKit

theorem wrong_v (a : Option Addr) (n c : Nat) (k least : Int) (w : World) :
    Calls Try.prog 9 #[.slice a n c, .int .i64 k, .int .i64 least] w fun e w' => e = .returned (.int .i64 (ask n k least)) ∧ w' = w := by
  obtain ⟨r, hr⟩ : ∃ r, ask n k least = r := ⟨_, rfl⟩
  rw [hr]
  have E := Lib.hid hr
  clear hr
  by_cases h1 : 64 < n
  · have d1 : decide ((64 : Int) < (n : Int)) = true := by simp; omega
    have E1 : Hid (r = 11) := Lib.hid (by rw [← E.out]; unfold ask; rw [if_pos h1])
    clear h1
    go_enter Try.func9, Try.ntmps9
    go_wp2
    go_ret
    exact ⟨by rw [E1.out]; rfl, rfl⟩
  · have d1 : decide ((64 : Int) < (n : Int)) = false := by simp; omega
    by_cases h2 : k < least
    · have d2 : decide (k < least) = true := by simpa using h2
      have E1 : Hid (r = 10) := Lib.hid (by rw [← E.out]; unfold ask; rw [if_neg h1, if_pos (.inl h2)])
      clear h1 h2
      go_enter Try.func9, Try.ntmps9
      go_wp2
      go_ret
      exact ⟨by rw [E1.out]; rfl, rfl⟩
    · have d2 : decide (k < least) = false := by simpa using h2
      by_cases h3 : 8 < k
      · have d3 : decide (8 < k) = true := by simpa using h3
        have E1 : Hid (r = 10) := Lib.hid (by rw [← E.out]; unfold ask; rw [if_neg h1, if_pos (.inr h3)])
        clear h1 h2 h3
        go_enter Try.func9, Try.ntmps9
        go_wp2
        go_ret
        exact ⟨by rw [E1.out]; rfl, rfl⟩
      · have d3 : decide (8 < k) = false := by simpa using h3
        have E1 : Hid (r = 0) := Lib.hid (by rw [← E.out]; unfold ask; rw [if_neg h1, if_neg fun h => h.elim h2 h3])
        clear h1 h2 h3
        go_enter Try.func9, Try.ntmps9
        go_wp2
        go_ret
        exact ⟨by rw [E1.out]; rfl, rfl⟩
set_option maxRecDepth 8000 in
set_option maxHeartbeats 800000 in
/-- Two slices of the same ints are the same. -/
theorem ints_v (a a' : Option Addr) (n c c' : Nat) (f : Nat → Int) (w : World) (hn : n ≤ 100000) (h1 : SlZ w w.heap.size a n c f) (h2 : SlZ w w.heap.size a' n c' f) :
    Calls Try.prog 22 #[.slice a n c, .slice a' n c'] w fun e w' => e = .returned (.bool true) ∧ Below w.heap.size w w' := by
  have H1 := Lib.hid h1
  have H2 := Lib.hid h2
  clear h1 h2
  have hn' : (n : Int) ≤ 100000 := by omega
  go_enter Try.func22, Try.ntmps22
  go_wp2_with fail
  go_loopw [5] (fun v wr => ∃ i : Nat, i ≤ n ∧ v = .int .i64 i ∧ Below w.heap.size w wr) (fun v _ => n - (intOf v).toNat)
  case atStart => exact ⟨0, by omega, rfl, Below.refl _ _⟩
  case round =>
    obtain ⟨i, hi, rfl, HR⟩ := hrel
    by_cases hlt : i < n
    · have hid : decide ((i : Int) < (n : Int)) = true := by simp; omega
      obtain ⟨b, o, rfl, hbB, hcell⟩ := (H1.out.below HR).get i hlt
      obtain ⟨b', o', rfl, hbB', hcell'⟩ := (H2.out.below HR).get i hlt
      have hne : (f i != f i) = false := by simp
      generalize f i = d at *
      have HH := Lib.hid HR
      clear HR
      go_wp2_with fail
      refine wp_region_still_lit (by kernel_rfl) (by kernel_rfl) ?_
      have HD := Lib.hid (Below.drew HH.out)
      have hc : wr.drew.cell? ⟨b, o + i, none⟩ = some (.int .i64 d) := hcell
      have hc' : wr.drew.cell? ⟨b', o' + i, none⟩ = some (.int .i64 d) := hcell'
      clear HH hcell hcell'
      change wpStill _ _ wr.drew (fun a' => Exit.then _ _ Exit.normal a' wr.drew) _ _
      generalize wr.drew = w2 at *
      have hlt' : (i : Int) < (n : Int) := by omega
      iterate 9 still_step
      refine wpStill_nil ?_
      go_wp2_with fail
      go_roundw
      case rel => exact ⟨i + 1, by omega, by go_num, HD.out⟩
      case measure => simp [intOf]; omega
    · obtain rfl : n = i := by omega
      have hid : decide ((n : Int) < (n : Int)) = false := by simp
      have HH := Lib.hid HR
      clear HR
      go_wp2_with fail
      go_ret
      exact ⟨rfl, HH.out⟩
theorem same_bad (r : Int) (a : Option Addr) (n c : Nat) (w : World) (hr : r ≠ 0) :
    Calls Try.prog 14 #[.slice none 0 0, .int .i64 r, .slice a n c, .int .i64 r] w fun e w' => e = .returned (.bool true) ∧ w' = w := by
  have hne : (r != 0) = true := by simpa using hr
  have heq : (r == r) = true := by simp
  clear hr
  go_enter Try.func14, Try.ntmps14
  go_wp2
  go_ret
  exact ⟨rfl, rfl⟩
theorem same_ok (a a' : Option Addr) (n c c' : Nat) (f : Nat → Int) (w : World) (hn : n ≤ 100000) (h1 : SlZ w w.heap.size a n c f) (h2 : SlZ w w.heap.size a' n c' f) :
    Calls Try.prog 14 #[.slice a n c, .int .i64 0, .slice a' n c', .int .i64 0] w fun e w' => e = .returned (.bool true) ∧ Below w.heap.size w w' := by
  have H1 := Lib.hid h1
  have H2 := Lib.hid h2
  clear h1 h2
  go_enter Try.func14, Try.ntmps14
  go_wp2_with ((with_reducible refine (ints_v a a' n c c' f _ hn H1.out H2.out).mono ?_); rintro e w' ⟨rfl, hb⟩; have HB := Lib.hid hb; clear hb)
  go_ret
  exact ⟨rfl, HB.out⟩
end Go.Proofs.Ytgdfpboccgfadaa
