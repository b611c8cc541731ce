/-
  Two slices of the same bytes are the same: up to 100000 of them.
-/
import Derived.Test.YtjppmeihobcenaaDoorKecBytes
namespace Go.Proofs.YtjppmeihobcenaaDoor
open Go.RowKit

set_option maxHeartbeats 800000 in
/-- Two slices of the same bytes are the same. -/
theorem same_wide (a a' : Option Addr) (n c c' : Nat) (f g : Nat → BitVec 8) (w : World) (hn : n ≤ 100000) (h1 : Sl w w.heap.size a n c f) (h2 : Sl w w.heap.size a' n c' g) (he : ∀ i, i < n → f i = g i) :
    Calls Tryd.prog 11 #[.slice a n c, .slice a' n c'] w fun e w' => e = .returned (.bool true) ∧ Below w.heap.size w w' := by
  have H1 := Lib.hid h1
  have H2 := Lib.hid (h2.congr fun i hi => (he i hi).symm)
  clear h1 h2 he
  have hn' : (n : Int) ≤ 100000 := by omega
  go_enter Tryd.func11, Tryd.ntmps11
  go_wp2_with fail
  go_loopw [5] (fun v wr => ∃ i : Nat, i ≤ n ∧ v = .int .i64 i ∧ Below w.heap.size w wr) (fun v _ => n - (intOf v).toNat)
  case atStart => exact ⟨0, by omega, rfl, Below.refl _ _⟩
  case round =>
    obtain ⟨i, hi, rfl, HR⟩ := hrel
    by_cases hlt : i < n
    · have hid : decide ((i : Int) < (n : Int)) = true := by simp; omega
      obtain ⟨b, o, rfl, hbB, hcell⟩ := (H1.out.below HR).get i hlt
      obtain ⟨b', o', rfl, hbB', hcell'⟩ := (H2.out.below HR).get i hlt
      have HH := Lib.hid HR
      clear HR
      go_wp2_with fail
      refine wp_region_still_lit (by kernel_rfl) (by kernel_rfl) ?_
      have HD := Lib.hid (Below.drew HH.out)
      have hc : wr.drew.cell? ⟨b, o + i, none⟩ = some (U (f i)) := hcell
      have hc' : wr.drew.cell? ⟨b', o' + i, none⟩ = some (U (f i)) := hcell'
      clear HH hcell hcell'
      change wpStill _ _ wr.drew (fun a' => Exit.then _ _ Exit.normal a' wr.drew) _ _
      generalize wr.drew = w2 at *
      have hlt' : (i : Int) < (n : Int) := by omega
      iterate 9 still_step
      refine wpStill_nil ?_
      go_wp2_with fail
      go_roundw
      case rel => exact ⟨i + 1, by omega, by go_num, HD.out⟩
      case measure => simp [intOf]; omega
    · obtain rfl : i = n := by omega
      have HH := Lib.hid HR
      clear HR
      go_wp2_with fail
      go_ret
      exact ⟨rfl, HH.out⟩
end Go.Proofs.YtjppmeihobcenaaDoor
