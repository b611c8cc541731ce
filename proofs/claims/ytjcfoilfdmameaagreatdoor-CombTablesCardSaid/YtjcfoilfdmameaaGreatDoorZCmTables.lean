/-
  The walk of CombTables. No statement is proved here: lemmas for the walks.
-/
import Derived.Test.YtjcfoilfdmameaaGreatDoorZCmTabA
import Derived.Test.YtjcfoilfdmameaaGreatDoorZCmTabB
import Derived.Deep.CutRange
namespace Go.Proofs.YtjcfoilfdmameaaGreatDoor
open Go.RowKit

theorem tabs_walk {a : Option Addr} {n c x : Nat} {z : Int} (k s i : Int) (w : World) (hT : Tp w) (hs : Sb w w.heap.size a n c x) :
    Calls Tryz.prog 5 #[.agg #[.slice a n c, .int .i64 z], .agg #[.int .i64 k, .int .i64 s], .int .i64 i] w fun e w' => e = .returned (.bool true) ∧ Below w.heap.size w w' := by
  cases ok : okS n z with
  | false => exact tabs_none w hT hs ok
  | true =>
    rcases (by omega : (4 < k ∧ k ≤ 7) ∨ k < 1 ∨ (1 ≤ k ∧ k ≤ 4) ∨ 7 < k) with ⟨h1, h1'⟩ | h1 | ⟨h0, h1⟩ | h1
    · exact tabs_kgap w hT hs ok h1 h1'
    · rcases (by omega : (8 < s ∧ s ≤ 64) ∨ s < 1 ∨ (1 ≤ s ∧ s ≤ 8) ∨ 64 < s) with ⟨h2, h2'⟩ | h2 | ⟨h3, h2⟩ | h2
      · exact tabs_sgap1 w hT hs ok (by omega) h2 h2'
      · exact tabs_ell w hT hs ok h1 h2
      · exact tabs_elm w hT hs ok h1 h3 h2
      · exact tabs_elb w hT hs ok h1 h2
    · rcases (by omega : (8 < s ∧ s ≤ 64) ∨ s < 1 ∨ (1 ≤ s ∧ s ≤ 8) ∨ 64 < s) with ⟨h2, h2'⟩ | h2 | ⟨h3, h2⟩ | h2
      · exact tabs_sgap1 w hT hs ok h1 h2 h2'
      · exact tabs_eml w hT hs ok h0 h1 h2
      · obtain ⟨k, rfl⟩ := Int.eq_ofNat_of_zero_le (show 0 ≤ k by omega)
        obtain ⟨s, rfl⟩ := Int.eq_ofNat_of_zero_le (show 0 ≤ s by omega)
        by_cases hi : i < 0
        · exact tabs_atneg w hT hs ok (by omega) (by omega) (by omega) (by omega) hi
        by_cases hj : ((2 ^ k : Nat) : Int) ≤ i
        · exact tabs_atfar w hT hs ok (by omega) (by omega) (by omega) (by omega) hj
        obtain ⟨j, rfl⟩ := Int.eq_ofNat_of_zero_le (show 0 ≤ i by omega)
        exact tabs_atk w hT hs ok (by omega) (by omega) (by omega) (by omega) rfl (by omega)
      · exact tabs_emb w hT hs ok h0 h1 h2
    · rcases (by omega : (8 < s ∧ s ≤ 64) ∨ s < 1 ∨ (1 ≤ s ∧ s ≤ 8) ∨ 64 < s) with ⟨h2, h2'⟩ | h2 | ⟨h3, h2⟩ | h2
      · exact tabs_sgap2 w hT hs ok h1 h2 h2'
      · exact tabs_ebl w hT hs ok h1 h2
      · exact tabs_ebm w hT hs ok h1 h3 h2
      · exact tabs_ebb w hT hs ok h1 h2
end Go.Proofs.YtjcfoilfdmameaaGreatDoor
