/-
  DERIVED. GIVEN WITH THE SEED: THE PROGRAM's TIES (one call each: nine closed facts by the kernel) AND EACH ROW's TIE, after the 31st guide's Derived/Test/Toyas{Tie, Card}.lean. No idea stands in it: it is a product of the set-up. Laid BY PROGRAM, IN A SANDBOX (cutbox-door.mjs). By AI agents, Wed Nov 11 2026. No macro, syntax, notation, axiom, sorry.
-/
import Derived.Test.YtgjbonikbmgfmaaGreatDoorRows
import Derived.LaidByTextLater
import Derived.SevenTiedAt
import Derived.LaidSub
import Derived.LaidOnce
namespace Go.Proofs.YtgjbonikbmgfmaaGreatDoor
open Go
set_option maxRecDepth 100000
theorem seatTie1 : Tryz.prog.laidByTextLater [("chicory/field.prime", Rows.laid_chicory_field_prime), ("chicory/scalar.order", Rows.laid_chicory_scalar_order), ("chicory/scalar.rest", Rows.laid_chicory_scalar_rest)] [.data, .data, .data] true :=
  Program.laidByTextLater_by_one 24 8 9 (by kernel_rfl) (by kernel_rfl) (by kernel_rfl) (by kernel_rfl) (by kernel_rfl) (by kernel_rfl) (fun _ _ => by kernel_rfl)
theorem noOwnUnsafe : Tryz.pinned.checked.prog.headLifts.contains "ownunsafe" = false := by kernel_rfl
theorem tie : Tryz.prog.laidByTextLater [("chicory/field.prime", Rows.laid_chicory_field_prime)] [.data] true :=
  Program.laidByTextLater.sub seatTie1 ["chicory/field.prime"] (by kernel_rfl) (by kernel_rfl)
theorem decafDecodes_row_tie : Rows.decafDecodesRow.laidByTextAt .later Tryz.pinned [.data] true :=
  OpenClaim.laidByTextAt_later rfl rfl tie noOwnUnsafe
theorem decafEncodes_row_tie : Rows.decafEncodesRow.laidByTextAt .later Tryz.pinned [.data] true :=
  OpenClaim.laidByTextAt_later rfl rfl tie noOwnUnsafe
theorem decafAdds_row_tie : Rows.decafAddsRow.laidByTextAt .later Tryz.pinned [.data] true :=
  OpenClaim.laidByTextAt_later rfl rfl tie noOwnUnsafe
theorem decafFour_row_tie : Rows.decafFourRow.laidByTextAt .later Tryz.pinned [.data] true :=
  OpenClaim.laidByTextAt_later rfl rfl tie noOwnUnsafe
theorem tie2 : Tryz.prog.laidByTextLater [("chicory/field.prime", Rows.laid_chicory_field_prime), ("chicory/scalar.order", Rows.laid_chicory_scalar_order), ("chicory/scalar.rest", Rows.laid_chicory_scalar_rest)] [.data, .data, .data] true :=
  Program.laidByTextLater.sub seatTie1 ["chicory/field.prime", "chicory/scalar.order", "chicory/scalar.rest"] (by kernel_rfl) (by kernel_rfl)
theorem decafMuls_row_tie : Rows.decafMulsRow.laidByTextAt .later Tryz.pinned [.data, .data, .data] true :=
  OpenClaim.laidByTextAt_later rfl rfl tie2 noOwnUnsafe
theorem decafScales_row_tie : Rows.decafScalesRow.laidByTextAt .later Tryz.pinned [.data, .data, .data] true :=
  OpenClaim.laidByTextAt_later rfl rfl tie2 noOwnUnsafe
theorem tie3 : Tryz.prog.laidByTextLater [("chicory/field.prime", Rows.laid_chicory_field_prime), ("chicory/scalar.order", Rows.laid_chicory_scalar_order)] [.data, .data] true :=
  Program.laidByTextLater.sub seatTie1 ["chicory/field.prime", "chicory/scalar.order"] (by kernel_rfl) (by kernel_rfl)
theorem decafGroup_row_tie : Rows.decafGroupRow.laidByTextAt .later Tryz.pinned [.data, .data] true :=
  OpenClaim.laidByTextAt_later rfl rfl tie3 noOwnUnsafe
theorem decafDecodesUpto_row_tie : Rows.decafDecodesUptoRow.laidByTextAt .later Tryz.pinned [.data] true :=
  OpenClaim.laidByTextAt_later rfl rfl tie noOwnUnsafe
theorem decafEncodesUpto_row_tie : Rows.decafEncodesUptoRow.laidByTextAt .later Tryz.pinned [.data] true :=
  OpenClaim.laidByTextAt_later rfl rfl tie noOwnUnsafe
theorem decafAddsUpto_row_tie : Rows.decafAddsUptoRow.laidByTextAt .later Tryz.pinned [.data] true :=
  OpenClaim.laidByTextAt_later rfl rfl tie noOwnUnsafe
theorem decafMulsUpto_row_tie : Rows.decafMulsUptoRow.laidByTextAt .later Tryz.pinned [.data, .data, .data] true :=
  OpenClaim.laidByTextAt_later rfl rfl tie2 noOwnUnsafe
theorem decafGroupUpto_row_tie : Rows.decafGroupUptoRow.laidByTextAt .later Tryz.pinned [.data, .data] true :=
  OpenClaim.laidByTextAt_later rfl rfl tie3 noOwnUnsafe
theorem decafScalesUpto_row_tie : Rows.decafScalesUptoRow.laidByTextAt .later Tryz.pinned [.data, .data, .data] true :=
  OpenClaim.laidByTextAt_later rfl rfl tie2 noOwnUnsafe
theorem decafFourUpto_row_tie : Rows.decafFourUptoRow.laidByTextAt .later Tryz.pinned [.data] true :=
  OpenClaim.laidByTextAt_later rfl rfl tie noOwnUnsafe
end Go.Proofs.YtgjbonikbmgfmaaGreatDoor
