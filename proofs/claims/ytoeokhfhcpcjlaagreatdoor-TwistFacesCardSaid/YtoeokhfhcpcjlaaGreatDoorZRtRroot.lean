/-
 The contract of the reference's Root. No statement is proved here: lemmas for the walks.
-/
import Derived.Test.YtoeokhfhcpcjlaaGreatDoorBuL
import Derived.Deep.CutRange
namespace Go.Proofs.YtoeokhfhcpcjlaaGreatDoor
open Go.RowKit
end Go.Proofs.YtoeokhfhcpcjlaaGreatDoor
