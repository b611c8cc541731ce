/-
 The contracts of the reference's x and y: Over, Add, To, Back. No statement is proved here: lemmas for the walks.
-/
import Derived.Test.YtoeokhfhcpcjlaaGreatDoorBuZ
import Derived.Test.YtoeokhfhcpcjlaaGreatDoorZRfPt
import Derived.Test.YtoeokhfhcpcjlaaGreatDoorBuQ
import Derived.Deep.CutRange
namespace Go.Proofs.YtoeokhfhcpcjlaaGreatDoor
open Go.RowKit
end Go.Proofs.YtoeokhfhcpcjlaaGreatDoor
