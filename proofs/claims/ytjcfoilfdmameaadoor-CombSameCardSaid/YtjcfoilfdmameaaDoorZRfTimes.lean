/-
  The contract of the reference's Times. No statement is proved here: lemmas for the walks.
-/
import Derived.Test.YtjcfoilfdmameaaDoorZRfAddPt
import Derived.Test.YtjcfoilfdmameaaDoorBuN
import Derived.Test.YtjcfoilfdmameaaDoorBuR
import Derived.Deep.LoopGhost
namespace Go.Proofs.YtjcfoilfdmameaaDoor
open Go.RowKit

















































































end Go.Proofs.YtjcfoilfdmameaaDoor
