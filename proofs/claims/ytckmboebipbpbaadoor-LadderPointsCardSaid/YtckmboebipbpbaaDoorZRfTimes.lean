/-
  The contract of the reference's Times. No statement is proved here: lemmas for the walks.
-/
import Derived.Test.YtckmboebipbpbaaDoorZRfAddPt
import Derived.Test.YtckmboebipbpbaaDoorBuN
import Derived.Test.YtckmboebipbpbaaDoorBuR
import Derived.Deep.LoopGhost
namespace Go.Proofs.YtckmboebipbpbaaDoor
open Go.RowKit

















































































end Go.Proofs.YtckmboebipbpbaaDoor
