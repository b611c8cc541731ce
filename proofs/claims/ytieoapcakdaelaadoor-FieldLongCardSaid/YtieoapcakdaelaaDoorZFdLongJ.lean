/-
  The walk of FieldLong, up to 40 calls.
-/
import Derived.Test.YtieoapcakdaelaaDoorZFdLongB0
import Derived.Test.YtieoapcakdaelaaDoorZFdLongB1
import Derived.Test.YtieoapcakdaelaaDoorZFdLongB2
import Derived.Test.YtieoapcakdaelaaDoorZFdLongB3
import Derived.Test.YtieoapcakdaelaaDoorZFdLongB4
import Derived.Test.YtieoapcakdaelaaDoorZFdLongB5
namespace Go.Proofs.YtieoapcakdaelaaDoor
open Go.RowKit

theorem long_near (a b : Nat → BitVec 8) (ad : Option Addr) (n c : Nat) (q : Nat → Nat → Int) (w : World) (hT : Tp w) (hp : SlC w w.heap.size ad n c q) (h40 : n ≤ 40) :
    Calls Tryd.prog 3 #[.agg (AZ .u8 56 (UB a)), .agg (AZ .u8 56 (UB b)), .slice ad n c] w fun e w' => e = .returned (.bool true) ∧ Below w.heap.size w w' :=
  (long_pre (Lib.hid long_b0) (Lib.hid long_b1) (Lib.hid long_b2) (Lib.hid long_b3) (Lib.hid long_b4) (Lib.hid long_b5)).down a b ad n c q w hT hp h40
end Go.Proofs.YtieoapcakdaelaaDoor
