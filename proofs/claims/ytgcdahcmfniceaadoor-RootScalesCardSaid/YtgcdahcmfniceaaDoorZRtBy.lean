/-
  What the reference's roots want: bytes of numbers, arrays compared. No statement is proved here: lemmas for the walks.
-/
import Derived.Test.YtgcdahcmfniceaaDoorZRtRpow
import Derived.Test.YtgcdahcmfniceaaDoorBuR
import Derived.Test.YtgcdahcmfniceaaDoorZSbOps
namespace Go.Proofs.YtgcdahcmfniceaaDoor
open Go.RowKit

theorem bX_bt (x : Nat) : bX x = bt x := by
  funext i
  unfold bX bt
  rw [show (256 : Nat) = 2 ^ 8 from rfl, ← Nat.pow_mul]


theorem fits_56 {x : Nat} (h : x ≤ pN + 1) : dl 8 x ≤ 56 := (dl_le 8 x 56 (by omega)).2 (Nat.lt_of_le_of_lt h (by decide +kernel))
end Go.Proofs.YtgcdahcmfniceaaDoor
