/-
  The contract of chicoryref09's Decode: which point bytes are, or that they are none. No statement is proved here: lemmas for the walks.
-/
import Derived.Test.YtanfobboeehiaaaDoorBuF
import Derived.Test.YtanfobboeehiaaaDoorZRfCdN0
import Derived.Test.YtanfobboeehiaaaDoorZRfCdN1
import Derived.Test.YtanfobboeehiaaaDoorZRfCdZe
import Derived.Test.YtanfobboeehiaaaDoorZRfCdP0
import Derived.Test.YtanfobboeehiaaaDoorZRfCdP1
import Derived.Test.YtanfobboeehiaaaDoorZRfCdTu
namespace Go.Proofs.YtanfobboeehiaaaDoor
open Go.RowKit

theorem rfk_one (P : Pt pN dK) {X Y : K} (hx : P.x = X) (hy : P.y = Y) : RfK (t3 16 (dF X.val) (dF Y.val) (dF (ofZ 1).val)) P := by
  subst hx hy
  exact ⟨_, _, _, rfl, by rw [ofZ_one]; exact Rp.one edK P⟩
theorem refDecode_on {a : Option Addr} {c x : Nat} {P : Pt pN dK} (w : World) (hs : Sb w w.heap.size a 57 c x) (hx : x = cdN P) :
    Calls Tryd.prog 15 #[.slice a 57 c] w fun e w' => ∃ r, e = .returned (.tuple #[QO r, .bool true]) ∧ RfK r P ∧ Below w.heap.size w w' := by
  have hf : nB (bt x) 56 = P.y.val := by rw [nB_bt, hx]; exact cdN_mod P
  have h1 : bt x 56 = sg P.x := by rw [hx]; exact cdN_top P
  have hA := cdA_ab P
  rcases sg_or P.x with ⟨hp, h2⟩ | ⟨hp, h2⟩
  · rw [h2] at h1
    rw [ab_odd hp] at hA
    have hz : decide (-P.x = 0) = false := decide_eq_false fun e => by
      have e2 : P.x = 0 := by
        rw [← neg_negK P.x, e]
        decide
      rw [e2] at hp
      exact absurd hp (by decide)
    exact (refDec_turned w hs hf h1 (cdA_root P) hA hz).mono fun e w' ⟨he, hb⟩ => ⟨_, he, rfk_one P (neg_negK P.x).symm rfl, hb⟩
  · rw [h2] at h1
    rw [ab_id hp] at hA
    cases hz : decide (P.x = 0) with
    | true => exact (refDec_plain0 w hs hf h1 (cdA_root P) hA hz).mono fun e w' ⟨he, hb⟩ => ⟨_, he, rfk_one P rfl rfl, hb⟩
    | false => exact (refDec_plain w hs hf h1 (cdA_root P) hA hz).mono fun e w' ⟨he, hb⟩ => ⟨_, he, rfk_one P rfl rfl, hb⟩
theorem refDecode_off {a : Option Addr} {c x : Nat} (w : World) (hs : Sb w w.heap.size a 57 c x) (hx : ∀ P, x ≠ cdN P) :
    Calls Tryd.prog 15 #[.slice a 57 c] w fun e w' => e = .returned (.tuple #[QO fun _ => 0, .bool false]) ∧ Below w.heap.size w w' := by
  by_cases h0 : pN ≤ nB (bt x) 56
  · exact refDec_high w hs h0
  obtain ⟨y, hy⟩ : ∃ y : K, nB (bt x) 56 = y.val := ⟨⟨_, Nat.lt_of_not_le h0⟩, rfl⟩
  have hm : x % 2 ^ (8 * 56) = y.val := by rw [← nB_bt]; exact hy
  have hj := @jn_of 56 x 57 hs.fits rfl
  by_cases h1 : bt x 56 = 0
  · by_cases hr : cdA y ^ (eC + 1) * cdA y ^ (eC + 1) = cdA y
    · have hc := cdA_curve hr (.inl rfl)
      refine absurd ?_ (hx ⟨_, y, hc⟩)
      rw [← hj, hm, h1]
      show jn 56 0 y.val = jn 56 (sg _) y.val
      rw [sg_even (ab_even pN_odd _)]
    · exact refDec_no0 w hs hy h1 hr
  by_cases h2 : bt x 56 = 128
  · by_cases hr : cdA y ^ (eC + 1) * cdA y ^ (eC + 1) = cdA y
    · by_cases hz : ab (cdA y ^ (eC + 1)) = 0
      · exact refDec_zero w hs hy h2 hr rfl (decide_eq_true hz)
      · have hc := cdA_curve hr (.inr rfl)
        refine absurd ?_ (hx ⟨_, y, hc⟩)
        rw [← hj, hm, h2]
        show jn 56 128 y.val = jn 56 (sg _) y.val
        rw [sg_odd ((neg_odd pN_odd hz).2 (ab_even pN_odd _))]
    · exact refDec_no128 w hs hy h2 hr
  · exact refDec_last w hs hy ⟨h1, h2⟩
end Go.Proofs.YtanfobboeehiaaaDoor
