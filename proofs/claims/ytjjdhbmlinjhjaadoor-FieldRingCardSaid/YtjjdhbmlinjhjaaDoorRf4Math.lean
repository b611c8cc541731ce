/-
  Numbers modulo p as 16 digits of 28 bits: plain mathematics, no program. No statement is proved here: lemmas for the walks.
-/
import Derived.Test.YtjjdhbmlinjhjaaDoorRf4Leaf
namespace Go.Proofs.YtjjdhbmlinjhjaaDoor

/-- The number that n digits are. -/
def val (f : Nat → Int) : Nat → Int
  | 0 => 0
  | n + 1 => val f n + f n * 268435456 ^ n
/-- p. -/
def pZ : Int := 726838724295606890549323807888004534353641360687318060281490199180612328166730772686396383698676545930088884461843637361053498018365439
theorem val_congr {f g : Nat → Int} : ∀ n, (∀ i, i < n → f i = g i) → val f n = val g n
  | 0, _ => rfl
  | n + 1, h => by
    unfold val
    rw [val_congr n fun i hi => h i (by omega), h n (by omega)]
theorem val_add (f g : Nat → Int) : ∀ n, val (fun i => f i + g i) n = val f n + val g n
  | 0 => rfl
  | n + 1 => by
    unfold val
    rw [val_add f g n, Int.add_mul]
    omega
theorem val_sub (f g : Nat → Int) : ∀ n, val (fun i => f i - g i) n = val f n - val g n
  | 0 => rfl
  | n + 1 => by
    unfold val
    rw [val_sub f g n, Int.sub_mul]
    omega
theorem val_upd (f : Nat → Int) (i : Nat) (v : Int) : ∀ n, i < n → val (updZ f i v) n = val f n + (v - f i) * 268435456 ^ i
  | 0, h => by omega
  | n + 1, h => by
    unfold val
    by_cases e : i = n
    · subst e
      rw [val_congr (g := f) i fun k hk => by unfold updZ; rw [if_neg (by omega)], show updZ f i v i = v by simp [updZ], Int.sub_mul]
      omega
    · rw [val_upd f i v n (by omega), show updZ f i v n = f n by unfold updZ; rw [if_neg (by omega)]]
      omega
theorem val_p : val pF 16 = pZ := by decide +kernel
/-! A pass of carries -/
def ovZ (f : Nat → Int) : Nat → Int
  | 0 => 0
  | i + 1 => (f i + ovZ f i) / 268435456
def dgZ (f : Nat → Int) (i : Nat) : Int := (f i + ovZ f i) % 268435456
theorem dgZ_bd (f : Nat → Int) (i : Nat) : 0 ≤ dgZ f i ∧ dgZ f i < 268435456 := by
  unfold dgZ
  omega
theorem val_pass (f : Nat → Int) : ∀ n, val f n = val (dgZ f) n + ovZ f n * 268435456 ^ n
  | 0 => by simp [val, ovZ]
  | n + 1 => by
    have ih := val_pass f n
    have e : f n = dgZ f n + 268435456 * ovZ f (n + 1) - ovZ f n := by
      show f n = (f n + ovZ f n) % 268435456 + 268435456 * ((f n + ovZ f n) / 268435456) - ovZ f n
      omega
    unfold val
    rw [ih, Int.pow_succ]
    generalize (268435456 : Int) ^ n = B at *
    rw [e, Int.sub_mul, Int.add_mul, Int.mul_comm 268435456 (ovZ f (n + 1)), Int.mul_assoc, Int.mul_comm 268435456 B]
    omega
theorem val_bd {f : Nat → Int} (h : ∀ i, 0 ≤ f i ∧ f i < 268435456) : ∀ n, 0 ≤ val f n ∧ val f n < 268435456 ^ n
  | 0 => by simp [val]
  | n + 1 => by
    have ih := val_bd h n
    have hn := h n
    unfold val
    rw [Int.pow_succ]
    have hB : (0 : Int) < 268435456 ^ n := Int.pow_pos (by omega)
    generalize (268435456 : Int) ^ n = B at *
    have h1 : 0 ≤ f n * B := Int.mul_nonneg hn.1 (by omega)
    have h2 : f n * B ≤ 268435455 * B := Int.mul_le_mul_of_nonneg_right (by omega) (by omega)
    omega
/-- What a pass makes of digits: those of 2^448 and more come in again. -/
def passed (f : Nat → Int) : Nat → Int := updZ (updZ (dgZ f) 0 (dgZ f 0 + ovZ f 16)) 8 (dgZ f 8 + ovZ f 16)
theorem val_passed (f : Nat → Int) : val (passed f) 16 = val f 16 - ovZ f 16 * pZ := by
  unfold passed
  rw [val_upd _ _ _ _ (by omega), val_upd _ _ _ _ (by omega), show updZ (dgZ f) 0 (dgZ f 0 + ovZ f 16) 8 = dgZ f 8 from rfl, val_pass f 16]
  rw [show pZ = 268435456 ^ 16 - 268435456 ^ 8 - 1 from rfl]
  generalize ovZ f 16 = o
  generalize val (dgZ f) 16 = v
  rw [show (268435456 : Int) ^ 0 = 1 from rfl, Int.mul_one, Int.mul_sub, Int.mul_sub, Int.mul_one, show dgZ f 0 + o - dgZ f 0 = o by omega, show dgZ f 8 + o - dgZ f 8 = o by omega]
  generalize (268435456 : Int) ^ 16 = x
  generalize (268435456 : Int) ^ 8 = y
  generalize o * x = a
  generalize o * y = b
  omega
/-- Digits are less than p's just if the number is. -/
theorem less_val {f : Nat → Int} (h : ∀ i, 0 ≤ f i ∧ f i < 268435456) : ∀ n, lessTo f n = true ↔ val f n < val pF n
  | 0 => by simp [lessTo, val]
  | n + 1 => by
    have ih := less_val h n
    have b1 := val_bd h n
    have hp : ∀ i, 0 ≤ pF i ∧ pF i < 268435456 := fun i => by unfold pF; split <;> omega
    have b2 := val_bd hp n
    rw [show lessTo f (n + 1) = (if f n = pF n then lessTo f n else decide (f n < pF n)) from rfl]
    unfold val
    have hB : (0 : Int) < 268435456 ^ n := Int.pow_pos (by omega)
    generalize (268435456 : Int) ^ n = B at *
    generalize pF n = q at *
    by_cases e : f n = q
    · rw [if_pos e, ih, e]
      omega
    · rw [if_neg e, decide_eq_true_eq]
      constructor
      · intro hlt
        have := Int.mul_le_mul_of_nonneg_right (show f n + 1 ≤ q by omega) (show 0 ≤ B by omega)
        rw [Int.add_mul, Int.one_mul] at this
        omega
      · intro hlt
        rcases (by omega : f n < q ∨ q < f n) with h1 | h1
        · exact h1
        · have := Int.mul_le_mul_of_nonneg_right (show q + 1 ≤ f n by omega) (show 0 ≤ B by omega)
          rw [Int.add_mul, Int.one_mul] at this
          omega
end Go.Proofs.YtjjdhbmlinjhjaaDoor
