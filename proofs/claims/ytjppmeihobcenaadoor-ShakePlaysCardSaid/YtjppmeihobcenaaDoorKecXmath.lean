/-
  Plain facts on bytes laid on a state.
-/
import Derived.Test.YtjppmeihobcenaaDoorKecRefB
namespace Go.Proofs.YtjppmeihobcenaaDoor

theorem low8_xor (x y : BitVec 64) (k : Nat) : low8 (shr (x ^^^ y) k) = low8 (shr x k) ^^^ low8 (shr y k) := by
  apply BitVec.eq_of_getLsbD_eq
  intro i hi
  simp [low8, shr, hi]
theorem byte_place (b : BitVec 8) (p q : Nat) (hp : p < 8) (hq : q < 8) : low8 (shr (shl (zx b) (p * 8)) (q * 8)) = if p = q then b else 0 := by
  apply BitVec.eq_of_getLsbD_eq
  intro i hi
  unfold low8 shr shl zx
  rw [BitVec.getLsbD_setWidth, BitVec.getLsbD_ushiftRight, BitVec.getLsbD_shiftLeft, BitVec.getLsbD_setWidth]
  by_cases e : p = q
  · subst e
    rw [if_pos rfl, show p * 8 + i - p * 8 = i by omega]
    simp [hi, show ¬ (p * 8 + i < p * 8) by omega, show p * 8 + i < 64 by omega, show i < 64 by omega]
  · rw [if_neg e]
    by_cases h : q * 8 + i < p * 8
    · simp [h]
    · have hz : b.getLsbD (q * 8 + i - p * 8) = false := BitVec.getLsbD_of_ge _ _ (by omega)
      simp [hz]
theorem xorTo_lin (f : Nat → BitVec 64) (g : Nat → BitVec 8) : ∀ (n j : Nat), xorTo f g n j = f j ^^^ xorTo (fun _ => 0) g n j
  | 0, j => by simp [xorTo]
  | n + 1, j => by
    rw [xorTo, xorTo, upd, upd]
    by_cases e : j = n / 8
    · subst e
      rw [if_pos rfl, if_pos rfl, xorTo_lin f g n, BitVec.xor_assoc]
    · rw [if_neg e, if_neg e]
      exact xorTo_lin f g n j
theorem xorTo_twice (f : Nat → BitVec 64) (g : Nat → BitVec 8) (n j : Nat) : xorTo (xorTo f g n) g n j = f j := by
  rw [xorTo_lin, xorTo_lin f g n, BitVec.xor_assoc]
  simp
theorem bytesF_xor (f : Nat → BitVec 64) (g : Nat → BitVec 8) : ∀ (n i : Nat), bytesF (xorTo f g n) i = if i < n then bytesF f i ^^^ g i else bytesF f i
  | 0, i => by simp [xorTo]
  | n + 1, i => by
    have ih := bytesF_xor f g n i
    have hm : i % 8 < 8 := Nat.mod_lt _ (by omega)
    have hm' : n % 8 < 8 := Nat.mod_lt _ (by omega)
    rw [bytesF, xorTo, upd]
    by_cases e : i / 8 = n / 8
    · rw [if_pos e, low8_xor, byte_place _ _ _ hm' hm, ← e]
      have ih' : low8 (shr (xorTo f g n (i / 8)) (i % 8 * 8)) = if i < n then bytesF f i ^^^ g i else bytesF f i := ih
      rw [ih']
      by_cases e2 : n % 8 = i % 8
      · obtain rfl : n = i := by omega
        rw [if_pos rfl, if_neg (by omega), if_pos (by omega)]
      · rw [if_neg e2]
        by_cases h : i < n
        · rw [if_pos h, if_pos (by omega)]; simp
        · rw [if_neg h, if_neg (by omega)]; simp
    · rw [if_neg e]
      have ih' : low8 (shr (xorTo f g n (i / 8)) (i % 8 * 8)) = if i < n then bytesF f i ^^^ g i else bytesF f i := ih
      rw [ih']
      by_cases h : i < n
      · rw [if_pos h, if_pos (by omega)]
      · rw [if_neg h, if_neg (by omega)]
/-- What is wanted when i bytes are turned. -/
def wantTo (f : Nat → BitVec 64) (g : Nat → BitVec 8) (n i : Nat) : BitVec 8 := if i < n then bytesF f i ^^^ g i else bytesF f i
theorem want_step (f : Nat → BitVec 64) (g : Nat → BitVec 8) (n i : Nat) : upd8 (wantTo f g n) n (wantTo f g n n ^^^ g n) i = wantTo f g (n + 1) i := by
  unfold upd8 wantTo
  by_cases e : i = n
  · subst e
    rw [if_pos rfl, if_neg (by omega), if_pos (by omega)]
  · rw [if_neg e]
    by_cases h : i < n
    · rw [if_pos h, if_pos (by omega)]
    · rw [if_neg h, if_neg (by omega)]
end Go.Proofs.YtjppmeihobcenaaDoor
