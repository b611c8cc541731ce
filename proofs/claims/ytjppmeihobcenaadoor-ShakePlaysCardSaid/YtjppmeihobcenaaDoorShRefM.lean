/-
  What the reference reckons is what the program does: block by block.
-/
import Derived.Test.YtjppmeihobcenaaDoorShRefF
import Derived.Test.YtjppmeihobcenaaDoorKecRefM
import Derived.Test.YtjppmeihobcenaaDoorKecRefOf
namespace Go.Proofs.YtjppmeihobcenaaDoor
open Go.RowKit

theorem bytes_congr {x y : Nat → BitVec 64} (h : ∀ j, j < 25 → x j = y j) : ∀ i, i < 200 → bytesF x i = bytesF y i := fun i hi => by
  unfold bytesF
  rw [h (i / 8) (by omega)]
/-- A state's bytes, made lanes, permuted, made bytes. -/
theorem ref_step {S : Nat → BitVec 8} {x : Nat → BitVec 64} (h : ∀ i, i < 200 → S i = bytesF x i) : ∀ i, i < 200 → bytesF (refPTo (refTo S 0) 24) i = bytesF (permF x) i :=
  bytes_congr fun j hj => by
    rw [← perm_ref (refTo S 0) j hj]
    refine perm_congr (fun l hl => ?_) j hj
    have h1 : refTo S 0 l = xorTo (fun _ => 0) S 200 l := by
      rw [of_ref S l hl]
      unfold refTo
      rw [if_pos (Nat.zero_le _)]
    rw [h1]
    exact lanes_ext (fun i hi => by rw [of_bytes S i hi, h i hi]) l hl
theorem xorTo_congr (f : Nat → BitVec 64) {g g' : Nat → BitVec 8} : ∀ n, (∀ i, i < n → g i = g' i) → xorTo f g n = xorTo f g' n
  | 0, _ => rfl
  | n + 1, h => by
    show upd (xorTo f g n) (n / 8) (xorTo f g n (n / 8) ^^^ shl (zx (g n)) (n % 8 * 8)) = upd (xorTo f g' n) (n / 8) (xorTo f g' n (n / 8) ^^^ shl (zx (g' n)) (n % 8 * 8))
    rw [xorTo_congr f n (fun i hi => h i (by omega)), h n (by omega)]

/-- The state when j blocks are taken. -/
def blkS (F : Nat → BitVec 8) (j : Nat) : HS := takeN zeroH F (136 * j)
theorem takeN_mod (f : Nat → BitVec 8) : ∀ n, (takeN zeroH f n).k = n % 136
  | 0 => rfl
  | n + 1 => by
    have ih := takeN_mod f n
    show ((takeN zeroH f n).push (f n)).k = (n + 1) % 136
    unfold HS.push
    by_cases h : (takeN zeroH f n).k + 1 = 136
    · rw [if_pos h]
      show 0 = _
      omega
    · rw [if_neg h]
      show (takeN zeroH f n).k + 1 = _
      omega
theorem blk_k (F : Nat → BitVec 8) (j : Nat) : (blkS F j).k = 0 := by
  unfold blkS
  rw [takeN_mod]
  omega
theorem blk_succ (F : Nat → BitVec 8) (j : Nat) : (blkS F (j + 1)).s = permF (xorTo (blkS F j).s (fun i => F (136 * j + i)) 136) := by
  show (takeN zeroH F (136 * j + 136)).s = _
  rw [takeN_add, takeN_full (takeN zeroH F (136 * j)) _ 136 (by rw [takeN_mod]; omega) (by rw [takeN_mod]; omega)]
  show permF (xorTo (blkS F j).s (ov (blkS F j).b (blkS F j).k 136 fun i => F (136 * j + i)) 136) = _
  rw [blk_k, xorTo_congr (g' := fun i => F (136 * j + i)) (blkS F j).s 136 fun i hi => by unfold ov; rw [if_pos (by omega), Nat.sub_zero]]
/-- The state's bytes when k of them are turned. -/
def sx (s : Nat → BitVec 64) (F : Nat → BitVec 8) (j k : Nat) : Nat → BitVec 8 := fun i => if i < k then bytesF s i ^^^ F (136 * j + i) else bytesF s i
theorem sx_zero (s : Nat → BitVec 64) (F : Nat → BitVec 8) (j : Nat) : sx s F j 0 = bytesF s := by
  funext i
  unfold sx
  rw [if_neg (by omega)]
theorem sx_succ (s : Nat → BitVec 64) (F : Nat → BitVec 8) (j k : Nat) : upd8 (sx s F j k) k (sx s F j k k ^^^ F (136 * j + k)) = sx s F j (k + 1) := by
  funext i
  unfold upd8 sx
  by_cases e : i = k
  · subst e
    rw [if_pos rfl, if_neg (by omega), if_pos (by omega)]
  · rw [if_neg e]
    by_cases h : i < k
    · rw [if_pos h, if_pos (by omega)]
    · rw [if_neg h, if_neg (by omega)]
theorem blk_next (F : Nat → BitVec 8) (j : Nat) : ∀ i, i < 200 → bytesF (refPTo (refTo (sx (blkS F j).s F j 136) 0) 24) i = bytesF (blkS F (j + 1)).s i := by
  rw [blk_succ]
  exact ref_step fun i _ => by
    rw [bytesF_xor]
    rfl

theorem filled_fill (f : Nat → BitVec 8) (n : Nat) : (takeN zeroH f n).fill = { takeN zeroH (filledF f n) (filledN n) with tl := true } := by
  unfold HS.fill
  have hk := takeN_mod f n
  have hN : filledN n = n + (136 - n % 136) := by unfold filledN; omega
  have h1 : takeN zeroH (filledF f n) n = takeN zeroH f n := takeN_congr _ _ fun i hi => by
    unfold filledF upd8
    rw [if_neg (by omega)]
    unfold padsF
    rw [if_pos hi]
  have h2 : takeN zeroH (filledF f n) (filledN n) = takeN (takeN zeroH f n) (padF (takeN zeroH f n).k) (136 - (takeN zeroH f n).k) := by
    rw [hN, takeN_add, h1, hk]
    refine takeN_congr _ _ fun i hi => ?_
    unfold filledF padF
    have hlast : filledN n - 1 = n + (135 - n % 136) := by omega
    rw [hlast]
    unfold upd8
    by_cases e : i = 135 - n % 136
    · rw [if_pos (by omega), if_pos e]
      congr 1
      unfold padsF pad0 upd8
      rw [if_neg (by omega)]
      by_cases e2 : 135 - n % 136 = 0
      · rw [if_pos (by omega), if_pos e2]
      · rw [if_neg (by omega), if_neg e2]
    · rw [if_neg (by omega), if_neg e]
      unfold padsF pad0 upd8
      rw [if_neg (by omega)]
      by_cases e2 : i = 0
      · rw [if_pos (by omega), if_pos e2]
      · rw [if_neg (by omega), if_neg e2]
  rw [h2]

/-- The state when j blocks are told. -/
def eS (s : Nat → BitVec 64) : Nat → Nat → BitVec 64
  | 0 => s
  | j + 1 => permF (eS s j)
theorem tell_blocks (X : HS) (hk : X.k = 0) : ∀ j, (tellS X (136 * j)).fresh = ⟨eS X.s j, X.b, 0, X.tl⟩
  | 0 => by
    show X.fresh = _
    rw [fresh_id X (by omega)]
    show X = ⟨X.s, X.b, 0, X.tl⟩
    rw [← hk]
  | j + 1 => by
    have ih := tell_blocks X hk j
    rw [show 136 * (j + 1) = 136 * j + 136 by omega, tellS_round X (136 * j) 136 (by omega) (by omega) (by rw [ih]; exact Nat.le_refl _), ih]
    rfl
theorem tell_byte (X : HS) (hk : X.k = 0) (j i : Nat) (hi : i < 136) : tellB X (136 * j + i) = bytesF (eS X.s j) i := by
  have ih := tell_blocks X hk j
  rw [tellB_round X (136 * j) 136 i (by omega) hi (by rw [ih]; exact Nat.le_refl _), ih]
  show bytesF (eS X.s j) (0 + i) = _
  rw [Nat.zero_add]
end Go.Proofs.YtjppmeihobcenaaDoor
