/-
  What a hash becomes when it takes bytes, and tells them: pure functions, byte by byte.
-/
import Derived.Test.YtjppmeihobcenaaDoorKecBytes
namespace Go.Proofs.YtjppmeihobcenaaDoor
open Go.RowKit

/-- A hash: its state, its block, how much of the block is taken (or of the state is told), whether it tells. -/
structure HS where
  s : Nat → BitVec 64
  b : Nat → BitVec 8
  k : Nat
  tl : Bool

def zeroH : HS := ⟨fun _ => 0, fun _ => 0, 0, false⟩
def ov (f : Nat → BitVec 8) (o m : Nat) (g : Nat → BitVec 8) : Nat → BitVec 8 := fun j => if o ≤ j ∧ j < o + m then g (j - o) else f j
def HS.laid (h : HS) (m : Nat) (f : Nat → BitVec 8) : HS := ⟨h.s, ov h.b h.k m f, h.k + m, h.tl⟩
def HS.over (h : HS) (m : Nat) (f : Nat → BitVec 8) : HS := ⟨h.s, ov h.b h.k m f, h.k, h.tl⟩
def HS.stir (h : HS) : HS := ⟨permF (xorTo h.s h.b 136), fun _ => 0, 0, h.tl⟩
def HS.push (h : HS) (x : BitVec 8) : HS := if h.k + 1 = 136 then HS.stir ⟨h.s, upd8 h.b h.k x, h.k + 1, h.tl⟩ else ⟨h.s, upd8 h.b h.k x, h.k + 1, h.tl⟩
def takeN (h : HS) (f : Nat → BitVec 8) : Nat → HS
  | 0 => h
  | n + 1 => (takeN h f n).push (f n)

theorem ov_zero (f g : Nat → BitVec 8) (o : Nat) : ov f o 0 g = f := by
  funext j
  unfold ov
  rw [if_neg (by omega)]
theorem ov_succ (f g : Nat → BitVec 8) (o m : Nat) : upd8 (ov f o m g) (o + m) (g m) = ov f o (m + 1) g := by
  funext j
  unfold upd8 ov
  by_cases e : j = o + m
  · subst e
    rw [if_pos rfl, if_pos (by omega), Nat.add_sub_cancel_left]
  · rw [if_neg e]
    by_cases h : o ≤ j ∧ j < o + m
    · rw [if_pos h, if_pos (by omega)]
    · rw [if_neg h, if_neg (by omega)]
theorem takeN_add (h : HS) (f : Nat → BitVec 8) (a : Nat) : ∀ b, takeN h f (a + b) = takeN (takeN h f a) (fun i => f (a + i)) b
  | 0 => rfl
  | b + 1 => by
    show (takeN h f (a + b)).push (f (a + b)) = _
    rw [takeN_add h f a b]
    rfl
theorem takeN_congr (h : HS) {f g : Nat → BitVec 8} : ∀ n, (∀ i, i < n → f i = g i) → takeN h f n = takeN h g n
  | 0, _ => rfl
  | n + 1, hfg => by
    show (takeN h f n).push (f n) = (takeN h g n).push (g n)
    rw [takeN_congr h n (fun i hi => hfg i (by omega)), hfg n (by omega)]
theorem takeN_few (h : HS) (f : Nat → BitVec 8) : ∀ m, h.k + m < 136 → takeN h f m = h.laid m f
  | 0, _ => by
    show h = h.laid 0 f
    unfold HS.laid
    rw [ov_zero]
    rfl
  | m + 1, hm => by
    show (takeN h f m).push (f m) = _
    rw [takeN_few h f m (by omega)]
    unfold HS.push HS.laid
    rw [if_neg (by show ¬ h.k + m + 1 = 136; omega)]
    show HS.mk h.s (upd8 (ov h.b h.k m f) (h.k + m) (f m)) (h.k + m + 1) h.tl = _
    rw [ov_succ]
    rfl
theorem takeN_full (h : HS) (f : Nat → BitVec 8) (m : Nat) (hk : h.k < 136) (hm : h.k + m = 136) : takeN h f m = (h.laid m f).stir := by
  obtain ⟨m, rfl⟩ : ∃ k, m = k + 1 := ⟨m - 1, by omega⟩
  show (takeN h f m).push (f m) = _
  rw [takeN_few h f m (by omega)]
  unfold HS.push HS.laid
  rw [if_pos (by show h.k + m + 1 = 136; omega)]
  show HS.stir (HS.mk h.s (upd8 (ov h.b h.k m f) (h.k + m) (f m)) (h.k + m + 1) h.tl) = _
  rw [ov_succ]
  rfl
theorem push_k (h : HS) (x : BitVec 8) (hk : h.k < 136) : (h.push x).k < 136 := by
  unfold HS.push
  split
  · show 0 < 136; omega
  · show h.k + 1 < 136; omega
theorem push_tl (h : HS) (x : BitVec 8) : (h.push x).tl = h.tl := by
  unfold HS.push
  split <;> rfl
theorem takeN_k (h : HS) (f : Nat → BitVec 8) (hk : h.k < 136) : ∀ n, (takeN h f n).k < 136
  | 0 => hk
  | n + 1 => push_k _ _ (takeN_k h f hk n)
theorem takeN_tl (h : HS) (f : Nat → BitVec 8) : ∀ n, (takeN h f n).tl = h.tl
  | 0 => rfl
  | n + 1 => (push_tl _ _).trans (takeN_tl h f n)

/-- A piece: a slice of bytes. -/
structure Piece where
  a : Option Addr
  n : Nat
  c : Nat
  f : Nat → BitVec 8
def takeP (h : HS) (p : Nat → Piece) : Nat → HS
  | 0 => h
  | i + 1 => takeN (takeP h p i) (p i).f (p i).n
theorem takeP_k (h : HS) (p : Nat → Piece) (hk : h.k < 136) : ∀ n, (takeP h p n).k < 136
  | 0 => hk
  | n + 1 => takeN_k _ _ (takeP_k h p hk n) _
theorem takeP_tl (h : HS) (p : Nat → Piece) : ∀ n, (takeP h p n).tl = h.tl
  | 0 => rfl
  | n + 1 => (takeN_tl _ _ _).trans (takeP_tl h p n)

def pad0 : Nat → BitVec 8 := upd8 (fun _ => 0) 0 31
def padF (k : Nat) : Nat → BitVec 8 := upd8 pad0 (135 - k) (pad0 (135 - k) ^^^ 128)
def HS.fill (h : HS) : HS := { takeN h (padF h.k) (136 - h.k) with tl := true }
def HS.opened (h : HS) : HS := if h.tl then h else h.fill
theorem fill_k (h : HS) (hk : h.k < 136) : h.fill.k = 0 := by
  unfold HS.fill
  rw [takeN_full h _ _ hk (by omega)]
  rfl
theorem opened_k (h : HS) (hk : h.k ≤ 136) (hl : h.tl = false → h.k < 136) : h.opened.k ≤ 136 := by
  unfold HS.opened
  split
  · exact hk
  · rename_i h'
    rw [fill_k h (hl (by simpa using h'))]; omega
theorem opened_tl (h : HS) : h.opened.tl = true := by
  unfold HS.opened
  split
  · assumption
  · rfl

def HS.fresh (h : HS) : HS := if h.k = 136 then ⟨permF h.s, h.b, 0, h.tl⟩ else h
def HS.on (h : HS) (m : Nat) : HS := ⟨h.s, h.b, h.k + m, h.tl⟩
def tellS (h : HS) : Nat → HS
  | 0 => h
  | n + 1 => (tellS h n).fresh.on 1
def tellB (h : HS) (i : Nat) : BitVec 8 := bytesF (tellS h i).fresh.s (tellS h i).fresh.k
theorem tellS_add (h : HS) (a : Nat) : ∀ b, tellS (tellS h a) b = tellS h (a + b)
  | 0 => rfl
  | b + 1 => by
    show (tellS (tellS h a) b).fresh.on 1 = (tellS h (a + b)).fresh.on 1
    rw [tellS_add h a b]
theorem tellB_add (h : HS) (a i : Nat) : tellB (tellS h a) i = tellB h (a + i) := by
  unfold tellB
  rw [tellS_add]
theorem fresh_k (h : HS) (hk : h.k ≤ 136) : h.fresh.k < 136 := by
  unfold HS.fresh
  split
  · show 0 < 136; omega
  · omega
theorem fresh_id (h : HS) (hk : h.k < 136) : h.fresh = h := by
  unfold HS.fresh
  rw [if_neg (by omega)]
theorem fresh_fresh (h : HS) : h.fresh.fresh = h.fresh := by
  by_cases e : h.k = 136
  · have : h.fresh.k = 0 := by unfold HS.fresh; rw [if_pos e]
    generalize h.fresh = h' at this
    unfold HS.fresh
    rw [if_neg (by omega)]
  · have : h.fresh = h := by unfold HS.fresh; rw [if_neg e]
    rw [this, this]
theorem tellS_fresh (h : HS) : ∀ m, tellS h.fresh (m + 1) = tellS h (m + 1)
  | 0 => by
    show h.fresh.fresh.on 1 = h.fresh.on 1
    rw [fresh_fresh]
  | m + 1 => by
    show (tellS h.fresh (m + 1)).fresh.on 1 = (tellS h (m + 1)).fresh.on 1
    rw [tellS_fresh h m]
theorem tellB_fresh (h : HS) : ∀ i, tellB h.fresh i = tellB h i
  | 0 => by
    show bytesF h.fresh.fresh.s h.fresh.fresh.k = bytesF h.fresh.s h.fresh.k
    rw [fresh_fresh]
  | i + 1 => by
    unfold tellB
    rw [tellS_fresh]
theorem tellS_few (h : HS) (hk : h.k < 136) : ∀ m, h.k + m ≤ 136 → tellS h m = h.on m
  | 0, _ => rfl
  | m + 1, hm => by
    show (tellS h m).fresh.on 1 = _
    rw [tellS_few h hk m (by omega), fresh_id _ (by show h.k + m < 136; omega)]
    rfl
theorem tellB_few (h : HS) (hk : h.k < 136) (i m : Nat) (hi : i < m) (hm : h.k + m ≤ 136) : tellB h i = bytesF h.s (h.k + i) := by
  unfold tellB
  rw [tellS_few h hk i (by omega), fresh_id _ (by show h.k + i < 136; omega)]
  rfl
theorem tellS_k (h : HS) (hk : h.k ≤ 136) : ∀ n, (tellS h n).k ≤ 136
  | 0 => hk
  | n + 1 => by
    show (tellS h n).fresh.k + 1 ≤ 136
    have := fresh_k _ (tellS_k h hk n)
    omega
theorem fresh_tl (h : HS) : h.fresh.tl = h.tl := by
  unfold HS.fresh
  split <;> rfl
theorem tellS_tl (h : HS) : ∀ n, (tellS h n).tl = h.tl
  | 0 => rfl
  | n + 1 => (fresh_tl _).trans (tellS_tl h n)
/-- One round of telling: m bytes more. -/
theorem tellS_round (h : HS) (a m : Nat) (hk : h.k ≤ 136) (hm : 0 < m) (hf : (tellS h a).fresh.k + m ≤ 136) : tellS h (a + m) = (tellS h a).fresh.on m := by
  obtain ⟨m, rfl⟩ : ∃ k, m = k + 1 := ⟨m - 1, by omega⟩
  rw [← tellS_add, ← tellS_fresh, tellS_few _ (fresh_k _ (tellS_k h hk a)) _ hf]
theorem tellB_round (h : HS) (a m i : Nat) (hk : h.k ≤ 136) (hi : i < m) (hf : (tellS h a).fresh.k + m ≤ 136) : tellB h (a + i) = bytesF (tellS h a).fresh.s ((tellS h a).fresh.k + i) := by
  rw [← tellB_add, ← tellB_fresh, tellB_few _ (fresh_k _ (tellS_k h hk a)) i m hi hf]
end Go.Proofs.YtjppmeihobcenaaDoor
