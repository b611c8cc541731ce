/- Lemmas; no statement is proved here. -/
import Derived.Test.YtgjbonikbmgfmaaGreatDoorBuZ
set_option maxRecDepth 100000
set_option maxHeartbeats 4000000
namespace Go.Proofs.YtgjbonikbmgfmaaGreatDoor
open Go.RowKit
theorem L_inj {a b : BitVec 64} : L a = L b ↔ a = b := by
 unfold L
 constructor
 ·intro h; exact BitVec.eq_of_toNat_eq (by omega)
 ·intro h; rw [h]
theorem y9n : bl 0 = 0 := rfl
theorem bl_pos {x : Nat} (h : 0 < x) : 0 < bl x := by
 unfold bl
 rw [if_neg (by omega)]
 omega
theorem bl_low {x : Nat} (h : 0 < x) : 2 ^ (bl x - 1) ≤ x := by
 unfold bl
 rw [if_neg (by omega), Nat.add_sub_cancel]
 exact Nat.log2_self_le (by omega)
theorem y9b {b x : Nat} (hb : 0 < b) (h : 0 < dl b x) : 2 ^ (b * (dl b x - 1)) ≤ x := by
 by_cases h1 : x < 2 ^ (b * (dl b x - 1))
 ·have := (z5f b x _ hb).2 h1; omega
 ·omega
theorem dl_pos {b x : Nat} (hb : 0 < b) : 0 < dl b x ↔ 0 < x := by
 constructor
 ·intro h
  have := y9b hb h
  have := Nat.two_pow_pos (b * (dl b x - 1))
  omega
 ·intro h
  by_cases h1 : dl b x ≤ 0
  ·have := (z5f b x 0 hb).1 h1; simp at this; omega
  ·omega
theorem z2v (x i : Nat) : (wd x i).toNat = x / 2 ^ (64 * i) % 18446744073709551616 := by
 unfold wd; rw [BitVec.toNat_ofNat]
theorem z5j (x i j : Nat) : (wd x i).getLsbD j = (decide (j < 64) && x.testBit (64 * i + j)) := by
 unfold wd; rw [BitVec.getLsbD_ofNat, Nat.testBit_div_two_pow, Nat.add_comm]
theorem z7u {x n i : Nat} (h : x < 2 ^ (64 * n)) (hi : n ≤ i) : wd x i = 0 := by
 unfold wd
 rw [Nat.div_eq_of_lt (Nat.lt_of_lt_of_le h (Nat.pow_le_pow_right (by omega) (by omega)))]
 rfl
theorem y2r (i : Nat) : 2 ^ (64 * (i + 1)) = 2 ^ (64 * i) * 18446744073709551616 := y2q 64 i
theorem y4t {x n : Nat} (h : x < 2 ^ (64 * (n + 1))) : wd x n = 0 ↔ x < 2 ^ (64 * n) := by
 have e : (wd x n).toNat = x / 2 ^ (64 * n) := by
  rw [z2v, Nat.mod_eq_of_lt]
  rw [Nat.div_lt_iff_lt_mul (Nat.two_pow_pos _), Nat.mul_comm, ← y2r]; exact h
 constructor
 ·intro h0
  rw [h0] at e
  have e' : 0 = x / 2 ^ (64 * n) := e
  exact Nat.lt_of_div_eq_zero (Nat.two_pow_pos _) e'.symm
 ·intro h0
  exact z7u h0 (Nat.le_refl _)
def mix {α : Type} (i : Nat) (f g : Nat → α) : Nat → α := fun k => if k < i then f k else g k
theorem z6h {α : Type} (f g : Nat → α) : mix 0 f g = g := by funext k; simp [mix]
theorem z8d (i : Nat) (f g : Nat → BitVec 64) : upd (mix i f g) i (f i) = mix (i + 1) f g := by
 funext k
 unfold upd mix
 by_cases e : k = i
 ·subst e; simp
 ·by_cases h : k < i
  ·rw [if_neg e, if_pos h, if_pos (by omega)]
  ·rw [if_neg e, if_neg h, if_neg (by omega)]
theorem z4n {α : Type} (n : Nat) (f g : Nat → α) (k : Nat) (h : k < n) : mix n f g k = f k := by simp [mix, h]
def bor (x y i : Nat) : Nat := if x % 2 ^ (64 * i) < y % 2 ^ (64 * i) then 1 else 0
theorem bor_zero (x y : Nat) : bor x y 0 = 0 := by simp [bor, Nat.mod_one]
theorem bor_le (x y i : Nat) : bor x y i ≤ 1 := by unfold bor; split <;> omega
theorem y3f (x y P B : Nat) (hP : 0 < P) (hB : 0 < B) (h : y ≤ x) (hc : B = 18446744073709551616) : (x - y) / P % B = (x / P % B + B - y / P % B - (if x % P < y % P then 1 else 0)) % B ∧ ((x % (P * B) < y % (P * B)) ↔ x / P % B < y / P % B + (if x % P < y % P then 1 else 0)) := by
 have hxm := Nat.mod_lt x hP
 have hym := Nat.mod_lt y hP
 have ex := Nat.div_add_mod x P
 have ey := Nat.div_add_mod y P
 have e1 : (x - y) / P = x / P - y / P - (if x % P < y % P then 1 else 0) := by
  have hq : y / P ≤ x / P := Nat.div_le_div_right h
  by_cases hlt : x % P < y % P
  ·rw [if_pos hlt]
   have hq' : y / P + 1 ≤ x / P := by
    rcases Nat.lt_or_ge (y / P) (x / P) with h1 | h1
    ·exact h1
    ·have : y / P = x / P := by omega
     rw [this] at ey; omega
   have e : x - y = P * (x / P - y / P - 1) + (P + x % P - y % P) := by
    rw [Nat.mul_sub, Nat.mul_sub, Nat.mul_one]
    have := Nat.mul_le_mul_left P hq'
    rw [Nat.mul_add, Nat.mul_one] at this
    omega
   rw [e, Nat.mul_add_div hP, Nat.div_eq_of_lt (by omega : P + x % P - y % P < P)]
   omega
  ·rw [if_neg hlt]
   have e : x - y = P * (x / P - y / P) + (x % P - y % P) := by
    rw [Nat.mul_sub]
    have := Nat.mul_le_mul_left P hq
    omega
   rw [e, Nat.mul_add_div hP, Nat.div_eq_of_lt (by omega : x % P - y % P < P)]
   omega
 have hq : y / P + (if x % P < y % P then 1 else 0) ≤ x / P := by
  have hq : y / P ≤ x / P := Nat.div_le_div_right h
  split
  ·rename_i hlt
   rcases Nat.lt_or_ge (y / P) (x / P) with h1 | h1
   ·omega
   ·have : y / P = x / P := by omega
    rw [this] at ey; omega
  ·omega
 generalize hb : (if x % P < y % P then 1 else 0) = b at *
 have hb1 : b ≤ 1 := by rw [← hb]; split <;> omega
 constructor
 ·rw [e1, hc]
  omega
 ·rw [Nat.mod_mul, Nat.mod_mul]
  have hsx := Nat.mod_lt (x / P) hB
  generalize x / P % B = u at *
  generalize y / P % B = v at *
  generalize x % P = r at *
  generalize y % P = s at *
  constructor
  ·intro h1
   rcases Nat.lt_trichotomy u v with h2 | h2 | h2
   ·omega
   ·subst h2
    rw [if_pos (by omega)] at hb
    omega
   ·have := Nat.mul_le_mul_left P h2
    rw [Nat.mul_succ] at this
    omega
  ·intro h1
   by_cases h2 : u < v
   ·have := Nat.mul_le_mul_left P h2
    rw [Nat.mul_succ] at this
    omega
   ·have : u = v := by omega
    subst this
    split at hb
    ·omega
    ·omega
theorem wd_sub {x y : Nat} (h : y ≤ x) (i : Nat) : (wd (x - y) i).toNat = ((wd x i).toNat + 18446744073709551616 - (wd y i).toNat - bor x y i) % 18446744073709551616 := by
 rw [z2v, z2v, z2v]
 exact (y3f x y _ _ (Nat.two_pow_pos _) (by omega) h rfl).1
theorem bor_succ {x y : Nat} (h : y ≤ x) (i : Nat) : bor x y (i + 1) = if (wd x i).toNat < (wd y i).toNat + bor x y i then 1 else 0 := by
 have := (y3f x y _ _ (Nat.two_pow_pos (64 * i)) (by omega) h rfl).2
 rw [z2v, z2v]
 unfold bor
 rw [y2r]
 by_cases h1 : x % (2 ^ (64 * i) * 18446744073709551616) < y % (2 ^ (64 * i) * 18446744073709551616)
 ·rw [if_pos h1, if_pos (this.1 h1)]
 ·rw [if_neg h1, if_neg (fun h2 => h1 (this.2 h2))]
theorem y1f (z t i k : Nat) (hz : z < 2 ^ (64 * i)) : wd (2 ^ (64 * i) * t + z) (i + k) = wd t k := by
 unfold wd
 rw [show 64 * (i + k) = 64 * i + 64 * k by omega, Nat.pow_add, ← Nat.div_div_eq_div_mul, Nat.mul_add_div (Nat.two_pow_pos _), Nat.div_eq_of_lt hz, Nat.add_zero]
theorem y4u (z t i k : Nat) (hk : k < i) : wd (2 ^ (64 * i) * t + z) k = wd z k := by
 obtain ⟨d, rfl⟩ : ∃ d, i = k + (d + 1) := ⟨i - k - 1, by omega⟩
 unfold wd
 rw [show 64 * (k + (d + 1)) = 64 * k + 64 * (d + 1) by omega, Nat.pow_add, Nat.mul_assoc, Nat.mul_add_div (Nat.two_pow_pos _), show 64 * (d + 1) = 64 + 64 * d by omega, Nat.pow_add, Nat.mul_assoc]
 apply BitVec.eq_of_toNat_eq
 rw [BitVec.toNat_ofNat, BitVec.toNat_ofNat, Nat.mul_add_mod]
theorem info64 : (Tryz.prog.info? 27).map (fun i => (i.zero, i.size, i.bytes)) = some (some (.int .u64 0), 1, 8) := by kernel_rfl
theorem y1y : ∃ i, Tryz.prog.info? 27 = some i ∧ i.zero = some (.int .u64 0) ∧ i.size = 1 ∧ i.bytes = 8 := by
 cases hq : Tryz.prog.info? 27 with
 | none => have := info64; simp [hq] at this
 | some i =>
  have := info64
  simp [hq] at this
  exact ⟨i, rfl, this.1, this.2.1, this.2.2⟩
theorem y7t (x : BitVec 64) (k j : Nat) : (shr x k).getLsbD j = x.getLsbD (k + j) := by unfold shr; rw [BitVec.getLsbD_ushiftRight]
theorem bt_word (x i : Nat) : low8 (shr (wd x (i / 8)) (i % 8 * 8)) = bt x i := by
 apply BitVec.eq_of_getLsbD_eq
 intro j hj
 unfold low8
 rw [BitVec.getLsbD_setWidth, y7t, z5j, z8x]
 have h1 : i % 8 * 8 + j < 64 := by omega
 rw [show 64 * (i / 8) + (i % 8 * 8 + j) = 8 * i + j by omega]
 simp [h1]
theorem y00 (i : Nat) (w : World) (hi : i ≤ 10000000) (k : Nat) (hk : i % 8 * 8 = k) :
  Calls Tryz.prog 183 #[.int .i64 i] w fun e w' => e = .returned (.int .i64 (k : Int)) ∧ w' = w := by
 go_enter Tryz.func183, Tryz.ntmps183
 go_wp2
 go_ret
 exact ⟨congrArg (fun n => Ending.returned (.int .i64 n)) (by subst hk; show (i : Int) % 8 * 8 = _; simp), rfl⟩
theorem word_any (a : Option Addr) (n c x i : Nat) (w : World) (_hi : i ≤ 1000000000000000000) (_hn : n ≤ 1000000) {B : Nat} (h : Sw w B a n c x) :
  Calls Tryz.prog 182 #[.slice a n c, .int .i64 i] w fun e w' => e = .returned (V (wd x i)) ∧ w' = w := by
 by_cases hlt : i < n
 ·obtain ⟨b, o, rfl, _, hc⟩ := h.get i hlt
  have hid : decide ((i : Int) < (n : Int)) = true := by simp; omega
  have hlt' : (i : Int) < (n : Int) := by omega
  clear h
  go_enter Tryz.func182, Tryz.ntmps182
  go_wp2
  go_ret
  exact ⟨rfl, rfl⟩
 ·have hid : decide ((i : Int) < (n : Int)) = false := by simp; omega
  have hz : wd x i = 0 := z7u h.fits (by omega)
  rw [hz]
  clear h hz
  go_enter Tryz.func182, Tryz.ntmps182
  go_wp2
  go_ret
  exact ⟨rfl, rfl⟩
theorem L_zero : L 0 = 0 := rfl
theorem L_eq0 (a : BitVec 64) (h : a = 0) : (L a == 0) = true := by subst h; rfl
theorem L_ne0 (a : BitVec 64) (h : a ≠ 0) : (L a == 0) = false := by
 rw [beq_eq_false_iff_ne]
 intro e
 exact h (L_inj.1 (e.trans L_zero.symm))
def TrimAt (a : Option Addr) (n c x k : Nat) (act : Act) : Prop := k ≤ n ∧ x < 2 ^ (64 * k) ∧ ∃ u4 u5 u6 u7 u8 u9 u10 u11 u12 u13 u14 u15 u16 u17 u18 u19 u20 u21 : Value,
 act = { tmps := #[.slice a n c, undef, .slice none 0 0, .int .i64 (k : Int), u4, u5, u6, u7, u8, u9, u10, u11, u12, u13, u14, u15, u16, u17, u18, u19, u20, u21], defers := [] }
theorem y40 (a : Option Addr) (n c x : Nat) (w : World) (hn : n ≤ 1000000) {B : Nat} (h : Sw w B a n c x) :
  Calls Tryz.prog 188 #[.slice a n c] w fun e w' => e = .returned (.slice a (dl 64 x) (dl 64 x)) ∧ w' = w := by
 have hle := h.le
 go_enter Tryz.func188, Tryz.ntmps188
 go_wp2
 refine wp_scope_jumps 0 (fun a' w' => w' = w ∧ ∃ k, TrimAt a n c x k a') (fun a' _ => (intOf (a'.tmps.getD 3 undef)).toNat) rfl ?_ ?_
 ·have step : x < 2 ^ (64 * n) := h.fits
  have H := za h
  clear h
  rcases Nat.eq_zero_or_pos n with h0 | h0
  ·subst h0
   have e : dl 64 x = 0 := Nat.le_zero.1 ((z5f 64 x 0 (by omega)).2 step)
   have He := za e
   clear e step
   go_wp2
   go_step3
   go_wp2
   simp only [Exit.jump]
   go_ret
   exact ⟨by rw [He.out]; rfl, rfl⟩
  ·obtain ⟨j, rfl⟩ : ∃ j, n = j + 1 := ⟨n - 1, by omega⟩
   obtain ⟨b, o, rfl, _, hc⟩ := H.out.get j (by omega)
   have hj : (j : Int) < (j : Int) + 1 := by omega
   by_cases hz : wd x j = 0
   ·have hL := L_eq0 _ hz
    have hs := (y4t step).1 hz
    have Hs := za hs
    clear hs hz step
    go_wp2
    go_step3
    go_wp2
    go_step3
    exact ⟨rfl, rfl, j, by omega, Hs.out, _, _, _, _, _, _, _, _, _, _, _, _, _, _, _, _, _, _, rfl⟩
   ·have hL := L_ne0 _ hz
    have e : dl 64 x = j + 1 := y66 (by omega) step (.inr (by
     rcases Nat.lt_or_ge x (2 ^ (64 * j)) with h1 | h1
     ·exact absurd ((y4t step).2 h1) hz
     ·exact h1))
    have He := za e
    clear e step hz
    go_wp2
    go_step3
    go_wp2
    simp only [Exit.jump]
    go_ret
    exact ⟨by rw [He.out]; rfl, rfl⟩
 ·rintro a' w' ⟨rfl, k, hk, hx, u4, u5, u6, u7, u8, u9, u10, u11, u12, u13, u14, u15, u16, u17, u18, u19, u20, u21, rfl⟩
  have step : x < 2 ^ (64 * k) := hx
  have H := za h
  clear h
  rcases Nat.eq_zero_or_pos k with h0 | h0
  ·subst h0
   have e : dl 64 x = 0 := Nat.le_zero.1 ((z5f 64 x 0 (by omega)).2 step)
   have He := za e
   clear e step hx
   go_wp2
   simp only [Exit.jump]
   go_ret
   exact ⟨by rw [He.out]; rfl, rfl⟩
  ·obtain ⟨j, rfl⟩ : ∃ j, k = j + 1 := ⟨k - 1, by omega⟩
   obtain ⟨b, o, rfl, _, hc⟩ := H.out.get j (by omega)
   have hj : (j : Int) < (n : Int) := by omega
   by_cases hz : wd x j = 0
   ·have hL := L_eq0 _ hz
    have hs := (y4t step).1 hz
    have Hs := za hs
    clear hs hz step hx
    go_wp2
    go_step3
    refine ⟨rfl, ⟨rfl, j, by omega, Hs.out, _, _, _, _, _, _, _, _, _, _, _, _, _, _, _, _, _, _, rfl⟩, ?_⟩
    simp [intOf]
   ·have hL := L_ne0 _ hz
    have e : dl 64 x = j + 1 := y66 (by omega) step (.inr (by
     rcases Nat.lt_or_ge x (2 ^ (64 * j)) with h1 | h1
     ·exact absurd ((y4t step).2 h1) hz
     ·exact h1))
    have He := za e
    clear e step hz hx
    go_wp2
    simp only [Exit.jump]
    go_ret
    exact ⟨by rw [He.out]; rfl, rfl⟩
theorem wrap_wrap (m : Nat) (h : m ≤ 8) : wrap64 (wrap64 (m : Int)) = (m : Int) := by
 simp only [wrap64]
 omega
theorem nwrap_sum (k m : Nat) (hk : k ≤ 56) (h : m ≤ 8) : wrap64 ((k : Int) + wrap64 (m : Int)) = ((k + m : Nat) : Int) := by
 simp only [wrap64]
 omega
theorem z5a (x y : Int) (k P : Nat) (h0 : 0 ≤ y) (h1 : y < 256) (hk : k ≤ 56) (hs : x.toNat < 18446744073709551616 → Lib.bitLen x.toNat = k + Lib.bitLen (x.toNat / P)) (hx : x.toNat < 18446744073709551616) (hy : y = ((x.toNat / P : Nat) : Int)) :
  wrap64 ((k : Int) + wrap64 (Lib.len8 y)) = (Lib.bitLen x.toNat : Int) := by
 rw [hs hx, Lib.len8_of y h0 (by omega)]
 have l := Lib.bitLen_le8' y h0 (by omega)
 subst hy
 rw [Int.toNat_natCast] at l ⊢
 exact nwrap_sum _ _ hk l
theorem len64_int (x : Int) (w : World) (h0 : 0 ≤ x) (h1 : x ≤ 18446744073709551615) :
  Calls Tryz.prog 189 #[.int .u64 x] w fun e w' => e = .returned (.int .i64 (Lib.bitLen x.toNat)) ∧ w' = w := by
 have p1 : 0 ≤ x / 4294967296 := by omega
 have p2 : 0 ≤ x / 4294967296 / 65536 := by omega
 have p3 : 0 ≤ x / 4294967296 / 65536 / 256 := by omega
 have p4 : 0 ≤ x / 4294967296 / 256 := by omega
 have p5 : 0 ≤ x / 65536 := by omega
 have p6 : 0 ≤ x / 65536 / 256 := by omega
 have p7 : 0 ≤ x / 256 := by omega
 have q3 : x / 4294967296 / 65536 / 256 < 256 := by omega
 have q4 : x / 4294967296 < 65536 → x / 4294967296 / 256 < 256 := by omega
 have q6 : x < 4294967296 → x / 65536 / 256 < 256 := by omega
 have q7 : x < 65536 → x / 256 < 256 := by omega
 go_enter Tryz.func189, Tryz.ntmps189
 go_wp2
 all_goals (go_ret; refine ⟨congrArg Ending.returned (congrArg (Value.int IntKind.i64) ?_), rfl⟩)
 ·exact z5a _ _ 56 72057594037927936 p3 q3 (by omega) (fun _ => Lib.bitLen_shift56 x.toNat (by omega) (by omega)) (by omega) (by omega)
 ·exact z5a _ _ 48 281474976710656 p2 (by assumption) (by omega) (fun _ => Lib.bitLen_shift48 x.toNat (by omega) (by omega)) (by omega) (by omega)
 ·exact z5a _ _ 40 1099511627776 p4 (q4 (by assumption)) (by omega) (fun _ => Lib.bitLen_shift40 x.toNat (by omega) (by omega)) (by omega) (by omega)
 ·exact z5a _ _ 32 4294967296 p1 (by assumption) (by omega) (fun _ => Lib.bitLen_shift32 x.toNat (by omega) (by omega)) (by omega) (by omega)
 ·exact z5a _ _ 24 16777216 p6 (q6 (by assumption)) (by omega) (fun _ => Lib.bitLen_shift24 x.toNat (by omega) (by omega)) (by omega) (by omega)
 ·exact z5a _ _ 16 65536 p5 (by assumption) (by omega) (fun _ => Lib.bitLen_shift16 x.toNat (by omega) (by omega)) (by omega) (by omega)
 ·exact z5a _ _ 8 256 p7 (q7 (by assumption)) (by omega) (fun _ => Lib.bitLen_shift8 x.toNat (by omega) (by omega)) (by omega) (by omega)
 ·have e := Lib.len8_of x h0 (by omega)
  have l := Lib.bitLen_le8' x h0 (by omega)
  rw [e]
  exact wrap_wrap _ l
theorem bitLen_bl (x : Nat) (hx : x < 18446744073709551616) : Lib.bitLen x = bl x := by
 have key : ∀ (f x : Nat), x < 2 ^ f → Lib.bitLenAux f x = bl x := by
  intro f
  induction f with
  | zero => intro x hx; simp at hx; subst hx; rfl
  | succ f ih =>
   intro x hx
   rw [Lib.bitLenAux]
   by_cases h0 : x = 0
   ·rw [if_pos h0, h0]; rfl
   ·rw [if_neg h0, ih (x / 2) (by rw [Nat.pow_succ] at hx; omega)]
    refine (bl_eq ?_ (.inr ?_)).symm
    ·have := y0f (x / 2)
     rw [Nat.add_comm, Nat.pow_succ]; omega
    ·rw [Nat.add_sub_cancel_left]
     by_cases h1 : x / 2 = 0
     ·rw [h1, y9n]; omega
     ·have := bl_low (x := x / 2) (by omega)
      have hp := bl_pos (x := x / 2) (by omega)
      obtain ⟨k, hk⟩ : ∃ k, bl (x / 2) = k + 1 := ⟨bl (x / 2) - 1, by omega⟩
      rw [hk] at this ⊢
      rw [Nat.add_sub_cancel] at this
      rw [Nat.pow_succ]; omega
 exact key 64 x hx
theorem len64_any (a : BitVec 64) (w : World) :
  Calls Tryz.prog 189 #[V a] w fun e w' => e = .returned (.int .i64 ((bl a.toNat : Nat) : Int)) ∧ w' = w := by
 have h := a.isLt
 have := len64_int (L a) w (L_bd a).1 (L_bd a).2
 rwa [show (L a).toNat = a.toNat from rfl, bitLen_bl _ a.isLt] at this
theorem bl_words {x k : Nat} (h1 : x < 2 ^ (64 * (k + 1))) (h2 : 2 ^ (64 * k) ≤ x) : bl x = 64 * k + bl (wd x k).toNat := by
 have e : (wd x k).toNat = x / 2 ^ (64 * k) := by
  rw [z2v, Nat.mod_eq_of_lt]
  rw [Nat.div_lt_iff_lt_mul (Nat.two_pow_pos _), Nat.mul_comm, ← y2r]; exact h1
 have hP := Nat.two_pow_pos (64 * k)
 have hq : 0 < x / 2 ^ (64 * k) := Nat.div_pos h2 hP
 rw [e]
 have hf := y0f (x / 2 ^ (64 * k))
 have hl := bl_low hq
 have hp := bl_pos hq
 have ed := Nat.div_add_mod x (2 ^ (64 * k))
 have hm := Nat.mod_lt x hP
 refine bl_eq ?_ (.inr ?_)
 ·rw [Nat.pow_add]
  have := Nat.mul_le_mul_left (2 ^ (64 * k)) (Nat.succ_le_of_lt hf)
  rw [Nat.mul_succ] at this
  omega
 ·rw [show 64 * k + bl (x / 2 ^ (64 * k)) - 1 = 64 * k + (bl (x / 2 ^ (64 * k)) - 1) by omega, Nat.pow_add]
  have := Nat.mul_le_mul_left (2 ^ (64 * k)) hl
  omega
theorem bl_le64 (a : BitVec 64) : bl a.toNat ≤ 64 := (y2a _ _).2 a.isLt
theorem len_any (a : Option Addr) (n c x : Nat) (w : World) (hn : n ≤ 1000000) {B : Nat} (h : Sw w B a n c x) :
  Calls Tryz.prog 181 #[.slice a n c] w fun e w' => e = .returned (.int .i64 ((bl x : Nat) : Int)) ∧ w' = w := by
 have hkn := (z5f 64 x n (by omega)).2 h.fits
 have hf := z96 64 x (by omega)
 have hlow := y9b (b := 64) (x := x) (by omega)
 have hzero := dl_pos (b := 64) (x := x) (by omega)
 have Ht := za (fun w' (hw : Sw w' B a n c x) => y40 a n c x w' hn hw)
 have H := za h
 clear h
 obtain ⟨k, hk⟩ : ∃ k, dl 64 x = k := ⟨_, rfl⟩
 rw [hk] at hkn hf hlow hzero Ht
 clear hk
 rcases Nat.eq_zero_or_pos k with h0 | h0
 ·subst h0
  have hx0 : x = 0 := by omega
  subst hx0
  have He := za y9n
  clear hf hlow hzero
  go_enter Tryz.func181, Tryz.ntmps181
  go_wp2_with ((with_reducible refine (Ht.out _ H.out).mono ?_); rintro e w' ⟨rfl, rfl⟩)
  go_ret
  exact ⟨by rw [He.out]; rfl, rfl⟩
 ·obtain ⟨j, rfl⟩ : ∃ j, k = j + 1 := ⟨k - 1, by omega⟩
  have He := za (bl_words hf (by have := hlow (by omega); simpa using this))
  have h64 := bl_le64 (wd x j)
  obtain ⟨b, o, rfl, _, hc⟩ := H.out.get j (by omega)
  have hjj : (j : Int) < (j : Int) + 1 := by omega
  clear hf hlow hzero
  go_enter Tryz.func181, Tryz.ntmps181
  go_wp2_with (first | ((with_reducible refine (Ht.out _ H.out).mono ?_); rintro e w' ⟨rfl, rfl⟩) | ((with_reducible refine (len64_any (wd x j) _).mono ?_); rintro e w' ⟨rfl, rfl⟩))
  go_ret
  exact ⟨by rw [He.out]; exact congrArg (fun n => Ending.returned (.int .i64 n)) (by show (64 : Int) * (j : Int) + _ = _; omega), rfl⟩
theorem dg_shift (z t i k : Nat) (hz : z < 2 ^ (8 * i)) : bt (2 ^ (8 * i) * t + z) (i + k) = bt t k := by
 unfold bt
 rw [show 8 * (i + k) = 8 * i + 8 * k by omega, Nat.pow_add, ← Nat.div_div_eq_div_mul, Nat.mul_add_div (Nat.two_pow_pos _), Nat.div_eq_of_lt hz, Nat.add_zero]
section
variable {P : Program} {w w0 : World} {l : List (Nat × Obj)} {t ty : TypeId} {u v : Value}
theorem Ow.oc (h : Ow w0 w l) (i : Nat) {b : Nat} (hi : l[i]? = some (b, Oc t v)) : w.cell? ⟨b, 0, none⟩ = some v := y9i (h.row i hi)
end
section
variable {P : Program} {ops : Array Oper} {rest : List Oper} {o : Oper} {a : Act} {w w0 : World} {l : List (Nat × Obj)} {Q : Exit → Act → World → Prop} {t ty : TypeId} {u v : Value}
theorem y5j (hv : OneV v) (H : Hid (Ow w0 w l)) (hgd : o.guard = none) {x : Operand} (ho : o.op = .box t x) (hx : a.eval x = v)
  (h : ∀ w' g, Hid (Ow w0 w' ((g, Oc t v) :: l)) → ∀ K : Act → World → Prop, (∀ a w, wpList P ops Q rest a w → K a w) → K (a.put o.dst (.pointer (some ⟨g, 0, none⟩))) w') : wpList P ops Q (o :: rest) a w :=
 wpList_plain hgd fun K hK => by
  unfold Oper.wp execOp
  simp only [ho, hx, Instr.box, newVar, hv.cells]
  simp [go_sem]
  exact h _ _ (za (H.out.alloc _)) K hK
end
theorem y2w (a : Option Addr) (n c : Nat) : OneV (.slice a n c) := ⟨rfl, rfl⟩
theorem one_func (f : Fn) (x y : Array Value) : OneV (.func f x y) := ⟨rfl, rfl⟩
theorem one_nil : OneV .nilFunc := ⟨rfl, rfl⟩
section
variable {P : Program} {ops : Array Oper} {rest : List Oper} {o : Oper} {a : Act} {w w0 w1 : World} {l : List (Nat × Obj)} {Q : Exit → Act → World → Prop} {t ty : TypeId} {k : IntKind} {n : Nat} {C : Array Value} {v : Value}
theorem own_loadCO {j : Nat} (hT : IsCell P ty) (H : Hid (Ow w1 w l)) (hgd : o.guard = none) {x : Operand} (ho : o.op = .load ty x) {g : Nat} (hx : a.eval x = .pointer (some ⟨g, j, none⟩))
  (hr : w1.heap[g]? = some (Cs t C)) (hj : C[j]? = some v) (h : ∀ K : Act → World → Prop, (∀ a w, wpList P ops Q rest a w → K a w) → K (a.put o.dst v) w) : wpList P ops Q (o :: rest) a w :=
 wpList_plain hgd fun K hK => by
  unfold Oper.wp execOp
  simp only [ho, hx, Sem.run_bind, z34 hT ((H.out.bel.block _ (z01 hr)).trans hr) hj, Result.andThen_ok]
  exact h K hK
end
section
variable {X Y : Nat → Prop} {a b c : World}
theorem z54 {B : Nat} (h : Below B a b) (hx : ∀ k, B ≤ k → k < a.heap.size → X k) : Turn X a b := ⟨h.os, h.tape, h.output, h.size, fun i hi hn => h.block i (by
 rcases Nat.lt_or_ge i B with h' | h'
 ·exact h'
 ·exact absurd (hx i h' hi) hn)⟩
theorem z53 (w : World) (r : Nat) (o : Obj) (hx : X r) : Turn X w (w.putObj r o) :=
 ⟨rfl, rfl, rfl, by simp, fun k _ hk => World.putObj_heap_other fun e => hk (e ▸ hx)⟩
end
def z5x (o : Oper) : Bool := match o.op with
 | .defer _ => false
 | _ => true
theorem noDefer_ne {o : Oper} (h : z5x o = true) : ∀ c, o.op ≠ .defer c := fun c e => by
 unfold z5x at h
 rw [e] at h
 cases h
theorem Lets.depth {F : Fence} (h : Lets F) : F.depth.isSome = true → 1 ≤ 0 := by
 rcases h with rfl | ⟨l, rfl⟩
 ·intro e
  cases e
 ·intro e
  cases e
section
variable {F : Fence} {P : Program} {ops : Array Oper} {Q : Exit → Act → World → Prop} {a : Act} {w : World}
theorem y8i {Q' : Exit → Act → World → Prop} (hF : Lets F) {o : Oper} (hd : z5x o = true) {K K' : Act → World → Prop} (hK : ∀ a w, K a w → K' a w) (hp : ∀ c a w, Q (.panic c) a w → Q' (.panic c) a w) (ho : LetsOut Q → LetsOut Q') (h : o.wp P a w K Q) : o.wpIn F 0 P a w K' Q' := by
 refine ⟨fun f _ => hF.fn f, ?_⟩
 rw [Oper.semAt_eq _ _ _ (noDefer_ne hd)]
 unfold Oper.wp at h
 generalize (execOp a.eval o).run P w = r at h ⊢
 cases r with
 | ok nx w' =>
  cases nx with
  | value v => exact hK _ _ h
  | skip => exact hK _ _ h
  | defer d => exact hK _ _ h
  | enter f args =>
   refine ⟨fun e => absurd (hF.depth e) (by omega), hF.calls (Calls.mono h ?_)⟩
   intro e w q
   cases e with
   | returned v => exact hK _ _ q
   | panicked c => exact hp _ _ _ q
   | outgrown => exact ho q
  | row row args =>
   refine ⟨fun e => absurd (hF.depth e) (by omega), hF.rows (fun c cs => ?_)⟩
   obtain ⟨v, w', q, s⟩ := h c cs
   exact ⟨v, w', hK _ _ q, s⟩
  | _ => exact h.elim
 | halt s w' =>
  cases s with
  | panic v => exact hp _ _ _ h
  | _ => exact h.elim
theorem z7m (hF : Lets F) (hd : ops.all z5x = true) (hQ : ∀ a w, ¬ Q .outgrown a w) : ∀ (li : List Nat) (a : Act) (w : World), wpOps P ops Q li a w → wpOpsIn F 0 P ops Q li a w
 | [], _, _, h => h
 | i :: rest, a, w, h => by
  unfold wpOps at h
  unfold wpOpsIn
  cases ho : ops[i]? with
  | none =>
   rw [ho] at h
   exact z7m hF hd hQ rest a w h
  | some o =>
   rw [ho] at h
   simp only at h ⊢
   have hdo : z5x o = true := (Array.all_eq_true'.1 hd) o (Array.mem_of_getElem? ho)
   by_cases hw : Region.wanted o (yielded ops a.tmps) = true
   ·rw [if_pos hw] at h ⊢
    rcases h with h | ⟨_, a', w', h⟩
    ·exact y8i hF hdo (fun a w => z7m hF hd hQ rest a w) (fun _ _ _ q => q) (fun q => q) h
    ·exact (hQ _ _ h).elim
   ·rw [if_neg hw] at h ⊢
    exact ⟨fun f _ => hF.fn f, z7m hF hd hQ rest _ _ h⟩
theorem y21 (hF : Lets F) (k : Nat) {l : List Oper} (hd : (l.take k).all z5x = true) (hQ : ∀ a w, ¬ Q .outgrown a w) (h : wpList P ops (Exit.then (wpListIn F 0 P ops Q (l.drop k)) Q) (l.take k) a w) : wpListIn F 0 P ops Q l a w := by
 induction k generalizing l a w with
 | zero => exact h
 | succ k ih =>
  cases l with
  | nil => exact h
  | cons o l =>
   simp only [List.take_succ_cons, List.all_cons, Bool.and_eq_true, List.drop_succ_cons] at hd h
   unfold wpList at h
   unfold wpListIn
   by_cases hw : Region.wanted o (yielded ops a.tmps) = true
   ·rw [if_pos hw] at h ⊢
    rcases h with h | ⟨_, a', w', h⟩
    ·exact y8i hF hd.1 (fun a w => ih hd.2) (fun _ _ _ q => q) (fun ⟨a, w, q⟩ => ⟨a, w, q⟩) h
    ·exact (hQ _ _ h).elim
   ·rw [if_neg hw] at h ⊢
    exact ⟨fun f _ => hF.fn f, ih hd.2 h⟩
theorem z05 (hF : Lets F) {id : Nat} {l : List Oper} (hd : l.all z5x = true) (hQ : ∀ a w, ¬ Q .outgrown a w) (h : wpList P l.toArray Q l a w) : (Code.region id l.toArray false).wpIn F 0 P Q a w := by
 refine wpIn_region (z7m hF (by simpa using hd) hQ _ _ _ ?_)
 rw [List.range_eq_range', List.size_toArray, wpOps_eq_wpList l 0 (by simp)]
 exact h
theorem held_lets (hF : Lets F) {id : Nat} {S : World → Prop} (hm : P.follows .mixedOrders = true) (hd : ops.all z5x = true) (hQ : ∀ a w, ¬ Q .outgrown a w) (hS : S w.drew)
  (h : S w.drew → wpAnyH P .any ops (NoPanic Q) S ops.size (Array.replicate ops.size false) a w.drew) : (Code.region id ops true).wpIn F 0 P Q a w := by
 have hx : (Code.region id ops true).wpIn F 0 P (NoPanic Q) a w := wpIn_region_draw fun t => by
  simp only [Region.schedule, hm, Bool.true_or, if_true]
  exact z7m (Q := NoPanic Q) hF hd (fun a w q => hQ a w q) _ _ _ (wpAny_sound ops.size t _ a _ (wpAny_of_held _ _ _ _ (h hS)))
 exact wpIn_mono hx NoPanic.imp
theorem list_yield (hF : Lets F) {rest : List Oper} {o : Oper} (hg : o.guard = none) {f : Operand} {xs : Array Operand} {ts : Array TypeId} (ho : o.op = .call { callee := .value f, args := xs, argTypes := ts }) {l : Nat} (hf : a.eval f = .func (.yield l) #[] #[])
  {args : Array Value} (hx : xs.map a.eval = args) {R : Ending → World → Prop} (hy : YieldAt Fence.wide 0 P l args w R) (h : ∀ e w', R e w' → ∃ v, e = .returned v ∧ wpListIn F 0 P ops Q rest (a.put o.dst v) w') : wpListIn F 0 P ops Q (o :: rest) a w := by
 obtain ⟨fn, tmps, assign, body, e1, e2⟩ := hy
 refine wpListIn_plain hg fun K hK => ⟨fun f _ => hF.fn f, ?_⟩
 rw [Oper.semAt_eq _ _ _ (fun c e => by rw [ho] at e; cases e)]
 have e0 : (execOp a.eval o).run P w = .ok (.round l fn tmps assign body) w := by
  unfold execOp
  rw [ho]
  simp only [resolve, hf, hx, Deferred.ofValue, Sem.run_bind, Sem.run_pure, Result.andThen_ok, invoke, Array.empty_append]
  exact e1
 rw [e0]
 refine ⟨fun e => absurd (hF.depth e) (by omega), hF.round (e2.mono fun e w' q => ?_)⟩
 obtain ⟨v, rfl, q'⟩ := h e w' q
 exact hK _ _ q'
end
theorem wpIn_only {F : Fence} {n : Nat} {P : Program} {c : Code} {Q : Exit → Act → World → Prop} {a : Act} {w : World} (h : c.wpIn F n P (Only Q) a w) : c.wpIn F n P Q a w :=
 wpIn_mono h fun e a w q => by
  cases e with
  | normal => exact q
  | _ => exact q.elim
theorem wp_in {P : Program} {c : Code} {Q : Exit → Act → World → Prop} {a : Act} {w : World} (h : c.wpIn Fence.wide 0 P (Only Q) a w) : c.wp P Q a w := wpIn_wide.1 (wpIn_only h)
def Iter (P : Program) (g : Nat) (lb : Array Value) (m : Nat) (V : Nat → Array Value → Prop) (X : Nat → Prop) (w : World) : Prop :=
 ∀ (l : Nat) (J : Nat → World → Prop) (W : World), Turn X w W → (∀ i A B, J i A → W.heap.size ≤ A.heap.size → Turn (fun k => W.heap.size ≤ k) A B → J i B) →
  (∀ i args A, J i A → W.heap.size ≤ A.heap.size → i < m → V i args → YieldAt Fence.wide 0 P l args A fun e A' => e = .returned (.bool true) ∧ J (i + 1) A' ∧ Turn (fun k => X k ∨ (w.heap.size ≤ k ∧ k < W.heap.size)) A A') →
  J 0 W → Calls P g (#[.func (.yield l) #[] #[]] ++ lb) W fun e W' => (∃ v, e = .returned v) ∧ J m W'
def roundEnd (X : Nat → Prop) (I : World → Prop) (w : World) : Exit → Act → World → Prop
 | .normal, _, w' => Turn X w w' ∧ I w'
 | _, _, _ => False
theorem range_all {P : Program} {g : Operand} {ps : Array Tmp} {assign body : Code} {Q : Exit → Act → World → Prop} {a : Act} {w w0 : World} {gf : Nat} {lb : Array Value} (hg : a.eval g = .func (.func gf) #[] lb) (eg : ∀ args w, (callFunc gf args).run P w = .ok (.enter gf args) w)
  {m : Nat} {V : Nat → Array Value → Prop} {X : Nat → Prop} (hit : Iter P gf lb m V X w0) (ht : Turn X w0 w) (hps : ∀ i args, V i args → args.size = ps.size)
  (I : Nat → World → Prop) (hI : ∀ i A B, I i A → w.heap.size ≤ A.heap.size → Turn (fun k => w.heap.size ≤ k) A B → I i B) (h0 : I 0 w)
  (hround : ∀ l i args W, I i W → i < m → V i args → w.heap.size ≤ l → l < W.heap.size →
   assign.wpIn (Fence.wide.inRound l) 0 P (Exit.then (fun a₁ w₁ => Below W.heap.size W w₁ ∧ ∀ w₂, Turn (fun k => k = l) w₁ w₂ →
    body.wpIn (Fence.wide.inRound l) 0 P (roundEnd (fun k => (X k ∨ w0.heap.size ≤ k) ∧ k < w.heap.size) (I (i + 1)) w₂) a₁ w₂) (fun _ _ _ => False))
    { tmps := (ps.zip args).foldl (fun t (p, v) => t.setIfInBounds p v) a.tmps, defers := [] } W)
  (hdone : ∀ (D : Nat) (W : World), w.heap.size ≤ D → I m W → W.heap[D]? = some (.deferred (some [])) → Q .normal { a with defers := { target := .collected D, args := #[] } :: a.defers } W) :
  (Code.rangeFunc g ps assign body).wp P Q a w := by
 refine wpIn_wide (n := 0).1 (wpIn_rangeFunc ?_)
 intro fn _
 obtain ⟨rec, hrec⟩ : ∃ rec : LoopState → Option Code → Loop, rec = fun st pe => { state := st, pending := pe, fn, tmps := a.tmps, params := ps, assign, body, defers := w.heap.size } := ⟨_, rfl⟩
 obtain ⟨W1, hW1⟩ : ∃ W1, (w.alloc (.deferred (some []))).alloc (.loop (rec .ready none)) = W1 := ⟨_, rfl⟩
 have hs1 : W1.heap.size = w.heap.size + 2 := by rw [← hW1]; simp
 have hL1 : W1.heap[w.heap.size + 1]? = some (.loop (rec .ready none)) := by
  rw [← hW1]; have := World.alloc_heap_new (w.alloc (.deferred (some []))) (.loop (rec .ready none)); rwa [World.size_alloc] at this
 have hK1 : W1.heap[w.heap.size]? = some (.deferred (some [])) := by
  rw [← hW1]; exact (Below.heap_alloc _ _ _ (by simp)).trans (World.alloc_heap_new w _)
 have hB1 : Below w.heap.size w W1 := by
  rw [← hW1]; exact ((Below.refl _ w).alloc (Nat.le_refl _) _).alloc (by simp) _
 have hT1 : Turn X w0 W1 := ht.trans (z54 hB1 fun k h1 h2 => by omega)
 have hI1 : I 0 W1 := hI _ _ _ h0 (Nat.le_refl _) (z54 hB1 fun k h1 _ => h1)
 refine ⟨w.heap.size + 1, [{ target := .collected w.heap.size, args := #[] }], W1, { target := .fn (.func gf) lb, args := #[.func (.yield (w.heap.size + 1)) #[] #[]] }, W1, gf,
  #[.func (.yield (w.heap.size + 1)) #[] #[]] ++ lb, W1, ?_, ?_, ?_, ?_, (fun e => by cases e), callsIn_wide.2 ?_⟩
 ·rw [← hW1, hrec]; exact run_enterLoop_outer _ _ _ _ _
 ·simp only [resolve, hg]
  simp [go_sem]
 ·intro f' _; trivial
 ·simp [invoke, go_sem, eg]
 refine Calls.mono (hit (w.heap.size + 1) (fun i W => I i W ∧ W.heap[w.heap.size + 1]? = some (.loop (rec .ready none)) ∧ W.heap[w.heap.size]? = some (.deferred (some [])))
  W1 hT1 (fun i A B hs hA hk => ⟨hI i A B hs.1 (by omega) (hk.mono fun k _ h => by omega), hk.row hs.2.1 (by omega), hk.row hs.2.2 (by omega)⟩) ?_ ⟨hI1, hL1, hK1⟩) ?_
 ·rintro i args W ⟨hi, hl, hk⟩ _ hlen hV
  have hlt : w.heap.size + 1 < W.heap.size := z01 hl
  have hy := run_yield (P := P) (args := args) hl (by rw [hrec]; exact hps i args hV)
  rw [hrec] at hy
  refine ⟨fn, _, assign, body, hy, roundIn_of_wpIn trivial (wpIn_mono (hround (w.heap.size + 1) i args W hi hlen hV (by omega) hlt) ?_)⟩
  rintro e a₁ w₁ hq
  cases e with
  | normal =>
   obtain ⟨hb, hbody⟩ := hq
   have hl1 := (hb.block _ hlt).trans hl
   have hk1 := (hb.block w.heap.size (by omega)).trans hk
   have hlt1 := z01 hl1
   refine ⟨_, run_beginRound hl1 (by rw [hrec]), wpIn_mono (hbody _ (z53 _ _ _ rfl)) ?_⟩
   obtain ⟨w₂, hw₂⟩ : ∃ w₂, w₁.putObj (w.heap.size + 1) (.loop { rec .ready none with state := .busy }) = w₂ := ⟨_, rfl⟩
   have hl2 : w₂.heap[w.heap.size + 1]? = some (.loop { rec .ready none with state := .busy }) := by rw [← hw₂]; exact World.putObj_heap_same hlt1
   have hk2 : w₂.heap[w.heap.size]? = some (.deferred (some [])) := by rw [← hw₂]; exact (World.putObj_heap_other (by omega)).trans hk1
   have ht2 : Turn (fun k => k = w.heap.size + 1) w₁ w₂ := by rw [← hw₂]; exact z53 _ _ _ rfl
   rw [hw₂]
   rintro e a₃ w₃ hq
   cases e with
   | normal =>
    obtain ⟨ht3, hi3⟩ := hq
    have hl3 := ht3.row hl2 (by omega)
    have hk3 := ht3.row hk2 (by omega)
    have hr := run_endRound (P := P) none hl3
    refine ⟨_, _, hr, rfl, ⟨hI _ _ _ hi3 (by have := z01 hl3; omega) (z53 _ _ _ (by omega)), ?_, (World.putObj_heap_other (by omega)).trans hk3⟩, ?_⟩
    ·rw [World.putObj_heap_same (z01 hl3), hrec]
     rfl
    ·have hwX : w0.heap.size ≤ w.heap.size := ht.size
     refine Turn.trans (z54 hb fun k h1 h2 => by omega) (Turn.trans (ht2.mono fun k _ e => .inr (by omega)) (Turn.trans (ht3.mono fun k _ h => ?_) (z53 _ _ _ (.inr (by omega)))))
     rcases h with ⟨h | h, h'⟩
     ·exact .inl h
     ·exact .inr ⟨h, by omega⟩
   | _ => exact hq.elim
  | _ => exact hq.elim
 ·rintro e W2 ⟨⟨v, rfl⟩, hi, hl, hk⟩
  refine ⟨none, _, ?_, hdone w.heap.size _ (Nat.le_refl _) (hI _ _ _ hi (by have := z01 hl; omega) (z53 W2 (w.heap.size + 1) (.loop { rec .ready none with state := .exhausted }) (by omega))) ((World.putObj_heap_other (by omega)).trans hk)⟩
  have := run_endLoop (P := P) hl (by rw [hrec]; simp)
  rw [hrec] at this ⊢
  exact this
theorem calls_marks {P : Program} {f : FuncId} {fn : Func} {c : Code} {args : Array Value} {w : World} {R : Ending → World → Prop} (hf : P.funcs[f]? = some fn) (hb : fn.body = some c)
  (h : c.wp P (bodyPostM Fence.wide 0 P fn R) { tmps := args ++ Array.replicate (fn.ntmps - args.size) undef, defers := [] } w) : Calls P f args w R :=
 callsIn_wide.1 (callsIn_of_wp_marks hf hb trivial (wpIn_wide.2 h) rfl)
theorem tN_pow : ∀ e, e = 448 → 2 ^ e = tN := by
 intro e he
 have h : (2 ^ e == tN) = true := by rw [he]; decide +kernel
 exact eq_of_beq h
theorem z83 : ∀ k, k = 7 → 2 ^ (64 * k) = tN := fun k h => tN_pow _ (by omega)
theorem z8s : 0 < lN := by decide +kernel
theorem y1x : lN < tN := by decide +kernel
theorem two_lN_lt_t : 2 * lN < tN := by decide +kernel
abbrev KL := Fin lN
def ofL (n : Int) : KL := ⟨(n % (lN : Int)).toNat, by
 have h0 : (0 : Int) < (lN : Int) := by have := z8s; omega
 have h1 := Int.emod_lt_of_pos n h0
 have h2 := Int.emod_nonneg n (show (lN : Int) ≠ 0 by omega)
 omega⟩
theorem y8j (n : Nat) : (ofL n).val = n % lN := by
 show ((n : Int) % (lN : Int)).toNat = _
 rw [← Int.natCast_emod, Int.toNat_natCast]
theorem ofL_neg (n : Int) : ofL (-n) = -ofL n := by
 apply Fin.ext
 show ((-n) % (lN : Int)).toNat = (lN - (n % (lN : Int)).toNat) % lN
 have h0 : (0 : Int) < (lN : Int) := by have := z8s; omega
 have h1 := Int.emod_lt_of_pos n h0
 have h2 := Int.emod_nonneg n (show (lN : Int) ≠ 0 by omega)
 rcases Int.lt_or_eq_of_le h2 with h3 | h3
 ·have e : (-n) % (lN : Int) = (lN : Int) - n % (lN : Int) := by
   rw [← Int.add_mul_emod_self_left (-n) (lN : Int) (n / (lN : Int) + 1)]
   have h4 := Int.mul_ediv_add_emod n (lN : Int)
   have h5 : -n + (lN : Int) * (n / (lN : Int) + 1) = (lN : Int) - n % (lN : Int) := by
    rw [Int.mul_add]; omega
   rw [h5]
   exact Int.emod_eq_of_lt (by omega) (by omega)
  rw [e, Nat.mod_eq_of_lt (by omega)]
  omega
 ·have e : (-n) % (lN : Int) = 0 := Int.emod_eq_zero_of_dvd (Int.dvd_neg.2 (Int.dvd_of_emod_eq_zero h3.symm))
  rw [e, ← h3]
  simp
section
variable {p : Nat} [NeZero p] {d : Fin p}
theorem pneg_of (h : EdF p d) {a b : Pt p d} (e : z6 h a b = z0v) : b = pneg a := z5w h (e.trans (z2n h a).symm)
theorem y2s (h : EdF p d) (a b : Pt p d) : pneg (z6 h a b) = z6 h (pneg a) (pneg b) :=
 (pneg_of h (by rw [z2y, z2n, z2n, z0n])).symm
end
theorem rowB_blk {w : World} {g n : Nat} {f : Nat → BitVec 8} (h : RowB w g n f) : w.heap[g]? = some (YB n f) := by
 unfold RowB at h
 rw [h, AB_AZ]
 rfl
theorem y4n (z : Value) (hz : z.cells = #[z]) (n j : Nat) : (Builtin.zeroCells z.cells n)[j]? = if j < n then some z else none := by
 rw [hz]
 unfold Builtin.zeroCells
 rw [Array.getElem?_map]
 by_cases h : j < n
 ·simp [h, Nat.mod_one]
 ·simp [h]
theorem y62 {k : IntKind} {f : Nat → Int} {n m cap : Nat} {z : Value} (hz : z.cells = #[z]) (hz0 : z = .int k 0) (olds news : List Value) (hlo : olds.length = n) (hln : news.length = m) (ho : ∀ j, j < n → olds[j]? = some (.int k (f j)))
  (hn : ∀ j, j < m → news[j]? = some (.int k (f (n + j)))) (h0 : ∀ j, n + m ≤ j → f j = 0) (hc : n + m ≤ cap) : olds.toArray ++ news.toArray ++ Builtin.zeroCells z.cells (cap - (n + m)) = AZ k cap f := by
 apply Array.ext_getElem?
 intro j
 rw [Array.getElem?_append]
 by_cases h1 : j < n + m
 ·rw [if_pos (by simp [hlo, hln]; omega), z1c _ _ _ _ (by omega), Array.getElem?_append]
  by_cases h2 : j < n
  ·rw [if_pos (by simp [hlo]; omega), List.getElem?_toArray, ho j h2]
  ·rw [if_neg (by simp [hlo]; omega), List.getElem?_toArray]
   obtain ⟨d, rfl⟩ : ∃ d, j = n + d := ⟨j - n, by omega⟩
   rw [show n + d - olds.toArray.size = d by simp [hlo], hn d (by omega)]
 ·rw [if_neg (by simp [hlo, hln]; omega), y4n z hz]
  by_cases h2 : j < cap
  ·rw [if_pos (by simp [hlo, hln]; omega), z1c _ _ _ _ h2, h0 j (by omega), hz0]
  ·rw [if_neg (by simp [hlo, hln]; omega), Array.getElem?_eq_none (by rw [z0j]; omega)]
theorem z3f (k : IntKind) (n : Nat) (f : Nat → Int) : (AZ k n f).toList.length = n ∧ ∀ j, j < n → (AZ k n f).toList[j]? = some (.int k (f j)) :=
 ⟨by rw [Array.length_toList, z0j], fun j hj => by rw [Array.getElem?_toList, z1c _ _ _ _ hj]⟩
theorem z92 {k : IntKind} {n : Nat} {f : Nat → Int} {w : World} {b o : Nat} (h : ∀ j, j < n → w.cell? ⟨b, o + j, none⟩ = some (.int k (f j))) (j : Nat) (v : Value) (hv : (AZ k n f).toList[j]? = some v) : w.cell? ((⟨b, o, none⟩ : Addr).add j) = some v := by
 have hj : j < n := by
  rcases Nat.lt_or_ge j n with h' | h'
  ·exact h'
  ·rw [List.getElem?_eq_none (by rw [(z3f k n f).1]; exact h')] at hv; cases hv
 rw [(z3f k n f).2 j hj] at hv
 obtain rfl := Option.some.inj hv
 rw [Addr.add_mid]
 exact h j hj
section
variable {w : World} {t e : TypeId} {k : IntKind}
theorem run_grown (ht : Tryz.prog.underlying t = some (.slice e)) (hi : ∃ i, Tryz.prog.info? e = some i ∧ i.zero = some (.int k 0) ∧ i.size = 1 ∧ i.bytes ≤ 8) {b o b' o' n c m c' : Nat} {f : Nat → Int} (hn : ∀ j, j < n → w.cell? ⟨b, o + j, none⟩ = some (.int k (f j)))
  (hm : ∀ j, j < m → w.cell? ⟨b', o' + j, none⟩ = some (.int k (f (n + j)))) (h0 : ∀ j, n + m ≤ j → f j = 0) (hg : c < n + m) (hs : n + m ≤ 1000000) (ty : TypeId) :
  ∃ cap, n + m ≤ cap ∧ (Builtin.append_ #[t, t] ty #[.slice (some ⟨b, o, none⟩) n c, .slice (some ⟨b', o', none⟩) m c']).run Tryz.prog w = .ok (.slice (some ⟨w.heap.size, 0, none⟩) (n + m) cap) (w.drew.alloc (zv e k cap f)) := by
 obtain ⟨i, hi, hz, hs1, hb⟩ := hi
 have hg2 := grownCap_ge w (n + m) c e
 have h := run_append_grow (P := Tryz.prog) w t ty e i (.int k 0) ht hi hz ⟨b, o, none⟩ n c (AZ k n f).toList (by rw [hs1, Nat.mul_one]; exact (z3f k n f).1) (z92 hn) ⟨b', o', none⟩ m c' (AZ k m fun j => f (n + j)).toList (by rw [hs1, Nat.mul_one]; exact (z3f _ _ _).1) (z92 hm) hg (by omega)
  (growslice_fits hg (by have := Nat.mul_le_mul hs hb; omega))
 rw [y62 (k := k) (f := f) rfl rfl _ _ (z3f k n f).1 (z3f _ _ _).1 (z3f k n f).2 (z3f _ m _).2 h0 hg2] at h
 exact ⟨_, hg2, h⟩
end
section
variable {w : World}
theorem info_w : ∃ i, Tryz.prog.info? 27 = some i ∧ i.zero = some (.int .u64 0) ∧ i.size = 1 ∧ i.bytes ≤ 8 := by
 obtain ⟨i, h1, h2, h3, h4⟩ := y1y
 exact ⟨i, h1, h2, h3, by omega⟩
end
section
variable {ops : Array Oper} {rest : List Oper} {o : Oper} {a : Act} {w w0 : World} {l : List (Nat × Obj)} {Q : Exit → Act → World → Prop}
theorem Ow.grew (H : Ow w0 w l) (b : Obj) : Ow w0 (w.drew.alloc b) ((w.heap.size, b) :: l) := H.drew.alloc b
theorem own_grown {t : TypeId} (ht : Tryz.prog.underlying t = some (.slice 27)) {f : Nat → Int} {n N : Nat} (hN : n + 1 = N) (H : Hid (Ow w0 w l)) (hgd : o.guard = none) {s x : Operand} (ho : o.op = .call { callee := .builtin .append, args := #[s, x], argTypes := #[t, t] }) {b b' c' : Nat} (hs : a.eval s = .slice (some ⟨b, 0, none⟩) n n) (hx : a.eval x = .slice (some ⟨b', 0, none⟩) 1 c')
  (hn : ∀ j, j < n → w.cell? ⟨b, 0 + j, none⟩ = some (.int .u64 (f j))) (hm : ∀ j, j < 1 → w.cell? ⟨b', 0 + j, none⟩ = some (.int .u64 (f (n + j)))) (h0 : ∀ j, n + 1 ≤ j → f j = 0) (hl : N ≤ 1000000)
  (h : ∀ w' g cap, Hid (N ≤ cap) → Hid (Ow w0 w' ((g, zv 27 .u64 cap f) :: l)) → ∀ K : Act → World → Prop, (∀ a w, wpList Tryz.prog ops Q rest a w → K a w) → K (a.put o.dst (.slice (some ⟨g, 0, none⟩) N cap)) w') : wpList Tryz.prog ops Q (o :: rest) a w :=
 wpList_plain hgd fun K hK => by
  subst hN
  obtain ⟨cap, hcap, hr⟩ := run_grown (w := w) ht info_w hn hm h0 (Nat.lt_succ_self n) hl o.type
  exact Lib.wp_append_run w s x _ _ ho _ _ hs hx _ _ hr (h _ _ cap (za hcap) (za (H.out.grew _)) K hK)
end
theorem Els2.mul {P Q : Pt pN dK} (h : Els2 P Q) : ∀ k, Els2 (zF zB k P) (zF zB k Q)
 | 0 => .inl rfl
 | k + 1 => (Els2.mul h k).add h
theorem els_order (a q : Nat) : Els2 z0v (zF zB lN (z6 zB (spot a q) (spot a q))) := by
 have h2 : zF zB 2 (z08 : Pt pN dK) = z5n := by
  rw [show 2 = 2 * 1 from rfl, z2x, z3s, z36]
 rw [z7h, spot_l, ← z2x, z3t, h2]
 have h3 := Els2.mul (.inr (by rw [z11 zB z0v, z0n]) : Els2 z0v z5n) (3 * q)
 rw [z32] at h3
 exact h3
def Ord (E : Pt pN dK) : Prop := Els2 z0v (zF zB lN E)
theorem y5l (a q : Nat) : Ord (z6 zB (spot a q) (spot a q)) := els_order a q
def Rd (W : World) (g : Nat) (k : IntKind) (s n : Nat) (G : Nat → Nat → Int) : Prop := ∀ i, i < n → ∀ j, j < s → W.cell? ⟨g, i * s + j, none⟩ = some (.int k (G i j))
theorem OwnR.rd {W : World} {base n s : Nat} {t : TypeId} {k : IntKind} {v : Value} {G : Nat → Nat → Int} (h : OwnR W base t k s v n G) (g : Nat) (hv : v.ownBlock = some g) : Rd W g k s n G := fun i hi j hj => by
 have h1 := World.ownsRow.cells h hv (i * s + j) _ (z40 k s G j hj n i hi)
 have hadd : (⟨g, 0, none⟩ : Addr).add (i * s + j) = ⟨g, i * s + j, none⟩ := by unfold Addr.add; split <;> simp_all
 rwa [hadd] at h1
section
variable {w w' : World} {B : Nat} {a : Option Addr} {n c : Nat} {P P' : Nat → Pt pN dK}
theorem Pts.empty (P : Nat → Pt pN dK) : Pts w B none 0 0 P := ⟨Nat.le_refl _, fun _ => rfl, fun _ e _ => by cases e⟩
theorem OwnR.pts {base : Nat} {v : Value} {G : Nat → Nat → Int} (h : OwnR w base 32 .u64 24 v n G) (hP : ∀ i, i < n → PtK (G i) (P i)) : ∃ a c, v = .slice a n c ∧ Pts w w.heap.size a n c P := by
 rcases Nat.eq_zero_or_pos n with rfl | h0
 ·obtain ⟨_, hx⟩ := h
  rcases hx with ⟨rfl, _⟩ | ⟨g, cap, cur, rfl, _⟩
  ·exact ⟨none, 0, rfl, Pts.empty P⟩
  ·exact ⟨some ⟨g, 0, none⟩, cap, rfl, Nat.zero_le _, (fun e => by cases e), fun _ _ h => absurd h (Nat.lt_irrefl 0)⟩
 ·obtain ⟨_, hx⟩ := id h
  rcases hx with ⟨_, h1⟩ | ⟨g, cap, cur, rfl, hg, hrow, hle, _⟩
  ·exfalso
   have := z1v .u64 24 G n
   rw [h1] at this
   simp at this
   omega
  ·refine ⟨some ⟨g, 0, none⟩, cap, rfl, hle, (fun e => by cases e), fun ad e _ => ⟨g, 0, (Option.some.inj e).symm, z01 hrow, fun i hi => ⟨G i, hP i hi, fun j hj => ?_⟩⟩⟩
   rw [Nat.zero_add]
   exact h.rd g rfl i hi j hj
end
section
variable {P : Program} {md : Region.Mode} {ops : Array Oper} {Q : Exit → Act → World → Prop} {S : World → Prop} {fuel : Nat} {listed : Array Bool} {a : Act} {w : World} {ty : TypeId} {k : IntKind} {n : Nat}
theorem y56 (i : Nat) (d : Tmp) {oi : Oper} (hT : IsRow P ty n) (hi : ops[i]? = some oi) (hd : oi.dst = some d) (hw : Region.wanted oi (yielded ops a.tmps) = true) (hS : S w) {x : Operand} (ho : oi.op = .load ty x) {g o : Nat} (hx : a.eval x = .pointer (some ⟨g, o, none⟩))
  {f : Nat → Int} (hrow : ∀ w, S w → ∀ j, j < n → w.cell? ⟨g, o + j, none⟩ = some (.int k (f j)))
  (h : wpAnyH P md ops (NoPanic Q) S fuel (listed.setIfInBounds i true) (a.put (some d) (.agg (AZ k n f))) w) (hs : Region.noSelect ops = true := by kernel_rfl) (hf : Region.free md ops listed i = true := by kernel_rfl) (hr : (Region.ready md ops listed).contains i = true := by kernel_rfl) : wpAnyH P md ops (NoPanic Q) S (fuel + 1) listed a w :=
 z0h i d (.agg (AZ k n f)) hi hd (hs := hs) (hf := hf) (hr := hr) hw hS (fun w hw' => by
  unfold execOp
  simp only [ho, hx, Sem.run_bind, z8n hT o (hrow w hw'), Result.andThen_ok]
  rfl) h
end
theorem mixb_upd (i : Nat) (f g : Nat → BitVec 8) : upd8 (mix i f g) i (f i) = mix (i + 1) f g := by
 funext k
 unfold upd8 mix
 by_cases e : k = i
 ·subst e; simp
 ·by_cases h : k < i
  ·rw [if_neg e, if_pos h, if_pos (by omega)]
  ·rw [if_neg e, if_neg h, if_neg (by omega)]
theorem nbytes_any (a : Option Addr) (n c x s : Nat) (w : World) (hn : n ≤ 1000000) (hs : s ≤ 65536) (h : Sw w w.heap.size a n c x) (hx : x < 2 ^ (8 * s)) :
  Calls Tryz.prog 156 #[.slice a n c, .int .i64 s] w fun e w' => e = .returned (.tuple #[.slice (some ⟨w.heap.size, 0, none⟩) s s, .int .i64 0]) ∧ RowB w' w.heap.size s (bt x) ∧ Below w.heap.size w w' := by
 have h1 : decide ((s : Int) < 0) = false := by simp
 have h2 : decide (65536 < (s : Int)) = false := by simp; omega
 have hb : bl x ≤ 8 * s := (y2a x _).2 hx
 have h3 : decide (8 * (s : Int) < ((bl x : Nat) : Int)) = false := by simp; omega
 have H := za h
 generalize hl : bl x = l at *
 have Hl := za hl
 have hs' : (s : Int) ≤ 65536 := by omega
 clear h hl hx
 go_enter Tryz.func156, Tryz.ntmps156
 go_wp2_with (first
  | ((with_reducible refine (len_any a n c x _ (by omega) H.out).mono ?_); rintro e w' ⟨rfl, rfl⟩; rw [Hl.out])
  | ((with_reducible apply y5x); (case hgd | ho | hx | hy => exact rfl); (case hl => exact Nat.le_refl _); (case hc => omega); intro _ _; go_simp))
 go_loopw [23] (fun v wr => ∃ i : Nat, i ≤ s ∧ v = .int .i64 i ∧ RowB wr w'.heap.size s (mix i (bt x) fun _ => 0) ∧ Below w'.heap.size w' wr) (fun v _ => s - (intOf v).toNat)
 case atStart => exact ⟨0, by omega, rfl, by rw [z6h]; exact heap_alloc_last _ _, (Below.refl _ _).alloc (Nat.le_refl _) _⟩
 case round =>
  clear h1 h2 h3 hb
  obtain ⟨i, hi, rfl, HW, HB⟩ := hrel
  by_cases hlt : i < s
  ·have hid : decide ((i : Int) < (s : Int)) = true := by simp; omega
   have iN : (i : Int) < (s : Int) := by omega
   have hc := HW.cell i hlt
   have hz := HW.thaw i
   obtain ⟨q, hq⟩ : ∃ q, i / 8 = q := ⟨_, rfl⟩
   obtain ⟨k, hk⟩ : ∃ k, i % 8 * 8 = k := ⟨_, rfl⟩
   have e1 : (i : Int) / 8 = (q : Int) := by omega
   have hq6 : q ≤ 1000000 := by omega
   have k64 : (k : Int) ≤ 64 := by omega
   have Hq := za hq
   have Hk := za hk
   have G := za (H.out.below HB)
   have H1 := za HW
   have H2 := za HB
   clear HW HB hq hk
   go_wp2_with (first
    | ((with_reducible refine (word_any a n c x q _ (by omega) (by omega) G.out).mono ?_); rintro e w' ⟨rfl, rfl⟩)
    | ((with_reducible refine (y00 i _ (by omega) k Hk.out).mono ?_); rintro e w' ⟨rfl, rfl⟩))
   go_roundw
   case rel =>
    refine ⟨i + 1, by omega, by go_num, ?_, H2.out.setCell (Nat.le_refl _) _⟩
    have h := H1.out.setCell i (low8 (shr (wd x q) k))
    have e : low8 (shr (wd x q) k) = bt x i := by rw [← Hq.out, ← Hk.out]; exact bt_word x i
    rw [e, mixb_upd, ← e] at h
    exact h
   case measure => simp [intOf]; omega
  ·obtain rfl : i = s := by omega
   have H1 := za (HW.congr fun j hj => z4n _ _ _ j hj)
   have H2 := za HB
   clear HW HB
   go_wp2_with fail
   go_ret2
   exact ⟨rfl, H1.out, H2.out⟩
end Go.Proofs.YtgjbonikbmgfmaaGreatDoor
