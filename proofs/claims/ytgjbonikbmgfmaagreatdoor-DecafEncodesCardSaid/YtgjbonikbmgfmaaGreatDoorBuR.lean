/- Lemmas; no statement is proved here. -/
import Derived.Test.YtgjbonikbmgfmaaGreatDoorBuN
import Derived.WalkLawsBesides
import Derived.Lib.MinMax
set_option maxRecDepth 8000
set_option maxHeartbeats 1000000
namespace Go.Proofs.YtgjbonikbmgfmaaGreatDoor
def dg (x i : Nat) : Nat := x / 2 ^ (8 * i) % 256
theorem z80 (x i : Nat) : dg x i < 256 := Nat.mod_lt _ (by omega)
theorem y2d (x i : Nat) : U8 (bt x i) = ((dg x i : Nat) : Int) := by
 unfold U8 dg
 rw [z52]
theorem dg_over {x n i : Nat} (h : x < 2 ^ (8 * n)) (hi : n ≤ i) : dg x i = 0 := by
 unfold dg
 rw [Nat.div_eq_of_lt (Nat.lt_of_lt_of_le h (Nat.pow_le_pow_right (by omega) (by omega)))]
theorem z2e {b x n m : Nat} (h : x < 2 ^ (b * n)) (hm : n ≤ m) : x < 2 ^ (b * m) :=
 Nat.lt_of_lt_of_le h (Nat.pow_le_pow_right (by omega) (Nat.mul_le_mul_left _ hm))
def bor8 (x y i : Nat) : Nat := if x % 2 ^ (8 * i) < y % 2 ^ (8 * i) then 1 else 0
theorem bor8_zero (x y : Nat) : bor8 x y 0 = 0 := by simp [bor8, Nat.mod_one]
theorem bor8_le (x y i : Nat) : bor8 x y i ≤ 1 := by unfold bor8; split <;> omega
theorem dif_parts8 (x y P B : Nat) (hP : 0 < P) (hB : 0 < B) (h : y ≤ x) (hc : B = 256) : (x - y) / P % B = (x / P % B + B - y / P % B - (if x % P < y % P then 1 else 0)) % B ∧ ((x % (P * B) < y % (P * B)) ↔ x / P % B < y / P % B + (if x % P < y % P then 1 else 0)) := by
 have hxm := Nat.mod_lt x hP
 have hym := Nat.mod_lt y hP
 have ex := Nat.div_add_mod x P
 have ey := Nat.div_add_mod y P
 have e1 : (x - y) / P = x / P - y / P - (if x % P < y % P then 1 else 0) := by
  have hq : y / P ≤ x / P := Nat.div_le_div_right h
  by_cases hlt : x % P < y % P
  ·rw [if_pos hlt]
   have hq' : y / P + 1 ≤ x / P := by
    rcases Nat.lt_or_ge (y / P) (x / P) with h1 | h1
    ·exact h1
    ·have : y / P = x / P := by omega
     rw [this] at ey; omega
   have e : x - y = P * (x / P - y / P - 1) + (P + x % P - y % P) := by
    rw [Nat.mul_sub, Nat.mul_sub, Nat.mul_one]
    have := Nat.mul_le_mul_left P hq'
    rw [Nat.mul_add, Nat.mul_one] at this
    omega
   rw [e, Nat.mul_add_div hP, Nat.div_eq_of_lt (by omega : P + x % P - y % P < P)]
   omega
  ·rw [if_neg hlt]
   have e : x - y = P * (x / P - y / P) + (x % P - y % P) := by
    rw [Nat.mul_sub]
    have := Nat.mul_le_mul_left P hq
    omega
   rw [e, Nat.mul_add_div hP, Nat.div_eq_of_lt (by omega : x % P - y % P < P)]
   omega
 have hq : y / P + (if x % P < y % P then 1 else 0) ≤ x / P := by
  have hq : y / P ≤ x / P := Nat.div_le_div_right h
  split
  ·rename_i hlt
   rcases Nat.lt_or_ge (y / P) (x / P) with h1 | h1
   ·omega
   ·have : y / P = x / P := by omega
    rw [this] at ey; omega
  ·omega
 generalize hb : (if x % P < y % P then 1 else 0) = b at *
 have hb1 : b ≤ 1 := by rw [← hb]; split <;> omega
 constructor
 ·rw [e1, hc]
  omega
 ·rw [Nat.mod_mul, Nat.mod_mul]
  have hsx := Nat.mod_lt (x / P) hB
  generalize x / P % B = u at *
  generalize y / P % B = v at *
  generalize x % P = r at *
  generalize y % P = s at *
  constructor
  ·intro h1
   rcases Nat.lt_trichotomy u v with h2 | h2 | h2
   ·omega
   ·subst h2
    rw [if_pos (by omega)] at hb
    omega
   ·have := Nat.mul_le_mul_left P h2
    rw [Nat.mul_succ] at this
    omega
  ·intro h1
   by_cases h2 : u < v
   ·have := Nat.mul_le_mul_left P h2
    rw [Nat.mul_succ] at this
    omega
   ·have : u = v := by omega
    subst this
    split at hb
    ·omega
    ·omega
theorem sub8_step {x y : Nat} (h : y ≤ x) (i : Nat) : dg (x - y) i = (dg x i + 256 - dg y i - bor8 x y i) % 256 ∧ bor8 x y (i + 1) = if dg x i < dg y i + bor8 x y i then 1 else 0 := by
 have hd := dif_parts8 x y (2 ^ (8 * i)) 256 (Nat.two_pow_pos _) (by omega) h rfl
 refine ⟨hd.1, ?_⟩
 unfold bor8
 rw [pow8]
 by_cases h1 : x % (2 ^ (8 * i) * 256) < y % (2 ^ (8 * i) * 256)
 ·rw [if_pos h1]
  exact (if_pos (hd.2.1 h1)).symm
 ·rw [if_neg h1]
  exact (if_neg fun h2 => h1 (hd.2.2 h2)).symm
theorem bt_low (z t i k : Nat) (hk : k < i) : bt (2 ^ (8 * i) * t + z) k = bt z k := by
 obtain ⟨d, rfl⟩ : ∃ d, i = k + (d + 1) := ⟨i - k - 1, by omega⟩
 unfold bt
 rw [show 8 * (k + (d + 1)) = 8 * k + 8 * (d + 1) by omega, Nat.pow_add, Nat.mul_assoc, Nat.mul_add_div (Nat.two_pow_pos _), show 8 * (d + 1) = 8 + 8 * d by omega, Nat.pow_add, Nat.mul_assoc]
 apply BitVec.eq_of_toNat_eq
 rw [BitVec.toNat_ofNat, BitVec.toNat_ofNat, Nat.mul_add_mod]
theorem dg_bit (x i : Nat) : dg x (i / 8) / 2 ^ (i % 8) % 2 = x / 2 ^ i % 2 := by
 unfold dg
 have e : 2 ^ i = 2 ^ (8 * (i / 8)) * 2 ^ (i % 8) := by rw [← Nat.pow_add]; congr 1; omega
 rw [e, ← Nat.div_div_eq_div_mul]
 generalize x / 2 ^ (8 * (i / 8)) = z
 have hlt : i % 8 < 8 := Nat.mod_lt _ (by omega)
 generalize i % 8 = s at hlt
 have t1 : (z % 256).testBit s = z.testBit s := by
  rw [show 256 = 2 ^ 8 from rfl, Nat.testBit_mod_two_pow]; simp [hlt]
 rw [Nat.testBit_eq_decide_div_mod_eq, Nat.testBit_eq_decide_div_mod_eq] at t1
 have t2 : z % 256 / 2 ^ s % 2 = 1 ↔ z / 2 ^ s % 2 = 1 := by simpa using t1
 generalize z % 256 / 2 ^ s = u at t2 ⊢
 generalize z / 2 ^ s = v at t2 ⊢
 omega
theorem y9o {x k : Nat} (h : x < 2 ^ (k + 1)) : x / 2 ^ k % 2 = 0 ↔ x < 2 ^ k := by
 have hq : x / 2 ^ k < 2 := by
  rw [Nat.div_lt_iff_lt_mul (Nat.two_pow_pos _), Nat.mul_comm, ← Nat.pow_succ]; exact h
 rw [Nat.mod_eq_of_lt hq, Nat.div_eq_zero_iff]
 have := Nat.two_pow_pos k
 omega
open Go.RowKit
theorem z8y (a : Option Addr) (n c x i : Nat) (w : World) (_hi : i ≤ 9223372036854775807) (_hn : n ≤ 1000000) {B : Nat} (h : Sb w B a n c x) :
  Calls Tryz.prog 124 #[.slice a n c, .int .i64 i] w fun e w' => e = .returned (.int .i64 ((dg x i : Nat) : Int)) ∧ w' = w := by
 by_cases hlt : i < n
 ·obtain ⟨b, o, rfl, _, hc⟩ := h.sl.get i hlt
  have hid : decide ((n : Int) ≤ (i : Int)) = false := by simp; omega
  have hlt' : (i : Int) < (n : Int) := by omega
  have hb := U8_bd (bt x i)
  obtain ⟨hb0, hb1⟩ := hb
  have E := za (y2d x i)
  clear h
  go_enter Tryz.func124, Tryz.ntmps124
  go_wp2
  go_ret
  exact ⟨congrArg (fun n => Ending.returned (.int .i64 n)) E.out, rfl⟩
 ·have hid : decide ((n : Int) ≤ (i : Int)) = true := by simp; omega
  have hz : dg x i = 0 := dg_over h.fits (by omega)
  rw [hz]
  clear h hz
  go_enter Tryz.func124, Tryz.ntmps124
  go_wp2
  go_ret
  exact ⟨rfl, rfl⟩
theorem U8_eq0 (b : BitVec 8) (h : b = 0) : (U8 b == 0) = true := by subst h; rfl
theorem U8_ne0 (b : BitVec 8) (h : b ≠ 0) : (U8 b == 0) = false := by
 rw [beq_eq_false_iff_ne]
 intro e
 have e0 : U8 0 = 0 := rfl
 exact h (y9y.1 (e.trans e0.symm))
theorem z8j (a : Option Addr) (n c x : Nat) (w : World) (hn : n ≤ 1000000) {B : Nat} (h : Sb w B a n c x) :
  Calls Tryz.prog 154 #[.slice a n c] w fun e w' => e = .returned (.slice a (dl 8 x) c) ∧ w' = w := by
 have hle := h.sl.le
 have hle' : (n : Int) ≤ (c : Int) := by omega
 have H := za h.sl
 have Hx := za h.fits
 clear h
 go_enter Tryz.func154, Tryz.ntmps154
 go_wp2_with fail
 go_loop [3] (fun v => ∃ k : Nat, k ≤ n ∧ v = .int .i64 k ∧ x < 2 ^ (8 * k)) (fun v => (intOf v).toNat)
 case atStart => exact ⟨n, Nat.le_refl _, rfl, Hx.out⟩
 case round =>
  clear Hx
  obtain ⟨k, hk, rfl, hx⟩ := hrel
  have done : (k = 0 ∨ 2 ^ (8 * (k - 1)) ≤ x) → dl 8 x = k := fun h => y66 (by omega) hx h
  rcases Nat.eq_zero_or_pos k with h0 | h0
  ·subst h0
   have He := za (done (.inl rfl))
   have d0 : decide ((0 : Int) < 0) = false := by simp
   clear done hx hk
   go_wp2_with fail
   go_ret
   exact ⟨by rw [He.out]; rfl, rfl⟩
  ·obtain ⟨j, rfl⟩ : ∃ j, k = j + 1 := ⟨k - 1, by omega⟩
   obtain ⟨b, o, rfl, _, hc⟩ := H.out.get j (by omega)
   have hj : (j : Int) < (n : Int) := by omega
   have hj1 : ((j + 1 : Nat) : Int) = (j : Int) + 1 := by omega
   have hj2 : (j : Int) + 1 ≤ (c : Int) := by omega
   have d0 : decide ((0 : Int) < (j : Int) + 1) = true := by simp
   by_cases hz : bt x j = 0
   ·have hL := U8_eq0 _ hz
    have Hs := za ((bt_top hx).1 hz)
    clear done hz hx
    go_wp2_with fail
    go_round
    case rel => exact ⟨j, by omega, by go_num, Hs.out⟩
    case measure => simp [intOf]
   ·have hL := U8_ne0 _ hz
    have He := za (done (.inr (by
     rcases Nat.lt_or_ge x (2 ^ (8 * j)) with h1 | h1
     ·exact absurd ((bt_top hx).2 h1) hz
     ·exact h1)))
    clear done hz hx
    go_wp2_with fail
    go_ret
    exact ⟨by rw [He.out]; rfl, rfl⟩
theorem y29 (d k : Nat) : d / 2 ^ k / 2 = d / 2 ^ (k + 1) := by
 rw [Nat.div_div_eq_div_mul, ← Nat.pow_succ]
theorem z3c (a : Option Addr) (n c x : Nat) (i : Int) (w : World) (hn : n ≤ 1000000) (hi : i ≤ 9223372036854775807) {B : Nat} (h : Sb w B a n c x) :
  Calls Tryz.prog 100 #[.slice a n c, .int .i64 i] w fun e w' => e = .returned (.int .i64 (bitI x i)) ∧ w' = w := by
 by_cases h0 : i < 0
 ·have He : Hid (bitI x i = 0) := za (by simp [bitI, h0])
  have hd : decide (i < 0) = true := by simpa using h0
  clear h
  go_enter Tryz.func100, Tryz.ntmps100
  go_wp2
  go_ret
  exact ⟨by rw [He.out]; rfl, rfl⟩
 ·obtain ⟨j, rfl⟩ := Int.eq_ofNat_of_zero_le (by omega : 0 ≤ i)
  have hd : decide ((j : Int) < 0) = false := by simp
  have He : Hid (bitI x (j : Int) = ((dg x (j / 8) / 2 ^ (j % 8) % 2 : Nat) : Int)) := za (by
   unfold bitI
   rw [if_neg h0, dg_bit]
   rfl)
  obtain ⟨q, hq⟩ : ∃ q, j / 8 = q := ⟨_, rfl⟩
  obtain ⟨s, hs⟩ : ∃ s, j % 8 = s := ⟨_, rfl⟩
  have e1 : (j : Int) / 8 = (q : Int) := by omega
  have e2 : (j : Int) % 8 = (s : Int) := by omega
  have e3 : (j : Int).tmod 8 = (s : Int) := by rw [Int.tmod_eq_emod_of_nonneg (by omega)]; exact e2
  rw [hq, hs] at He
  have H := za h
  have hq2 : q ≤ 9223372036854775807 := by omega
  have hs8 : s < 8 := by omega
  have hs8' : (s : Int) < 8 := by omega
  have hdl := z80 x q
  have Hat : Hid (∀ w', Sb w' B a n c x → Calls Tryz.prog 124 #[.slice a n c, .int .i64 q] w' fun e w'' => e = .returned (.int .i64 ((dg x q : Nat) : Int)) ∧ w'' = w') := za fun w' hw => z8y a n c x q w' (by omega) (by omega) hw
  clear h hq hs h0
  generalize dg x q = d at *
  go_enter Tryz.func100, Tryz.ntmps100
  go_wp2_with ((with_reducible refine (Hat.out _ H.out).mono ?_); rintro e w' ⟨rfl, rfl⟩)
  go_loop [5, 6] (fun v5 v6 => ∃ k : Nat, k ≤ s ∧ v6 = .int .i64 k ∧ v5 = .int .i64 ((d / 2 ^ k : Nat) : Int)) (fun _ v6 => s - (intOf v6).toNat)
  case atStart => exact ⟨0, by omega, rfl, by rw [Nat.pow_zero, Nat.div_one]⟩
  case round =>
   obtain ⟨k, hk, rfl, rfl⟩ := hrel
   have hlt : d / 2 ^ k ≤ d := Nat.div_le_self _ _
   have hh := y29 d k
   obtain ⟨u, hu⟩ : ∃ u, d / 2 ^ k = u := ⟨_, rfl⟩
   rw [hu] at hlt hh ⊢
   have Hu := za hu
   have Hh := za hh
   clear hu hh
   have u6 : (u : Int) ≤ 256 := by omega
   by_cases hks : k < s
   ·have hid : decide ((k : Int) < (s : Int)) = true := by simp; omega
    go_wp2_with fail
    go_round
    case rel => exact ⟨k + 1, by omega, by go_num, by rw [← Hh.out]; congr 1⟩
    case measure => (simp [intOf] <;> omega)
   ·obtain rfl : k = s := by omega
    have hid : decide ((k : Int) < (k : Int)) = false := by simp
    have e4 : (u : Int).tmod 2 = ((u % 2 : Nat) : Int) := by rw [Int.tmod_eq_emod_of_nonneg (by omega)]; omega
    go_wp2_with fail
    go_ret
    exact ⟨by rw [He.out, Hu.out]; exact congrArg (fun n => Ending.returned (.int .i64 n)) (by omega), rfl⟩
theorem z72 (a : Option Addr) (n c x : Nat) (w : World) (hn : n ≤ 1000000) {B : Nat} (h : Sb w B a n c x) :
  Calls Tryz.prog 99 #[.slice a n c] w fun e w' => e = .returned (.int .i64 ((bl x : Nat) : Int)) ∧ w' = w := by
 have H := za h
 have Hx := za h.fits
 have hn' : (n : Int) ≤ 1000000 := by omega
 clear h
 go_enter Tryz.func99, Tryz.ntmps99
 go_wp2_with fail
 go_loop [3] (fun v => ∃ k : Nat, k ≤ 8 * n ∧ v = .int .i64 k ∧ x < 2 ^ k) (fun v => (intOf v).toNat)
 case atStart => exact ⟨8 * n, Nat.le_refl _, by go_num, Hx.out⟩
 case round =>
  clear Hx
  obtain ⟨k, hk, rfl, hx⟩ := hrel
  have done : (k = 0 ∨ 2 ^ (k - 1) ≤ x) → bl x = k := fun h => bl_eq hx h
  rcases Nat.eq_zero_or_pos k with h0 | h0
  ·subst h0
   have He := za (done (.inl rfl))
   have d0 : decide ((0 : Int) < 0) = false := by simp
   clear done hx hk
   go_wp2_with fail
   go_ret
   exact ⟨by rw [He.out]; rfl, rfl⟩
  ·obtain ⟨j, rfl⟩ : ∃ j, k = j + 1 := ⟨k - 1, by omega⟩
   have hj1 : ((j + 1 : Nat) : Int) = (j : Int) + 1 := by omega
   have d0 : decide ((0 : Int) < (j : Int) + 1) = true := by simp
   have hb : bitI x (j : Int) = ((x / 2 ^ j % 2 : Nat) : Int) := by unfold bitI; rw [if_neg (by omega)]; rfl
   by_cases hz : x / 2 ^ j % 2 = 0
   ·have Hb : Hid (bitI x (j : Int) = 0) := za (by rw [hb, hz]; rfl)
    have Hs := za ((y9o hx).1 hz)
    clear done hz hx hb
    go_wp2_with ((with_reducible refine (z3c a n c x (j : Int) _ (by omega) (by omega) H.out).mono ?_); rintro e w' ⟨rfl, rfl⟩; rw [Hb.out])
    go_round
    case rel => exact ⟨j, by omega, by go_num, Hs.out⟩
    case measure => simp [intOf]
   ·have Hb : Hid (bitI x (j : Int) = 1) := za (by rw [hb, show x / 2 ^ j % 2 = 1 by omega]; rfl)
    have He := za (done (.inr (by
     rcases Nat.lt_or_ge x (2 ^ j) with h1 | h1
     ·exact absurd ((y9o hx).2 h1) hz
     ·exact h1)))
    clear done hz hx hb
    go_wp2_with ((with_reducible refine (z3c a n c x (j : Int) _ (by omega) (by omega) H.out).mono ?_); rintro e w' ⟨rfl, rfl⟩; rw [Hb.out])
    go_ret
    exact ⟨by rw [He.out]; rfl, rfl⟩
theorem OwnB.any {w : World} {base : Nat} {v : Value} {n : Nat} {f : Nat → BitVec 8} (h : OwnB w base v n f) : ∃ a c, v = .slice a n c ∧ Sl w w.heap.size a n c f := by
 rcases Nat.eq_zero_or_pos n with h0 | h0
 ·subst h0
  obtain ⟨_, hv⟩ := h
  rcases hv with ⟨rfl, _⟩ | ⟨g, cap, cur, rfl, hg, hrow, hle, _⟩
  ·exact ⟨none, 0, rfl, Nat.le_refl _, fun _ => rfl, fun _ e _ => by cases e⟩
  ·exact ⟨_, cap, rfl, hle, (fun e => by cases e), fun ad e h0 => by omega⟩
 ·obtain ⟨g, c, cur, rfl, _, _, hs⟩ := h.sl h0
  exact ⟨_, c, rfl, hs⟩
theorem z4k (w : World) (v : Int) (b : BitVec 8) (h : U8 b = v) : (w.alloc (.cells #[.int .u8 v] 5)).cell? ⟨w.heap.size, 0, none⟩ = some (U b) := by
 rw [← h]
 simp
theorem z49 (a : Option Addr) (n c x : Nat) (a' : Option Addr) (m c' y : Nat) (w : World) (hn : n ≤ 10000) (hm : m ≤ 10000) (h : Sb w w.heap.size a n c x) (h' : Sb w w.heap.size a' m c' y) (hxy : y ≤ x) :
  Calls Tryz.prog 149 #[.slice a n c, .slice a' m c'] w fun e w' => ∃ v, e = .returned v ∧ GotB w w' v (x - y) := by
 have hf : x - y < 2 ^ (8 * n) := by have := h.fits; omega
 have H := za h
 have H' := za h'
 have Hf := za hf
 have Hxy := za hxy
 clear h h' hf hxy
 go_enter Tryz.func149, Tryz.ntmps149
 go_wp2_with fail
 go_loopw [5, 6, 7] (fun v5 v6 v7 wr => ∃ i : Nat, i ≤ n ∧ v7 = .int .i64 i ∧ v6 = .int .i64 ((bor8 x y i : Nat) : Int) ∧ OwnB wr w.heap.size v5 i (bt (x - y)) ∧ Below w.heap.size w wr) (fun _ _ v7 _ => n - (intOf v7).toNat)
 case atStart => exact ⟨0, by omega, rfl, by rw [bor8_zero]; rfl, OwnB.nil _ _ _, Below.refl _ _⟩
 case round =>
  obtain ⟨i, hi, rfl, rfl, HO, HB⟩ := hrel
  by_cases hlt : i < n
  ·have d1 : decide ((i : Int) < (n : Int)) = true := by simp; omega
   have S := za (sub8_step Hxy.out i)
   have ho := bor8_le x y i
   have hxl := z80 x i
   have hyl := z80 y i
   have HA : Hid (∀ w', Sb w' w.heap.size a n c x → Calls Tryz.prog 124 #[.slice a n c, .int .i64 i] w' fun e w'' => e = .returned (.int .i64 ((dg x i : Nat) : Int)) ∧ w'' = w') := za fun w' hw => z8y a n c x i w' (by omega) (by omega) hw
   have HA' : Hid (∀ w', Sb w' w.heap.size a' m c' y → Calls Tryz.prog 124 #[.slice a' m c', .int .i64 i] w' fun e w'' => e = .returned (.int .i64 ((dg y i : Nat) : Int)) ∧ w'' = w') := za fun w' hw => z8y a' m c' y i w' (by omega) (by omega) hw
   have G := za (H.out.below HB)
   have G' := za (H'.out.below HB)
   have H1 := za HO
   have H2 := za HB
   clear HO HB
   generalize dg x i = p at *
   generalize dg y i = q at *
   generalize bor8 x y i = o at *
   have hz : w.heap.size ≤ wr.heap.size := H2.out.size
   have EB := za (y2d (x - y) i)
   obtain ⟨z, hz0⟩ : ∃ z : Int, (p : Int) - (q : Int) - (o : Int) = z := ⟨_, rfl⟩
   obtain ⟨r, hr⟩ : ∃ r, (p + 256 - q - o) % 256 = r := ⟨_, rfl⟩
   have r6 : (r : Int) < 256 := by omega
   have hb2 : IntKind.u8.wrap (r : Int) = (r : Int) := by rw [IntKind.wrap_u8]; omega
   have hb : Hid (U8 (bt (x - y) i) = (r : Int)) := za (by rw [EB.out, S.out.1, ← hr])
   by_cases hneg : p < q + o
   ·have z0 : decide (z < 0) = true := by simp; omega
    have e2 : z + 256 = (r : Int) := by omega
    have z1 : -256 ≤ z := by omega
    have z2 : z ≤ 0 := by omega
    have hu : Hid (bor8 x y (i + 1) = 1) := za (by rw [S.out.2, if_pos hneg])
    clear hneg hr
    go_wp2_with (first
     | ((with_reducible refine (HA.out _ G.out).mono ?_); rintro e w' ⟨rfl, rfl⟩)
     | ((with_reducible refine (HA'.out _ G'.out).mono ?_); rintro e w' ⟨rfl, rfl⟩)
     | ((with_reducible apply z0y); (case hgd | ho | hs | hx => exact rfl); (case hown => exact H1.out.alloc _); (case hc => exact z4k _ _ _ hb.out); (case hn => omega); (case hbase => simp; omega); intro v' w' ho' hb' _ _; go_simp))
    go_roundw
    case rel => exact ⟨i + 1, by omega, by go_num, by rw [hu.out]; rfl, ho', (H2.out.alloc hz _).trans hb'⟩
    case measure => simp [intOf]; omega
   ·obtain rfl : z = (r : Int) := by omega
    have z0 : decide ((r : Int) < 0) = false := by simp
    have hu : Hid (bor8 x y (i + 1) = 0) := za (by rw [S.out.2, if_neg hneg])
    clear hneg hr
    go_wp2_with (first
     | ((with_reducible refine (HA.out _ G.out).mono ?_); rintro e w' ⟨rfl, rfl⟩)
     | ((with_reducible refine (HA'.out _ G'.out).mono ?_); rintro e w' ⟨rfl, rfl⟩)
     | ((with_reducible apply z0y); (case hgd | ho | hs | hx => exact rfl); (case hown => exact H1.out.alloc _); (case hc => exact z4k _ _ _ hb.out); (case hn => omega); (case hbase => simp; omega); intro v' w' ho' hb' _ _; go_simp))
    go_roundw
    case rel => exact ⟨i + 1, by omega, by go_num, by rw [hu.out]; rfl, ho', (H2.out.alloc hz _).trans hb'⟩
    case measure => simp [intOf]; omega
  ·obtain rfl : i = n := by omega
   have H1 := za HO
   have H2 := za HB
   obtain ⟨b, cb, rfl, hs⟩ := H1.out.any
   have S1 : Hid (Sb wr wr.heap.size b i cb (x - y)) := za ⟨hs, Hf.out⟩
   have d1 : decide ((i : Int) < (i : Int)) = false := by simp
   generalize bor8 x y i = o at *
   clear hs HO HB
   go_wp2_with ((with_reducible refine (z8j b i cb (x - y) _ (by omega) S1.out).mono ?_); rintro e w' ⟨rfl, rfl⟩)
   go_ret
   exact ⟨_, rfl, b, cb, rfl, S1.out.cut, H2.out⟩
theorem z4m (a : Option Addr) (n c x : Nat) (a' : Option Addr) (m c' y : Nat) (w : World) (hn : n ≤ 1000000) (hm : m ≤ 1000000) {B B' : Nat} (h : Sb w B a n c x) (h' : Sb w B' a' m c' y) :
  Calls Tryz.prog 63 #[.slice a n c, .slice a' m c'] w fun e w' => e = .returned (.int .i64 (cmp x y)) ∧ w' = w := by
 obtain ⟨k, hk⟩ : ∃ k, k = max n m := ⟨_, rfl⟩
 have hx : x < 2 ^ (8 * k) := z2e h.fits (by omega)
 have hy : y < 2 ^ (8 * k) := z2e h'.fits (by omega)
 have H0 : Hid (x / 2 ^ (8 * k) = y / 2 ^ (8 * k)) := za (by rw [Nat.div_eq_of_lt hx, Nat.div_eq_of_lt hy])
 have hk6 : k ≤ 1000000 := by omega
 have hmx : max (n : Int) (m : Int) = (k : Int) := by omega
 have H := za h
 have H' := za h'
 clear h h' hx hy hk
 go_enter Tryz.func63, Tryz.ntmps63
 go_wp2_with fail
 clear hmx
 go_loop [5] (fun v => ∃ j : Nat, j ≤ k ∧ v = .int .i64 ((j : Int) - 1) ∧ x / 2 ^ (8 * j) = y / 2 ^ (8 * j)) (fun v => (intOf v + 1).toNat)
 case atStart => exact ⟨k, Nat.le_refl _, rfl, H0.out⟩
 case round =>
  clear H0
  obtain ⟨j, hj, rfl, hq⟩ := hrel
  rcases Nat.eq_zero_or_pos j with h0 | h0
  ·subst h0
   obtain rfl : x = y := by simpa using hq
   clear hq
   have He := za (cmp_eq x)
   go_wp2_with fail
   go_ret
   exact ⟨by rw [He.out]; rfl, rfl⟩
  ·obtain ⟨i, rfl⟩ : ∃ i, j = i + 1 := ⟨j - 1, by omega⟩
   have e : (((i + 1 : Nat) : Int) - 1) = (i : Int) := by omega
   rw [e]
   have hi0 : (0 : Int) ≤ (i : Int) := by omega
   have bx : (bt x i).toNat = dg x i := z52 x i
   have hby : (bt y i).toNat = dg y i := z52 y i
   have l1 : dg x i < dg y i → cmp x y = -1 := fun hd => cmp_lt (z8v hq (by rw [bx, hby]; exact hd))
   have l2 : dg y i < dg x i → cmp x y = 1 := fun hd => cmp_gt (z8v hq.symm (by rw [bx, hby]; exact hd))
   have l3 : dg x i = dg y i → x / 2 ^ (8 * i) = y / 2 ^ (8 * i) := fun hd => cmp8_step_eq hq (by rw [bx, hby]; exact hd)
   have dx := z80 x i
   have dy := z80 y i
   have HA : Hid (∀ w', Sb w' B a n c x → Calls Tryz.prog 124 #[.slice a n c, .int .i64 i] w' fun e w'' => e = .returned (.int .i64 ((dg x i : Nat) : Int)) ∧ w'' = w') := za fun w' hw => z8y a n c x i w' (by omega) (by omega) hw
   have HA' : Hid (∀ w', Sb w' B' a' m c' y → Calls Tryz.prog 124 #[.slice a' m c', .int .i64 i] w' fun e w'' => e = .returned (.int .i64 ((dg y i : Nat) : Int)) ∧ w'' = w') := za fun w' hw => z8y a' m c' y i w' (by omega) (by omega) hw
   clear e h0 hq bx hby
   generalize dg x i = p at *
   generalize dg y i = q at *
   rcases Nat.lt_trichotomy p q with hd | hd | hd
   ·have He := za (l1 hd)
    have t1 : decide (p < q) = true := by simp; omega
    clear l1 l2 l3 hd
    go_wp2_with (first | ((with_reducible refine (HA.out _ H.out).mono ?_); rintro e w' ⟨rfl, rfl⟩) | ((with_reducible refine (HA'.out _ H'.out).mono ?_); rintro e w' ⟨rfl, rfl⟩))
    go_ret
    exact ⟨by rw [He.out]; rfl, rfl⟩
   ·have Hq := za (l3 hd)
    have t1 : decide (p < q) = false := by simp; omega
    have t2 : decide (q < p) = false := by simp; omega
    clear l1 l2 l3 hd
    go_wp2_with (first | ((with_reducible refine (HA.out _ H.out).mono ?_); rintro e w' ⟨rfl, rfl⟩) | ((with_reducible refine (HA'.out _ H'.out).mono ?_); rintro e w' ⟨rfl, rfl⟩))
    go_round
    case rel => exact ⟨i, by omega, rfl, Hq.out⟩
    case measure => (simp [intOf] <;> omega)
   ·have He := za (l2 hd)
    have t1 : decide (p < q) = false := by simp; omega
    have t2 : decide (q < p) = true := by simp; omega
    clear l1 l2 l3 hd
    go_wp2_with (first | ((with_reducible refine (HA.out _ H.out).mono ?_); rintro e w' ⟨rfl, rfl⟩) | ((with_reducible refine (HA'.out _ H'.out).mono ?_); rintro e w' ⟨rfl, rfl⟩))
    go_ret
    exact ⟨by rw [He.out]; rfl, rfl⟩
theorem GotB.open {w W : World} {v : Value} {x : Nat} (h : GotB w W v x) : ∃ a c, v = .slice a (dl 8 x) c ∧ Sb W W.heap.size a (dl 8 x) c x ∧ Below w.heap.size w W := h
end Go.Proofs.YtgjbonikbmgfmaaGreatDoor
