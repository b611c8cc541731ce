/- Lemmas; no statement is proved here. -/
import Derived.Test.YtgjbonikbmgfmaaGreatDoorBuB
import Derived.Laws.Bits64b
import Derived.Laws.BitsLemmas
set_option maxRecDepth 8000
set_option maxHeartbeats 2000000
namespace Go.Proofs.YtgjbonikbmgfmaaGreatDoor
open Go.RowKit
theorem rowL : IsRow Tryz.prog 28 8 := ⟨⟨_, Tryz.underlying28, rfl⟩, by kernel_rfl⟩
theorem zeroL : AZ .u64 8 (fun _ => 0) = #[.int .u64 0, .int .u64 0, .int .u64 0, .int .u64 0, .int .u64 0, .int .u64 0, .int .u64 0, .int .u64 0] := by
 unfold AZ
 rfl
theorem nilL (w : World) : (zeroValue 28).run Tryz.prog w = .ok (.agg (AZ .u64 8 fun _ => 0)) w := by rw [zeroL]; exact Tryz.zeroValue28 w
theorem zt : IsRow Tryz.prog 30 8 := ⟨⟨_, Tryz.underlying30, rfl⟩, by kernel_rfl⟩
theorem zeroE : AZ .u64 8 (fun _ => 0) = #[.int .u64 0, .int .u64 0, .int .u64 0, .int .u64 0, .int .u64 0, .int .u64 0, .int .u64 0, .int .u64 0] := by
 unfold AZ
 rfl
theorem z9 (w : World) : (zeroValue 30).run Tryz.prog w = .ok (.agg (AZ .u64 8 fun _ => 0)) w := by rw [zeroE]; exact Tryz.zeroValue30 w
theorem rowS : IsRow Tryz.prog 162 30 := ⟨⟨_, Tryz.underlying162, rfl⟩, by kernel_rfl⟩
theorem zeroS : AZ .u64 30 (fun _ => 0) = #[.int .u64 0, .int .u64 0, .int .u64 0, .int .u64 0, .int .u64 0, .int .u64 0, .int .u64 0, .int .u64 0, .int .u64 0, .int .u64 0, .int .u64 0, .int .u64 0, .int .u64 0, .int .u64 0, .int .u64 0, .int .u64 0, .int .u64 0, .int .u64 0, .int .u64 0, .int .u64 0, .int .u64 0, .int .u64 0, .int .u64 0, .int .u64 0, .int .u64 0, .int .u64 0, .int .u64 0, .int .u64 0, .int .u64 0, .int .u64 0] := by
 unfold AZ
 rfl
theorem nilS (w : World) : (zeroValue 162).run Tryz.prog w = .ok (.agg (AZ .u64 30 fun _ => 0)) w := by rw [zeroS]; exact Tryz.zeroValue162 w
theorem rowR : IsRow Tryz.prog 165 16 := ⟨⟨_, Tryz.underlying165, rfl⟩, by kernel_rfl⟩
theorem zeroR : AZ .u64 16 (fun _ => 0) = #[.int .u64 0, .int .u64 0, .int .u64 0, .int .u64 0, .int .u64 0, .int .u64 0, .int .u64 0, .int .u64 0, .int .u64 0, .int .u64 0, .int .u64 0, .int .u64 0, .int .u64 0, .int .u64 0, .int .u64 0, .int .u64 0] := by
 unfold AZ
 rfl
theorem nilR (w : World) : (zeroValue 165).run Tryz.prog w = .ok (.agg (AZ .u64 16 fun _ => 0)) w := by rw [zeroR]; exact Tryz.zeroValue165 w
theorem rowP : IsRow Tryz.prog 161 2 := ⟨⟨_, Tryz.underlying161, rfl⟩, by kernel_rfl⟩
theorem zeroP : AZ .u64 2 (fun _ => 0) = #[.int .u64 0, .int .u64 0] := by
 unfold AZ
 rfl
theorem nilP (w : World) : (zeroValue 161).run Tryz.prog w = .ok (.agg (AZ .u64 2 fun _ => 0)) w := by rw [zeroP]; exact Tryz.zeroValue161 w
theorem oneW : IsOne Tryz.prog 27 .u64 := ⟨Tryz.underlying27, by kernel_rfl⟩
def NZ (f : Nat → Nat) : Nat → Int := fun i => ((f i : Nat) : Int)
theorem y60 (a : Nat) (ha : a < 18446744073709551616) : bits .and .u64 (a : Int) 72057594037927935 = ((a % 72057594037927936 : Nat) : Int) := by
 have h := bits_and_u64_nat a 72057594037927935 ha (by omega)
 have e : a &&& 72057594037927935 = a % 72057594037927936 := Nat.and_two_pow_sub_one_eq_mod a 56
 rw [e] at h
 exact h
theorem up_any (i : Nat) (w : World) (hi : i ≤ 10000000) (k : Nat) (hk : i % 7 * 8 = k) :
  Calls Tryz.prog 170 #[.int .i64 i] w fun e w' => e = .returned (.int .i64 (k : Int)) ∧ w' = w := by
 go_enter Tryz.func170, Tryz.ntmps170
 go_wp2
 go_ret
 exact ⟨congrArg (fun n => Ending.returned (.int .i64 n)) (by subst hk; show (i : Int) % 7 * 8 = _; simp), rfl⟩
theorem part_any (x o : Nat) (w : World) (h : x + o < 18446744073709551616) :
  Calls Tryz.prog 134 #[.int .u64 x, .int .u64 o] w fun e w' => e = .returned (.tuple #[.int .u64 (((x + o) % 72057594037927936 : Nat) : Int), .int .u64 (((x + o) / 72057594037927936 : Nat) : Int)]) ∧ w' = w := by
 obtain ⟨s, hs⟩ : ∃ s, x + o = s := ⟨_, rfl⟩
 have e1 : (x : Int) + (o : Int) = (s : Int) := by omega
 have e2 : IntKind.u64.wrap (s : Int) = (s : Int) := by rw [IntKind.wrap_u64]; omega
 have e3 := y60 s (by omega)
 obtain ⟨q, hq⟩ : ∃ q, s / 72057594037927936 = q := ⟨_, rfl⟩
 obtain ⟨r, hr⟩ : ∃ r, s % 72057594037927936 = r := ⟨_, rfl⟩
 have e4 : (s : Int) / 72057594037927936 = (q : Int) := by omega
 rw [hr] at e3
 rw [hs, hq, hr]
 clear hs h hq hr
 go_enter Tryz.func134, Tryz.ntmps134
 go_wp2
 go_ret2
 exact ⟨rfl, rfl⟩
theorem y13 (fn : FuncId) (cap : Array Value) (f g : Nat → Nat) (w : World) (hF : ∀ args w, (callFunc fn args).run Tryz.prog w = .ok (.enter fn args) w)
  (HC : ∀ i W, i < 8 → Below w.heap.size w W → Calls Tryz.prog fn (#[.int .i64 (i : Int), .int .u64 (NZ f i)] ++ cap) W fun e W' => e = .returned (.int .u64 (NZ g i)) ∧ Below W.heap.size W W') :
  Calls Tryz.prog 132 #[.agg (AZ .u64 8 (NZ f)), .func (.func fn) #[] cap] w fun e w' => e = .returned (.agg (AZ .u64 8 (NZ g))) ∧ Below w.heap.size w w' := by
 replace HC := za HC
 have H := za (Ow.start w)
 go_enter Tryz.func132, Tryz.ntmps132
 go_wp2_with (first
  | ((fail_if_success have := g1); (with_reducible apply zw H); (case hgd | ho | hx => exact rfl); clear H; intro w1 g1 H _ _; go_simp)
  | ((fail_if_success have := g2); (with_reducible apply ze nilL H); (case hgd | ho => exact rfl); clear H; intro w2 g2 H _ _; go_simp)
  | ((with_reducible apply zr rowL H); (case hgd | ho | hx => exact rfl); (case hi => repeat first|exact z5|apply z8); intro _ _; go_simp))
 go_loopw [8] (fun v wr => ∃ i : Nat, i ≤ 8 ∧ v = .int .i64 i ∧ Ow w wr [(g2, zv 28 .u64 8 (mixZ i (NZ g) fun _ => 0)), (g1, zv 28 .u64 8 (NZ f))]) (fun v _ => 8 - (intOf v).toNat)
 case atStart => exact ⟨0, by omega, rfl, by rw [z22]; exact H.out⟩
 case round =>
  clear H
  obtain ⟨i, hi, rfl, HR⟩ := hrel
  by_cases hlt : i < 8
  ·have hid : decide ((i : Int) < 8) = true := by simp; omega
   have iN : (i : Int) < 8 := by omega
   have H := za HR
   clear HR
   go_wp2_with (first
    | ((with_reducible apply z20 Tryz.underlying28 oneW); (case hgd | ho | hx | hy => exact rfl); (case hi => omega); intro _ _; go_simp)
    | ((with_reducible refine (HC.out i _ hlt H.out.bel).mono ?_); rintro e wc ⟨rfl, hb⟩; replace H := zd H hb; clear hb)
    | ((with_reducible apply z2z oneW H); (case hgd | ho | hx | hy => exact rfl); (case hi => repeat first|exact z5|apply z8); (case hj => omega); clear H; intro ws H _ _; simp only [qb] at H; go_simp))
   rw [z2i] at H
   go_roundw
   case rel => exact ⟨i + 1, by omega, by go_num, H.out⟩
   case measure => simp [intOf]; omega
  ·obtain rfl : i = 8 := by omega
   clear hlt hi
   rw [show ((8 : Nat) : Int) = 8 from rfl]
   have H := za (HR.like 0 (g := NZ g) rfl fun k hk => z3v _ _ _ _ hk)
   simp only [qb] at H
   clear HR
   go_wp2_with (first
    | ((with_reducible apply zr rowL H); (case hgd | ho | hx => exact rfl); (case hi => repeat first|exact z5|apply z8); intro _ _; go_simp)
    | ((with_reducible apply zj rowL H); (case hgd | ho | hx | hy => exact rfl); (case hi => repeat first|exact z5|apply z8); clear H; intro ws H _ _; simp only [qb] at H; go_simp))
   exact bodyPost_ret (zy 0 rowL rfl _ H rfl rfl) rfl ⟨rfl, H.out.bel⟩
def zN (f : Nat → Nat) (b : Nat) : Nat → Nat
 | 0 => b
 | i + 1 => (f i + zN f b i) / 72057594037927936 + if i = 3 then b else 0
def dgC (f : Nat → Nat) (b i : Nat) : Nat := (f i + zN f b i) % 72057594037927936
theorem z7s (f : Nat → Nat) (b : Nat) (w : World) (hb : ∀ i, i < 8 → f i + zN f b i < 18446744073709551616) (hb4 : zN f b 4 < 18446744073709551616) :
  Calls Tryz.prog 131 #[.agg (AZ .u64 8 (NZ f)), .int .u64 (b : Int), .func (.func 134) #[] #[]] w fun e w' => e = .returned (.tuple #[.agg (AZ .u64 8 (NZ (dgC f b))), .int .u64 (zN f b 8 : Int)]) ∧ Below w.heap.size w w' := by
 have HB := za hb
 have HB4 := za hb4
 clear hb hb4
 have H := za (Ow.start w)
 go_enter Tryz.func131, Tryz.ntmps131
 go_wp2_with (first
  | ((fail_if_success have := g1); (with_reducible apply zw H); (case hgd | ho | hx => exact rfl); clear H; intro w1 g1 H _ _; go_simp)
  | ((fail_if_success have := g2); (with_reducible apply ze nilL H); (case hgd | ho => exact rfl); clear H; intro w2 g2 H _ _; go_simp)
  | ((with_reducible apply zr rowL H); (case hgd | ho | hx => exact rfl); (case hi => repeat first|exact z5|apply z8); intro _ _; go_simp))
 go_step3
 go_wp2_with fail
 go_step3
 go_wp2_with (first
  | ((with_reducible apply zr rowL H); (case hgd | ho | hx => exact rfl); (case hi => repeat first|exact z5|apply z8); intro _ _; go_simp))
 go_loopg [7, 12] 8 (fun gk v7 v12 wr => ∃ i : Nat, i + gk = 8 ∧ v12 = .int .i64 i ∧ v7 = .int .u64 (zN f b i : Int) ∧ Ow w wr [(g2, zv 28 .u64 8 (mixZ i (NZ (dgC f b)) fun _ => 0)), (g1, zv 28 .u64 8 (NZ f))])
 case atStart => exact ⟨0, by omega, rfl, rfl, by rw [z22]; exact H.out⟩
 case round =>
  clear H
  obtain ⟨i, hig, rfl, rfl, HR⟩ := hrel
  cases gk with
  | zero =>
   obtain rfl : i = 8 := by omega
   clear hig
   rw [show ((8 : Nat) : Int) = 8 from rfl]
   have H := za (HR.like 0 (g := NZ (dgC f b)) rfl fun k hk => z3v _ _ _ _ hk)
   simp only [qb] at H
   obtain ⟨v, hv⟩ : ∃ v, zN f b 8 = v := ⟨_, rfl⟩
   rw [hv]
   have HW := za hv
   clear HR hv
   go_wp2_with (first
    | ((with_reducible apply zr rowL H); (case hgd | ho | hx => exact rfl); (case hi => repeat first|exact z5|apply z8); intro _ _; go_simp)
    | ((with_reducible apply zj rowL H); (case hgd | ho | hx | hy => exact rfl); (case hi => repeat first|exact z5|apply z8); clear H; intro ws H _ _; simp only [qb] at H; go_simp))
   rw [Exit.noGoto_ret]
   exact bodyPost_ret (z0c 0 rowL rfl _ H rfl rfl rfl) rfl ⟨by rw [HW.out]; rfl, H.out.bel⟩
  | succ go =>
   have hlt : i < 8 := by omega
   have hid : decide ((i : Int) < 8) = true := by simp; omega
   have iN : (i : Int) < 8 := by omega
   have hx8 := HB.out i hlt
   have hdg : NZ (dgC f b) i = (((f i + zN f b i) % 72057594037927936 : Nat) : Int) := rfl
   have hov : zN f b (i + 1) = (f i + zN f b i) / 72057594037927936 + if i = 3 then b else 0 := rfl
   have h4 : i = 3 → zN f b (i + 1) < 18446744073709551616 := fun e => by subst e; exact HB4.out
   obtain ⟨o, ho⟩ : ∃ o, zN f b i = o := ⟨_, rfl⟩
   obtain ⟨x, hx⟩ : ∃ x, f i = x := ⟨_, rfl⟩
   have hN : NZ f i = (x : Int) := by rw [← hx]; rfl
   rw [ho, hx] at hx8 hdg hov
   rw [ho]
   have HP := za (fun w => part_any x o w hx8)
   obtain ⟨r, hr⟩ : ∃ r, (x + o) % 72057594037927936 = r := ⟨_, rfl⟩
   obtain ⟨q, hq⟩ : ∃ q, (x + o) / 72057594037927936 = q := ⟨_, rfl⟩
   rw [hr, hq] at HP
   rw [hr] at hdg
   rw [hq] at hov
   have HDG := za hdg
   have HOV := za hov
   have H := za HR
   clear HR ho hx hr hq hdg hov hx8
   by_cases h3 : i = 3
   ·have d3 : ((i : Int) != 3) = false := by subst h3; rfl
    have hs := h4 h3
    rw [HOV.out, if_pos h3] at hs
    obtain ⟨s, hs'⟩ : ∃ s, q + b = s := ⟨_, rfl⟩
    have e1 : (q : Int) + (b : Int) = (s : Int) := by omega
    have e2 : IntKind.u64.wrap (s : Int) = (s : Int) := by rw [IntKind.wrap_u64]; omega
    have HS : Hid (zN f b (i + 1) = s) := za (by rw [HOV.out, if_pos h3]; exact hs')
    clear h4 hs hs' h3 HOV
    go_wp2_with (first
     | ((with_reducible apply z20 Tryz.underlying28 oneW); (case hgd | ho | hx | hy => exact rfl); (case hi => omega); intro _ _; go_simp)
     | ((with_reducible refine (HP.out _).mono ?_); rintro e wc ⟨rfl, rfl⟩)
     | ((with_reducible apply z2z oneW H); (case hgd | ho | hx | hy => exact rfl); (case hi => repeat first|exact z5|apply z8); (case hj => omega); clear H; intro ws H _ _; simp only [qb] at H; go_simp))
    rw [← HDG.out, z2i] at H
    go_roundg go
    case rel => exact ⟨i + 1, by omega, by go_num, by rw [HS.out], H.out⟩
    case measure => omega
   ·have d3 : ((i : Int) != 3) = true := by rw [bne_iff_ne]; omega
    have HS : Hid (zN f b (i + 1) = q) := za (by rw [HOV.out, if_neg h3, Nat.add_zero])
    clear h4 h3 HOV
    go_wp2_with (first
     | ((with_reducible apply z20 Tryz.underlying28 oneW); (case hgd | ho | hx | hy => exact rfl); (case hi => omega); intro _ _; go_simp)
     | ((with_reducible refine (HP.out _).mono ?_); rintro e wc ⟨rfl, rfl⟩)
     | ((with_reducible apply z2z oneW H); (case hgd | ho | hx | hy => exact rfl); (case hi => repeat first|exact z5|apply z8); (case hj => omega); clear H; intro ws H _ _; simp only [qb] at H; go_simp))
    rw [← HDG.out, z2i] at H
    go_roundg go
    case rel => exact ⟨i + 1, by omega, by go_num, by rw [HS.out], H.out⟩
    case measure => omega
def lv (f : Nat → Nat) : Nat → Nat
 | 0 => 0
 | n + 1 => lv f n + f n * 72057594037927936 ^ n
def Lim (f : Nat → Nat) : Prop := ∀ i, i < 8 → f i < 72057594037927940
theorem z9a {f g : Nat → Nat} : ∀ n, (∀ i, i < n → f i = g i) → lv f n = lv g n
 | 0, _ => rfl
 | n + 1, h => by unfold lv; rw [z9a n fun i hi => h i (by omega), h n (by omega)]
theorem y20 (f g : Nat → Nat) : ∀ n, lv (fun i => f i + g i) n = lv f n + lv g n
 | 0 => rfl
 | n + 1 => by unfold lv; rw [y20 f g n, Nat.add_mul]; omega
theorem z6i (f : Nat → Nat) (b : Nat) : ∀ n, lv f n + b + (if 4 ≤ n then b * 72057594037927936 ^ 4 else 0) = lv (dgC f b) n + zN f b n * 72057594037927936 ^ n
 | 0 => by simp [lv, zN]
 | n + 1 => by
  have ih := z6i f b n
  have hd : dgC f b n = (f n + zN f b n) % 72057594037927936 := rfl
  have ho : zN f b (n + 1) = (f n + zN f b n) / 72057594037927936 + if n = 3 then b else 0 := rfl
  have hx := Nat.mod_add_div (f n + zN f b n) 72057594037927936
  rw [← hd] at hx
  have hp : 72057594037927936 ^ (n + 1) = 72057594037927936 ^ n * 72057594037927936 := Nat.pow_succ _ _
  unfold lv
  rw [ho, hp]
  generalize (f n + zN f b n) / 72057594037927936 = q at *
  have h2 : f n * 72057594037927936 ^ n + zN f b n * 72057594037927936 ^ n = dgC f b n * 72057594037927936 ^ n + q * (72057594037927936 ^ n * 72057594037927936) := by
   rw [← Nat.add_mul, ← hx, Nat.add_mul]
   congr 1
   rw [Nat.mul_comm 72057594037927936 q, Nat.mul_assoc, Nat.mul_comm 72057594037927936]
  by_cases h3 : n = 3
  ·subst h3
   rw [if_neg (by omega)] at ih
   rw [if_pos (by omega), if_pos rfl, Nat.add_mul]
   omega
  ·rw [if_neg h3]
   simp only [Nat.add_zero]
   by_cases h4 : 4 ≤ n
   ·rw [if_pos h4] at ih
    rw [if_pos (by omega)]
    omega
   ·rw [if_neg h4] at ih
    rw [if_neg (by omega)]
    omega
theorem z8u (f : Nat → Nat) (b i : Nat) : dgC f b i < 72057594037927936 := Nat.mod_lt _ (by omega)
theorem ovC_le {f : Nat → Nat} (h : ∀ i, i < 8 → f i < 288230376151711740) : ∀ i, i ≤ 8 → zN f 0 i ≤ 3
 | 0, _ => by simp [zN]
 | i + 1, hi => by
  have ih := ovC_le h i (by omega)
  have hf := h i (by omega)
  show (f i + zN f 0 i) / 72057594037927936 + (if i = 3 then 0 else 0) ≤ 3
  rw [show (if i = 3 then 0 else 0) = 0 by split <;> rfl]
  omega
def z5m (l : Nat → Nat) (o : Nat) : Nat → Nat := fun i => if i = 0 then l i + o else if i = 4 then l i + o else l i
theorem y1w (f : Nat → Nat) : lv f 8 = f 0 + f 1 * 72057594037927936 ^ 1 + f 2 * 72057594037927936 ^ 2 + f 3 * 72057594037927936 ^ 3 + f 4 * 72057594037927936 ^ 4 + f 5 * 72057594037927936 ^ 5 + f 6 * 72057594037927936 ^ 6 + f 7 * 72057594037927936 ^ 7 := by
 simp only [lv]
 rw [Nat.zero_add, Nat.pow_zero, Nat.mul_one]
theorem wrap_gen (o l0 l1 l2 l3 l4 l5 l6 l7 b1 b2 b3 b4 b5 b6 b7 : Nat) : l0 + o + l1 * b1 + l2 * b2 + l3 * b3 + (l4 + o) * b4 + l5 * b5 + l6 * b6 + l7 * b7 = l0 + l1 * b1 + l2 * b2 + l3 * b3 + l4 * b4 + l5 * b5 + l6 * b6 + l7 * b7 + o * (1 + b4) := by
 rw [Nat.add_mul, Nat.mul_add, Nat.mul_one]
 omega
theorem wrapF_at (l : Nat → Nat) (o : Nat) : z5m l o 0 = l 0 + o ∧ z5m l o 1 = l 1 ∧ z5m l o 2 = l 2 ∧ z5m l o 3 = l 3 ∧ z5m l o 4 = l 4 + o ∧ z5m l o 5 = l 5 ∧ z5m l o 6 = l 6 ∧ z5m l o 7 = l 7 := ⟨rfl, rfl, rfl, rfl, rfl, rfl, rfl, rfl⟩
theorem y5r (l : Nat → Nat) (o : Nat) : lv (z5m l o) 8 = lv l 8 + o * (1 + 72057594037927936 ^ 4) := by
 obtain ⟨h0, h1, h2, h3, h4, h5, h6, h7⟩ := wrapF_at l o
 rw [y1w, y1w, h0, h1, h2, h3, h4, h5, h6, h7]
 exact wrap_gen o (l 0) (l 1) (l 2) (l 3) (l 4) (l 5) (l 6) (l 7) _ _ _ _ _ _ _
theorem z7l : pN + 1 + 72057594037927936 ^ 4 = 72057594037927936 ^ 8 := by decide +kernel
theorem carry_none {x y e : Nat} (h : x + 0 + e = y) (he : e = 0) : x = y := by omega
theorem wrap_sum {x y o p a b : Nat} (hp : p + 1 + a = b) (h : x = y + o * b) : x = y + o * (1 + a) + o * p := by
 rw [h, ← hp, Nat.mul_add, Nat.mul_add, Nat.mul_add]
 omega
theorem wrap_carry (f : Nat → Nat) : lv f 8 = lv (z5m (dgC f 0) (zN f 0 8)) 8 + zN f 0 8 * pN := by
 have h := carry_none (z6i f 0 8) (by rw [if_pos (by omega), Nat.zero_mul])
 rw [y5r]
 exact wrap_sum z7l h
theorem y4r {l : Nat → Nat} {o : Nat} (hl : ∀ i, l i < 72057594037927936) (ho : o ≤ 3) : Lim (z5m l o) := fun i _ => by
 have := hl i
 unfold z5m
 by_cases h0 : i = 0
 ·rw [if_pos h0]; omega
 ·rw [if_neg h0]
  by_cases h4 : i = 4
  ·rw [if_pos h4]; omega
  ·rw [if_neg h4]; omega
abbrev EV (f : Nat → Nat) : Value := .agg (AZ .u64 8 (NZ f))
theorem y2e (f : Nat → Int) : AZ .u64 8 f = #[.int .u64 (f 0), .int .u64 (f 1), .int .u64 (f 2), .int .u64 (f 3), .int .u64 (f 4), .int .u64 (f 5), .int .u64 (f 6), .int .u64 (f 7)] := by
 unfold AZ
 rfl
theorem built_E (f : Nat → Int) (w : World) : (Instr.build 30 #[(0, .agg (AZ .u64 8 f))]).run Tryz.prog w = .ok (.agg (AZ .u64 8 f)) w := by
 rw [y2e]
 go_simp
theorem built_E0 (w : World) : (Instr.build 30 #[]).run Tryz.prog w = .ok (.agg (AZ .u64 8 (NZ fun _ => 0))) w := by
 rw [y2e]
 go_simp
 simp [NZ]
section
variable {ops : Array Oper} {rest : List Oper} {o : Oper} {a : Act} {w : World} {Q : Exit → Act → World → Prop}
theorem z63 (hgd : o.guard = none) {x : Operand} (ho : o.op = .build 30 #[(0, x)]) {f : Nat → Int} (hx : a.eval x = .agg (AZ .u64 8 f))
  (k : ∀ K : Act → World → Prop, (∀ a w, wpList Tryz.prog ops Q rest a w → K a w) → K (a.put o.dst (.agg (AZ .u64 8 f))) w) : wpList Tryz.prog ops Q (o :: rest) a w :=
 wpList_plain hgd fun K hK => by
  unfold Oper.wp execOp
  simp only [ho, List.map_toArray, List.map_cons, List.map_nil, hx, Sem.run_bind, built_E, Result.andThen_ok]
  exact k K hK
theorem z2b (hgd : o.guard = none) (ho : o.op = .build 30 #[])
  (k : ∀ K : Act → World → Prop, (∀ a w, wpList Tryz.prog ops Q rest a w → K a w) → K (a.put o.dst (.agg (AZ .u64 8 (NZ fun _ => 0)))) w) : wpList Tryz.prog ops Q (o :: rest) a w :=
 wpList_plain hgd fun K hK => by
  unfold Oper.wp execOp
  simp only [ho, Array.map_empty, Sem.run_bind, built_E0, Result.andThen_ok]
  exact k K hK
end
theorem updZ_wrap (l : Nat → Nat) (o : Nat) : updZ (updZ (NZ l) 0 ((l 0 + o : Nat) : Int)) 4 ((l 4 + o : Nat) : Int) = NZ (z5m l o) := by
 funext i
 unfold updZ NZ z5m
 by_cases h4 : i = 4
 ·subst h4; rfl
 ·rw [if_neg h4]
  by_cases h0 : i = 0
  ·subst h0; rfl
  ·rw [if_neg h0, if_neg h0, if_neg h4]
theorem y4s (l : Nat → Nat) (o : Nat) (w : World) (h0 : l 0 + o < 18446744073709551616) (h4 : l 4 + o < 18446744073709551616) :
  Calls Tryz.prog 130 #[.agg (AZ .u64 8 (NZ l)), .int .u64 (o : Int)] w fun e w' => e = .returned (EV (z5m l o)) ∧ Below w.heap.size w w' := by
 have HU := za (updZ_wrap l o)
 obtain ⟨x, hx⟩ : ∃ x, l 0 = x := ⟨_, rfl⟩
 obtain ⟨y, hy⟩ : ∃ y, l 4 = y := ⟨_, rfl⟩
 have n0 : NZ l 0 = (x : Int) := by rw [← hx]; rfl
 have n4 : NZ l 4 = (y : Int) := by rw [← hy]; rfl
 have n4' : updZ (NZ l) 0 ((x + o : Nat) : Int) 4 = (y : Int) := n4
 rw [hx] at h0 HU
 rw [hy] at h4 HU
 obtain ⟨s, hs⟩ : ∃ s, x + o = s := ⟨_, rfl⟩
 obtain ⟨t, ht⟩ : ∃ t, y + o = t := ⟨_, rfl⟩
 have e1 : (x : Int) + (o : Int) = (s : Int) := by omega
 have e2 : (y : Int) + (o : Int) = (t : Int) := by omega
 have f1 : IntKind.u64.wrap (s : Int) = (s : Int) := by rw [IntKind.wrap_u64]; omega
 have f2 : IntKind.u64.wrap (t : Int) = (t : Int) := by rw [IntKind.wrap_u64]; omega
 rw [hs] at n4' HU
 rw [ht] at HU
 clear hx hy hs ht h0 h4
 have H := za (Ow.start w)
 go_enter Tryz.func130, Tryz.ntmps130
 go_wp2_with (first
  | ((with_reducible apply zw H); (case hgd | ho | hx => exact rfl); clear H; intro _ _ H _ _; go_simp)
  | ((with_reducible apply ze z9 H); (case hgd | ho => exact rfl); clear H; intro _ _ H _ _; go_simp)
  | ((with_reducible apply y1s oneW H); (case hgd | ho | hx => exact rfl); (case hi => repeat first|exact z5|apply z8); (case hj => omega); intro _ _; go_simp)
  | ((with_reducible apply z2z oneW H); (case hgd | ho | hx | hy => exact rfl); (case hi => repeat first|exact z5|apply z8); (case hj => omega); clear H; intro ws H _ _; simp only [qb, qc] at H; go_simp)
  | ((with_reducible apply zr rowL H); (case hgd | ho | hx => exact rfl); (case hi => repeat first|exact z5|apply z8); intro _ _; go_simp)
  | ((with_reducible apply z63); (case hgd | ho | hx => exact rfl); intro _ _; go_simp)
  | ((with_reducible apply zj zt H); (case hgd | ho | hx | hy => exact rfl); (case hi => repeat first|exact z5|apply z8); clear H; intro ws H _ _; simp only [qb] at H; go_simp))
 rw [HU.out] at H
 exact bodyPost_ret (zy 0 zt rfl _ H rfl rfl) rfl ⟨rfl, H.out.bel⟩
def prW (i : Nat) : Nat := if i = 4 then 72057594037927934 else 72057594037927935
structure Tp (w : World) : Prop where
 cells : ∀ i, i < 8 → w.cell? ⟨0, i, none⟩ = some (.int .u64 ((prW i : Nat) : Int))
theorem Tp.lt {w : World} (h : Tp w) : 0 < w.heap.size := block_lt_of_cell (h.cells 0 (by omega))
theorem Tp.below {w w' : World} (h : Tp w) (hb : Below w.heap.size w w') : Tp w' :=
 ⟨fun i hi => (hb.cell (p := ⟨_, i, none⟩) h.lt).trans (h.cells i hi)⟩
theorem y78 (i : Nat) : 72057594037927934 ≤ prW i ∧ prW i ≤ 72057594037927935 := by unfold prW; split <;> omega
theorem lv_prW : lv prW 8 = pN := by decide +kernel
theorem add1_any (i x y g : Nat) (w : World) (hi : i < 8) (hc : w.cell? ⟨g, i, none⟩ = some (.int .u64 (y : Int))) (h : x + y < 18446744073709551616) :
  Calls Tryz.prog 133 #[.int .i64 i, .int .u64 x, .pointer (some ⟨g, 0, none⟩)] w fun e w' => e = .returned (.int .u64 ((x + y : Nat) : Int)) ∧ w' = w := by
 obtain ⟨s, hs⟩ : ∃ s, x + y = s := ⟨_, rfl⟩
 have e1 : (x : Int) + (y : Int) = (s : Int) := by omega
 have e2 : IntKind.u64.wrap (s : Int) = (s : Int) := by rw [IntKind.wrap_u64]; omega
 have i8 : (i : Int) < 8 := by omega
 rw [hs]
 clear hs h hi
 go_enter Tryz.func133, Tryz.ntmps133
 go_wp2
 go_ret
 exact ⟨rfl, rfl⟩
theorem sub1_any (i x y g : Nat) (w : World) (hi : i < 8) (hT : Tp w) (hc : w.cell? ⟨g, i, none⟩ = some (.int .u64 (y : Int))) (hx : x < 72057594037927940) (hy : y < 72057594037927940) :
  Calls Tryz.prog 135 #[.int .i64 i, .int .u64 x, .pointer (some ⟨g, 0, none⟩)] w fun e w' => e = .returned (.int .u64 ((x + 2 * prW i - y : Nat) : Int)) ∧ Below w.heap.size w w' := by
 have hp := hT.cells i hi
 have bp := y78 i
 obtain ⟨q, hq⟩ : ∃ q, prW i = q := ⟨_, rfl⟩
 rw [hq] at hp bp
 obtain ⟨s, hs⟩ : ∃ s, x + 2 * q - y = s := ⟨_, rfl⟩
 obtain ⟨t, ht⟩ : ∃ t, 2 * q = t := ⟨_, rfl⟩
 obtain ⟨u, hu⟩ : ∃ u, x + t = u := ⟨_, rfl⟩
 have e1 : 2 * (q : Int) = (t : Int) := by omega
 have e2 : IntKind.u64.wrap (t : Int) = (t : Int) := by rw [IntKind.wrap_u64]; omega
 have e3 : (x : Int) + (t : Int) = (u : Int) := by omega
 have e4 : IntKind.u64.wrap (u : Int) = (u : Int) := by rw [IntKind.wrap_u64]; omega
 have e5 : (u : Int) - (y : Int) = (s : Int) := by omega
 have e6 : IntKind.u64.wrap (s : Int) = (s : Int) := by rw [IntKind.wrap_u64]; omega
 have i8 : (i : Int) < 8 := by omega
 rw [hq, hs]
 have HB := za (Below.drew (Below.refl w.heap.size w))
 clear hs ht hu hq hT hx hy hi bp
 go_enter Tryz.func135, Tryz.ntmps135
 go_wp2_with fail
 refine wp_region_still_lit (by kernel_rfl) (by kernel_rfl) ?_
 change wpStill _ _ w.drew (fun a' => Exit.then _ _ Exit.normal a' w.drew) _ _
 have hc' : w.drew.cell? ⟨g, i, none⟩ = some (.int .u64 (y : Int)) := hc
 have hp' : w.drew.cell? ⟨0, i, none⟩ = some (.int .u64 (q : Int)) := hp
 clear hc hp
 generalize w.drew = w2 at *
 iterate 12 still_step
 refine wpStill_nil ?_
 clear hc' hp' e1 e2 e3 e4 e5 e6
 go_wp2_with fail
 go_ret
 exact ⟨rfl, HB.out⟩
theorem y2h (s : Nat → Nat) (hs : ∀ i, i < 8 → s i < 288230376151711740) :
  ∃ d h : Nat → Nat, ∃ o : Nat, (∀ w, Calls Tryz.prog 131 #[.agg (AZ .u64 8 (NZ s)), .int .u64 0, .func (.func 134) #[] #[]] w fun e w' => e = .returned (.tuple #[.agg (AZ .u64 8 (NZ d)), .int .u64 (o : Int)]) ∧ Below w.heap.size w w') ∧
   (∀ w, Calls Tryz.prog 130 #[.agg (AZ .u64 8 (NZ d)), .int .u64 (o : Int)] w fun e w' => e = .returned (EV h) ∧ Below w.heap.size w w') ∧ Lim h ∧ lv h 8 % pN = lv s 8 % pN := by
 have ho := ovC_le hs
 refine ⟨dgC s 0, z5m (dgC s 0) (zN s 0 8), zN s 0 8, fun w => z7s s 0 w (fun i hi => ?_) ?_, fun w => y4s _ _ w ?_ ?_, y4r (z8u s 0) (ho 8 (by omega)), ?_⟩
 ·have h1 := ho i (by omega)
  have h2 := hs i hi
  omega
 ·have h1 := ho 4 (by omega)
  omega
 ·have h1 := ho 8 (by omega)
  have h2 := z8u s 0 0
  omega
 ·have h1 := ho 8 (by omega)
  have h2 := z8u s 0 4
  omega
 ·rw [wrap_carry s, Nat.add_mul_mod_self_right]
theorem add_any (f g : Nat → Nat) (w : World) (hf : Lim f) (hg : Lim g) :
  Calls Tryz.prog 72 #[EV f, EV g] w fun e w' => ∃ h, e = .returned (EV h) ∧ Lim h ∧ lv h 8 % pN = (lv f 8 + lv g 8) % pN ∧ Below w.heap.size w w' := by
 obtain ⟨d, h, o, h1, h2, h3, h4⟩ := y2h (fun i => f i + g i) (fun i hi => by have := hf i hi; have := hg i hi; show f i + g i < _; omega)
 rw [y20] at h4
 have HC := za h1
 have HW := za h2
 have HL := za (And.intro h3 h4)
 have HF := za (And.intro hf hg)
 clear h1 h2 h3 h4 hf hg
 have H := za (Ow.start w)
 go_enter Tryz.func72, Tryz.ntmps72
 go_wp2_with (first
  | ((fail_if_success have := g1); (with_reducible apply zw H); (case hgd | ho | hx => exact rfl); clear H; intro w1 g1 H _ _; go_simp)
  | ((fail_if_success have := g2); (with_reducible apply zw H); (case hgd | ho | hx => exact rfl); clear H; intro w2 g2 H _ _; go_simp)
  | ((fail_if_success have := g3); (with_reducible apply ze z9 H); (case hgd | ho => exact rfl); clear H; intro w3 g3 H _ _; go_simp)
  | ((with_reducible apply zr rowL H); (case hgd | ho | hx => exact rfl); (case hi => repeat first|exact z5|apply z8); intro _ _; go_simp))
 refine (y13 133 #[.pointer (some ⟨g2, 0, none⟩)] f (fun i => f i + g i) w3 (z3g Tryz.func133 (by kernel_rfl) rfl) (fun i W hi hB => ?_)).mono ?_
 ·refine (add1_any i (f i) (g i) g2 W hi ((H.out.call hB).cell 1 rfl i hi) ?_).mono (fun e W' hh => ⟨hh.1, hh.2 ▸ Below.refl _ _⟩)
  have := HF.out.1 i hi
  have := HF.out.2 i hi
  omega
 rintro e wc ⟨rfl, hb⟩
 replace H := zd H hb
 clear hb HF
 go_wp2_with (first
  | ((with_reducible refine (HC.out _).mono ?_); rintro e wc ⟨rfl, hb⟩; replace H := zd H hb; clear hb)
  | ((with_reducible refine (HW.out _).mono ?_); rintro e wc ⟨rfl, hb⟩; replace H := zd H hb; clear hb)
  | ((with_reducible apply zj zt H); (case hgd | ho | hx | hy => exact rfl); (case hi => repeat first|exact z5|apply z8); clear H; intro ws H _ _; simp only [qb] at H; go_simp))
 exact bodyPost_ret (zy 0 zt rfl _ H rfl rfl) rfl ⟨h, rfl, HL.out.1, HL.out.2, H.out.bel⟩
theorem lv_less (f g : Nat → Nat) (hg : ∀ i, i < 8 → g i ≤ f i + 2 * prW i) : lv (fun i => f i + 2 * prW i - g i) 8 + lv g 8 = lv f 8 + 2 * pN := by
 rw [← y20, z9a (g := fun i => f i + (prW i + prW i)) 8 (fun i hi => by have := hg i hi; show f i + 2 * prW i - g i + g i = f i + (prW i + prW i); omega), y20, y20, lv_prW]
 omega
theorem y3v (f g : Nat → Nat) (w : World) (hT : Tp w) (hf : Lim f) (hg : Lim g) :
  Calls Tryz.prog 73 #[EV f, EV g] w fun e w' => ∃ h, e = .returned (EV h) ∧ Lim h ∧ (lv h 8 + lv g 8) % pN = lv f 8 % pN ∧ Below w.heap.size w w' := by
 obtain ⟨d, h, o, h1, h2, h3, h4⟩ := y2h (fun i => f i + 2 * prW i - g i) (fun i hi => by have := hf i hi; have := y78 i; show f i + 2 * prW i - g i < _; omega)
 have h5 : (lv h 8 + lv g 8) % pN = lv f 8 % pN := by
  rw [Nat.add_mod, h4, ← Nat.add_mod, lv_less f g (fun i hi => by have := hg i hi; have := y78 i; omega), Nat.add_mul_mod_self_right]
 have HC := za h1
 have HW := za h2
 have HL := za (And.intro h3 h5)
 have HF := za (And.intro hf hg)
 have HT := za hT
 clear h1 h2 h3 h4 h5 hf hg hT
 have H := za (Ow.start w)
 go_enter Tryz.func73, Tryz.ntmps73
 go_wp2_with (first
  | ((fail_if_success have := g1); (with_reducible apply zw H); (case hgd | ho | hx => exact rfl); clear H; intro w1 g1 H _ _; go_simp)
  | ((fail_if_success have := g2); (with_reducible apply zw H); (case hgd | ho | hx => exact rfl); clear H; intro w2 g2 H _ _; go_simp)
  | ((fail_if_success have := g3); (with_reducible apply ze z9 H); (case hgd | ho => exact rfl); clear H; intro w3 g3 H _ _; go_simp)
  | ((with_reducible apply zr rowL H); (case hgd | ho | hx => exact rfl); (case hi => repeat first|exact z5|apply z8); intro _ _; go_simp))
 refine (y13 135 #[.pointer (some ⟨g2, 0, none⟩)] f (fun i => f i + 2 * prW i - g i) w3 (z3g Tryz.func135 (by kernel_rfl) rfl) (fun i W hi hB => ?_)).mono ?_
 ·exact sub1_any i (f i) (g i) g2 W hi (HT.out.below (H.out.call hB).bel) ((H.out.call hB).cell 1 rfl i hi) (HF.out.1 i hi) (HF.out.2 i hi)
 rintro e wc ⟨rfl, hb⟩
 replace H := zd H hb
 clear hb HF
 go_wp2_with (first
  | ((with_reducible refine (HC.out _).mono ?_); rintro e wc ⟨rfl, hb⟩; replace H := zd H hb; clear hb)
  | ((with_reducible refine (HW.out _).mono ?_); rintro e wc ⟨rfl, hb⟩; replace H := zd H hb; clear hb)
  | ((with_reducible apply zj zt H); (case hgd | ho | hx | hy => exact rfl); (case hi => repeat first|exact z5|apply z8); clear H; intro ws H _ _; simp only [qb] at H; go_simp))
 exact bodyPost_ret (zy 0 zt rfl _ H rfl rfl) rfl ⟨h, rfl, HL.out.1, HL.out.2, H.out.bel⟩
theorem y5u : Lim fun _ => 0 := fun _ _ => by show 0 < _; omega
theorem z8e : ∀ n, lv (fun _ => 0) n = 0
 | 0 => rfl
 | n + 1 => by unfold lv; rw [z8e n, Nat.zero_mul]
theorem y8n (f : Nat → Nat) (w : World) (hT : Tp w) (hf : Lim f) :
  Calls Tryz.prog 113 #[EV f] w fun e w' => ∃ h, e = .returned (EV h) ∧ Lim h ∧ (lv h 8 + lv f 8) % pN = 0 ∧ Below w.heap.size w w' := by
 have HF := za hf
 have HT := za hT
 clear hf hT
 have H := za (Ow.start w)
 go_enter Tryz.func113, Tryz.ntmps113
 go_wp2_with (first
  | ((with_reducible apply zw H); (case hgd | ho | hx => exact rfl); clear H; intro _ _ H _ _; go_simp)
  | ((fail_if_success have := g2); (with_reducible apply ze z9 H); (case hgd | ho => exact rfl); clear H; intro w2 g2 H _ _; go_simp)
  | ((with_reducible apply z2b); (case hgd | ho => exact rfl); intro _ _; go_simp)
  | ((with_reducible apply zr zt H); (case hgd | ho | hx => exact rfl); (case hi => repeat first|exact z5|apply z8); intro _ _; go_simp))
 refine (y3v (fun _ => 0) f w2 (HT.out.below H.out.bel) y5u HF.out).mono ?_
 rintro e wc ⟨h, rfl, hl, hv, hb⟩
 rw [z8e, Nat.zero_mod] at hv
 have HL := za (And.intro hl hv)
 replace H := zd H hb
 clear hb hl hv
 go_wp2_with (first
  | ((with_reducible apply zj zt H); (case hgd | ho | hx | hy => exact rfl); (case hi => repeat first|exact z5|apply z8); clear H; intro ws H _ _; simp only [qb] at H; go_simp))
 exact bodyPost_ret (zy 0 zt rfl _ H rfl rfl) rfl ⟨h, rfl, HL.out.1, HL.out.2, H.out.bel⟩
section
variable {P : Program} {o : Oper} {a : Act} {w w0 : World} {l : List (Nat × Obj)} {K : Act → World → Prop} {Q : Exit → Act → World → Prop} {t : TypeId} {k : IntKind} {n : Nat}
theorem z1o (dd : Tmp) (hd : o.dst = some dd) (hz : ∀ w, (zeroValue t).run P w = .ok (.agg (AZ k n fun _ => 0)) w) (H : Ow w0 w l) (ho : o.op = .alloc t)
  (h : ∀ w' g, Ow w0 w' ((g, zv t k n fun _ => 0) :: l) → K (a.put (some dd) (.pointer (some ⟨g, 0, none⟩))) w') : o.wp P a w K Q := by
 unfold Oper.wp execOp
 simp only [ho, Instr.alloc, Sem.run_bind, hz, Result.andThen_ok, newVar, Value.cells]
 simp [go_sem]
 show K (a.put o.dst _) _
 rw [hd]
 exact h _ _ (H.alloc _)
end
def lF (x i : Nat) : Nat := x / 72057594037927936 ^ i % 72057594037927936
theorem lv_lt {f : Nat → Nat} (h : ∀ i, f i < 72057594037927936) : ∀ n, lv f n < 72057594037927936 ^ n
 | 0 => by rw [show lv f 0 = 0 from rfl]; exact Nat.pow_pos (by omega)
 | n + 1 => by
  have ih := lv_lt h n
  have hn := h n
  rw [show lv f (n + 1) = lv f n + f n * 72057594037927936 ^ n from rfl, Nat.pow_succ]
  have h2 := Nat.mul_le_mul_right (72057594037927936 ^ n) (show f n ≤ 72057594037927935 by omega)
  generalize 72057594037927936 ^ n = b at *
  omega
theorem lF_lv {f : Nat → Nat} (h : ∀ i, f i < 72057594037927936) : ∀ n i, i < n → lF (lv f n) i = f i
 | 0, _, hi => by omega
 | n + 1, i, hi => by
  have hb := lv_lt h n
  have hn := h n
  have hpos : 0 < 72057594037927936 ^ i := Nat.pow_pos (by omega)
  unfold lF
  rw [show lv f (n + 1) = lv f n + f n * 72057594037927936 ^ n from rfl, Nat.mul_comm (f n)]
  by_cases e : i = n
  ·subst e
   rw [Nat.add_mul_div_left _ _ hpos, Nat.div_eq_of_lt hb, Nat.zero_add, Nat.mod_eq_of_lt hn]
  ·have ih := lF_lv h n i (by omega)
   unfold lF at ih
   obtain ⟨k, rfl⟩ : ∃ k, n = i + (k + 1) := ⟨n - i - 1, by omega⟩
   rw [show 72057594037927936 ^ (i + (k + 1)) = 72057594037927936 ^ i * (72057594037927936 * 72057594037927936 ^ k) by rw [Nat.pow_add, Nat.pow_succ, Nat.mul_comm (72057594037927936 ^ k)], Nat.mul_assoc, Nat.add_mul_div_left _ _ hpos, Nat.mul_assoc, Nat.add_mul_mod_self_left]
   exact ih
theorem lv_lF (x : Nat) : ∀ n, lv (lF x) n = x % 72057594037927936 ^ n
 | 0 => by rw [show lv (lF x) 0 = 0 from rfl, Nat.pow_zero, Nat.mod_one]
 | n + 1 => by
  rw [show lv (lF x) (n + 1) = lv (lF x) n + lF x n * 72057594037927936 ^ n from rfl, lv_lF x n, Nat.pow_succ, Nat.mod_mul, Nat.mul_comm]
  rfl
theorem lF_lt (x i : Nat) : lF x i < 72057594037927936 := Nat.mod_lt _ (by omega)
theorem lim_gen {l0 l1 l2 l3 l4 l5 l6 l7 : Nat} (h0 : l0 < 72057594037927940) (h1 : l1 < 72057594037927940) (h2 : l2 < 72057594037927940) (h3 : l3 < 72057594037927940) (h4 : l4 < 72057594037927940) (h5 : l5 < 72057594037927940) (h6 : l6 < 72057594037927940) (h7 : l7 < 72057594037927940) :
  l0 + l1 * 72057594037927936 ^ 1 + l2 * 72057594037927936 ^ 2 + l3 * 72057594037927936 ^ 3 + l4 * 72057594037927936 ^ 4 + l5 * 72057594037927936 ^ 5 + l6 * 72057594037927936 ^ 6 + l7 * 72057594037927936 ^ 7 < 2 * 726838724295606890549323807888004534353641360687318060281490199180612328166730772686396383698676545930088884461843637361053498018365439 := by
 omega
theorem lv_lim {f : Nat → Nat} (h : Lim f) : lv f 8 < 2 * pN := by
 rw [y1w]
 exact lim_gen (h 0 (by omega)) (h 1 (by omega)) (h 2 (by omega)) (h 3 (by omega)) (h 4 (by omega)) (h 5 (by omega)) (h 6 (by omega)) (h 7 (by omega))
theorem y8g {f : Nat → Nat} {b : Nat} (h : Lim f) (hb : b ≤ 1) : ∀ i, i ≤ 8 → zN f b i ≤ 2
 | 0, _ => by rw [show zN f b 0 = b from rfl]; omega
 | i + 1, hi => by
  have ih := y8g h hb i (by omega)
  have hf := h i (by omega)
  rw [show zN f b (i + 1) = (f i + zN f b i) / 72057594037927936 + if i = 3 then b else 0 from rfl]
  split <;> omega
def exN (f : Nat → Nat) : Nat := if lv f 8 < pN then 0 else 1
theorem ex_gen {v d o p a b : Nat} (hp : p + 1 + a = b) (hv : v < 2 * p) (hd : d < b) (h : v + 1 + a = d + o * b) : o = if v < p then 0 else 1 := by
 by_cases hl : v < p
 ·rw [if_pos hl]
  rcases Nat.eq_zero_or_pos o with h0 | h0
  ·exact h0
  ·have := Nat.mul_le_mul_right b h0
   omega
 ·rw [if_neg hl]
  rcases (by omega : o = 0 ∨ o = 1 ∨ 2 ≤ o) with h0 | h0 | h0
  ·subst h0; omega
  ·exact h0
  ·have := Nat.mul_le_mul_right b h0
   omega
theorem ov_ex {f : Nat → Nat} (h : Lim f) : zN f 1 8 = exN f := by
 have h1 := z6i f 1 8
 rw [if_pos (by omega), Nat.one_mul] at h1
 exact ex_gen z7l (lv_lim h) (lv_lt (z8u f 1) 8) h1
theorem least_gen {v d o p a b e : Nat} (hp : p + 1 + a = b) (hv : v < 2 * p) (hd : d < b) (he : e = if v < p then 0 else 1) (h : v + e + e * a = d + o * b) : d = v % p := by
 by_cases hl : v < p
 ·rw [if_pos hl] at he
  subst he
  rw [Nat.mod_eq_of_lt hl]
  rcases Nat.eq_zero_or_pos o with h0 | h0
  ·subst h0; omega
  ·have := Nat.mul_le_mul_right b h0
   omega
 ·rw [if_neg hl] at he
  subst he
  rw [Nat.mod_eq_sub_mod (by omega), Nat.mod_eq_of_lt (by omega)]
  rcases (by omega : o = 0 ∨ o = 1 ∨ 2 ≤ o) with h0 | h0 | h0
  ·subst h0; omega
  ·subst h0; omega
  ·have := Nat.mul_le_mul_right b h0
   omega
theorem least_lv {f : Nat → Nat} (h : Lim f) : lv (dgC f (exN f)) 8 = lv f 8 % pN := by
 have h1 := z6i f (exN f) 8
 rw [if_pos (by omega)] at h1
 exact least_gen z7l (lv_lim h) (lv_lt (z8u f _) 8) rfl h1
theorem least_limbs {f : Nat → Nat} (h : Lim f) : AZ .u64 8 (NZ (dgC f (exN f))) = AZ .u64 8 (NZ (lF (lv f 8 % pN))) :=
 z1w fun i hi => by
  unfold NZ
  rw [← least_lv h, lF_lv (z8u f _) 8 i hi]
theorem exN_le (f : Nat → Nat) : exN f ≤ 1 := by unfold exN; split <;> omega
theorem z6l (f : Nat → Nat) (w : World) (hf : Lim f) :
  Calls Tryz.prog 121 #[EV f] w fun e w' => e = .returned (.int .u64 (exN f : Int)) ∧ Below w.heap.size w w' := by
 have ho := y8g hf (b := 1) (by omega)
 have HC : Hid (∀ w, Calls Tryz.prog 131 #[.agg (AZ .u64 8 (NZ f)), .int .u64 1, .func (.func 134) #[] #[]] w fun e w' => e = .returned (.tuple #[.agg (AZ .u64 8 (NZ (dgC f 1))), .int .u64 (zN f 1 8 : Int)]) ∧ Below w.heap.size w w') := za (fun w => z7s f 1 w (fun i hi => by have := hf i hi; have := ho i (by omega); omega) (by have := ho 4 (by omega); omega))
 rw [ov_ex hf] at HC
 obtain ⟨x, hx⟩ : ∃ x, exN f = x := ⟨_, rfl⟩
 rw [hx] at HC ⊢
 clear ho hf hx
 have H := za (Ow.start w)
 go_enter Tryz.func121, Tryz.ntmps121
 go_wp2_with (first
  | ((with_reducible apply zw H); (case hgd | ho | hx => exact rfl); clear H; intro _ _ H _ _; go_simp)
  | ((with_reducible apply zr rowL H); (case hgd | ho | hx => exact rfl); (case hi => repeat first|exact z5|apply z8); intro _ _; go_simp)
  | ((with_reducible refine (HC.out _).mono ?_); rintro e wc ⟨rfl, hb⟩; replace H := zd H hb; clear hb)
  | ((with_reducible apply ze nilL H); (case hgd | ho => exact rfl); clear H; intro _ _ H _ _; go_simp)
  | ((with_reducible apply zj rowL H); (case hgd | ho | hx | hy => exact rfl); (case hi => repeat first|exact z5|apply z8); clear H; intro ws H _ _; simp only [qb] at H; go_simp))
 go_ret
 exact ⟨rfl, H.out.bel⟩
theorem y22 (f : Nat → Nat) (w : World) (hf : Lim f) :
  Calls Tryz.prog 141 #[EV f] w fun e w' => e = .returned (.agg (AZ .u64 8 (NZ (lF (lv f 8 % pN))))) ∧ Below w.heap.size w w' := by
 have ho := y8g hf (exN_le f)
 have HC := za (fun w => z7s f (exN f) w (fun i hi => by have := hf i hi; have := ho i (by omega); omega) (by have := ho 4 (by omega); omega))
 have HD := za (least_limbs hf)
 have HF := za hf
 obtain ⟨x, hx⟩ : ∃ x, exN f = x := ⟨_, rfl⟩
 have HEX := za hx
 rw [hx] at HC HD
 obtain ⟨d, hd⟩ : ∃ d, dgC f x = d := ⟨_, rfl⟩
 obtain ⟨o, ho'⟩ : ∃ o, zN f x 8 = o := ⟨_, rfl⟩
 rw [hd, ho'] at HC
 rw [hd] at HD
 clear ho hf hx hd ho'
 have H := za (Ow.start w)
 go_enter Tryz.func141, Tryz.ntmps141
 go_wp2_with (first
  | ((fail_if_success have := g1); (with_reducible apply zw H); (case hgd | ho | hx => exact rfl); clear H; intro w1 g1 H _ _; go_simp)
  | ((with_reducible apply ze nilL H); (case hgd | ho => exact rfl); clear H; intro _ _ H _ _; go_simp))
 refine wp_region_noPanic ?_
 refine wp_region_held_drew (S := fun W => W.heap[g1]? = some (zv 30 .u64 8 (NZ f))) (by kernel_rfl) (H.out.drew.row 1 rfl) (fun hH => ?_)
 replace H := za H.out.drew
 generalize World.drew _ = w8 at *
 refine zh 0 6 (.pointer (some ⟨g1, 0, none⟩)) hH ?_
 refine zk 1 7 rowL rfl rfl rfl hH rfl rfl (fun _ h => h) ?_
 refine zk 2 8 zt rfl rfl rfl hH rfl rfl (fun _ h => h) ?_
 refine zK [3, 8] (zG rfl (fun K hK => ?_) (zG rfl (fun K hK => ?_) zJ))
 ·skip
  go_simp
  refine (z6l f _ HF.out).mono ?_
  rintro e we ⟨rfl, hb⟩
  rw [HEX.out]
  replace H := zd H hb
  refine hK.out _ _ (H.out.row 1 rfl) (fun hH => ?_)
  try simp only [Act.put, qa, qb, qc]
  refine zK [4, 8] (zG rfl (fun K hK => ?_) (zG rfl (fun K hK => ?_) zJ))
  ·skip
   go_simp
   refine (HC.out _).mono ?_
   rintro e wc ⟨rfl, hb⟩
   replace H := zd H hb
   refine hK.out _ _ (H.out.row 1 rfl) (fun hH => ?_)
   refine zh 5 5 (.tuple #[.agg (AZ .u64 8 (NZ d)), .int .u64 (o : Int)]) hH ?_
   refine zh 6 11 (.agg (AZ .u64 8 (NZ d))) hH ?_
   refine zh 7 12 (.int .u64 (o : Int)) hH ?_
   refine zn 8 rfl fun K hK => ?_
   refine z1o 3 rfl nilL H.out rfl ?_
   intro w3 g3 H3
   replace H := za H3
   refine hK.out _ _ (H.out.row 2 rfl) (fun hH => ?_)
   refine zn 9 rfl fun K hK => ?_
   refine zl 0 rowL H.out rfl rfl rfl rfl ?_
   intro ws HS
   simp only [qb] at HS
   replace H := za HS
   refine hK.out _ _ (H.out.row 2 rfl) (fun hH => ?_)
   try simp only [Act.put, qa]
   refine zh 10 4 (.int .u64 (o : Int)) hH ?_
   refine zm ?_
   go_wp2_with (first
    | ((with_reducible apply zr rowL H); (case hgd | ho | hx => exact rfl); (case hi => repeat first|exact z5|apply z8); intro _ _; go_simp)
    | ((with_reducible apply zj rowL H); (case hgd | ho | hx | hy => exact rfl); (case hi => repeat first|exact z5|apply z8); clear H; intro ws H _ _; simp only [qb, qc] at H; go_simp))
   exact bodyPost_ret (zy 1 rowL rfl _ H rfl rfl) rfl ⟨by rw [HD.out], H.out.bel⟩
  ·skip
   refine z1o 3 rfl nilL H.out rfl ?_
   intro w3 g3 H3
   replace H := za H3
   refine hK.out _ _ (H.out.row 2 rfl) (fun hH => ?_)
   refine zn 4 rfl fun K hK => ?_
   go_simp
   refine (HC.out _).mono ?_
   rintro e wc ⟨rfl, hb⟩
   replace H := zd H hb
   refine hK.out _ _ (H.out.row 2 rfl) (fun hH => ?_)
   refine zh 5 5 (.tuple #[.agg (AZ .u64 8 (NZ d)), .int .u64 (o : Int)]) hH ?_
   refine zh 6 11 (.agg (AZ .u64 8 (NZ d))) hH ?_
   refine zh 7 12 (.int .u64 (o : Int)) hH ?_
   refine zn 9 rfl fun K hK => ?_
   refine zl 0 rowL H.out rfl rfl rfl rfl ?_
   intro ws HS
   simp only [qb] at HS
   replace H := za HS
   refine hK.out _ _ (H.out.row 2 rfl) (fun hH => ?_)
   try simp only [Act.put, qa]
   refine zh 10 4 (.int .u64 (o : Int)) hH ?_
   refine zm ?_
   go_wp2_with (first
    | ((with_reducible apply zr rowL H); (case hgd | ho | hx => exact rfl); (case hi => repeat first|exact z5|apply z8); intro _ _; go_simp)
    | ((with_reducible apply zj rowL H); (case hgd | ho | hx | hy => exact rfl); (case hi => repeat first|exact z5|apply z8); clear H; intro ws H _ _; simp only [qb, qc] at H; go_simp))
   exact bodyPost_ret (zy 1 rowL rfl _ H rfl rfl) rfl ⟨by rw [HD.out], H.out.bel⟩
 ·skip
  refine z1o 3 rfl nilL H.out rfl ?_
  intro w3 g3 H3
  replace H := za H3
  refine hK.out _ _ (H.out.row 2 rfl) (fun hH => ?_)
  refine zn 3 rfl fun K hK => ?_
  go_simp
  refine (z6l f _ HF.out).mono ?_
  rintro e we ⟨rfl, hb⟩
  rw [HEX.out]
  replace H := zd H hb
  refine hK.out _ _ (H.out.row 2 rfl) (fun hH => ?_)
  refine zn 4 rfl fun K hK => ?_
  go_simp
  refine (HC.out _).mono ?_
  rintro e wc ⟨rfl, hb⟩
  replace H := zd H hb
  refine hK.out _ _ (H.out.row 2 rfl) (fun hH => ?_)
  try simp only [Act.put, qa, qb, qc]
  refine zh 5 5 (.tuple #[.agg (AZ .u64 8 (NZ d)), .int .u64 (o : Int)]) hH ?_
  refine zh 6 11 (.agg (AZ .u64 8 (NZ d))) hH ?_
  refine zh 7 12 (.int .u64 (o : Int)) hH ?_
  refine zn 9 rfl fun K hK => ?_
  refine zl 0 rowL H.out rfl rfl rfl rfl ?_
  intro ws HS
  simp only [qb] at HS
  replace H := za HS
  refine hK.out _ _ (H.out.row 2 rfl) (fun hH => ?_)
  try simp only [Act.put, qa]
  refine zh 10 4 (.int .u64 (o : Int)) hH ?_
  refine zm ?_
  go_wp2_with (first
   | ((with_reducible apply zr rowL H); (case hgd | ho | hx => exact rfl); (case hi => repeat first|exact z5|apply z8); intro _ _; go_simp)
   | ((with_reducible apply zj rowL H); (case hgd | ho | hx | hy => exact rfl); (case hi => repeat first|exact z5|apply z8); clear H; intro ws H _ _; simp only [qb, qc] at H; go_simp))
  exact bodyPost_ret (zy 1 rowL rfl _ H rfl rfl) rfl ⟨by rw [HD.out], H.out.bel⟩
def BlkB (n : Nat) (f : Nat → BitVec 8) : Obj := .cells (AB n f) 5
theorem Ow.byte {w W : World} {l : List (Nat × Obj)} (h : Ow w W l) (i : Nat) {b n : Nat} {f : Nat → BitVec 8} (hi : l[i]? = some (b, BlkB n f)) (j : Nat) (v : BitVec 8) : Ow w (W.setCell ⟨b, j, none⟩ (U v)) (l.set i (b, BlkB n (upd8 f j v))) := by
 have hr : RowB W b n f := h.row i hi
 exact h.put i hi ((Below.refl b W).setCell (p := ⟨b, j, none⟩) (Nat.le_refl b) _) (fun c hc => heap_setCell_other _ _ _ _ hc) (hr.setCell j v)
section
variable {ops : Array Oper} {rest : List Oper} {o : Oper} {a : Act} {w w0 : World} {l : List (Nat × Obj)} {Q : Exit → Act → World → Prop}
theorem own_make (H : Hid (Ow w0 w l)) (hgd : o.guard = none) {x y : Operand} (ho : o.op = .makeSlice 22 x y) {c : Nat} (hx : a.eval x = .int .i64 (c : Int)) (hy : a.eval y = .int .i64 (c : Int)) (hc : c ≤ 1000000)
  (k : ∀ w' g, Hid (Ow w0 w' ((g, BlkB c fun _ => 0) :: l)) → ∀ K : Act → World → Prop, (∀ a w, wpList Tryz.prog ops Q rest a w → K a w) → K (a.put o.dst (.slice (some ⟨g, 0, none⟩) c c)) w') : wpList Tryz.prog ops Q (o :: rest) a w :=
 y5x hgd ho hx hy (Nat.le_refl c) hc (k _ _ (za (H.out.alloc _)))
end
theorem byte_lF (x i : Nat) : lF x (i / 7) / 2 ^ (i % 7 * 8) % 256 = x / 256 ^ i % 256 := by
 unfold lF
 rw [pow_56]
 have h1 : x / 256 ^ i = x / 256 ^ (7 * (i / 7)) / 256 ^ (i % 7) := by
  rw [Nat.div_div_eq_div_mul, ← Nat.pow_add]
  congr 2
  omega
 rw [h1]
 generalize x / 256 ^ (7 * (i / 7)) = y
 have hr : i % 7 < 7 := Nat.mod_lt _ (by omega)
 generalize i % 7 = r at *
 obtain rfl | rfl | rfl | rfl | rfl | rfl | rfl : r = 0 ∨ r = 1 ∨ r = 2 ∨ r = 3 ∨ r = 4 ∨ r = 5 ∨ r = 6 := by omega
 all_goals omega
def mix8 (i : Nat) (f g : Nat → BitVec 8) : Nat → BitVec 8 := fun k => if k < i then f k else g k
theorem mix8_zero (f g : Nat → BitVec 8) : mix8 0 f g = g := by funext k; simp [mix8]
theorem mix8_upd (i : Nat) (f g : Nat → BitVec 8) : upd8 (mix8 i f g) i (f i) = mix8 (i + 1) f g := by
 funext k
 unfold upd8 mix8
 by_cases e : k = i
 ·subst e; simp
 ·by_cases h : k < i
  ·rw [if_neg e, if_pos h, if_pos (by omega)]
  ·rw [if_neg e, if_neg h, if_neg (by omega)]
theorem spell_any (x : Nat) (w : World) :
  Calls Tryz.prog 140 #[.agg (AZ .u64 8 (NZ (lF x)))] w fun e w' => ∃ v, e = .returned v ∧ New w w' v 56 (bX x) ∧ Below w.heap.size w w' := by
 have H := za (Ow.start w)
 go_enter Tryz.func140, Tryz.ntmps140
 go_wp2_with (first
  | ((fail_if_success have := g1); (with_reducible apply zw H); (case hgd | ho | hx => exact rfl); clear H; intro w1 g1 H _ _; go_simp)
  | ((with_reducible apply own_make H); (case hgd | ho => exact rfl); (case hx => exact (rfl : _ = Value.int .i64 ((56 : Nat) : Int))); (case hy => exact rfl); (case hc => omega); clear H; intro w2 g2 H _ _; go_simp))
 go_loopw [8] (fun v wr => ∃ i : Nat, i ≤ 56 ∧ v = .int .i64 i ∧ Ow w wr [(g2, BlkB 56 (mix8 i (bX x) fun _ => 0)), (g1, zv 28 .u64 8 (NZ (lF x)))]) (fun v _ => 56 - (intOf v).toNat)
 case atStart => exact ⟨0, by omega, rfl, by rw [mix8_zero]; exact H.out⟩
 case round =>
  clear H
  obtain ⟨i, hi, rfl, HR⟩ := hrel
  by_cases hlt : i < 56
  ·have hid : decide ((i : Int) < 56) = true := by simp; omega
   have iN : (i : Int) < 56 := by omega
   have H1 := za HR
   clear HR
   go_wp2_with fail
   refine wp_region_still_tail 11 (by kernel_rfl) (by kernel_rfl) ?_
   change wpStill _ _ wr.drew (fun a' => wpList _ _ _ _ a' wr.drew) _ _
   have D := za H1.out.drew
   clear H1
   generalize wr.drew = w8 at *
   obtain ⟨q, hq⟩ : ∃ q, i / 7 = q := ⟨_, rfl⟩
   obtain ⟨s, hs⟩ : ∃ s, i % 7 * 8 = s := ⟨_, rfl⟩
   have eq1 : (i : Int) / 7 = (q : Int) := by omega
   have q8 : (q : Int) < 8 := by omega
   have f1 : IntKind.i64.wrap (q : Int) = (q : Int) := IntWalk.i64_in _ (by omega)
   have hc := D.out.cell 1 rfl q (by omega)
   have hz : w8.frozen? ⟨g2, i, none⟩ = false := (show RowB w8 g2 56 _ from D.out.row 0 rfl).thaw i
   have hc0 := (show RowB w8 g2 56 _ from D.out.row 0 rfl).cell i hlt
   have hb := byte_lF x i
   rw [hq, hs] at hb
   obtain ⟨y, hy⟩ : ∃ y, lF x q = y := ⟨_, rfl⟩
   have ny : NZ (lF x) q = (y : Int) := by rw [← hy]; rfl
   rw [ny] at hc
   rw [hy] at hb
   have HU := za (D.out.byte 0 rfl i (bX x i))
   rw [mix8_upd] at HU
   have HB : Hid (U (bX x i) = .int .u8 ((y / 2 ^ s % 256 : Nat) : Int)) := za (by
    show Value.int .u8 (U8 (bX x i)) = _
    rw [U8_bX, ← hb])
   rw [HB.out] at HU
   obtain ⟨z, hz'⟩ : ∃ z, y / 2 ^ s = z := ⟨_, rfl⟩
   obtain ⟨b, hb'⟩ : ∃ b, z % 256 = b := ⟨_, rfl⟩
   have e1 : (y : Int) / 2 ^ s = (z : Int) := by rw [← hz', Int.natCast_ediv, Int.natCast_pow]; rfl
   have e2 : IntKind.u8.wrap (z : Int) = (b : Int) := by rw [IntKind.wrap_u8]; omega
   have s48 : s ≤ 48 := by omega
   have sm : min s 64 = s := by omega
   have HS := za hs
   rw [hz', hb'] at HU
   clear D HB hb hq hs hy ny hz' hb'
   simp only [List.take_succ_cons, List.take_zero, List.drop_succ_cons, List.drop_zero]
   iterate 7 still_step
   still_call (up_any i _ (by omega) s HS.out)
   iterate 3 still_step
   refine wpStill_nil ?_
   clear e1 e2 sm
   go_wp2_with fail
   go_roundw
   case rel => exact ⟨i + 1, by omega, by go_num, HU.out⟩
   case measure => simp [intOf]; omega
  ·obtain rfl : i = 56 := by omega
   clear hlt hi
   rw [show ((56 : Nat) : Int) = 56 from rfl]
   have H := za HR
   clear HR
   go_wp2_with fail
   go_ret
   have hr : RowB wr g2 56 _ := H.out.row 0 rfl
   refine ⟨_, rfl, ⟨g2, 56, rfl, H.out.ge 0 rfl, hr.sl.congr fun k hk => ?_⟩, H.out.bel⟩
   unfold mix8
   rw [if_pos hk]
theorem y1c (f : Nat → Nat) (w : World) (hf : Lim f) :
  Calls Tryz.prog 80 #[EV f] w fun e w' => ∃ v, e = .returned v ∧ New w w' v 56 (bX (lv f 8 % pN)) ∧ Below w.heap.size w w' := by
 have HL := za (fun w => y22 f w hf)
 clear hf
 have H := za (Ow.start w)
 go_enter Tryz.func80, Tryz.ntmps80
 go_wp2_with (first
  | ((with_reducible apply zw H); (case hgd | ho | hx => exact rfl); clear H; intro _ _ H _ _; go_simp)
  | ((with_reducible apply zr zt H); (case hgd | ho | hx => exact rfl); (case hi => repeat first|exact z5|apply z8); intro _ _; go_simp)
  | ((with_reducible refine (HL.out _).mono ?_); rintro e wc ⟨rfl, hb⟩; replace H := zd H hb; clear hb))
 refine (spell_any (lv f 8 % pN) _).mono ?_
 rintro e w2 ⟨v, rfl, N2, B2⟩
 have N2 := za N2
 have B2 := za B2
 go_wp2_with fail
 go_ret
 obtain ⟨g, c, rfl, hg, hs⟩ := N2.out
 exact ⟨_, rfl, ⟨g, c, rfl, Nat.le_trans H.out.bel.size hg, hs⟩, H.out.bel.trans (B2.out.mono H.out.bel.size)⟩
theorem Tp.whole {w : World} (h : Tp w) : (Instr.loadAt 28 (.pointer (some ⟨0, 0, none⟩))).run Tryz.prog w = .ok (.agg (AZ .u64 8 (NZ prW))) w := by
 obtain ⟨d, hd, hd'⟩ := rowL.under
 have := run_loadAt_mid (P := Tryz.prog) w 0 0 28 (AZ .u64 8 (NZ prW)).toList d (fun j v hv => by
  have hj : j < 8 := by
   rcases Nat.lt_or_ge j 8 with h' | h'
   ·exact h'
   ·rw [List.getElem?_eq_none (by rw [Array.length_toList, z0j]; exact h')] at hv; cases hv
  rw [Array.getElem?_toList, z1c _ _ _ _ hj] at hv
  rw [Nat.zero_add, h.cells j hj, ← hv]
  rfl) hd hd' (by rw [Array.length_toList, z0j]; exact rowL.size)
 rwa [Array.toArray_toList] at this
def orN (f : Nat → Nat) : Nat → Nat
 | 0 => 0
 | i + 1 => orN f i ||| f i
theorem y5m (f : Nat → Nat) : ∀ n, orN f n = 0 ↔ ∀ i, i < n → f i = 0
 | 0 => ⟨fun _ i hi => by omega, fun _ => rfl⟩
 | n + 1 => by
  have ih := y5m f n
  rw [show orN f (n + 1) = orN f n ||| f n from rfl, Nat.or_eq_zero_iff, ih]
  constructor
  ·rintro ⟨h1, h2⟩ i hi
   rcases (by omega : i < n ∨ i = n) with h | h
   ·exact h1 i h
   ·rw [h]; exact h2
  ·intro h
   exact ⟨fun i hi => h i (by omega), h n (by omega)⟩
theorem orN_lt {f : Nat → Nat} (h : ∀ i, f i < 72057594037927936) : ∀ n, orN f n < 72057594037927936
 | 0 => by rw [show orN f 0 = 0 from rfl]; omega
 | n + 1 => by
  rw [show orN f (n + 1) = orN f n ||| f n from rfl, show 72057594037927936 = 2 ^ 56 from rfl]
  exact Nat.or_lt_two_pow (orN_lt h n) (h n)
theorem lF_zero {x : Nat} (hx : x < 72057594037927936 ^ 8) : orN (lF x) 8 = 0 ↔ x = 0 := by
 rw [y5m]
 constructor
 ·intro h
  have h1 := lv_lF x 8
  rw [Nat.mod_eq_of_lt hx, z9a (g := fun _ => 0) 8 h, z8e] at h1
  exact h1.symm
 ·rintro rfl i _
  unfold lF
  rw [Nat.zero_div, Nat.zero_mod]
theorem pN_lt8 : pN < 72057594037927936 ^ 8 := by decide +kernel
theorem y4q (f : Nat → Nat) (w : World) (hf : Lim f) :
  Calls Tryz.prog 115 #[EV f] w fun e w' => e = .returned (.bool (decide (lv f 8 % pN = 0))) ∧ Below w.heap.size w w' := by
 have HL := za (fun w => y22 f w hf)
 have HZ := za (lF_zero (Nat.lt_trans (Nat.mod_lt (lv f 8) z9y) pN_lt8))
 obtain ⟨x, hx⟩ : ∃ x, lv f 8 % pN = x := ⟨_, rfl⟩
 rw [hx] at HL HZ ⊢
 clear hf hx
 have H := za (Ow.start w)
 go_enter Tryz.func115, Tryz.ntmps115
 go_wp2_with (first
  | ((with_reducible apply zw H); (case hgd | ho | hx => exact rfl); clear H; intro _ _ H _ _; go_simp)
  | ((with_reducible apply zr zt H); (case hgd | ho | hx => exact rfl); (case hi => repeat first|exact z5|apply z8); intro _ _; go_simp)
  | ((with_reducible refine (HL.out _).mono ?_); rintro e wc ⟨rfl, hb⟩; replace H := zd H hb; clear hb))
 go_loopw [3, 8] (fun v3 v8 wr => ∃ i : Nat, i ≤ 8 ∧ v8 = .int .i64 i ∧ v3 = .int .u64 (orN (lF x) i : Int) ∧ Below w.heap.size w wr) (fun _ v8 _ => 8 - (intOf v8).toNat)
 case atStart => exact ⟨0, by omega, rfl, rfl, H.out.bel⟩
 case round =>
  clear H
  obtain ⟨i, hi, rfl, rfl, HR⟩ := hrel
  by_cases hlt : i < 8
  ·have hid : decide ((i : Int) < 8) = true := by simp; omega
   have iN : (i : Int) < 8 := by omega
   have H := za HR
   clear HR
   have h1 := orN_lt (lF_lt x) i
   have h2 := lF_lt x i
   have HS : Hid (orN (lF x) (i + 1) = orN (lF x) i ||| lF x i) := za rfl
   obtain ⟨y, hy⟩ : ∃ y, lF x i = y := ⟨_, rfl⟩
   have ny : NZ (lF x) i = (y : Int) := by rw [← hy]; rfl
   obtain ⟨z, hz⟩ : ∃ z, orN (lF x) i = z := ⟨_, rfl⟩
   rw [hy, hz] at HS
   rw [hy] at h2
   rw [hz] at h1 ⊢
   have e1 := u64_or_nat z y (by omega) (by omega)
   obtain ⟨r, hr⟩ : ∃ r, z ||| y = r := ⟨_, rfl⟩
   rw [hr] at e1 HS
   clear hy hz h1 h2 hr
   go_wp2_with (first
    | ((with_reducible apply z20 Tryz.underlying28 oneW); (case hgd | ho | hx | hy => exact rfl); (case hi => omega); intro _ _; go_simp))
   go_roundw
   case rel => exact ⟨i + 1, by omega, by go_num, by rw [HS.out], H.out⟩
   case measure => simp [intOf]; omega
  ·obtain rfl : i = 8 := by omega
   clear hlt hi
   rw [show ((8 : Nat) : Int) = 8 from rfl]
   have H := za HR
   clear HR
   have HE : Hid (((orN (lF x) 8 : Int) == 0) = decide (x = 0)) := za (by
    rw [Bool.eq_iff_iff, beq_iff_eq, decide_eq_true_eq, ← HZ.out]
    omega)
   obtain ⟨z, hz⟩ : ∃ z, orN (lF x) 8 = z := ⟨_, rfl⟩
   rw [hz] at HE ⊢
   clear hz
   go_wp2_with fail
   go_ret
   exact ⟨by rw [← HE.out]; rfl, H.out⟩
theorem equal_any (f g : Nat → Nat) (w : World) (hT : Tp w) (hf : Lim f) (hg : Lim g) :
  Calls Tryz.prog 122 #[EV f, EV g] w fun e w' => e = .returned (.bool (decide (lv f 8 % pN = lv g 8 % pN))) ∧ Below w.heap.size w w' := by
 have HT := za hT
 have HF := za (And.intro hf hg)
 clear hT hf hg
 have H := za (Ow.start w)
 go_enter Tryz.func122, Tryz.ntmps122
 go_wp2_with (first
  | ((with_reducible apply zw H); (case hgd | ho | hx => exact rfl); clear H; intro _ _ H _ _; go_simp)
  | ((with_reducible apply zr zt H); (case hgd | ho | hx => exact rfl); (case hi => repeat first|exact z5|apply z8); intro _ _; go_simp))
 refine (y3v f g _ (HT.out.below H.out.bel) HF.out.1 HF.out.2).mono ?_
 rintro e wc ⟨h, rfl, hl, hv, hb⟩
 replace H := zd H hb
 have HV := za (And.intro hl hv)
 clear hb hl hv
 go_wp2_with fail
 refine (y4q h _ HV.out.1).mono ?_
 rintro e wd ⟨rfl, hb⟩
 replace H := zd H hb
 clear hb
 go_wp2_with fail
 go_ret
 refine ⟨?_, H.out.bel⟩
 have hv := HV.out.2
 have e : decide (lv h 8 % pN = 0) = decide (lv f 8 % pN = lv g 8 % pN) := by
  generalize lv h 8 = a at *
  generalize lv f 8 = b at *
  generalize lv g 8 = c at *
  congr 1
  unfold pN at *
  apply propext
  constructor <;> intro h0 <;> omega
 rw [← e]
 rfl
theorem i64_and1 (n : Int) : bits .and .i64 n 1 = n % 2 := by
 have h127 : (BitVec.ofInt 64 1).toNat = 2 ^ 1 - 1 := by decide
 have key : (BitVec.ofInt 64 n &&& BitVec.ofInt 64 1).toNat = (n % ((2 ^ 64 : Nat) : Int)).toNat % 2 ^ 1 := by
  rw [BitVec.toNat_and, BitVec.toNat_ofInt, h127, Nat.and_two_pow_sub_one_eq_mod]
 show IntKind.i64.wrap ((BitVec.ofInt 64 n &&& BitVec.ofInt 64 1).toNat : Nat) = n % 2
 rw [key, IntKind.wrap_i64]
 omega
section
variable {P : Program} {ops : Array Oper} {rest : List Oper} {o : Oper} {a : Act} {w w0 : World} {l : List (Nat × Obj)} {Q : Exit → Act → World → Prop} {t : TypeId} {k : IntKind}
theorem y8d (hz : ∀ w, (zeroValue t).run P w = .ok (.int k 0) w) (H : Hid (Ow w0 w l)) (hgd : o.guard = none) (ho : o.op = .alloc t)
  (h : ∀ w' g, Hid (Ow w0 w' ((g, zv t k 1 fun _ => 0) :: l)) → ∀ K : Act → World → Prop, (∀ a w, wpList P ops Q rest a w → K a w) → K (a.put o.dst (.pointer (some ⟨g, 0, none⟩))) w') : wpList P ops Q (o :: rest) a w :=
 wpList_plain hgd fun K hK => by
  unfold Oper.wp execOp
  have e : AZ k 1 (fun _ => 0) = #[.int k 0] := by
   rw [← Array.toArray_toList (xs := AZ k 1 fun _ => 0), y3p]
  simp only [ho, Instr.alloc, Sem.run_bind, hz, Result.andThen_ok, newVar, Value.cells, ← e]
  simp [go_sem]
  exact h _ _ (za (H.out.alloc _)) K hK
end
theorem nilW (w : World) : (zeroValue 27).run Tryz.prog w = .ok (.int .u64 0) w := Tryz.zeroValue27 w
def z8w (m x y : Nat) : Nat := if m = 0 then x else y
theorem pick1_any (i x y m g g7 : Nat) (w : World) (hi : i < 8) (hc : w.cell? ⟨g, i, none⟩ = some (.int .u64 (y : Int))) (hm : w.cell? ⟨g7, 0, none⟩ = some (.int .u64 (m : Int))) (hx : x < 18446744073709551616) (hy : y < 18446744073709551616) (hmm : m = 0 ∨ m = 18446744073709551615) :
  Calls Tryz.prog 176 #[.int .i64 i, .int .u64 x, .pointer (some ⟨g7, 0, none⟩), .pointer (some ⟨g, 0, none⟩)] w fun e w' => e = .returned (.int .u64 ((z8w m x y : Nat) : Int)) ∧ Below w.heap.size w w' := by
 have hz : x ^^^ y < 18446744073709551616 := Nat.xor_lt_two_pow (n := 64) hx hy
 have e1 := u64_xor_nat x y hx hy
 have hc2 : x ^^^ (x ^^^ y) = y := by rw [← Nat.xor_assoc, Nat.xor_self, Nat.zero_xor]
 obtain ⟨z, hzz⟩ : ∃ z, x ^^^ y = z := ⟨_, rfl⟩
 rw [hzz] at hz e1 hc2
 have e2 := u64_and_nat m z (by omega) hz
 obtain ⟨u, hu⟩ : ∃ u, m &&& z = u := ⟨_, rfl⟩
 rw [hu] at e2
 have hu2 : u = z8w m 0 z := by
  rcases hmm with h | h
  ·rw [← hu, h, Nat.zero_and]; rfl
  ·rw [← hu, h, Nat.and_comm, show (18446744073709551615 : Nat) = 2 ^ 64 - 1 from rfl, Nat.and_two_pow_sub_one_eq_mod, Nat.mod_eq_of_lt hz]; rfl
 have ul : u < 18446744073709551616 := by rw [hu2]; unfold z8w; split <;> omega
 have e3 := u64_xor_nat x u hx ul
 have hr : x ^^^ u = z8w m x y := by
  rw [hu2]
  unfold z8w
  split
  ·rw [Nat.xor_zero]
  ·exact hc2
 rw [hr] at e3
 obtain ⟨r, hrr⟩ : ∃ r, z8w m x y = r := ⟨_, rfl⟩
 rw [hrr] at e3 ⊢
 have i8 : (i : Int) < 8 := by omega
 have HB := za (Below.drew (Below.refl w.heap.size w))
 clear hzz hu hu2 hr hrr hz ul hc2 hx hy hmm hi
 go_enter Tryz.func176, Tryz.ntmps176
 go_wp2_with fail
 refine wp_region_still_lit (by kernel_rfl) (by kernel_rfl) ?_
 change wpStill _ _ w.drew (fun a' => Exit.then _ _ Exit.normal a' w.drew) _ _
 have hc' : w.drew.cell? ⟨g, i, none⟩ = some (.int .u64 (y : Int)) := hc
 have hm' : w.drew.cell? ⟨g7, 0, none⟩ = some (.int .u64 (m : Int)) := hm
 clear hc hm
 generalize w.drew = w2 at *
 iterate 11 still_step
 refine wpStill_nil ?_
 clear hc' hm' e1 e2 e3
 go_wp2_with fail
 go_ret
 exact ⟨rfl, HB.out⟩
def y37 (n : Int) (f g : Nat → Nat) : Nat → Nat := if n % 2 = 0 then f else g
theorem z56 (n : Int) (f g : Nat → Nat) (w : World) (hf : Lim f) (hg : Lim g) :
  Calls Tryz.prog 139 #[.int .i64 n, EV f, EV g] w fun e w' => e = .returned (EV (y37 n f g)) ∧ Below w.heap.size w w' := by
 obtain ⟨b, hb⟩ : ∃ b : Nat, n % 2 = (b : Int) := ⟨(n % 2).toNat, by omega⟩
 have b2 : b = 0 ∨ b = 1 := by omega
 obtain ⟨m, hm⟩ : ∃ m, (if b = 0 then 0 else 18446744073709551615 : Nat) = m := ⟨_, rfl⟩
 have hmm : m = 0 ∨ m = 18446744073709551615 := by rcases b2 with h | h <;> subst h <;> simp at hm <;> omega
 have e1 : bits .and .i64 n 1 = (b : Int) := by rw [i64_and1, hb]
 have e2 : IntKind.u64.wrap (b : Int) = (b : Int) := by rw [IntKind.wrap_u64]; omega
 have e3 : IntKind.u64.wrap (-(b : Int)) = (m : Int) := by
  rw [IntKind.wrap_u64, ← hm]
  rcases b2 with h | h <;> subst h <;> rfl
 have HP : Hid (NZ (fun i => z8w m (f i) (g i)) = NZ (y37 n f g)) := za (by
  unfold y37
  rcases b2 with h | h
  ·subst h
   rw [if_pos (by omega), ← hm]
   rfl
  ·subst h
   rw [if_neg (by omega), ← hm]
   rfl)
 have HM := za hmm
 have HF := za (And.intro hf hg)
 clear hb b2 hm hmm hf hg
 have H := za (Ow.start w)
 go_enter Tryz.func139, Tryz.ntmps139
 go_wp2_with (first
  | ((fail_if_success have := g1); (with_reducible apply zw H); (case hgd | ho | hx => exact rfl); clear H; intro w1 g1 H _ _; go_simp)
  | ((fail_if_success have := g2); (with_reducible apply zw H); (case hgd | ho | hx => exact rfl); clear H; intro w2 g2 H _ _; go_simp)
  | ((with_reducible apply ze z9 H); (case hgd | ho => exact rfl); clear H; intro _ _ H _ _; go_simp)
  | ((fail_if_success have := g4); (with_reducible apply y8d nilW H); (case hgd | ho => exact rfl); clear H; intro w4 g4 H _ _; go_simp)
  | ((with_reducible apply z2z oneW H); (case hgd | ho | hx | hy => exact rfl); (case hi => repeat first|exact z5|apply z8); (case hj => omega); clear H; intro ws H _ _; simp only [qb] at H; go_simp)
  | ((with_reducible apply zr rowL H); (case hgd | ho | hx => exact rfl); (case hi => repeat first|exact z5|apply z8); intro _ _; go_simp))
 rename_i wz
 refine (y13 176 #[.pointer (some ⟨g4, 0, none⟩), .pointer (some ⟨g2, 0, none⟩)] f (fun i => z8w m (f i) (g i)) _ (z3g Tryz.func176 (by kernel_rfl) rfl) (fun i W hi hB => ?_)).mono ?_
 ·exact pick1_any i (f i) (g i) m g2 g4 W hi ((H.out.call hB).cell 2 rfl i hi) ((H.out.call hB).cell 0 rfl 0 (by omega)) (by have := HF.out.1 i hi; omega) (by have := HF.out.2 i hi; omega) HM.out
 rintro e wc ⟨rfl, hb⟩
 replace H := zd H hb
 rw [HP.out]
 clear hb HF
 go_wp2_with (first
  | ((with_reducible apply z63); (case hgd | ho | hx => exact rfl); intro _ _; go_simp)
  | ((with_reducible apply zj zt H); (case hgd | ho | hx | hy => exact rfl); (case hi => repeat first|exact z5|apply z8); clear H; intro ws H _ _; simp only [qb, qc] at H; go_simp))
 exact bodyPost_ret (zy 1 zt rfl _ H rfl rfl) rfl ⟨rfl, H.out.bel⟩
end Go.Proofs.YtgjbonikbmgfmaaGreatDoor
