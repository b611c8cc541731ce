/-
  The contracts of field.narrow and Mul.
-/
import Derived.Test.YtjjdhbmlinjhjaaDoorFdFold
namespace Go.Proofs.YtjjdhbmlinjhjaaDoor
open Go.RowKit

theorem ovC_again {d : Nat → Nat} {o : Nat} (hd : ∀ i, d i < 72057594037927936) (ho : o ≤ 9223372036854907100) : ovC d o 1 ≤ 129 ∧ ovC d o 2 ≤ 1 ∧ ovC d o 3 ≤ 1 ∧ ovC d o 4 ≤ o + 1 ∧ ovC d o 5 ≤ 129 ∧ ovC d o 6 ≤ 1 ∧ ovC d o 7 ≤ 1 ∧ ovC d o 8 ≤ 1 := by
  have e1 : ovC d o 1 = (d 0 + o) / 72057594037927936 := rfl
  have e2 : ovC d o 2 = (d 1 + ovC d o 1) / 72057594037927936 := rfl
  have e3 : ovC d o 3 = (d 2 + ovC d o 2) / 72057594037927936 := rfl
  have e4 : ovC d o 4 = (d 3 + ovC d o 3) / 72057594037927936 + o := rfl
  have e5 : ovC d o 5 = (d 4 + ovC d o 4) / 72057594037927936 := rfl
  have e6 : ovC d o 6 = (d 5 + ovC d o 5) / 72057594037927936 := rfl
  have e7 : ovC d o 7 = (d 6 + ovC d o 6) / 72057594037927936 := rfl
  have e8 : ovC d o 8 = (d 7 + ovC d o 7) / 72057594037927936 := rfl
  have h0 := hd 0
  have h1 := hd 1
  have h2 := hd 2
  have h3 := hd 3
  have h4 := hd 4
  have h5 := hd 5
  have h6 := hd 6
  have h7 := hd 7
  have b1 : ovC d o 1 ≤ 129 := by omega
  have b2 : ovC d o 2 ≤ 1 := by omega
  have b3 : ovC d o 3 ≤ 1 := by omega
  have b4 : ovC d o 4 ≤ o + 1 := by omega
  have b5 : ovC d o 5 ≤ 129 := by omega
  have b6 : ovC d o 6 ≤ 1 := by omega
  have b7 : ovC d o 7 ≤ 1 := by omega
  have b8 : ovC d o 8 ≤ 1 := by omega
  exact ⟨b1, b2, b3, b4, b5, b6, b7, b8⟩
theorem narrow_gen {s d d2 o o2 p a b : Nat} (hp : p + 1 + a = b) (h1 : s = d + o * b) (h2 : d + o + o * a = d2 + o2 * b) : s = d2 + o2 * (1 + a) + (o2 + o) * p := by
  subst hp
  rw [Nat.mul_add, Nat.mul_add, Nat.mul_one] at h1 h2
  rw [Nat.mul_add, Nat.add_mul, Nat.mul_one]
  omega
theorem carry_zero {x y e : Nat} (h : x + 0 + e = y) (he : e = 0) : x = y := by omega
theorem carry_some {x o y e a : Nat} (h : x + o + e = y) (he : e = o * a) : x + o + o * a = y := by omega
theorem narrow_math (s : Nat → Nat) : lv s 8 = lv (wrapF (dgC (dgC s 0) (ovC s 0 8)) (ovC (dgC s 0) (ovC s 0 8) 8)) 8 + (ovC (dgC s 0) (ovC s 0 8) 8 + ovC s 0 8) * pN := by
  have h1 := carry_zero (lv_carry s 0 8) (by rw [if_pos (by omega), Nat.zero_mul])
  have h2 := carry_some (a := 72057594037927936 ^ 4) (lv_carry (dgC s 0) (ovC s 0 8) 8) (by rw [if_pos (by omega)])
  rw [lv_wrapF]
  exact narrow_gen pN_limbs h1 h2
set_option maxRecDepth 8000 in
set_option maxHeartbeats 1000000 in
theorem narrow_any (s : Nat → Nat) (w : World) (hs : ∀ i, i < 8 → s i < 664613997892467381184869269430599680) :
    Calls Tryd.prog 56 #[.agg (AZ .u64 16 (pr s))] w fun e w' => ∃ h, e = .returned (EV h) ∧ Lim h ∧ lv h 8 % pN = lv s 8 % pN ∧ Below w.heap.size w w' := by
  have ho := ovC_sum hs 8 (by omega)
  have hm := narrow_math s
  have HC := Lib.hid (fun w => carryP_any s w hs)
  have hd : ∀ i, dgC s 0 i < 72057594037927936 := dgC_lt s 0
  generalize dgC s 0 = d at *
  generalize ovC s 0 8 = o at *
  obtain ⟨b1, b2, b3, b4, b5, b6, b7, b8⟩ := ovC_again hd ho
  have HC2 := Lib.hid (fun w => carry_any d o w (fun i hi => by
    have h := hd i
    have e0 : ovC d o 0 = o := rfl
    rcases (by omega : i = 0 ∨ i = 1 ∨ i = 2 ∨ i = 3 ∨ i = 4 ∨ i = 5 ∨ i = 6 ∨ i = 7) with rfl | rfl | rfl | rfl | rfl | rfl | rfl | rfl <;> omega) (by omega))
  have hd2 : ∀ i, dgC d o i < 72057594037927936 := dgC_lt d o
  generalize dgC d o = d2 at *
  generalize ovC d o 8 = o2 at *
  have HW := Lib.hid (fun w => wrap_any d2 o2 w (by have := hd2 0; omega) (by have := hd2 4; omega))
  have HL := Lib.hid (wrap_lim (o := o2) hd2 (by omega))
  have HV : Hid (lv (wrapF d2 o2) 8 % pN = lv s 8 % pN) := Lib.hid (by rw [hm, Nat.add_mul_mod_self_right])
  clear hs ho hm hd b1 b2 b3 b4 b5 b6 b7 b8 hd2
  have H := Lib.hid (Ow.start w)
  go_enter Tryd.func56, Tryd.ntmps56
  go_wp2_with (first
    | ((fail_if_success have := g1); (with_reducible apply own_box H); (case hgd => exact rfl); (case ho => exact rfl); (case hx => exact rfl); intro w1 g1 H' _ _; replace H := H'; clear H'; go_simp)
    | ((fail_if_success have := g2); (with_reducible apply own_alloc nilE H); (case hgd => exact rfl); (case ho => exact rfl); intro w2 g2 H' _ _; replace H := H'; clear H'; go_simp)
    | ((with_reducible apply own_load rowR H); (case hgd => exact rfl); (case ho => exact rfl); (case hx => exact rfl); (case hi => first | exact at0 | exact at1 | exact at2 | exact at3 | exact at4 | exact at5 | exact at6); intro _ _; go_simp)
    | ((with_reducible refine (HC.out _).mono ?_); rintro e wc ⟨rfl, hb⟩; replace H := Lib.hid (H.out.call hb); clear hb)
    | ((fail_if_success have := g3); (with_reducible apply own_alloc nilL H); (case hgd => exact rfl); (case ho => exact rfl); intro w3 g3 H' _ _; replace H := H'; clear H'; go_simp)
    | ((with_reducible apply own_store rowL H); (case hgd => exact rfl); (case ho => exact rfl); (case hx => exact rfl); (case hy => exact rfl); (case hi => first | exact at0 | exact at1 | exact at2 | exact at3 | exact at4 | exact at5 | exact at6); intro ws H' _ _; replace H := H'; clear H'; simp only [List.set_cons_zero] at H; go_simp)
    | ((with_reducible apply own_load rowL H); (case hgd => exact rfl); (case ho => exact rfl); (case hx => exact rfl); (case hi => first | exact at0 | exact at1 | exact at2 | exact at3 | exact at4 | exact at5 | exact at6); intro _ _; go_simp)
    | ((with_reducible refine (HC2.out _).mono ?_); rintro e wc ⟨rfl, hb⟩; replace H := Lib.hid (H.out.call hb); clear hb)
    | ((with_reducible refine (HW.out _).mono ?_); rintro e wc ⟨rfl, hb⟩; replace H := Lib.hid (H.out.call hb); clear hb)
    | ((with_reducible apply own_store rowE H); (case hgd => exact rfl); (case ho => exact rfl); (case hx => exact rfl); (case hy => exact rfl); (case hi => first | exact at0 | exact at1 | exact at2 | exact at3 | exact at4 | exact at5 | exact at6); intro ws H' _ _; replace H := H'; clear H'; simp only [List.set_cons_zero, List.set_cons_succ] at H; go_simp))
  exact bodyPost_ret (own_result 1 rowE rfl _ H rfl rfl) rfl ⟨_, rfl, HL.out, HV.out, H.out.bel⟩
/-- Products of limbs, laid together. -/
def rowN (f g s : Nat → Nat) (i : Nat) : Nat → Nat → Nat
  | 0 => s
  | k + 1 => updN (rowN f g s i k) (i + k) (rowN f g s i k (i + k) + f i * g k)
def allN (f g : Nat → Nat) : Nat → Nat → Nat
  | 0 => fun _ => 0
  | i + 1 => rowN f g (allN f g i) i 8
theorem row_gen {a fi g x y l : Nat} : a + fi * l * x + fi * g * (x * y) = a + fi * (l + g * y) * x := by
  rw [Nat.mul_add, Nat.add_mul, Nat.add_assoc, Nat.mul_assoc fi (g * y) x, Nat.mul_assoc fi g, Nat.mul_assoc g y x, Nat.mul_comm y x]
theorem lv_rowN (f g s : Nat → Nat) (i : Nat) (hi : i < 8) : ∀ k, k ≤ 7 + 1 → lv (rowN f g s i k) 15 = lv s 15 + f i * lv g k * 72057594037927936 ^ i
  | 0, _ => by rw [show rowN f g s i 0 = s from rfl, show lv g 0 = 0 from rfl, Nat.mul_zero, Nat.zero_mul, Nat.add_zero]
  | k + 1, hk => by
    unfold rowN
    rw [lv_upd _ _ _ _ (by omega), lv_rowN f g s i hi k (by omega), Nat.pow_add, show lv g (k + 1) = lv g k + g k * 72057594037927936 ^ k from rfl]
    exact row_gen
theorem lv_allN (f g : Nat → Nat) : ∀ i, i ≤ 8 → lv (allN f g i) 15 = lv f i * lv g 8
  | 0, _ => by rw [show allN f g 0 = fun _ => 0 from rfl, show lv f 0 = 0 from rfl, lv_zero, Nat.zero_mul]
  | i + 1, hi => by
    rw [show allN f g (i + 1) = rowN f g (allN f g i) i 8 from rfl, show lv f (i + 1) = lv f i + f i * 72057594037927936 ^ i from rfl, lv_rowN _ _ _ _ (by omega) 8 (by omega), lv_allN f g i (by omega), Nat.add_mul, Nat.mul_assoc, Nat.mul_assoc, Nat.mul_comm (lv g 8)]
theorem prod_le {x y : Nat} (hx : x < 72057594037927940) (hy : y < 72057594037927940) : x * y ≤ 5192296858534828060876060556787721 := by
  have h := Nat.mul_le_mul (show x ≤ 72057594037927939 by omega) (show y ≤ 72057594037927939 by omega)
  omega
theorem rowN_bd {f g s : Nat → Nat} (hf : Lim f) (hg : Lim g) (i : Nat) (hi : i < 8) (hs : ∀ j, s j ≤ i * 5192296858534828060876060556787721) :
    ∀ k, k ≤ 8 → ∀ j, rowN f g s i k j ≤ i * 5192296858534828060876060556787721 + 5192296858534828060876060556787721 ∧ (i + k ≤ j → rowN f g s i k j = s j)
  | 0, _, j => by rw [show rowN f g s i 0 j = s j from rfl]; exact ⟨Nat.le_trans (hs j) (Nat.le_add_right _ _), fun _ => rfl⟩
  | k + 1, hk, j => by
    have ih := rowN_bd hf hg i hi hs k (by omega)
    have hp := prod_le (hf i hi) (hg k (by omega))
    unfold rowN updN
    by_cases e : j = i + k
    · have h1 := ih (i + k)
      have h2 := h1.2 (Nat.le_refl _)
      have h3 := hs (i + k)
      rw [if_pos e, h2]
      exact ⟨by omega, fun h => by omega⟩
    · rw [if_neg e]
      have h1 := ih j
      exact ⟨h1.1, fun h => h1.2 (by omega)⟩
theorem allN_bd {f g : Nat → Nat} (hf : Lim f) (hg : Lim g) : ∀ i, i ≤ 8 → ∀ j, allN f g i j ≤ i * 5192296858534828060876060556787721
  | 0, _, j => by simp [allN]
  | i + 1, hi, j => by
    have h := rowN_bd hf hg i (by omega) (fun j => allN_bd hf hg i (by omega) j) 8 (by omega) j
    show rowN f g (allN f g i) i 8 j ≤ (i + 1) * _
    rw [Nat.add_mul]
    have := h.1
    omega
set_option maxRecDepth 10000 in
set_option maxHeartbeats 3200000 in
theorem mul_any (f g : Nat → Nat) (w : World) (hf : Lim f) (hg : Lim g) :
    Calls Tryd.prog 31 #[EV f, EV g] w fun e w' => ∃ h, e = .returned (EV h) ∧ Lim h ∧ lv h 8 % pN = lv f 8 * lv g 8 % pN ∧ Below w.heap.size w w' := by
  have hv := lv_allN f g 8 (by omega)
  have hb := allN_bd hf hg
  have HB := Lib.hid hb
  have HF := Lib.hid (And.intro hf hg)
  have HO := Lib.hid (fun w => fold_any (allN f g 8) w (fun j hj => by have := hb 8 (by omega) j; omega))
  have HV := Lib.hid hv
  clear hb hf hg hv
  have H := Lib.hid (Ow.start w)
  go_enter Tryd.func31, Tryd.ntmps31
  go_wp2_with (first
    | ((fail_if_success have := g1); (with_reducible apply own_box H); (case hgd => exact rfl); (case ho => exact rfl); (case hx => exact rfl); intro w1 g1 H' _ _; replace H := H'; clear H'; go_simp)
    | ((fail_if_success have := g2); (with_reducible apply own_box H); (case hgd => exact rfl); (case ho => exact rfl); (case hx => exact rfl); intro w2 g2 H' _ _; replace H := H'; clear H'; go_simp)
    | ((fail_if_success have := g3); (with_reducible apply own_alloc nilE H); (case hgd => exact rfl); (case ho => exact rfl); intro w3 g3 H' _ _; replace H := H'; clear H'; go_simp)
    | ((fail_if_success have := g4); (with_reducible apply own_alloc nilS H); (case hgd => exact rfl); (case ho => exact rfl); intro w4 g4 H' _ _; replace H := H'; clear H'; go_simp)
    | ((with_reducible apply own_load rowL H); (case hgd => exact rfl); (case ho => exact rfl); (case hx => exact rfl); (case hi => first | exact at0 | exact at1 | exact at2 | exact at3 | exact at4 | exact at5 | exact at6); intro _ _; go_simp))
  replace H := Lib.hid (H.out.like 0 (g := pr fun _ => 0) rfl fun k _ => congrFun pr_zero k)
  simp only [List.set_cons_zero] at H
  go_loopw [12] (fun v12 wr => ∃ i : Nat, i ≤ 8 ∧ v12 = .int .i64 i ∧ Ow w wr [(g4, Blk 83 .u64 30 (pr (allN f g i))), (g3, Blk 27 .u64 8 fun _ => 0), (g2, Blk 27 .u64 8 (NZ g)), (g1, Blk 27 .u64 8 (NZ f))]) (fun v12 _ => 8 - (intOf v12).toNat)
  case atStart => exact ⟨0, by omega, rfl, H.out⟩
  case round =>
    clear H
    obtain ⟨i, hi, rfl, HR⟩ := hrel
    by_cases hlt : i < 8
    · have hid : decide ((i : Int) < 8) = true := by simp; omega
      have i8 : (i : Int) < 8 := by omega
      have H := Lib.hid HR
      clear HR
      obtain ⟨x, hx⟩ : ∃ x, f i = x := ⟨_, rfl⟩
      have nx : NZ f i = (x : Int) := by rw [← hx]; rfl
      have HX := Lib.hid hx
      clear hx
      go_wp2_with (first
        | ((with_reducible apply own_index Tryd.underlying25 oneW); (case hgd => exact rfl); (case ho => exact rfl); (case hx => exact rfl); (case hy => exact rfl); (case hi => omega); intro _ _; go_simp)
        | ((with_reducible apply own_load rowL H); (case hgd => exact rfl); (case ho => exact rfl); (case hx => exact rfl); (case hi => first | exact at0 | exact at1 | exact at2 | exact at3 | exact at4 | exact at5 | exact at6); intro _ _; go_simp))
      go_loopw [18] (fun v18 wr => ∃ k : Nat, k ≤ 8 ∧ v18 = .int .i64 k ∧ Ow w wr [(g4, Blk 83 .u64 30 (pr (rowN f g (allN f g i) i k))), (g3, Blk 27 .u64 8 fun _ => 0), (g2, Blk 27 .u64 8 (NZ g)), (g1, Blk 27 .u64 8 (NZ f))]) (fun v18 _ => 8 - (intOf v18).toNat)
      case atStart => exact ⟨0, by omega, rfl, H.out⟩
      case round =>
        clear H
        obtain ⟨k, hk, rfl, HR⟩ := hrel
        by_cases hlk : k < 8
        · have hkd : decide ((k : Int) < 8) = true := by simp; omega
          have k8 : (k : Int) < 8 := by omega
          obtain ⟨y, hy⟩ : ∃ y, g k = y := ⟨_, rfl⟩
          have ny : NZ g k = (y : Int) := by rw [← hy]; rfl
          obtain ⟨p, hp⟩ : ∃ p, i + k = p := ⟨_, rfl⟩
          have pI : (i : Int) + (k : Int) = (p : Int) := by omega
          have p15 : (p : Int) < 15 := by omega
          have f1 : IntKind.i64.wrap (p : Int) = (p : Int) := IntWalk.i64_in _ (by omega)
          have bv := (rowN_bd HF.out.1 HF.out.2 i hlt (HB.out i hi) k (by omega) p).1
          have bx := HF.out.1 i hlt
          have by' := HF.out.2 k hlk
          have bp := prod_le bx by'
          have HE : Hid (updN (rowN f g (allN f g i) i k) p (rowN f g (allN f g i) i k p + x * y) = rowN f g (allN f g i) i (k + 1)) := Lib.hid (by rw [← hp, ← hy, ← HX.out]; rfl)
          rw [HX.out] at bx bp
          rw [hy] at by' bp
          have HP := Lib.hid (fun w => plus_any (rowN f g (allN f g i) i k p) x y w (by omega) (by omega) (by omega))
          have H := Lib.hid HR
          clear HR hy hp bv bx by' bp
          go_wp2_with (first
            | ((with_reducible apply own_index Tryd.underlying25 oneW); (case hgd => exact rfl); (case ho => exact rfl); (case hx => exact rfl); (case hy => exact rfl); (case hi => omega); intro _ _; go_simp)
            | ((with_reducible apply pair_load rowP H); (case hgd => exact rfl); (case ho => exact rfl); (case hx => exact rfl); (case hi => first | exact at0 | exact at1 | exact at2 | exact at3 | exact at4 | exact at5 | exact at6); (case hj => omega); intro _ _; go_simp)
            | ((with_reducible refine (HP.out _).mono ?_); rintro e wc ⟨rfl, hb⟩; replace H := Lib.hid (H.out.call hb); clear hb)
            | ((with_reducible apply pair_store rowP H); (case hgd => exact rfl); (case ho => exact rfl); (case hx => exact rfl); (case hy => exact rfl); (case hi => first | exact at0 | exact at1 | exact at2 | exact at3 | exact at4 | exact at5 | exact at6); (case hj => omega); intro ws H' _ _; replace H := H'; clear H'; simp only [List.set_cons_zero] at H; go_simp))
          rw [HE.out] at H
          go_roundw
          case rel => exact ⟨k + 1, by omega, by go_num, H.out⟩
          case measure => simp [intOf]; omega
        · obtain rfl : k = 8 := by omega
          clear hlk hk
          rw [show ((8 : Nat) : Int) = 8 from rfl]
          have H := Lib.hid HR
          clear HR
          go_wp2_with fail
          go_roundw
          case rel => exact ⟨i + 1, by omega, by go_num, H.out⟩
          case measure => simp [intOf]; omega
    · obtain rfl : i = 8 := by omega
      clear hlt hi
      rw [show ((8 : Nat) : Int) = 8 from rfl]
      have H := Lib.hid HR
      clear HR
      go_wp2_with (first
        | ((with_reducible apply own_load rowS H); (case hgd => exact rfl); (case ho => exact rfl); (case hx => exact rfl); (case hi => first | exact at0 | exact at1 | exact at2 | exact at3 | exact at4 | exact at5 | exact at6); intro _ _; go_simp)
        | ((with_reducible refine (HO.out _).mono ?_); rintro e wc ⟨c, q, rfl, hq, hc, hb⟩; replace H := Lib.hid (H.out.call hb); clear hb; have HQ := Lib.hid hq; have HN := Lib.hid (fun w => narrow_any c w hc); clear hq hc)
        | ((with_reducible refine (HN.out _).mono ?_); rintro e wc ⟨h, rfl, hl, hw, hb⟩; replace H := Lib.hid (H.out.call hb); clear hb; have HL := Lib.hid (And.intro hl hw); clear hl hw)
        | ((with_reducible apply own_store rowE H); (case hgd => exact rfl); (case ho => exact rfl); (case hx => exact rfl); (case hy => exact rfl); (case hi => first | exact at0 | exact at1 | exact at2 | exact at3 | exact at4 | exact at5 | exact at6); intro ws H' _ _; replace H := H'; clear H'; simp only [List.set_cons_zero, List.set_cons_succ] at H; go_simp))
      refine bodyPost_ret (own_result 1 rowE rfl _ H rfl rfl) rfl ⟨h, rfl, HL.out.1, ?_, H.out.bel⟩
      rw [HL.out.2, ← HV.out, HQ.out, Nat.add_mul_mod_self_right]
end Go.Proofs.YtjjdhbmlinjhjaaDoor
