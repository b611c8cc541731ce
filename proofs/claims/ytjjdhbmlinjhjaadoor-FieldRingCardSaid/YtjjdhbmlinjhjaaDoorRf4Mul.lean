/-
  The contract of chicoryref04's Mul.
-/
import Derived.Test.YtjjdhbmlinjhjaaDoorRf4Ops
import Derived.Laws.Cover3
namespace Go.Proofs.YtjjdhbmlinjhjaaDoor
open Go.RowKit

/-- One row of products, the first k of them; the first i rows. -/
def rowM (f g s : Nat → Int) (i : Nat) : Nat → Nat → Int
  | 0 => s
  | k + 1 => updZ (rowM f g s i k) (i + k) (rowM f g s i k (i + k) + f i * g k)
def allM (f g : Nat → Int) : Nat → Nat → Int
  | 0 => fun _ => 0
  | i + 1 => rowM f g (allM f g i) i 16
theorem val_zero : ∀ n, val (fun _ => 0) n = 0
  | 0 => rfl
  | n + 1 => by unfold val; rw [val_zero n, Int.zero_mul]; rfl
theorem val_rowM (f g s : Nat → Int) (i : Nat) (hi : i < 16) : ∀ k, k ≤ 15 + 1 → val (rowM f g s i k) 31 = val s 31 + f i * val g k * 268435456 ^ i
  | 0, _ => by simp [rowM, val]
  | k + 1, hk => by
    unfold rowM
    rw [val_upd _ _ _ _ (by omega), val_rowM f g s i hi k (by omega)]
    rw [show val g (k + 1) = val g k + g k * 268435456 ^ k from rfl, Int.pow_add, Int.mul_add, Int.add_mul, Int.add_comm (rowM f g s i k (i + k)), Int.add_sub_cancel, Int.add_assoc]
    congr 2
    rw [Int.mul_assoc, Int.mul_assoc, Int.mul_comm (268435456 ^ i) (268435456 ^ k), Int.mul_assoc]
theorem val_allM (f g : Nat → Int) : ∀ i, i ≤ 16 → val (allM f g i) 31 = val f i * val g 16
  | 0, _ => by show val (fun _ => 0) 31 = 0 * val g 16; rw [val_zero, Int.zero_mul]
  | i + 1, hi => by
    unfold allM
    rw [val_rowM _ _ _ _ (by omega) 16 (by omega), val_allM f g i (by omega)]
    rw [show val f (i + 1) = val f i + f i * 268435456 ^ i from rfl, Int.add_mul, Int.mul_assoc, Int.mul_assoc, Int.mul_comm (268435456 ^ i)]
theorem prod_bd {x y : Int} (hx : 0 ≤ x ∧ x < 268435456) (hy : 0 ≤ y ∧ y < 268435456) : 0 ≤ x * y ∧ x * y ≤ 72057593501057025 := by
  refine ⟨Int.mul_nonneg hx.1 hy.1, ?_⟩
  have h1 := Int.mul_le_mul (show x ≤ 268435455 by omega) (show y ≤ 268435455 by omega) hy.1 (by omega)
  omega
theorem rowM_bd {f g s : Nat → Int} (hf : ∀ i, 0 ≤ f i ∧ f i < 268435456) (hg : ∀ i, 0 ≤ g i ∧ g i < 268435456) (i : Nat) (hs : ∀ j, 0 ≤ s j ∧ s j ≤ (i : Int) * 72057593501057025) :
    ∀ k j, 0 ≤ rowM f g s i k j ∧ rowM f g s i k j ≤ (i : Int) * 72057593501057025 + 72057593501057025 ∧ (i + k ≤ j → rowM f g s i k j = s j)
  | 0, j => by have := hs j; unfold rowM; exact ⟨by omega, by omega, fun _ => rfl⟩
  | k + 1, j => by
    have ih := rowM_bd hf hg i hs k
    have hp := prod_bd (hf i) (hg k)
    unfold rowM updZ
    by_cases e : j = i + k
    · have h1 := ih (i + k)
      have h2 := h1.2.2 (Nat.le_refl _)
      have h3 := hs (i + k)
      rw [if_pos e, h2]
      exact ⟨by omega, by omega, fun h => by omega⟩
    · rw [if_neg e]
      have h1 := ih j
      exact ⟨h1.1, h1.2.1, fun h => h1.2.2 (by omega)⟩
theorem allM_bd {f g : Nat → Int} (hf : ∀ i, 0 ≤ f i ∧ f i < 268435456) (hg : ∀ i, 0 ≤ g i ∧ g i < 268435456) : ∀ i j, 0 ≤ allM f g i j ∧ allM f g i j ≤ (i : Int) * 72057593501057025
  | 0, j => by simp [allM]
  | i + 1, j => by
    have h := rowM_bd hf hg i (fun j => allM_bd hf hg i j) 16 j
    unfold allM
    rw [Int.natCast_add, Int.add_mul]
    exact ⟨h.1, by have := h.2.1; omega⟩
/-- How great the digits may be while those from 2^448 on come in again: the K first ones are left. -/
def bdM (K j : Nat) : Nat := if 24 ≤ j then 1 else if 16 ≤ j then (if K ≤ j + 8 then 2 else 1) else if 8 ≤ j then (if K ≤ j + 8 then 4 else if K ≤ j + 16 then 2 else 1) else (if K ≤ j + 16 then 3 else 1)
theorem bdM_step : ∀ i, i < 31 → 16 ≤ i → ∀ j, j < 31 → (if j = i - 8 then bdM (i + 1) (i - 8) + bdM (i + 1) i else if j = i - 16 then bdM (i + 1) (i - 16) + bdM (i + 1) i else bdM (i + 1) j) ≤ bdM i j := by decide +kernel
theorem bdM_start : ∀ j, j < 31 → 1 ≤ bdM 31 j := by decide +kernel
theorem bdM_le (K j : Nat) : bdM K j ≤ 4 := by unfold bdM; repeat (first | split | omega)
/-- One of them comes in again. -/
def foldM (c : Nat → Int) (i : Nat) : Nat → Int := updZ (updZ c (i - 16) (c (i - 16) + c i)) (i - 8) (c (i - 8) + c i)
theorem foldM_bd {c : Nat → Int} {i : Nat} (hi : 16 ≤ i) (h31 : i < 31) (h : ∀ j, j < 31 → 0 ≤ c j ∧ c j ≤ 1152921496016912400 * ((bdM (i + 1) j : Nat) : Int)) : ∀ j, j < 31 → 0 ≤ foldM c i j ∧ foldM c i j ≤ 1152921496016912400 * ((bdM i j : Nat) : Int) := by
  intro j hj
  have hs := bdM_step i h31 hi j hj
  have h1 := h (i - 8) (by omega)
  have h2 := h (i - 16) (by omega)
  have h3 := h i h31
  have h4 := h j hj
  unfold foldM updZ
  by_cases e1 : j = i - 8
  · rw [if_pos e1] at hs ⊢
    omega
  · rw [if_neg e1] at hs ⊢
    by_cases e2 : j = i - 16
    · rw [if_pos e2] at hs ⊢
      omega
    · rw [if_neg e2] at hs ⊢
      omega
theorem val_foldM (c : Nat → Int) (i : Nat) (hi : 16 ≤ i) : val c (i + 1) = val (foldM c i) i + c i * 268435456 ^ (i - 16) * pZ := by
  obtain ⟨k, rfl⟩ : ∃ k, i = k + 16 := ⟨i - 16, by omega⟩
  unfold foldM
  rw [val_upd _ _ _ _ (by omega), val_upd _ _ _ _ (by omega), show updZ c (k + 16 - 16) (c (k + 16 - 16) + c (k + 16)) (k + 16 - 8) = c (k + 16 - 8) by unfold updZ; rw [if_neg (by omega)]]
  rw [show val c (k + 16 + 1) = val c (k + 16) + c (k + 16) * 268435456 ^ (k + 16) from rfl, show k + 16 - 16 = k by omega, show k + 16 - 8 = k + 8 by omega]
  rw [show pZ = 268435456 ^ 16 - 268435456 ^ 8 - 1 by decide +kernel, Int.add_comm (c k), Int.add_sub_cancel, Int.add_comm (c (k + 8)), Int.add_sub_cancel, Int.pow_add, Int.pow_add]
  generalize val c (k + 16) = v
  generalize c (k + 16) = d
  generalize (268435456 : Int) ^ 16 = x
  generalize (268435456 : Int) ^ 8 = y
  generalize (268435456 : Int) ^ k = z
  rw [Int.mul_sub, Int.mul_sub, Int.mul_one, Int.mul_assoc d z x, Int.mul_assoc d z y]
  omega
theorem val_nonneg {f : Nat → Int} : ∀ n, (∀ i, i < n → 0 ≤ f i) → 0 ≤ val f n
  | 0, _ => Int.le_refl _
  | n + 1, h => by
    have h1 := val_nonneg n fun i hi => h i (by omega)
    have h2 := Int.mul_nonneg (h n (by omega)) (show (0 : Int) ≤ 268435456 ^ n from Int.le_of_lt (Int.pow_pos (by omega)))
    unfold val
    omega
theorem zeroAll : AZ .i64 31 (fun _ => 0) = #[.int .i64 0, .int .i64 0, .int .i64 0, .int .i64 0, .int .i64 0, .int .i64 0, .int .i64 0, .int .i64 0, .int .i64 0, .int .i64 0, .int .i64 0, .int .i64 0, .int .i64 0, .int .i64 0, .int .i64 0, .int .i64 0, .int .i64 0, .int .i64 0, .int .i64 0, .int .i64 0, .int .i64 0, .int .i64 0, .int .i64 0, .int .i64 0, .int .i64 0, .int .i64 0, .int .i64 0, .int .i64 0, .int .i64 0, .int .i64 0, .int .i64 0] := by
  unfold AZ
  rfl
theorem rowAll : IsRow Tryd.prog 88 31 := ⟨⟨_, Tryd.underlying88, rfl⟩, by kernel_rfl⟩
theorem nilAll (w : World) : (zeroValue 88).run Tryd.prog w = .ok (.agg (AZ .i64 31 fun _ => 0)) w := by rw [zeroAll]; exact Tryd.zeroValue88 w
set_option maxRecDepth 10000 in
set_option maxHeartbeats 3200000 in
theorem refMul_any (x y : Nat) (w : World) (hx : x < pN) (hy : y < pN) :
    Calls Tryd.prog 32 #[FV x, FV y] w fun e w' => e = .returned (FV (x * y % pN)) ∧ Below w.heap.size w w' := by
  have hv : val (allM (dF x) (dF y) 16) 31 = ((x * y : Nat) : Int) := by rw [val_allM _ _ _ (by omega), val_FV hx, val_FV hy, Int.natCast_mul]
  have HV := Lib.hid hv
  have HX := Lib.hid (dF_bd x)
  have HY := Lib.hid (dF_bd y)
  have HD := Lib.hid (allM_bd (dF_bd x) (dF_bd y))
  have HF : Hid (FV x = .agg (AZ .i64 16 (dF x)) ∧ FV y = .agg (AZ .i64 16 (dF y))) := Lib.hid ⟨rfl, rfl⟩
  generalize dF x = f at *
  generalize dF y = g at *
  clear hv hx hy
  have H := Lib.hid (Ow.start w)
  rw [HF.out.1, HF.out.2]
  clear HF
  go_enter Tryd.func32, Tryd.ntmps32
  go_wp2_with (first
    | ((fail_if_success have := g1); (with_reducible apply own_box H); (case hgd => exact rfl); (case ho => exact rfl); (case hx => exact rfl); intro w1 g1 H' _ _; replace H := H'; clear H'; go_simp)
    | ((fail_if_success have := g2); (with_reducible apply own_box H); (case hgd => exact rfl); (case ho => exact rfl); (case hx => exact rfl); intro w2 g2 H' _ _; replace H := H'; clear H'; go_simp)
    | ((fail_if_success have := g3); (with_reducible apply own_alloc intsF.zero H); (case hgd => exact rfl); (case ho => exact rfl); intro w3 g3 H' _ _; replace H := H'; clear H'; go_simp)
    | ((fail_if_success have := g4); (with_reducible apply own_alloc nilAll H); (case hgd => exact rfl); (case ho => exact rfl); intro w4 g4 H' _ _; replace H := H'; clear H'; go_simp))
  go_loopw [6, 7] (fun v6 v7 wr => ∃ i : Nat, i ≤ 16 ∧ v6 = .int .i64 i ∧ Ow w wr [(g4, Blk 88 .i64 31 (allM f g i)), (g3, Blk 36 .i64 16 fun _ => 0), (g2, Blk 36 .i64 16 g), (g1, Blk 36 .i64 16 f)]) (fun v6 _ _ => 16 - (intOf v6).toNat)
  case atStart => exact ⟨0, by omega, rfl, H.out⟩
  case round =>
    clear H
    obtain ⟨i, hi, rfl, HR⟩ := hrel
    by_cases hlt : i < 16
    · have hid : decide ((i : Int) < 16) = true := by simp; omega
      have i16 : (i : Int) < 16 := by omega
      have H := Lib.hid HR
      clear HR
      go_wp2_with fail
      go_loopw [7] (fun v7 wr => ∃ k : Nat, k ≤ 16 ∧ v7 = .int .i64 k ∧ Ow w wr [(g4, Blk 88 .i64 31 (rowM f g (allM f g i) i k)), (g3, Blk 36 .i64 16 fun _ => 0), (g2, Blk 36 .i64 16 g), (g1, Blk 36 .i64 16 f)]) (fun v7 _ => 16 - (intOf v7).toNat)
      case atStart => exact ⟨0, by omega, rfl, H.out⟩
      case round =>
        clear H
        obtain ⟨k, hk, rfl, HR⟩ := hrel
        by_cases hlk : k < 16
        · have hkd : decide ((k : Int) < 16) = true := by simp; omega
          have k16 : (k : Int) < 16 := by omega
          have H1 := Lib.hid HR
          clear HR
          go_wp2_with fail
          refine wp_region_still_tail 17 (by kernel_rfl) (by kernel_rfl) ?_
          change wpStill _ _ wr.drew (fun a' => wpList _ _ _ _ a' wr.drew) _ _
          have D := Lib.hid H1.out.drew
          clear H1
          generalize wr.drew = w8 at *
          obtain ⟨p, hp⟩ : ∃ p, i + k = p := ⟨_, rfl⟩
          have pI : (i : Int) + (k : Int) = (p : Int) := by omega
          have p31 : p < 31 := by omega
          have f1 : IntKind.i64.wrap (p : Int) = (p : Int) := IntWalk.i64_in _ (by omega)
          have p31' : (p : Int) < 31 := by omega
          have hc1 := D.out.cell 3 rfl i hlt
          have hc2 := D.out.cell 2 rfl k hlk
          have hc3 := D.out.cell 0 rfl p p31
          have hz := D.out.thaw 0 rfl p
          have bv := rowM_bd HX.out HY.out i (HD.out i) k p
          have bv2 := bv.2.1
          have bv1 := bv.1
          have bp := prod_bd (HX.out i) (HY.out k)
          have U1 := Lib.hid (D.out.setCell 0 rfl p (rowM f g (allM f g i) i k p + f i * g k))
          have UE : Hid (updZ (rowM f g (allM f g i) i k) p (rowM f g (allM f g i) i k p + f i * g k) = rowM f g (allM f g i) i (k + 1)) := Lib.hid (by rw [← hp]; rfl)
          rw [UE.out] at U1
          clear D UE bv
          have hs : (i : Int) * 72057593501057025 ≤ 15 * 72057593501057025 := Int.mul_le_mul_of_nonneg_right (by omega) (by omega)
          obtain ⟨u, hu⟩ : ∃ u, (i : Int) * 72057593501057025 = u := ⟨_, rfl⟩
          rw [hu] at hs bv2
          obtain ⟨v, hv⟩ : ∃ v, rowM f g (allM f g i) i k p = v := ⟨_, rfl⟩
          obtain ⟨a, ha⟩ : ∃ a, f i = a := ⟨_, rfl⟩
          obtain ⟨b, hb⟩ : ∃ b, g k = b := ⟨_, rfl⟩
          rw [hv] at hc3 U1 bv1 bv2
          rw [ha] at hc1 U1 bp
          rw [hb] at hc2 U1 bp
          obtain ⟨z, hz'⟩ : ∃ z, a * b = z := ⟨_, rfl⟩
          rw [hz'] at U1 bp
          obtain ⟨bp1, bp2⟩ := bp
          have ba := HX.out i
          have bb := HY.out k
          rw [ha] at ba
          rw [hb] at bb
          have w1 : IntKind.i64.wrap z = z := IntWalk.i64_in _ (by omega)
          have w2 : IntKind.i64.wrap (v + z) = v + z := IntWalk.i64_in _ (by omega)
          have HP := Lib.hid hp
          clear hu hv ha hb hp ba bb hs
          simp only [List.take_succ_cons, List.take_zero, List.drop_succ_cons, List.drop_zero]
          iterate 17 still_step
          refine wpStill_nil ?_
          clear w1 w2 hz' pI
          go_wp2_with fail
          go_roundw
          case rel => exact ⟨k + 1, by omega, by go_num, U1.out⟩
          case measure => simp [intOf]; omega
        · obtain rfl : k = 16 := by omega
          clear hlk hk
          rw [show ((16 : Nat) : Int) = 16 from rfl]
          have H := Lib.hid HR
          clear HR
          go_wp2_with fail
          go_roundw
          case rel => exact ⟨i + 1, by omega, by go_num, H.out⟩
          case measure => simp [intOf]; omega
    · obtain rfl : i = 16 := by omega
      clear hlt hi
      rw [show ((16 : Nat) : Int) = 16 from rfl]
      have H := Lib.hid HR
      clear HR
      go_wp2_with fail
      go_loopw [8] (fun v8 wr => ∃ (K : Nat) (c : Nat → Int) (q : Int), 16 ≤ K ∧ K ≤ 31 ∧ v8 = .int .i64 ((K : Int) - 1) ∧ ((x * y : Nat) : Int) = val c K + q * pZ ∧ (∀ j, j < 31 → 0 ≤ c j ∧ c j ≤ 1152921496016912400 * ((bdM K j : Nat) : Int)) ∧ Ow w wr [(g4, Blk 88 .i64 31 c), (g3, Blk 36 .i64 16 fun _ => 0), (g2, Blk 36 .i64 16 g), (g1, Blk 36 .i64 16 f)]) (fun v8 _ => (intOf v8 + 1).toNat)
      case atStart => exact ⟨31, allM f g 16, 0, by omega, by omega, rfl, by rw [HV.out]; omega, fun j hj => by have := HD.out 16 j; have := bdM_start j hj; omega, H.out⟩
      case round =>
        clear H
        obtain ⟨K, c, q, hK1, hK2, rfl, hq, hb, HR⟩ := hrel
        by_cases hlt : 16 < K
        · obtain ⟨i, rfl⟩ : ∃ i, K = i + 1 := ⟨K - 1, by omega⟩
          have e : (((i + 1 : Nat) : Int) - 1) = (i : Int) := by omega
          rw [e]
          have i16 : 16 ≤ i := by omega
          have i31 : i < 31 := by omega
          have hid : decide ((16 : Int) ≤ (i : Int)) = true := by simp; omega
          obtain ⟨j, hj⟩ : ∃ j, i - 16 = j := ⟨_, rfl⟩
          obtain ⟨m, hm⟩ : ∃ m, i - 8 = m := ⟨_, rfl⟩
          have ej : (i : Int) - 16 = (j : Int) := by omega
          have em : (i : Int) - 8 = (m : Int) := by omega
          have iI : (i : Int) < 31 := by omega
          have f1 : IntKind.i64.wrap (j : Int) = (j : Int) := IntWalk.i64_in _ (by omega)
          have f2 : IntKind.i64.wrap (m : Int) = (m : Int) := IntWalk.i64_in _ (by omega)
          have jI : (j : Int) < 31 := by omega
          have mI : (m : Int) < 31 := by omega
          have HQ := Lib.hid hq
          have HB := Lib.hid hb
          have HFB := Lib.hid (foldM_bd i16 i31 hb)
          have HFV := Lib.hid (val_foldM c i i16)
          have HFE : Hid (updZ (updZ c j (c j + c i)) m (c m + c i) = foldM c i) := Lib.hid (by unfold foldM; rw [hj, hm])
          have b1 := hb i i31
          have b2 := hb j (by omega)
          have b3 := hb m (by omega)
          have l1 := bdM_le (i + 1) i
          have l2 := bdM_le (i + 1) j
          have l3 := bdM_le (i + 1) m
          obtain ⟨z, hz⟩ : ∃ z, c i = z := ⟨_, rfl⟩
          obtain ⟨a, ha⟩ : ∃ a, c j = a := ⟨_, rfl⟩
          obtain ⟨b, hb'⟩ : ∃ b, c m = b := ⟨_, rfl⟩
          rw [hz] at b1
          rw [ha] at b2
          rw [hb'] at b3
          have z0 : 0 ≤ z := b1.1
          have z1 : z ≤ 4611685984067649600 := by omega
          have a0 : 0 ≤ a := b2.1
          have a1 : a ≤ 4611685984067649600 := by omega
          have c0 : 0 ≤ b := b3.1
          have c1 : b ≤ 4611685984067649600 := by omega
          rw [hz, ha, hb'] at HFE
          have H1 := Lib.hid HR
          have HZ := Lib.hid hz
          have HA := Lib.hid ha
          have HBm := Lib.hid hb'
          have NJ : Hid (i ≠ j ∧ m ≠ j) := Lib.hid (by omega)
          have jl : j < 31 := by omega
          have ml : m < 31 := by omega
          clear HR hq hb b1 b2 b3 l1 l2 l3 hz ha hb' hlt hK1 hK2 hj hm e
          go_wp2_with fail
          refine wp_region_still_tail 11 (by kernel_rfl) (by kernel_rfl) ?_
          change wpStill _ _ wr.drew (fun a' => wpList _ _ _ _ a' wr.drew) _ _
          have D := Lib.hid H1.out.drew
          clear H1
          generalize wr.drew = w8 at *
          have hc1 : w8.cell? ⟨g4, i, none⟩ = some (.int .i64 z) := by rw [D.out.cell 0 rfl i i31, HZ.out]
          have hc2 : w8.cell? ⟨g4, j, none⟩ = some (.int .i64 a) := by rw [D.out.cell 0 rfl j jl, HA.out]
          have hz := D.out.thaw 0 rfl j
          have D2 := Lib.hid (D.out.setCell 0 rfl j (a + z))
          simp only [List.set_cons_zero] at D2
          clear D
          simp only [List.take_succ_cons, List.take_zero, List.drop_succ_cons, List.drop_zero]
          iterate 11 still_step
          refine wpStill_nil ?_
          go_wp2_with fail
          obtain ⟨w9, hw9⟩ : ∃ w9, w8.setCell ⟨g4, j, none⟩ (.int .i64 (a + z)) = w9 := ⟨_, rfl⟩
          rw [hw9] at D2 ⊢
          clear hw9 hc1 hc2 hz
          refine wp_region_still_tail 11 (by kernel_rfl) (by kernel_rfl) ?_
          change wpStill _ _ w9.drew (fun a' => wpList _ _ _ _ a' w9.drew) _ _
          have D := Lib.hid D2.out.drew
          clear D2
          generalize w9.drew = w10 at *
          have hc1 : w10.cell? ⟨g4, i, none⟩ = some (.int .i64 z) := by
            rw [D.out.cell 0 rfl i i31]
            unfold updZ
            rw [if_neg NJ.out.1, HZ.out]
          have hc2 : w10.cell? ⟨g4, m, none⟩ = some (.int .i64 b) := by
            rw [D.out.cell 0 rfl m ml]
            unfold updZ
            rw [if_neg NJ.out.2, HBm.out]
          have hz := D.out.thaw 0 rfl m
          have U1 := Lib.hid (D.out.setCell 0 rfl m (b + z))
          rw [HFE.out] at U1
          clear D
          simp only [List.take_succ_cons, List.take_zero, List.drop_succ_cons, List.drop_zero]
          iterate 11 still_step
          refine wpStill_nil ?_
          go_wp2_with fail
          go_roundw
          case rel => exact ⟨i, foldM c i, q + c i * 268435456 ^ (i - 16), i16, by omega, by go_num, by rw [HQ.out, HFV.out, Int.add_mul]; omega, HFB.out, U1.out⟩
          case measure => (simp [intOf] <;> omega)
        · obtain rfl : K = 16 := by omega
          have e : (((16 : Nat) : Int) - 1) = 15 := rfl
          rw [e]
          have hd : decide ((16 : Int) ≤ 15) = false := rfl
          have hat : ∀ w, (Instr.arrayAt 36 (.slice (some ⟨g4, 0, none⟩) 16 31)).run Tryd.prog w = .ok (.pointer (some ⟨g4, 0, none⟩)) w := fun w => run_arrayAt w _ _ 16 _ 16 31 Tryd.underlying36 (by omega)
          have hf : Fine c := fun k hk => by
            have h1 := hb k (by omega)
            have h2 := bdM_le 16 k
            omega
          have hn : 0 ≤ val c 16 := val_nonneg 16 fun k hk => (hb k (by omega)).1
          have HN := Lib.hid (fun w => norm_any c w hf hn)
          have e2 : (val c 16 % pZ).toNat = x * y % pN := by rw [← left_p, hq, Int.add_mul_emod_self_right]
          rw [e2] at HN
          have H := Lib.hid HR
          clear HR hq hb e hf hn e2 hlt hK1 hK2
          go_wp2_with (first
            | ((with_reducible apply own_load_part rowF H); (case hgd => exact rfl); (case ho => exact rfl); (case hx => exact rfl); (case hi => first | exact at0 | exact at1 | exact at2 | exact at3 | exact at4 | exact at5 | exact at6); (case hj => omega); intro _ _; go_simp)
            | ((with_reducible apply own_load rowF H); (case hgd => exact rfl); (case ho => exact rfl); (case hx => exact rfl); (case hi => first | exact at0 | exact at1 | exact at2 | exact at3 | exact at4 | exact at5 | exact at6); intro _ _; go_simp)
            | ((with_reducible refine (HN.out _).mono ?_); rintro e wc ⟨rfl, hb⟩; replace H := Lib.hid (H.out.call hb); clear hb)
            | ((with_reducible apply own_store rowF H); (case hgd => exact rfl); (case ho => exact rfl); (case hx => exact rfl); (case hy => exact rfl); (case hi => first | exact at0 | exact at1 | exact at2 | exact at3 | exact at4 | exact at5 | exact at6); intro ws H' _ _; replace H := H'; clear H'; simp only [List.set_cons_zero, List.set_cons_succ] at H; go_simp))
          exact bodyPost_ret (own_result 1 rowF rfl _ H rfl rfl) rfl ⟨rfl, H.out.bel⟩
end Go.Proofs.YtjjdhbmlinjhjaaDoor
