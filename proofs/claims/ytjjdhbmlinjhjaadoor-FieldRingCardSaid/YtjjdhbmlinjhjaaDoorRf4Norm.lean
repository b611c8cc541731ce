/-
  The contract of chicoryref04's Norm.
-/
import Derived.Test.YtjjdhbmlinjhjaaDoorRf4Math
namespace Go.Proofs.YtjjdhbmlinjhjaaDoor
open Go.RowKit

/-- Digits that a sum or a product may leave. -/
def Fine (f : Nat → Int) : Prop := ∀ i, i < 16 → -4611686018427387904 ≤ f i ∧ f i ≤ 4611686018427387904
theorem ovZ_bd {f : Nat → Int} (h : Fine f) : ∀ i, i ≤ 16 → -17179869400 ≤ ovZ f i ∧ ovZ f i ≤ 17179869400
  | 0, _ => by simp [ovZ]
  | i + 1, hi => by
    have ih := ovZ_bd h i (by omega)
    have hf := h i (by omega)
    show -17179869400 ≤ (f i + ovZ f i) / 268435456 ∧ (f i + ovZ f i) / 268435456 ≤ 17179869400
    omega
theorem passed_fine {f : Nat → Int} (h : Fine f) : Fine (passed f) := by
  intro i hi
  have ho := ovZ_bd h 16 (by omega)
  have h0 := dgZ_bd f 0
  have h8 := dgZ_bd f 8
  have hi := dgZ_bd f i
  unfold passed updZ
  split
  · omega
  · split <;> omega
theorem passed_done {f : Nat → Int} (h : ovZ f 16 = 0) : passed f = dgZ f := by
  funext k
  unfold passed updZ
  rw [h]
  split
  · rename_i e; rw [e]; omega
  · split
    · rename_i e; rw [e]; omega
    · rfl
theorem ovZ_nonneg {f : Nat → Int} (h : 0 ≤ val f 16) : 0 ≤ ovZ f 16 := by
  have h1 := val_pass f 16
  have h2 := (val_bd (dgZ_bd f) 16).2
  rcases (by omega : 0 ≤ ovZ f 16 ∨ ovZ f 16 ≤ -1) with h3 | h3
  · exact h3
  · exfalso
    have hB : (0 : Int) < 268435456 ^ 16 := Int.pow_pos (by omega)
    generalize (268435456 : Int) ^ 16 = B at *
    have := Int.mul_le_mul_of_nonneg_right h3 (show 0 ≤ B by omega)
    omega
theorem pZ_pos : 1 ≤ pZ := by decide
theorem passed_nonneg {f : Nat → Int} (h : 0 ≤ val f 16) : 0 ≤ val (passed f) 16 := by
  have h1 := val_pass f 16
  have h2 := (val_bd (dgZ_bd f) 16).1
  have h3 := ovZ_nonneg h
  rw [val_passed]
  have hp : pZ ≤ 268435456 ^ 16 := by decide +kernel
  generalize (268435456 : Int) ^ 16 = B at *
  have h4 := Int.mul_le_mul_of_nonneg_left hp h3
  omega
/-- One step of a pass, as the reference goes it. -/
theorem step_tmod (n : Int) : (n.tmod 268435456 < 0 ∧ n.tmod 268435456 + 268435456 = n % 268435456) ∨ (0 ≤ n.tmod 268435456 ∧ n.tmod 268435456 = n % 268435456) := by
  rcases (by omega : 0 ≤ n ∨ n < 0) with h | h
  · right
    rw [Int.tmod_eq_emod_of_nonneg h]
    omega
  · obtain ⟨m, rfl⟩ : ∃ m : Int, n = -m := ⟨-n, by omega⟩
    rw [Int.neg_tmod, Int.tmod_eq_emod_of_nonneg (by omega)]
    omega
theorem step_tdiv (n : Int) : (n - n % 268435456).tdiv 268435456 = n / 268435456 ∧ (n - n % 268435456) / 268435456 = n / 268435456 := by
  have e : n - n % 268435456 = n / 268435456 * 268435456 := by omega
  constructor
  · rw [e, Int.mul_tdiv_cancel _ (by omega)]
  · omega
theorem updZ_updZ (f : Nat → Int) (i : Nat) (u v : Int) : updZ (updZ f i u) i v = updZ f i v := by
  funext k
  unfold updZ
  split <;> rfl
theorem updZ_at (f : Nat → Int) (i : Nat) (v : Int) : updZ f i v i = v := by simp [updZ]
/-- A number's digits, and the number as the reference holds it. -/
def dF (x i : Nat) : Int := ((x / 268435456 ^ i % 268435456 : Nat) : Int)
abbrev FV (x : Nat) : Value := .agg (AZ .i64 16 (dF x))
theorem dF_bd (x i : Nat) : 0 ≤ dF x i ∧ dF x i < 268435456 := by unfold dF; omega
theorem canon {f : Nat → Int} (h : ∀ i, 0 ≤ f i ∧ f i < 268435456) : ∀ (n x : Nat), val f n = (x : Int) → ∀ i, i < n → f i = dF x i
  | 0, _, _, _, hi => by omega
  | n + 1, x, hx, i, hi => by
    have hb := val_bd h n
    have hn := h n
    obtain ⟨v, hv⟩ : ∃ v : Nat, val f n = (v : Int) := ⟨(val f n).toNat, by omega⟩
    obtain ⟨d, hd⟩ : ∃ d : Nat, f n = (d : Int) := ⟨(f n).toNat, by omega⟩
    have hvB : v < 268435456 ^ n := by
      have := hb.2
      rw [hv] at this
      exact Int.ofNat_lt.1 (by rw [Int.natCast_pow]; exact this)
    have hxe : x = v + 268435456 ^ n * d := by
      have := hx
      unfold val at this
      rw [hv, hd] at this
      have h2 : (((v + 268435456 ^ n * d : Nat)) : Int) = (x : Int) := by
        rw [← this, Int.natCast_add, Int.natCast_mul, Int.natCast_pow, Int.mul_comm (d : Int)]
        rfl
      exact (Int.ofNat_inj.1 h2).symm
    by_cases e : i = n
    · subst e
      have hpos : 0 < 268435456 ^ i := Nat.pow_pos (by omega)
      unfold dF
      rw [hxe, Nat.add_mul_div_left _ _ hpos, Nat.div_eq_of_lt hvB, Nat.zero_add, hd]
      omega
    · have ih := canon h n v hv i (by omega)
      rw [ih]
      obtain ⟨k, rfl⟩ : ∃ k, n = i + (k + 1) := ⟨n - i - 1, by omega⟩
      have hpos : 0 < 268435456 ^ i := Nat.pow_pos (by omega)
      unfold dF
      congr 1
      rw [hxe, Nat.pow_add, Nat.mul_assoc, Nat.add_mul_div_left _ _ hpos, Nat.pow_succ, Nat.mul_comm (268435456 ^ k), Nat.mul_assoc, Nat.add_mul_mod_self_left]
theorem FV_of {f : Nat → Int} (h : ∀ i, 0 ≤ f i ∧ f i < 268435456) {x : Nat} (hx : val f 16 = (x : Int)) : Value.agg (AZ .i64 16 f) = FV x :=
  congrArg Value.agg (AZ_congr fun i hi => canon h 16 x hx i hi)
theorem val_dF (x : Nat) : ∀ n, val (dF x) n = ((x % 268435456 ^ n : Nat) : Int)
  | 0 => by simp [val, Nat.mod_one]
  | n + 1 => by
    unfold val
    rw [val_dF x n, Nat.pow_succ, Nat.mod_mul, Int.natCast_add, Int.natCast_mul, Int.natCast_pow]
    unfold dF
    rw [Int.mul_comm]
    rfl
/-- Where digits stand. -/
theorem mod_p {a b q : Int} (h : a = b + q * pZ) (h0 : 0 ≤ b) (h1 : b < pZ) : a % pZ = b := by
  rw [h, Int.add_mul_emod_self_right, Int.emod_eq_of_lt h0 h1]
set_option maxRecDepth 8000 in
set_option maxHeartbeats 2000000 in
theorem norm_walk (f : Nat → Int) (w : World) (hf : Fine f) (h0 : 0 ≤ val f 16)
    (HI : pZ ≤ val f 16 → ∀ g w, Fine g → 0 ≤ val g 16 → val g 16 < pZ → Calls Tryd.prog 47 #[.agg (AZ .i64 16 g)] w fun e w' => e = .returned (FV (val g 16 % pZ).toNat) ∧ Below w.heap.size w w') :
    Calls Tryd.prog 47 #[.agg (AZ .i64 16 f)] w fun e w' => e = .returned (FV (val f 16 % pZ).toNat) ∧ Below w.heap.size w w' := by
  have HII := Lib.hid HI
  clear HI
  go_enter Tryd.func47, Tryd.ntmps47
  go_wp2_with (first
    | ((with_reducible apply lay_boxZ); (case hgd => exact rfl); (case ho => exact rfl); (case hx => exact rfl); intro w1 g1 E1 R1 B1 _ _; go_simp)
    | ((with_reducible apply lay_allocZ intsF); (case hgd => exact rfl); (case ho => exact rfl); intro w2 g2 E2 R2 B2 _ _; go_simp))
  have hg : g1 < g2 := by rw [E2.out]; exact R1.out.lt
  have hb : Below w.heap.size w w2 := by
    have h1 := B1.out
    have h2 := B2.out
    rw [E1.out] at h1
    exact h1.trans (h2.mono (by rw [E2.out]; exact h1.size))
  have hs : w.heap.size ≤ g1 := by rw [E1.out]; exact Nat.le_refl _
  have M1 := Lib.hid (R1.out.below B2.out hg)
  have MB := Lib.hid hb
  have HF := Lib.hid hf
  have H0 := Lib.hid h0
  clear hb B1 B2 R1 hf h0
  go_loopg [3] ((2 * val f 16 + 1).toNat) (fun gk v3 wr => ∃ g o, v3 = .int .i64 o ∧ (2 * val g 16 + (if o = 0 then 0 else 1)).toNat ≤ gk ∧ 0 ≤ val g 16 ∧ val g 16 ≤ val f 16 ∧ (∃ q, val f 16 = val g 16 + q * pZ) ∧ Fine g ∧ (0 ≤ o ∧ o ≤ 17179869400) ∧ (o = 0 → ∀ i, 0 ≤ g i ∧ g i < 268435456) ∧ RowZ wr g1 36 .i64 16 g ∧ RowZ wr g2 36 .i64 16 (fun _ => 0) ∧ Below w.heap.size w wr)
  case atStart => exact ⟨f, 1, rfl, by simp, H0.out, Int.le_refl _, ⟨0, by omega⟩, HF.out, by omega, fun h => by omega, M1.out, R2.out, MB.out⟩
  case round =>
    clear M1 MB R2
    obtain ⟨g, o, rfl, hgk, hv0, hvf, hq, hgf, ⟨ho0, ho1⟩, hcan, HR, HZ, HB⟩ := hrel
    by_cases hz : o = 0
    · subst hz
      have hb := val_bd (f := g) (fun i => hcan rfl i) 16
      have hBp : (268435456 : Int) ^ 16 ≤ 2 * pZ := by decide +kernel
      have hlv := less_val (f := g) (fun i => hcan rfl i) 16
      rw [val_p] at hlv
      have HC := Lib.hid (hcan rfl)
      have G1 := Lib.hid HR
      have G2 := Lib.hid HZ
      have GB := Lib.hid HB
      have HG := Lib.hid hgf
      have HQ := Lib.hid hq
      have HVF := Lib.hid hvf
      have HV := Lib.hid hv0
      have HB16 := Lib.hid (Int.lt_of_lt_of_le hb.2 hBp)
      have d1 : ((0 : Int) != 0) = false := rfl
      clear hcan hgk hv0 hvf hq hgf HR HZ HB ho0 ho1 hb hBp HF H0
      by_cases hl : lessTo g 16 = true
      · have hvp := Lib.hid (hlv.1 hl)
        have HL := Lib.hid hl
        clear hlv hl
        go_wp2_with (first
          | ((with_reducible apply lay_loadZ intsF); (case hgd => exact rfl); (case ho => exact rfl); (case hx => exact rfl); (case hg => exact G1.out); intro _ _; go_simp)
          | ((with_reducible refine (less_any g _).mono ?_); rw [HL.out]; rintro e w4 ⟨rfl, B4⟩; have G1 := Lib.hid (G1.out.below B4 G1.out.lt); have G2 := Lib.hid (G2.out.below B4 G2.out.lt); have GB := Lib.hid (GB.out.trans (B4.mono GB.out.size)); clear B4)
          | ((with_reducible apply lay_storeZ intsF); (case hgd => exact rfl); (case ho => exact rfl); (case hx => exact rfl); (case hy => exact rfl); (case hg => exact G2.out); intro w5 R5 B5 A5 _ _; go_simp))
        refine bodyPost_ret (ints_result intsF rfl _ _ _ rfl R5.out) rfl ⟨?_, GB.out.trans (B5.out.mono (Nat.le_trans hs (Nat.le_of_lt hg)))⟩
        obtain ⟨q, hq⟩ := HQ.out
        have e := mod_p hq HV.out hvp.out
        rw [e]
        have hv := HV.out
        exact congrArg Ending.returned (FV_of HC.out (by omega))
      · have hl' : lessTo g 16 = false := by simpa using hl
        have hvp := Lib.hid (show pZ ≤ val g 16 by
          rcases (by omega : pZ ≤ val g 16 ∨ val g 16 < pZ) with h | h
          · exact h
          · exact absurd (hlv.2 h) hl)
        have HL := Lib.hid hl'
        clear hlv hl hl'
        go_wp2_with (first
          | ((with_reducible apply lay_loadZ intsF); (case hgd => exact rfl); (case ho => exact rfl); (case hx => exact rfl); (case hg => exact G1.out); intro _ _; go_simp)
          | ((with_reducible refine (less_any g _).mono ?_); rw [HL.out]; rintro e w4 ⟨rfl, B4⟩; have G1 := Lib.hid (G1.out.below B4 G1.out.lt); have G2 := Lib.hid (G2.out.below B4 G2.out.lt); have GB := Lib.hid (GB.out.trans (B4.mono GB.out.size)); clear B4)
          | ((with_reducible refine (prime_any _).mono ?_); rintro e w5 ⟨rfl, B5⟩; have G1 := Lib.hid (G1.out.below B5 G1.out.lt); have G2 := Lib.hid (G2.out.below B5 G2.out.lt); have GB := Lib.hid (GB.out.trans (B5.mono GB.out.size)); clear B5)
          | ((with_reducible apply lay_allocZ intsF); (case hgd => exact rfl); (case ho => exact rfl); intro w6 g6 E6 R6 B6 _ _; go_simp)
          | ((with_reducible apply lay_storeZ intsF); (case hgd => exact rfl); (case ho => exact rfl); (case hx => exact rfl); (case hy => exact rfl); (case hg => exact R6.out); intro w7 R7 B7 A7 _ _; go_simp))
        have n16 : g1 < g6 := by rw [E6.out]; exact G1.out.lt
        have n26 : g2 < g6 := by rw [E6.out]; exact G2.out.lt
        have G1' := Lib.hid ((G1.out.below B6.out n16).below B7.out n16)
        have G2' := Lib.hid ((G2.out.below B6.out n26).below B7.out n26)
        have GB' : Hid (Below w.heap.size w w7) := Lib.hid (by
          have h6 := B6.out
          have h7 := B7.out
          rw [E6.out] at h6 h7
          exact (GB.out.trans (h6.mono GB.out.size)).trans (h7.mono GB.out.size))
        clear G1 G2 GB B6 B7 A7 R6 E6
        go_loopw [7] (fun v wr => ∃ i : Nat, i ≤ 16 ∧ v = .int .i64 i ∧ RowZ wr g1 36 .i64 16 (mixZ i (fun k => g k - pF k) g) ∧ RowZ wr g2 36 .i64 16 (fun _ => 0) ∧ RowZ wr g6 36 .i64 16 pF ∧ Below w.heap.size w wr) (fun v _ => 16 - (intOf v).toNat)
        case atStart => exact ⟨0, by omega, rfl, by rw [mixZ_zero]; exact G1'.out, G2'.out, R7.out, GB'.out⟩
        case round =>
          clear G1' G2' GB' R7
          obtain ⟨i, hi, rfl, HR, HZ, HP, HB⟩ := hrel
          by_cases hlt : i < 16
          · have hid : decide ((i : Int) < 16) = true := by simp; omega
            have i16 : (i : Int) < 16 := by omega
            have H1 := Lib.hid HR
            have H2 := Lib.hid HZ
            have H3 := Lib.hid HP
            have H4 := Lib.hid HB
            clear HR HZ HP HB
            go_wp2_with fail
            refine wp_region_still_tail 9 (by kernel_rfl) (by kernel_rfl) ?_
            change wpStill _ _ wr.drew (fun a' => wpList _ _ _ _ a' wr.drew) _ _
            have D1 := Lib.hid H1.out.drew
            have D2 := Lib.hid H2.out.drew
            have D3 := Lib.hid H3.out.drew
            have D4 := Lib.hid (Below.drew H4.out)
            clear H1 H2 H3 H4
            generalize wr.drew = w8 at *
            have hc1 := D1.out.cell i hlt
            rw [mixZ_at] at hc1
            have hc2 := D3.out.cell i hlt
            have hz := D1.out.thaw i
            have bg := HC.out i
            have bp : 0 ≤ pF i ∧ pF i < 268435456 := by unfold pF; split <;> omega
            have U1 := Lib.hid (D1.out.setCell i (g i - pF i))
            have e := mixZ_upd i (fun k => g k - pF k) g
            obtain ⟨x, hx⟩ : ∃ x, g i = x := ⟨_, rfl⟩
            obtain ⟨y, hy⟩ : ∃ y, pF i = y := ⟨_, rfl⟩
            rw [e] at U1
            rw [hx] at hc1 bg
            rw [hy] at hc2 bp
            rw [hx, hy] at U1
            clear e
            obtain ⟨b1, b2⟩ := bg
            obtain ⟨b3, b4⟩ := bp
            clear hx hy
            simp only [List.take_succ_cons, List.take_zero, List.drop_succ_cons, List.drop_zero]
            iterate 9 still_step
            refine wpStill_nil ?_
            go_wp2_with fail
            go_roundw
            case rel => exact ⟨i + 1, by omega, by go_num, U1.out, D2.out.other g1 i _ (Nat.ne_of_gt hg), D3.out.other g1 i _ (Nat.ne_of_gt n16), D4.out.setCell (p := ⟨g1, i, none⟩) hs _⟩
            case measure => simp [intOf]; omega
          · obtain rfl : i = 16 := by omega
            clear hlt hi
            rw [show ((16 : Nat) : Int) = 16 from rfl]
            have H1 := Lib.hid (HR.congr (f' := fun k => g k - pF k) fun k hk => mixZ_all _ _ _ _ hk)
            have H2 := Lib.hid HZ
            have H4 := Lib.hid HB
            clear HR HZ HP HB
            have hv : val (fun k => g k - pF k) 16 = val g 16 - pZ := by rw [val_sub, val_p]
            have hvp' := hvp.out
            have hv16 := HB16.out
            have hpp := pZ_pos
            have hfine : Fine (fun k => g k - pF k) := fun k _ => by
              have h1 := HC.out k
              have h2 : 0 ≤ pF k ∧ pF k < 268435456 := by unfold pF; split <;> omega
              show _ ≤ g k - pF k ∧ g k - pF k ≤ _
              omega
            have HN := Lib.hid (fun w => HII.out (Int.le_trans hvp.out HVF.out) (fun k => g k - pF k) w hfine (by omega) (by omega))
            have HE : Hid ((val (fun k => g k - pF k) 16 % pZ).toNat = (val f 16 % pZ).toNat) := Lib.hid (by
              obtain ⟨q, hq⟩ := HQ.out
              rw [hv, mod_p (a := val g 16 - pZ) (b := val g 16 - pZ) (q := 0) (by omega) (by omega) (by omega)]
              rw [mod_p (a := val f 16) (b := val g 16 - pZ) (q := q + 1) (by rw [Int.add_mul]; omega) (by omega) (by omega)])
            clear hv hvp' hv16 hpp hfine
            go_wp2_with (first
              | ((with_reducible apply lay_loadZ intsF); (case hgd => exact rfl); (case ho => exact rfl); (case hx => exact rfl); (case hg => exact H1.out); intro _ _; go_simp)
              | ((with_reducible refine (HN.out _).mono ?_); rw [HE.out]; rintro e w9 ⟨rfl, B9⟩; have H2 := Lib.hid (H2.out.below B9 H2.out.lt); have H4 := Lib.hid (H4.out.trans (B9.mono H4.out.size)); clear B9; unfold FV)
              | ((with_reducible apply lay_storeZ intsF); (case hgd => exact rfl); (case ho => exact rfl); (case hx => exact rfl); (case hy => exact rfl); (case hg => exact H2.out); intro w10 R10 B10 A10 _ _; go_simp))
            exact bodyPost_ret (ints_result intsF rfl _ _ _ rfl R10.out) rfl ⟨rfl, H4.out.trans (B10.out.mono (Nat.le_trans hs (Nat.le_of_lt hg)))⟩
    · have d1 : (o != 0) = true := by simpa using hz
      have hgo : ∃ go, gk = go + 1 := ⟨gk - 1, by rw [if_neg hz] at hgk; omega⟩
      obtain ⟨go, rfl⟩ := hgo
      rw [if_neg hz] at hgk
      have HK := Lib.hid hgk
      have HV := Lib.hid hv0
      have HVF := Lib.hid hvf
      have HQ := Lib.hid hq
      have HG := Lib.hid hgf
      have G1 := Lib.hid HR
      have G2 := Lib.hid HZ
      have GB := Lib.hid HB
      clear hcan hgk hv0 hvf hq hgf HR HZ HB hz
      go_wp2_with fail
      go_loopw [3, 4] (fun v3 v4 wr' => ∃ i : Nat, i ≤ 16 ∧ v4 = .int .i64 i ∧ v3 = .int .i64 (ovZ g i) ∧ RowZ wr' g1 36 .i64 16 (mixZ i (dgZ g) g) ∧ RowZ wr' g2 36 .i64 16 (fun _ => 0) ∧ Below w.heap.size w wr') (fun _ v4 _ => 16 - (intOf v4).toNat)
      case atStart => exact ⟨0, by omega, rfl, rfl, by rw [mixZ_zero]; exact G1.out, G2.out, GB.out⟩
      case round =>
        clear G1 G2 GB
        obtain ⟨i, hi, rfl, rfl, HR, HZ, HB⟩ := hrel
        by_cases hlt : i < 16
        · have hid : decide ((i : Int) < 16) = true := by simp; omega
          have i16 : (i : Int) < 16 := by omega
          have hob := ovZ_bd HG.out i (by omega)
          have hgb := HG.out i hlt
          have hc := HR.cell i hlt
          rw [mixZ_at] at hc
          obtain ⟨n, hn⟩ : ∃ n, g i + ovZ g i = n := ⟨_, rfl⟩
          have Hr : Hid (dgZ g i = n % 268435456) := Lib.hid (by rw [← hn]; rfl)
          have Hq : Hid (ovZ g (i + 1) = n / 268435456) := Lib.hid (by rw [← hn]; rfl)
          obtain ⟨sd1, sd2⟩ := step_tdiv n
          have st := step_tmod n
          obtain ⟨t, ht⟩ : ∃ t, n.tmod 268435456 = t := ⟨_, rfl⟩
          obtain ⟨r, hr⟩ : ∃ r, n % 268435456 = r := ⟨_, rfl⟩
          obtain ⟨q, hq'⟩ : ∃ q, n / 268435456 = q := ⟨_, rfl⟩
          obtain ⟨z, hz⟩ : ∃ z, n - r = z := ⟨_, rfl⟩
          have hr1 : 0 ≤ r ∧ r < 268435456 := by omega
          rw [ht, hr] at st
          rw [hr, hz, hq'] at sd1 sd2
          rw [hr] at Hr
          rw [hq'] at Hq
          obtain ⟨x, hx⟩ : ∃ x, g i = x := ⟨_, rfl⟩
          obtain ⟨y, hy⟩ : ∃ y, ovZ g i = y := ⟨_, rfl⟩
          rw [hx] at hc hgb hn
          rw [hy] at hob hn ⊢
          have nb : -4611686035607257304 ≤ n ∧ n ≤ 4611686035607257304 := by omega
          have R2 := HR.setCell i t
          have hc2 := R2.cell i hlt
          rw [updZ_at] at hc2
          have hz1 := HR.thaw i
          have hz2 := R2.thaw i
          have Z2 := HZ.other g1 i (.int .i64 t) (Nat.ne_of_gt hg)
          have B2 := HB.setCell (p := ⟨g1, i, none⟩) (show w.heap.size ≤ g1 from hs) (.int .i64 t)
          obtain ⟨nb1, nb2⟩ := nb
          obtain ⟨hr2, hr3⟩ := hr1
          clear hx hy hob hgb HR HZ HB hq' hr
          rcases st with ⟨s1, s2⟩ | ⟨s1, s2⟩
          · have d3 : decide (t < 0) = true := by simpa using s1
            have R3 := R2.setCell i r
            rw [updZ_updZ] at R3
            have hc3 := R3.cell i hlt
            rw [updZ_at] at hc3
            have F3 : Hid (RowZ ((wr.setCell ⟨g1, i, none⟩ (.int .i64 t)).setCell ⟨g1, i, none⟩ (.int .i64 r)) g1 36 .i64 16 (mixZ (i + 1) (dgZ g) g)) := Lib.hid (by rw [← mixZ_upd, Hr.out]; exact R3)
            have F4 := Lib.hid (Z2.other g1 i (.int .i64 r) (Nat.ne_of_gt hg))
            have F5 := Lib.hid (B2.setCell (p := ⟨g1, i, none⟩) (show w.heap.size ≤ g1 from hs) (.int .i64 r))
            clear R2 R3 Z2 B2
            go_wp2_with fail
            go_roundw
            case rel => exact ⟨i + 1, by omega, by go_num, by rw [Hq.out], F3.out, F4.out, F5.out⟩
            case measure => simp [intOf]; omega
          · have d3 : decide (t < 0) = false := by simp; omega
            obtain rfl : t = r := s2
            have F3 : Hid (RowZ (wr.setCell ⟨g1, i, none⟩ (.int .i64 t)) g1 36 .i64 16 (mixZ (i + 1) (dgZ g) g)) := Lib.hid (by rw [← mixZ_upd, Hr.out]; exact R2)
            have F4 := Lib.hid Z2
            have F5 := Lib.hid B2
            clear R2 Z2 B2
            go_wp2_with fail
            go_roundw
            case rel => exact ⟨i + 1, by omega, by go_num, by rw [Hq.out], F3.out, F4.out, F5.out⟩
            case measure => simp [intOf]; omega
        · obtain rfl : i = 16 := by omega
          clear hlt hi
          rw [show ((16 : Nat) : Int) = 16 from rfl]
          have hO := ovZ_bd HG.out 16 (by omega)
          have hO2 := ovZ_nonneg HV.out
          have hd0 := dgZ_bd g 0
          have hd8 := dgZ_bd g 8
          have R1 := HR.congr (f' := dgZ g) fun k hk => mixZ_all _ _ _ _ hk
          have VP := Lib.hid (val_passed g)
          have PF := Lib.hid (passed_fine HG.out)
          have PD := Lib.hid (fun h : ovZ g 16 = 0 => And.intro (passed_done h) (dgZ_bd g))
          have PN := Lib.hid (passed_nonneg HV.out)
          have PE : Hid (passed g = updZ (updZ (dgZ g) 0 (dgZ g 0 + ovZ g 16)) 8 (dgZ g 8 + ovZ g 16)) := Lib.hid rfl
          obtain ⟨O, hOe⟩ : ∃ O, ovZ g 16 = O := ⟨_, rfl⟩
          obtain ⟨x, hx⟩ : ∃ x, dgZ g 0 = x := ⟨_, rfl⟩
          obtain ⟨y, hy⟩ : ∃ y, dgZ g 8 = y := ⟨_, rfl⟩
          have hc0 := R1.cell 0 (by omega)
          have hz0 := R1.thaw 0
          rw [hOe] at hO hO2 VP PD PE ⊢
          rw [hx] at hc0 hd0 PE
          rw [hy] at hd8 PE
          have R2 := R1.setCell 0 (x + O)
          have hc8 := R2.cell 8 (by omega)
          rw [show updZ (dgZ g) 0 (x + O) 8 = y from hy] at hc8
          have hz8 := R2.thaw 8
          have R3 := R2.setCell 8 (y + O)
          rw [← PE.out] at R3
          have F3 := Lib.hid R3
          have F4 := Lib.hid ((HZ.other g1 0 (.int .i64 (x + O)) (Nat.ne_of_gt hg)).other g1 8 (.int .i64 (y + O)) (Nat.ne_of_gt hg))
          have F5 := Lib.hid ((HB.setCell (p := ⟨g1, 0, none⟩) (show w.heap.size ≤ g1 from hs) (.int .i64 (x + O))).setCell (p := ⟨g1, 8, none⟩) (show w.heap.size ≤ g1 from hs) (.int .i64 (y + O)))
          obtain ⟨hO3, hO4⟩ := hO
          obtain ⟨hd1, hd2⟩ := hd0
          obtain ⟨hd9, hd10⟩ := hd8
          clear R1 R2 R3 HR HZ HB hOe hx hy
          go_wp2_with fail
          go_roundg go
          case measure => omega
          case rel =>
            have hp := pZ_pos
            have hk := HK.out
            have hv := HV.out
            have hvf := HVF.out
            have hm : 0 ≤ O * pZ := Int.mul_nonneg hO2 (by omega)
            refine ⟨passed g, O, rfl, ?_, PN.out, ?_, ?_, PF.out, ⟨hO2, hO4⟩, fun h => ?_, F3.out, F4.out, F5.out⟩
            · rw [VP.out]
              by_cases hO0 : O = 0
              · have hO1 : O * pZ = 0 := by rw [hO0, Int.zero_mul]
                rw [if_pos hO0]
                omega
              · rw [if_neg hO0]
                have h1 : 1 * pZ ≤ O * pZ := Int.mul_le_mul_of_nonneg_right (by omega) (by omega)
                omega
            · rw [VP.out]
              omega
            · obtain ⟨q, hq⟩ := HQ.out
              refine ⟨q + O, ?_⟩
              rw [VP.out, Int.add_mul]
              omega
            · obtain ⟨e1, e2⟩ := PD.out h
              rw [e1]
              exact e2
theorem norm_small (f : Nat → Int) (w : World) (hf : Fine f) (h0 : 0 ≤ val f 16) (h1 : val f 16 < pZ) :
    Calls Tryd.prog 47 #[.agg (AZ .i64 16 f)] w fun e w' => e = .returned (FV (val f 16 % pZ).toNat) ∧ Below w.heap.size w w' :=
  norm_walk f w hf h0 fun h => by omega
/-- Norm: what digits leave, divided by p. -/
theorem norm_any (f : Nat → Int) (w : World) (hf : Fine f) (h0 : 0 ≤ val f 16) :
    Calls Tryd.prog 47 #[.agg (AZ .i64 16 f)] w fun e w' => e = .returned (FV (val f 16 % pZ).toNat) ∧ Below w.heap.size w w' :=
  norm_walk f w hf h0 fun _ g w => norm_small g w
end Go.Proofs.YtjjdhbmlinjhjaaDoor
