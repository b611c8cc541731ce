/-
  The walk of NumberBits.
-/
import Derived.Test.YtmnokjapapheiaaLaAwake
import Derived.Test.YtmnokjapapheiaaNuDivM
import Derived.Test.YtmnokjapapheiaaRfDiv
import Derived.Test.YtmnokjapapheiaaNuCmp
import Derived.Test.YtmnokjapapheiaaLaShifts
namespace Go.Proofs.Ytmnokjapapheiaa
open Go.RowKit

/-- Two integers that lie in a block. -/
def Tw (w : World) (g : Nat) (p q : Int) : Prop := w.heap[g]? = some (.cells #[.int .i64 p, .int .i64 q] 57)
section
variable {w w' : World} {g : Nat} {p q : Int}
theorem Tw.new (w : World) (p q : Int) : Tw (w.alloc (.cells #[.int .i64 p, .int .i64 q] 57)) w.heap.size p q := heap_alloc_last _ _
theorem Tw.call (h : Tw w g p q) (hb : Below w.heap.size w w') : Tw w' g p q := (hb.block _ (row_lt h)).trans h
theorem Tw.c0 (h : Tw w g p q) : w.cell? ⟨g, 0, none⟩ = some (.int .i64 p) := by rw [cell_of_row _ _ _ _ _ _ h]; rfl
theorem Tw.c1 (h : Tw w g p q) : w.cell? ⟨g, 1, none⟩ = some (.int .i64 q) := by rw [cell_of_row _ _ _ _ _ _ h]; rfl
end
set_option maxRecDepth 8000 in
set_option maxHeartbeats 4000000 in
theorem bitsl_far (a : Option Addr) (n c : Nat) (p q : Int) (w : World) (h : 20 < n ∨ p < 0 ∨ 500 < p ∨ q < 0 ∨ 500 < q) :
    Calls Try.prog 10 #[.slice a n c, .agg #[.int .i64 p, .int .i64 q]] w fun e w' => e = .returned (.bool true) ∧ Below w.heap.size w w' := by
  have L := Lib.hid ((Lv.start w).alloc (.cells #[.int .i64 p, .int .i64 q] 57))
  have Q := Lib.hid (Tw.new w p q)
  have hc0 := Q.out.c0
  have hc1 := Q.out.c1
  by_cases hn : n ≤ 20
  · by_cases h1 : p < 0
    · skip
      have d1 : decide (p < 0) = true := by simpa using h1
      clear h
      go_enter Try.func10, Try.ntmps10
      go_wp2_with (first
        | ((with_reducible refine (few_yes a n c _ hn).mono ?_); rintro e w' ⟨rfl, rfl⟩)
        | ((with_reducible refine (awake_any _).mono ?_); rintro e w1 ⟨rfl, B1⟩; replace L := Lib.hid (L.out.call B1); clear B1))
      go_ret
      exact ⟨rfl, L.out.bel⟩
    · by_cases h2 : 500 < p
      · skip
        have d1 : decide (p < 0) = false := by simpa using h1
        have d2 : decide (500 < p) = true := by simpa using h2
        clear h
        go_enter Try.func10, Try.ntmps10
        go_wp2_with (first
          | ((with_reducible refine (few_yes a n c _ hn).mono ?_); rintro e w' ⟨rfl, rfl⟩)
          | ((with_reducible refine (awake_any _).mono ?_); rintro e w1 ⟨rfl, B1⟩; replace L := Lib.hid (L.out.call B1); clear B1))
        go_ret
        exact ⟨rfl, L.out.bel⟩
      · by_cases h3 : q < 0
        · skip
          have d1 : decide (p < 0) = false := by simpa using h1
          have d2 : decide (500 < p) = false := by simpa using h2
          have d3 : decide (q < 0) = true := by simpa using h3
          clear h
          go_enter Try.func10, Try.ntmps10
          go_wp2_with (first
            | ((with_reducible refine (few_yes a n c _ hn).mono ?_); rintro e w' ⟨rfl, rfl⟩)
            | ((with_reducible refine (awake_any _).mono ?_); rintro e w1 ⟨rfl, B1⟩; replace L := Lib.hid (L.out.call B1); clear B1))
          go_ret
          exact ⟨rfl, L.out.bel⟩
        · have h4 : 500 < q := by omega
          have d1 : decide (p < 0) = false := by simpa using h1
          have d2 : decide (500 < p) = false := by simpa using h2
          have d3 : decide (q < 0) = false := by simpa using h3
          have d4 : decide (500 < q) = true := by simpa using h4
          clear h
          go_enter Try.func10, Try.ntmps10
          go_wp2_with (first
            | ((with_reducible refine (few_yes a n c _ hn).mono ?_); rintro e w' ⟨rfl, rfl⟩)
            | ((with_reducible refine (awake_any _).mono ?_); rintro e w1 ⟨rfl, B1⟩; replace L := Lib.hid (L.out.call B1); clear B1))
          go_ret
          exact ⟨rfl, L.out.bel⟩
  · clear h
    go_enter Try.func10, Try.ntmps10
    go_wp2_with (first
      | ((with_reducible refine (few_no a n c _ hn).mono ?_); rintro e w' ⟨rfl, rfl⟩)
      | ((with_reducible refine (awake_any _).mono ?_); rintro e w1 ⟨rfl, B1⟩; replace L := Lib.hid (L.out.call B1); clear B1))
    go_ret
    exact ⟨rfl, L.out.bel⟩
theorem Lv.only {W w : World} {lw lb : List (Option Addr × Nat × Nat × Nat)} (h : Lv W w lw lb) : Lv W w [] [] := ⟨h.bel, (fun _ h => by cases h), fun _ h => by cases h⟩
theorem shf_up_up (x p q : Nat) : shf (shf x p) q = shf x ((p : Int) + (q : Int)) := by
  unfold shf
  rw [if_neg (by omega), if_neg (by omega), if_neg (by omega), Int.toNat_natCast, Int.toNat_natCast, ← Int.natCast_add, Int.toNat_natCast, Nat.pow_add, Nat.mul_assoc]
theorem shf_neg (x p : Nat) : shf x (-(p : Int)) = x / 2 ^ p := by
  rcases Nat.eq_zero_or_pos p with h | h
  · subst h
    unfold shf
    simp
  · unfold shf
    rw [if_pos (by omega), Int.neg_neg, Int.toNat_natCast]
theorem shf_down_down (x p q : Nat) : shf (shf x (-(p : Int))) (-(q : Int)) = shf x (-(p : Int) - (q : Int)) := by
  rw [show -(p : Int) - (q : Int) = -((p + q : Nat) : Int) by omega, shf_neg, shf_neg, shf_neg, Nat.div_div_eq_div_mul, ← Nat.pow_add]
theorem bit_last {x l : Nat} (h : x < 2 ^ l) : bitI x (l : Int) = 0 := by
  unfold bitI
  rw [if_neg (by omega), Int.toNat_natCast, Nat.div_eq_of_lt h]
  rfl
theorem bit_one {x j : Nat} (h : x < 2 ^ (j + 1)) (h' : 2 ^ j ≤ x) : bitI x (j : Int) = 1 := by
  have ht := bit_top h
  have hm := Nat.mod_lt (x / 2 ^ j) (by omega : 0 < 2)
  unfold bitI
  rw [if_neg (by omega), Int.toNat_natCast]
  have : x / 2 ^ j % 2 = 1 := by
    rcases (by omega : x / 2 ^ j % 2 = 0 ∨ x / 2 ^ j % 2 = 1) with h0 | h0
    · have := ht.1 h0; omega
    · exact h0
  rw [this]
  rfl
set_option maxRecDepth 8000 in
set_option maxHeartbeats 4000000 in
theorem bitsl_near (a : Option Addr) (n c x p q : Nat) (w : World) (Hn : n ≤ 20) (hp : p ≤ 500) (hq : q ≤ 500) (h : Sw w w.heap.size a n c x) :
    Calls Try.prog 10 #[.slice a n c, .agg #[.int .i64 (p : Int), .int .i64 (q : Int)]] w fun e w' => e = .returned (.bool true) ∧ Below w.heap.size w w' := by
  have L := Lib.hid (((Lv.start w).addW h).alloc (.cells #[.int .i64 (p : Int), .int .i64 (q : Int)] 57))
  have Q := Lib.hid (Tw.new w (p : Int) (q : Int))
  have hc0 := Q.out.c0
  have hc1 := Q.out.c1
  have d1 : decide ((p : Int) < 0) = false := by simp
  have d2 : decide (500 < (p : Int)) = false := by simp; omega
  have d3 : decide ((q : Int) < 0) = false := by simp
  have d4 : decide (500 < (q : Int)) = false := by simp; omega
  obtain ⟨N, hN⟩ : ∃ N, N = 20 := ⟨_, rfl⟩
  have hx : x < 2 ^ (64 * N) := fits_more h.fits (by omega)
  obtain ⟨M, hM⟩ : ∃ M, M = 16 := ⟨_, rfl⟩
  obtain ⟨A, hA⟩ : ∃ A, shf x (p : Int) = A := ⟨_, rfl⟩
  have fA : A < 2 ^ (64 * (N + M)) := by rw [← hA]; exact shf_bound hx (by omega)
  have EA := Lib.hid hA
  have KA : Hid (dl 64 A ≤ 1000) := Lib.hid (Nat.le_trans ((dl_le 64 A _ (by omega)).2 fA) (by omega))
  obtain ⟨B, hB⟩ : ∃ B, shf A (q : Int) = B := ⟨_, rfl⟩
  have fB : B < 2 ^ (64 * (N + M + M)) := by rw [← hB]; exact shf_bound fA (by omega)
  have EB := Lib.hid hB
  have KB : Hid (dl 64 B ≤ 1000) := Lib.hid (Nat.le_trans ((dl_le 64 B _ (by omega)).2 fB) (by omega))
  obtain ⟨D, hD⟩ : ∃ D, shf x (-(p : Int)) = D := ⟨_, rfl⟩
  have fD : D < 2 ^ (64 * (N + 0)) := by rw [← hD]; exact shf_bound hx (by omega)
  have ED := Lib.hid hD
  have KD : Hid (dl 64 D ≤ 1000) := Lib.hid (Nat.le_trans ((dl_le 64 D _ (by omega)).2 fD) (by omega))
  obtain ⟨I, hI⟩ : ∃ I, shf D (-(q : Int)) = I := ⟨_, rfl⟩
  have fI : I < 2 ^ (64 * (N + 0 + 0)) := by rw [← hI]; exact shf_bound fD (by omega)
  have EI := Lib.hid hI
  have KI : Hid (dl 64 I ≤ 1000) := Lib.hid (Nat.le_trans ((dl_le 64 I _ (by omega)).2 fI) (by omega))
  have EC : Hid (shf x ((p : Int) + (q : Int)) = B) := Lib.hid (by rw [← hB, ← hA, shf_up_up])
  have EJ : Hid (shf x (-(p : Int) - (q : Int)) = I) := Lib.hid (by rw [← hI, ← hD, shf_down_down])
  have Kx : Hid (dl 64 x ≤ 1000) := Lib.hid (Nat.le_trans ((dl_le 64 x _ (by omega)).2 hx) (by omega))
  have Ecx := Lib.hid (cmp_eq x)
  have hbl : bl x ≤ 1280 := Nat.le_trans ((bl_le x _).2 h.fits) (by omega)
  have hfl := bl_fits x
  have hlow := fun h0 : 0 < x => bl_low h0
  have hpos := fun h0 : 0 < x => bl_pos h0
  obtain ⟨l, hl⟩ : ∃ l, bl x = l := ⟨_, rfl⟩
  rw [hl] at hbl hfl hlow hpos
  have El := Lib.hid hl
  have HX0 : Hid (x / 2 ^ l = 0) := Lib.hid (Nat.div_eq_of_lt hfl)
  have Bl := Lib.hid (bit_last hfl)
  have HXP := Lib.hid (fun h0 : 0 < x => And.intro (hlow h0) (hpos h0))
  have HFL := Lib.hid hfl
  have HH := Lib.hid h.fits
  clear h hx hN hM hl hA fA hB fB hD fD hI fI hfl hlow hpos
  go_enter Try.func10, Try.ntmps10
  go_wp2_with (first
    | ((with_reducible refine (few_yes a n c _ Hn).mono ?_); rintro e w' ⟨rfl, rfl⟩)
    | ((with_reducible refine (len_any a n c x _ (by omega) (L.out.gw 0 rfl)).mono ?_); rintro e w' ⟨rfl, rfl⟩; rw [El.out]))
  go_loopw [5, 6] (fun v5 v6 wr => ∃ K av, K ≤ l ∧ v6 = .int .i64 ((K : Int) - 1) ∧ v5 = .slice av (dl 64 (x / 2 ^ K)) (dl 64 (x / 2 ^ K)) ∧ Lv w wr [(av, dl 64 (x / 2 ^ K), dl 64 (x / 2 ^ K), x / 2 ^ K), (a, n, c, x)] [] ∧ Tw wr w.heap.size (p : Int) (q : Int)) (fun _ v6 _ => (intOf v6 + 1).toNat)
  case atStart =>
    refine ⟨l, none, Nat.le_refl _, rfl, ?_, ?_, Q.out⟩
    · rw [HX0.out, dl_zero 64 (by omega)]
    · rw [HX0.out, dl_zero 64 (by omega)]
      exact L.out.addW (Sw.zero _ _)
  case round =>
    clear L Q hc0 hc1
    obtain ⟨K, av, hK, rfl, rfl, HL, HQ⟩ := hrel
    have hc0 := HQ.c0
    have hc1 := HQ.c1
    have Q := Lib.hid HQ
    rcases Nat.eq_zero_or_pos K with h0 | h0
    · subst h0
      rw [Nat.pow_zero, Nat.div_one] at HL ⊢
      have em : (((0 : Nat) : Int) - 1) = -1 := rfl
      rw [em]
      have L := Lib.hid HL
      clear em HL HQ
      rcases Nat.eq_zero_or_pos l with hl0 | hl0
      · have d9 : decide (0 < l) = false := by simp; omega
        have d10 : decide ((0 : Int) < (l : Int)) = false := by simp; omega
        clear hl0
        go_wp2_with (first
          | ((with_reducible refine (compare_any av (dl 64 x) (dl 64 x) x a n c x _ (Nat.le_trans Kx.out (by omega)) (by omega) (L.out.gw 0 rfl) (L.out.gw 1 rfl)).mono ?_); rintro e w' ⟨rfl, rfl⟩; rw [Ecx.out])
          | ((with_reducible refine (len_any a n c x _ (by omega) (L.out.gw 1 rfl)).mono ?_); rintro e w' ⟨rfl, rfl⟩; rw [El.out])
          | ((with_reducible refine (bit_any a n c x (l : Int) _ (by omega) (by omega) (L.out.gw 1 rfl)).mono ?_); rintro e w' ⟨rfl, rfl⟩; rw [Bl.out])
          | ((with_reducible refine (shift_any a n c x ((p : Int)) _ (by omega) (by omega) (by omega) (L.out.gw 1 rfl)).mono ?_); rintro e w21 ⟨v, rfl, hv⟩; rw [EA.out] at hv; obtain ⟨a21, rfl, S21, B21⟩ := hv.open; replace Q := Lib.hid (Q.out.call B21); clear hc0 hc1; have hc0 := Q.out.c0; have hc1 := Q.out.c1; replace L := Lib.hid ((L.out.call B21).addW S21); clear hv S21 B21)
          | ((with_reducible refine (shift_any a21 (dl 64 A) (dl 64 A) A ((q : Int)) _ (Nat.le_trans KA.out (by omega)) (by omega) (by omega) (L.out.gw 0 rfl)).mono ?_); rintro e w22 ⟨v, rfl, hv⟩; rw [EB.out] at hv; obtain ⟨a22, rfl, S22, B22⟩ := hv.open; replace Q := Lib.hid (Q.out.call B22); clear hc0 hc1; have hc0 := Q.out.c0; have hc1 := Q.out.c1; replace L := Lib.hid ((L.out.call B22).addW S22); clear hv S22 B22)
          | ((with_reducible refine (shift_any a n c x ((p : Int) + (q : Int)) _ (by omega) (by omega) (by omega) (L.out.gw 3 rfl)).mono ?_); rintro e w23 ⟨v, rfl, hv⟩; rw [EC.out] at hv; obtain ⟨a23, rfl, S23, B23⟩ := hv.open; replace Q := Lib.hid (Q.out.call B23); clear hc0 hc1; have hc0 := Q.out.c0; have hc1 := Q.out.c1; replace L := Lib.hid ((L.out.call B23).addW S23); clear hv S23 B23)
          | ((with_reducible refine (shift_any a n c x (-(p : Int)) _ (by omega) (by omega) (by omega) (L.out.gw 4 rfl)).mono ?_); rintro e w24 ⟨v, rfl, hv⟩; rw [ED.out] at hv; obtain ⟨a24, rfl, S24, B24⟩ := hv.open; replace Q := Lib.hid (Q.out.call B24); clear hc0 hc1; have hc0 := Q.out.c0; have hc1 := Q.out.c1; replace L := Lib.hid ((L.out.call B24).addW S24); clear hv S24 B24)
          | ((with_reducible refine (shift_any a24 (dl 64 D) (dl 64 D) D (-(q : Int)) _ (Nat.le_trans KD.out (by omega)) (by omega) (by omega) (L.out.gw 0 rfl)).mono ?_); rintro e w25 ⟨v, rfl, hv⟩; rw [EI.out] at hv; obtain ⟨a25, rfl, S25, B25⟩ := hv.open; replace Q := Lib.hid (Q.out.call B25); clear hc0 hc1; have hc0 := Q.out.c0; have hc1 := Q.out.c1; replace L := Lib.hid ((L.out.call B25).addW S25); clear hv S25 B25)
          | ((with_reducible refine (shift_any a n c x (-(p : Int) - (q : Int)) _ (by omega) (by omega) (by omega) (L.out.gw 6 rfl)).mono ?_); rintro e w26 ⟨v, rfl, hv⟩; rw [EJ.out] at hv; obtain ⟨a26, rfl, S26, B26⟩ := hv.open; replace Q := Lib.hid (Q.out.call B26); clear hc0 hc1; have hc0 := Q.out.c0; have hc1 := Q.out.c1; replace L := Lib.hid ((L.out.call B26).addW S26); clear hv S26 B26)
          | ((with_reducible refine (words_any a22 a23 (dl 64 B) (dl 64 B) (dl 64 B) B _ (Nat.le_trans KB.out (by omega)) (L.out.gw 4 rfl) (L.out.gw 3 rfl)).mono ?_); rintro e w27 ⟨rfl, B27⟩; replace Q := Lib.hid (Q.out.call B27); clear hc0 hc1; have hc0 := Q.out.c0; have hc1 := Q.out.c1; replace L := Lib.hid (L.out.call B27); clear B27)
          | ((with_reducible refine (words_any a25 a26 (dl 64 I) (dl 64 I) (dl 64 I) I _ (Nat.le_trans KI.out (by omega)) (L.out.gw 1 rfl) (L.out.gw 0 rfl)).mono ?_); rintro e w28 ⟨rfl, B28⟩; replace Q := Lib.hid (Q.out.call B28); clear hc0 hc1; have hc0 := Q.out.c0; have hc1 := Q.out.c1; replace L := Lib.hid (L.out.call B28); clear B28)
          | ((with_reducible refine (awake_any _).mono ?_); rintro e w29 ⟨rfl, B29⟩; replace Q := Lib.hid (Q.out.call B29); clear hc0 hc1; have hc0 := Q.out.c0; have hc1 := Q.out.c1; replace L := Lib.hid (L.out.call B29); clear B29))
        go_ret
        exact ⟨rfl, L.out.bel⟩
      · have hx0 : 0 < x := by
          rcases Nat.eq_zero_or_pos x with h1 | h1
          · have h2 := El.out
            rw [h1, bl_zero] at h2
            omega
          · exact h1
        obtain ⟨j, hj⟩ : ∃ j, l = j + 1 := ⟨l - 1, by omega⟩
        have e9 : (l : Int) - 1 = (j : Int) := by omega
        have d9 : decide (0 < l) = true := by simp; omega
        have d10 : decide ((0 : Int) < (l : Int)) = true := by simp; omega
        have Bj : Hid (bitI x (j : Int) = 1) := Lib.hid (bit_one (by have := HFL.out; rwa [hj] at this) (by have := (HXP.out hx0).1; rwa [hj, Nat.add_sub_cancel] at this))
        have hj6 : j ≤ 1280 := by omega
        clear hj hx0
        go_wp2_with (first
          | ((with_reducible refine (compare_any av (dl 64 x) (dl 64 x) x a n c x _ (Nat.le_trans Kx.out (by omega)) (by omega) (L.out.gw 0 rfl) (L.out.gw 1 rfl)).mono ?_); rintro e w' ⟨rfl, rfl⟩; rw [Ecx.out])
          | ((with_reducible refine (len_any a n c x _ (by omega) (L.out.gw 1 rfl)).mono ?_); rintro e w' ⟨rfl, rfl⟩; rw [El.out])
          | ((with_reducible refine (bit_any a n c x (l : Int) _ (by omega) (by omega) (L.out.gw 1 rfl)).mono ?_); rintro e w' ⟨rfl, rfl⟩; rw [Bl.out])
          | ((with_reducible refine (bit_any a n c x (j : Int) _ (by omega) (by omega) (L.out.gw 1 rfl)).mono ?_); rintro e w' ⟨rfl, rfl⟩; rw [Bj.out])
          | ((with_reducible refine (shift_any a n c x ((p : Int)) _ (by omega) (by omega) (by omega) (L.out.gw 1 rfl)).mono ?_); rintro e w21 ⟨v, rfl, hv⟩; rw [EA.out] at hv; obtain ⟨a21, rfl, S21, B21⟩ := hv.open; replace Q := Lib.hid (Q.out.call B21); clear hc0 hc1; have hc0 := Q.out.c0; have hc1 := Q.out.c1; replace L := Lib.hid ((L.out.call B21).addW S21); clear hv S21 B21)
          | ((with_reducible refine (shift_any a21 (dl 64 A) (dl 64 A) A ((q : Int)) _ (Nat.le_trans KA.out (by omega)) (by omega) (by omega) (L.out.gw 0 rfl)).mono ?_); rintro e w22 ⟨v, rfl, hv⟩; rw [EB.out] at hv; obtain ⟨a22, rfl, S22, B22⟩ := hv.open; replace Q := Lib.hid (Q.out.call B22); clear hc0 hc1; have hc0 := Q.out.c0; have hc1 := Q.out.c1; replace L := Lib.hid ((L.out.call B22).addW S22); clear hv S22 B22)
          | ((with_reducible refine (shift_any a n c x ((p : Int) + (q : Int)) _ (by omega) (by omega) (by omega) (L.out.gw 3 rfl)).mono ?_); rintro e w23 ⟨v, rfl, hv⟩; rw [EC.out] at hv; obtain ⟨a23, rfl, S23, B23⟩ := hv.open; replace Q := Lib.hid (Q.out.call B23); clear hc0 hc1; have hc0 := Q.out.c0; have hc1 := Q.out.c1; replace L := Lib.hid ((L.out.call B23).addW S23); clear hv S23 B23)
          | ((with_reducible refine (shift_any a n c x (-(p : Int)) _ (by omega) (by omega) (by omega) (L.out.gw 4 rfl)).mono ?_); rintro e w24 ⟨v, rfl, hv⟩; rw [ED.out] at hv; obtain ⟨a24, rfl, S24, B24⟩ := hv.open; replace Q := Lib.hid (Q.out.call B24); clear hc0 hc1; have hc0 := Q.out.c0; have hc1 := Q.out.c1; replace L := Lib.hid ((L.out.call B24).addW S24); clear hv S24 B24)
          | ((with_reducible refine (shift_any a24 (dl 64 D) (dl 64 D) D (-(q : Int)) _ (Nat.le_trans KD.out (by omega)) (by omega) (by omega) (L.out.gw 0 rfl)).mono ?_); rintro e w25 ⟨v, rfl, hv⟩; rw [EI.out] at hv; obtain ⟨a25, rfl, S25, B25⟩ := hv.open; replace Q := Lib.hid (Q.out.call B25); clear hc0 hc1; have hc0 := Q.out.c0; have hc1 := Q.out.c1; replace L := Lib.hid ((L.out.call B25).addW S25); clear hv S25 B25)
          | ((with_reducible refine (shift_any a n c x (-(p : Int) - (q : Int)) _ (by omega) (by omega) (by omega) (L.out.gw 6 rfl)).mono ?_); rintro e w26 ⟨v, rfl, hv⟩; rw [EJ.out] at hv; obtain ⟨a26, rfl, S26, B26⟩ := hv.open; replace Q := Lib.hid (Q.out.call B26); clear hc0 hc1; have hc0 := Q.out.c0; have hc1 := Q.out.c1; replace L := Lib.hid ((L.out.call B26).addW S26); clear hv S26 B26)
          | ((with_reducible refine (words_any a22 a23 (dl 64 B) (dl 64 B) (dl 64 B) B _ (Nat.le_trans KB.out (by omega)) (L.out.gw 4 rfl) (L.out.gw 3 rfl)).mono ?_); rintro e w27 ⟨rfl, B27⟩; replace Q := Lib.hid (Q.out.call B27); clear hc0 hc1; have hc0 := Q.out.c0; have hc1 := Q.out.c1; replace L := Lib.hid (L.out.call B27); clear B27)
          | ((with_reducible refine (words_any a25 a26 (dl 64 I) (dl 64 I) (dl 64 I) I _ (Nat.le_trans KI.out (by omega)) (L.out.gw 1 rfl) (L.out.gw 0 rfl)).mono ?_); rintro e w28 ⟨rfl, B28⟩; replace Q := Lib.hid (Q.out.call B28); clear hc0 hc1; have hc0 := Q.out.c0; have hc1 := Q.out.c1; replace L := Lib.hid (L.out.call B28); clear B28)
          | ((with_reducible refine (awake_any _).mono ?_); rintro e w29 ⟨rfl, B29⟩; replace Q := Lib.hid (Q.out.call B29); clear hc0 hc1; have hc0 := Q.out.c0; have hc1 := Q.out.c1; replace L := Lib.hid (L.out.call B29); clear B29))
        go_ret
        exact ⟨rfl, L.out.bel⟩
    · obtain ⟨k, rfl⟩ : ∃ k, K = k + 1 := ⟨K - 1, by omega⟩
      have e : (((k + 1 : Nat) : Int) - 1) = (k : Int) := by omega
      rw [e]
      have hi0 : decide ((0 : Int) ≤ (k : Int)) = true := by simp
      have hs := half_step x k
      have hSx : 2 * (x / 2 ^ (k + 1)) ≤ x := by
        have := Nat.div_le_self x (2 ^ k)
        omega
      have hb0 : x / 2 ^ k % 2 < 2 := Nat.mod_lt _ (by omega)
      have HBit : Hid (bitI x (k : Int) = ((x / 2 ^ k % 2 : Nat) : Int)) := Lib.hid (by unfold bitI; rw [if_neg (by omega)]; rfl)
      obtain ⟨R, hR⟩ : ∃ R, x / 2 ^ k = R := ⟨_, rfl⟩
      have HR := Lib.hid hR
      rw [hR] at hs hb0 HBit
      obtain ⟨b, hb⟩ : ∃ b, R % 2 = b := ⟨_, rfl⟩
      rw [hb] at hs hb0 HBit
      obtain ⟨S, hS⟩ : ∃ S, x / 2 ^ (k + 1) = S := ⟨_, rfl⟩
      rw [hS] at HL hs hSx ⊢
      obtain ⟨t, ht⟩ : ∃ t, S + S = t := ⟨_, rfl⟩
      have hdx : dl 64 x ≤ 20 := Nat.le_trans ((dl_le 64 x n (by omega)).2 HH.out) (by omega)
      have KS : Hid (dl 64 S ≤ 1000) := Lib.hid (Nat.le_trans (dl_mono (by omega) (by omega : S ≤ x)) (by omega))
      have Kt : Hid (dl 64 t ≤ 1000) := Lib.hid (Nat.le_trans (dl_mono (by omega) (by omega : t ≤ x)) (by omega))
      have Et := Lib.hid ht
      have ER : Hid (t + b = R) := Lib.hid (by omega)
      have hb1 : b < 2 ^ 64 := by omega
      have hb2 : IntKind.u64.wrap (b : Int) = (b : Int) := by rw [IntKind.wrap_u64]; omega
      have L := Lib.hid HL
      have hk6 : (k : Int) ≤ 1280 := by omega
      clear e h0 hs hSx hb0 hR hb hS ht hdx HL HQ
      go_wp2_with (first
        | ((with_reducible refine (add_any av (dl 64 S) (dl 64 S) S av (dl 64 S) (dl 64 S) S _ (Nat.le_trans KS.out (by omega)) (Nat.le_trans KS.out (by omega)) (L.out.gw 0 rfl) (L.out.gw 0 rfl)).mono ?_); rintro e w1 ⟨v, rfl, hv⟩; rw [Et.out] at hv; obtain ⟨a1, rfl, S1, B1⟩ := hv.open; replace Q := Lib.hid (Q.out.call B1); clear hc0 hc1; have hc0 := Q.out.c0; have hc1 := Q.out.c1; replace L := Lib.hid ((L.out.call B1).addW S1); clear hv S1 B1)
        | ((with_reducible refine (bit_any a n c x (k : Int) _ (by omega) (by omega) (L.out.gw 2 rfl)).mono ?_); rintro e w2 ⟨rfl, rfl⟩; rw [HBit.out]; have L2 : Hid (Lv w (w2.alloc (.cells #[.int .u64 (b : Int)] 56)) _ _) := Lib.hid (L.out.lit b hb1); have Q2 : Hid (Tw (w2.alloc (.cells #[.int .u64 (b : Int)] 56)) _ _ _) := Lib.hid (Q.out.call ((Below.refl _ _).alloc (Nat.le_refl _) _)); clear L Q hc0 hc1)
        | ((with_reducible refine (add_any a1 (dl 64 t) (dl 64 t) t (some ⟨w2.heap.size, 0, none⟩) 1 1 b _ (Nat.le_trans Kt.out (by omega)) (by omega) (L2.out.gw 1 rfl) (L2.out.gw 0 rfl)).mono ?_); rintro e w3 ⟨v, rfl, hv⟩; rw [ER.out] at hv; obtain ⟨a3, rfl, S3, B3⟩ := hv.open; have Q3 := Lib.hid (Q2.out.call B3); have L3 := Lib.hid ((L2.out.call B3).addW S3); clear L2 Q2 hv S3 B3))
      go_roundw
      case rel =>
        refine ⟨k, a3, by omega, rfl, ?_, ?_, Q3.out⟩
        · rw [HR.out]
        · rw [HR.out]
          exact (L3.out.only.addW (L3.out.gw 4 rfl)).addW (L3.out.gw 0 rfl)
      case measure => (simp [intOf] <;> omega)
end Go.Proofs.Ytmnokjapapheiaa
