/-
  What the walk of ScalarLong wants. No statement is proved here: lemmas for the walks.
-/
import Derived.Test.YtocjncflgbnglaaDoorZScSame
namespace Go.Proofs.YtocjncflgbnglaaDoor
open Go.RowKit

theorem bt_take (v m i : Nat) (hi : i < m) : bt (v % 2 ^ (8 * m)) i = bt v i := by
  apply BitVec.eq_of_getLsbD_eq
  intro j hj
  rw [bt_bit, bt_bit, Nat.testBit_mod_two_pow, decide_eq_true (by omega : 8 * i + j < 8 * m), Bool.true_and]
theorem bt_high (v m i : Nat) : bt (v / 2 ^ (8 * m)) i = bt v (m + i) := by
  unfold bt
  rw [Nat.div_div_eq_div_mul, ← Nat.pow_add, ← Nat.mul_add]
section
variable {W : World} {B n c v : Nat} {a : Option Addr}
theorem sb_low (h : Sb W B a n c v) {m : Nat} (hm : m ≤ n) : Sb W B a m c (v % 2 ^ (8 * m)) :=
  ⟨⟨Nat.le_trans hm h.sl.le, h.sl.nil, fun ad e h0 => by
    obtain ⟨b, o, e', hb, hc⟩ := h.sl.low ad e (by omega)
    exact ⟨b, o, e', hb, fun i hi => by rw [hc i (by omega), bt_take v m i hi]⟩⟩, Nat.mod_lt _ (Nat.two_pow_pos _)⟩
theorem sb_high (h : Sb W B a n c v) {m : Nat} (hm : m ≤ n) : Sb W B (if c = m then a else a.map (·.add (m * 1))) (n - m) (c - m) (v / 2 ^ (8 * m)) := by
  have hle := h.sl.le
  refine ⟨⟨by omega, fun e => ?_, fun ad e h0 => ?_⟩, ?_⟩
  · have : a = none := by
      split at e
      · exact e
      · exact Option.map_eq_none_iff.1 e
    have := h.sl.nil this
    omega
  · rw [if_neg (by omega)] at e
    obtain ⟨x, rfl, rfl⟩ := Option.map_eq_some_iff.1 e
    obtain ⟨b, o, rfl, hb, hc⟩ := h.sl.low x rfl (by omega)
    refine ⟨b, o + m, by rw [Nat.mul_one, Addr.add_mid], hb, fun i hi => ?_⟩
    rw [bt_high, Nat.add_assoc]
    exact hc (m + i) (by omega)
  · have hf := h.fits
    rw [Nat.div_lt_iff_lt_mul (Nat.two_pow_pos _), ← Nat.pow_add, show 8 * (n - m) + 8 * m = 8 * n by omega]
    exact hf
end
section
variable {ops : Array Oper} {rest : List Oper} {o : Oper} {act : Act} {w : World} {Q : Exit → Act → World → Prop}
/-- A slice from a place on. -/
theorem lay_high (hgd : o.guard = none) {x y : Operand} (ho : o.op = .slice 22 x (some y) none none) {a : Option Addr} {n c m : Nat} (hx : act.eval x = .slice a n c) (hy : act.eval y = .int .i64 (m : Int)) (hm : m ≤ n)
    (h : ∀ a', Hid (∀ (W : World) (B v : Nat), Sb W B a n c v → Sb W B a' (n - m) (c - m) (v / 2 ^ (8 * m))) → ∀ K : Act → World → Prop, (∀ a w, wpList Tryd.prog ops Q rest a w → K a w) → K (act.put o.dst (.slice a' (n - m) (c - m))) w) : wpList Tryd.prog ops Q (o :: rest) act w :=
  wpList_plain hgd fun K hK => by
    have hr : (Instr.sliceAt 22 (.slice a n c) (some (.int .i64 (m : Int))) none none).run Tryd.prog w = .ok (.slice (if c = m then a else a.map (·.add (m * 1))) (n - m) (c - m)) w := by
      have h1 : (m : Int) ≤ (n : Int) := by omega
      have h0 : (0 : Int) ≤ (m : Int) := by omega
      go_simp
    unfold Oper.wp execOp
    simp only [ho, hx, hy, Option.map_some, Option.map_none, hr, Sem.run_bind, Result.andThen_ok]
    exact h _ (Lib.hid fun W B v hs => sb_high hs hm) K hK
end
/-- So many times 256. -/
def mulUp (x : KL) : Nat → KL
  | 0 => x
  | i + 1 => mulUp x i * ofL 256
theorem mulUp_is (q : Nat) : ∀ i, mulUp (ofL (q : Int)) i = ofL ((2 ^ (8 * i) * q : Nat) : Int)
  | 0 => by rw [Nat.mul_zero, Nat.pow_zero, Nat.one_mul]; rfl
  | i + 1 => by
    show mulUp (ofL (q : Int)) i * ofL 256 = _
    rw [mulUp_is q i, ← ofL_mul, pow8]
    congr 1
    generalize 2 ^ (8 * i) = P
    rw [show (256 : Int) = ((256 : Nat) : Int) from rfl, ← Int.natCast_mul, Nat.mul_right_comm]
theorem long_sum (v m : Nat) : ofL (v : Int) = ofL ((v % 2 ^ (8 * m) : Nat) : Int) + mulUp (ofL ((v / 2 ^ (8 * m) : Nat) : Int)) m := by
  rw [mulUp_is, ← ofL_add]
  congr 1
  have h := Nat.mod_add_div v (2 ^ (8 * m))
  generalize 2 ^ (8 * m) * (v / 2 ^ (8 * m)) = y at *
  generalize v % 2 ^ (8 * m) = r at *
  omega
theorem ofL_small {z : Int} (h0 : 0 ≤ z) (h1 : z ≤ 4294967296) (h : ofL z = 0) : z = 0 := by
  have h2 : (4294967296 : Int) < (lN : Int) := by
    have : (4294967296 : Nat) < lN := by decide +kernel
    omega
  have h3 : (z % (lN : Int)).toNat = 0 := fp_val_zero.1 h
  rw [Int.emod_eq_of_lt h0 (by omega)] at h3
  omega
theorem ofL_zero : ofL 0 = 0 := fp_val_zero.2 (by rw [show ((0 : Int)) = ((0 : Nat) : Int) from rfl, ofL_nat]; exact Nat.zero_mod _)
theorem ofL_sub0 {p q : Int} (h : ofL p = ofL q) : ofL (p + -q) = 0 := by
  rw [ofL_add, ofL_neg, h]
  grind
theorem ofL_inj {p q : Int} (h1 : -1073741824 ≤ p) (h2 : p ≤ 1073741824) (h3 : -1073741824 ≤ q) (h4 : q ≤ 1073741824) (h : ofL p = ofL q) : p = q := by
  by_cases hs : q ≤ p
  · have := ofL_small (z := p + -q) (by omega) (by omega) (ofL_sub0 h)
    omega
  · have := ofL_small (z := q + -p) (by omega) (by omega) (ofL_sub0 h.symm)
    omega
theorem prod_small {p q : Int} (h1 : -1073741824 ≤ p) (h2 : p ≤ 1073741824) (h3 : -1073741824 ≤ q) (h4 : q ≤ 1073741824) : -1152921504606846976 ≤ p * q ∧ p * q ≤ 1152921504606846976 := by
  have h := Nat.mul_le_mul (show p.natAbs ≤ 1073741824 by omega) (show q.natAbs ≤ 1073741824 by omega)
  rw [← Int.natAbs_mul] at h
  generalize p * q = z at *
  omega
/-- Two numbers as a row's cells. -/
def two (p q : Int) : Nat → Int
  | 0 => p
  | _ => q
theorem two_0 (p q : Int) : two p q 0 = p := rfl
theorem two_1 (p q : Int) : two p q 1 = q := rfl
abbrev PV (p q : Int) : Value := .agg (AZ .i64 2 (two p q))
theorem PV_of (p q : Int) : Value.agg #[.int .i64 p, .int .i64 q] = PV p q := by
  congr 1
  apply Array.ext_getElem?
  intro i
  rcases (by omega : i = 0 ∨ i = 1 ∨ 2 ≤ i) with rfl | rfl | h
  · rw [AZ_get _ _ _ _ (by omega)]; rfl
  · rw [AZ_get _ _ _ _ (by omega)]; rfl
  · rw [Array.getElem?_eq_none (by simpa using h), Array.getElem?_eq_none (by rw [AZ_size]; exact h)]
theorem oneI6 : IsOne Tryd.prog 3 .i64 := ⟨Tryd.underlying3, by kernel_rfl⟩
section
variable {P : Program} {ops : Array Oper} {rest : List Oper} {o : Oper} {a : Act} {w w0 : World} {l : List (Nat × Obj)} {Q : Exit → Act → World → Prop} {t ty : TypeId} {k : IntKind} {n : Nat}
/-- A guarded load of a cell that is wanted. -/
theorem own_getg {i : Nat} (hT : IsOne P ty k) (H : Hid (Ow w0 w l)) (hw : Region.wanted o (yielded ops a.tmps) = true) {x : Operand} (ho : o.op = .load ty x) {g j : Nat} (hx : a.eval x = .pointer (some ⟨g, j, none⟩)) {f : Nat → Int}
    (hi : l[i]? = some (g, Blk t k n f)) (hj : j < n) (h : ∀ K : Act → World → Prop, (∀ a w, wpList P ops Q rest a w → K a w) → K (a.put o.dst (.int k (f j))) w) : wpList P ops Q (o :: rest) a w :=
  list_wanted hw fun K hK => by
    unfold Oper.wp execOp
    simp only [ho, hx, Sem.run_bind, run_get hT (H.out.row i hi) hj, Result.andThen_ok]
    exact h K hK
end
theorem equal_e {x y : KL} {e : Bool} (w : World) {r : Bool} (hT : Tl r w) (h : decide (x = y) = e) :
    Calls Tryd.prog 35 #[W7 x.val, W7 y.val] w fun u w' => u = .returned (.bool e) ∧ Below w.heap.size w w' :=
  (equal_s x y w hT).mono fun _ _ ⟨he, hb⟩ => ⟨by rw [he, h], hb⟩
set_option maxRecDepth 20000 in
set_option maxHeartbeats 12800000 in
theorem long_far1 (a : Option Addr) (n c : Nat) (at' p q : Int) (w : World) (hT : Tl true w) (h1 : 128 < n) : Calls Tryd.prog 9 #[.slice a n c, .int .i64 at', PV p q] w fun e w' => e = .returned (.bool true) ∧ Below w.heap.size w w' := by
  have d1 : decide ((128 : Int) < (n : Int)) = true := by simp; omega
  have HT := Lib.hid hT
  clear hT
  have H := Lib.hid (Ow.start w)
  go_enter Tryd.func9, Tryd.ntmps9
  go_wp2_with (first
    | ((fail_if_success have := g5); (with_reducible apply own_box H); (case hgd => exact rfl); (case ho => exact rfl); (case hx => exact rfl); intro w5 g5 H' _ _; replace H := H'; clear H'; go_simp)
    | ((with_reducible apply own_getg (j := 0) oneI6 H); (case hw => exact rfl); (case ho => exact rfl); (case hx => exact rfl); (case hi => exact at0); (case hj => omega); intro _ _; rw [two_0]; go_simp)
    | ((with_reducible apply own_getg (j := 1) oneI6 H); (case hw => exact rfl); (case ho => exact rfl); (case hx => exact rfl); (case hi => exact at0); (case hj => omega); intro _ _; rw [two_1]; go_simp)
    | ((with_reducible refine (awake6 _ (HT.out.below H.out.bel)).mono ?_); rintro e wc ⟨rfl, hb⟩; replace H := Lib.hid (H.out.call hb); clear hb))
  go_ret
  exact ⟨rfl, H.out.bel⟩
set_option maxRecDepth 20000 in
set_option maxHeartbeats 12800000 in
theorem long_far2 (a : Option Addr) (n c : Nat) (at' p q : Int) (w : World) (hT : Tl true w) (h1 : ¬ 128 < n) (h2 : at' < 0) : Calls Tryd.prog 9 #[.slice a n c, .int .i64 at', PV p q] w fun e w' => e = .returned (.bool true) ∧ Below w.heap.size w w' := by
  have d1 : decide ((128 : Int) < (n : Int)) = false := by simp; omega
  have d2 : decide (at' < 0) = true := by simp; omega
  have HT := Lib.hid hT
  clear hT
  have H := Lib.hid (Ow.start w)
  go_enter Tryd.func9, Tryd.ntmps9
  go_wp2_with (first
    | ((fail_if_success have := g5); (with_reducible apply own_box H); (case hgd => exact rfl); (case ho => exact rfl); (case hx => exact rfl); intro w5 g5 H' _ _; replace H := H'; clear H'; go_simp)
    | ((with_reducible apply own_getg (j := 0) oneI6 H); (case hw => exact rfl); (case ho => exact rfl); (case hx => exact rfl); (case hi => exact at0); (case hj => omega); intro _ _; rw [two_0]; go_simp)
    | ((with_reducible apply own_getg (j := 1) oneI6 H); (case hw => exact rfl); (case ho => exact rfl); (case hx => exact rfl); (case hi => exact at0); (case hj => omega); intro _ _; rw [two_1]; go_simp)
    | ((with_reducible refine (awake6 _ (HT.out.below H.out.bel)).mono ?_); rintro e wc ⟨rfl, hb⟩; replace H := Lib.hid (H.out.call hb); clear hb))
  go_ret
  exact ⟨rfl, H.out.bel⟩
set_option maxRecDepth 20000 in
set_option maxHeartbeats 12800000 in
theorem long_far3 (a : Option Addr) (n c : Nat) (at' p q : Int) (w : World) (hT : Tl true w) (h1 : ¬ 128 < n) (h2 : ¬ at' < 0) (h3 : (n : Int) < at') : Calls Tryd.prog 9 #[.slice a n c, .int .i64 at', PV p q] w fun e w' => e = .returned (.bool true) ∧ Below w.heap.size w w' := by
  have d1 : decide ((128 : Int) < (n : Int)) = false := by simp; omega
  have d2 : decide (at' < 0) = false := by simp; omega
  have d3 : decide ((n : Int) < at') = true := by simp; omega
  have HT := Lib.hid hT
  clear hT
  have H := Lib.hid (Ow.start w)
  go_enter Tryd.func9, Tryd.ntmps9
  go_wp2_with (first
    | ((fail_if_success have := g5); (with_reducible apply own_box H); (case hgd => exact rfl); (case ho => exact rfl); (case hx => exact rfl); intro w5 g5 H' _ _; replace H := H'; clear H'; go_simp)
    | ((with_reducible apply own_getg (j := 0) oneI6 H); (case hw => exact rfl); (case ho => exact rfl); (case hx => exact rfl); (case hi => exact at0); (case hj => omega); intro _ _; rw [two_0]; go_simp)
    | ((with_reducible apply own_getg (j := 1) oneI6 H); (case hw => exact rfl); (case ho => exact rfl); (case hx => exact rfl); (case hi => exact at0); (case hj => omega); intro _ _; rw [two_1]; go_simp)
    | ((with_reducible refine (awake6 _ (HT.out.below H.out.bel)).mono ?_); rintro e wc ⟨rfl, hb⟩; replace H := Lib.hid (H.out.call hb); clear hb))
  go_ret
  exact ⟨rfl, H.out.bel⟩
set_option maxRecDepth 20000 in
set_option maxHeartbeats 12800000 in
theorem long_far4 (a : Option Addr) (n c : Nat) (at' p q : Int) (w : World) (hT : Tl true w) (h1 : ¬ 128 < n) (h2 : ¬ at' < 0) (h3 : ¬ (n : Int) < at') (h4 : p < -1073741824) : Calls Tryd.prog 9 #[.slice a n c, .int .i64 at', PV p q] w fun e w' => e = .returned (.bool true) ∧ Below w.heap.size w w' := by
  have d1 : decide ((128 : Int) < (n : Int)) = false := by simp; omega
  have d2 : decide (at' < 0) = false := by simp; omega
  have d3 : decide ((n : Int) < at') = false := by simp; omega
  have d4 : decide (p < -1073741824) = true := by simp; omega
  have HT := Lib.hid hT
  clear hT
  have H := Lib.hid (Ow.start w)
  go_enter Tryd.func9, Tryd.ntmps9
  go_wp2_with (first
    | ((fail_if_success have := g5); (with_reducible apply own_box H); (case hgd => exact rfl); (case ho => exact rfl); (case hx => exact rfl); intro w5 g5 H' _ _; replace H := H'; clear H'; go_simp)
    | ((with_reducible apply own_getg (j := 0) oneI6 H); (case hw => exact rfl); (case ho => exact rfl); (case hx => exact rfl); (case hi => exact at0); (case hj => omega); intro _ _; rw [two_0]; go_simp)
    | ((with_reducible apply own_getg (j := 1) oneI6 H); (case hw => exact rfl); (case ho => exact rfl); (case hx => exact rfl); (case hi => exact at0); (case hj => omega); intro _ _; rw [two_1]; go_simp)
    | ((with_reducible refine (awake6 _ (HT.out.below H.out.bel)).mono ?_); rintro e wc ⟨rfl, hb⟩; replace H := Lib.hid (H.out.call hb); clear hb))
  go_ret
  exact ⟨rfl, H.out.bel⟩
set_option maxRecDepth 20000 in
set_option maxHeartbeats 12800000 in
theorem long_far5 (a : Option Addr) (n c : Nat) (at' p q : Int) (w : World) (hT : Tl true w) (h1 : ¬ 128 < n) (h2 : ¬ at' < 0) (h3 : ¬ (n : Int) < at') (h4 : ¬ p < -1073741824) (h5 : 1073741824 < p) : Calls Tryd.prog 9 #[.slice a n c, .int .i64 at', PV p q] w fun e w' => e = .returned (.bool true) ∧ Below w.heap.size w w' := by
  have d1 : decide ((128 : Int) < (n : Int)) = false := by simp; omega
  have d2 : decide (at' < 0) = false := by simp; omega
  have d3 : decide ((n : Int) < at') = false := by simp; omega
  have d4 : decide (p < -1073741824) = false := by simp; omega
  have d5 : decide (1073741824 < p) = true := by simp; omega
  have HT := Lib.hid hT
  clear hT
  have H := Lib.hid (Ow.start w)
  go_enter Tryd.func9, Tryd.ntmps9
  go_wp2_with (first
    | ((fail_if_success have := g5); (with_reducible apply own_box H); (case hgd => exact rfl); (case ho => exact rfl); (case hx => exact rfl); intro w5 g5 H' _ _; replace H := H'; clear H'; go_simp)
    | ((with_reducible apply own_getg (j := 0) oneI6 H); (case hw => exact rfl); (case ho => exact rfl); (case hx => exact rfl); (case hi => exact at0); (case hj => omega); intro _ _; rw [two_0]; go_simp)
    | ((with_reducible apply own_getg (j := 1) oneI6 H); (case hw => exact rfl); (case ho => exact rfl); (case hx => exact rfl); (case hi => exact at0); (case hj => omega); intro _ _; rw [two_1]; go_simp)
    | ((with_reducible refine (awake6 _ (HT.out.below H.out.bel)).mono ?_); rintro e wc ⟨rfl, hb⟩; replace H := Lib.hid (H.out.call hb); clear hb))
  go_ret
  exact ⟨rfl, H.out.bel⟩
set_option maxRecDepth 20000 in
set_option maxHeartbeats 12800000 in
theorem long_far6 (a : Option Addr) (n c : Nat) (at' p q : Int) (w : World) (hT : Tl true w) (h1 : ¬ 128 < n) (h2 : ¬ at' < 0) (h3 : ¬ (n : Int) < at') (h4 : ¬ p < -1073741824) (h5 : ¬ 1073741824 < p) (h6 : q < -1073741824) : Calls Tryd.prog 9 #[.slice a n c, .int .i64 at', PV p q] w fun e w' => e = .returned (.bool true) ∧ Below w.heap.size w w' := by
  have d1 : decide ((128 : Int) < (n : Int)) = false := by simp; omega
  have d2 : decide (at' < 0) = false := by simp; omega
  have d3 : decide ((n : Int) < at') = false := by simp; omega
  have d4 : decide (p < -1073741824) = false := by simp; omega
  have d5 : decide (1073741824 < p) = false := by simp; omega
  have d6 : decide (q < -1073741824) = true := by simp; omega
  have HT := Lib.hid hT
  clear hT
  have H := Lib.hid (Ow.start w)
  go_enter Tryd.func9, Tryd.ntmps9
  go_wp2_with (first
    | ((fail_if_success have := g5); (with_reducible apply own_box H); (case hgd => exact rfl); (case ho => exact rfl); (case hx => exact rfl); intro w5 g5 H' _ _; replace H := H'; clear H'; go_simp)
    | ((with_reducible apply own_getg (j := 0) oneI6 H); (case hw => exact rfl); (case ho => exact rfl); (case hx => exact rfl); (case hi => exact at0); (case hj => omega); intro _ _; rw [two_0]; go_simp)
    | ((with_reducible apply own_getg (j := 1) oneI6 H); (case hw => exact rfl); (case ho => exact rfl); (case hx => exact rfl); (case hi => exact at0); (case hj => omega); intro _ _; rw [two_1]; go_simp)
    | ((with_reducible refine (awake6 _ (HT.out.below H.out.bel)).mono ?_); rintro e wc ⟨rfl, hb⟩; replace H := Lib.hid (H.out.call hb); clear hb))
  go_ret
  exact ⟨rfl, H.out.bel⟩
set_option maxRecDepth 20000 in
set_option maxHeartbeats 12800000 in
theorem long_far7 (a : Option Addr) (n c : Nat) (at' p q : Int) (w : World) (hT : Tl true w) (h1 : ¬ 128 < n) (h2 : ¬ at' < 0) (h3 : ¬ (n : Int) < at') (h4 : ¬ p < -1073741824) (h5 : ¬ 1073741824 < p) (h6 : ¬ q < -1073741824) (h7 : 1073741824 < q) : Calls Tryd.prog 9 #[.slice a n c, .int .i64 at', PV p q] w fun e w' => e = .returned (.bool true) ∧ Below w.heap.size w w' := by
  have d1 : decide ((128 : Int) < (n : Int)) = false := by simp; omega
  have d2 : decide (at' < 0) = false := by simp; omega
  have d3 : decide ((n : Int) < at') = false := by simp; omega
  have d4 : decide (p < -1073741824) = false := by simp; omega
  have d5 : decide (1073741824 < p) = false := by simp; omega
  have d6 : decide (q < -1073741824) = false := by simp; omega
  have d7 : decide (1073741824 < q) = true := by simp; omega
  have HT := Lib.hid hT
  clear hT
  have H := Lib.hid (Ow.start w)
  go_enter Tryd.func9, Tryd.ntmps9
  go_wp2_with (first
    | ((fail_if_success have := g5); (with_reducible apply own_box H); (case hgd => exact rfl); (case ho => exact rfl); (case hx => exact rfl); intro w5 g5 H' _ _; replace H := H'; clear H'; go_simp)
    | ((with_reducible apply own_getg (j := 0) oneI6 H); (case hw => exact rfl); (case ho => exact rfl); (case hx => exact rfl); (case hi => exact at0); (case hj => omega); intro _ _; rw [two_0]; go_simp)
    | ((with_reducible apply own_getg (j := 1) oneI6 H); (case hw => exact rfl); (case ho => exact rfl); (case hx => exact rfl); (case hi => exact at0); (case hj => omega); intro _ _; rw [two_1]; go_simp)
    | ((with_reducible refine (awake6 _ (HT.out.below H.out.bel)).mono ?_); rintro e wc ⟨rfl, hb⟩; replace H := Lib.hid (H.out.call hb); clear hb))
  go_ret
  exact ⟨rfl, H.out.bel⟩
end Go.Proofs.YtocjncflgbnglaaDoor
