/-
  Lemmas for the walks, several texts in one. No statement is proved here.
-/
import Derived.Test.YtocjncflgbnglaaDoorBuP
import Derived.Test.YtocjncflgbnglaaDoorBuN
import Derived.Test.YtocjncflgbnglaaDoorBuB
import Derived.Great.BuildSlice
/-
  Numbers modulo L, what goes beyond 2^446 coming in again: plain mathematics, no program. No statement is proved here: lemmas for the walks.
-/
namespace Go.Proofs.YtocjncflgbnglaaDoor

/-- L; 2^446 less L; 2^446; 2^448. -/
def lN : Nat := 181709681073901722637330951972001133588410340171829515070372549795146003961539585716195755291692375963310293709091662304773755859649779
def rN : Nat := 0x8335dc163bb124b65129c96fde933d8d723a70aadc873d6d54a7bb0d
def qN : Nat := 181709681073901722637330951972001133588410340171829515070372549795159822028349480831547762678440891390190630401566544483383650407153664
def tN : Nat := 726838724295606890549323807888004534353641360687318060281490199180639288113397923326191050713763565560762521606266177933534601628614656
theorem lN_prime : prime lN := prime_181709681073901722637330951972001133588410340171829515070372549795146003961539585716195755291692375963310293709091662304773755859649779
theorem qN_eq : qN = lN + rN := by decide +kernel
theorem tN_eq : tN = 4 * qN := by decide +kernel
theorem qN_pow : ∀ e, e = 446 → 2 ^ e = qN := by
  intro e he
  have h : (2 ^ e == qN) = true := by rw [he]; decide +kernel
  exact eq_of_beq h
theorem tN_pow : ∀ e, e = 448 → 2 ^ e = tN := by
  intro e he
  have h : (2 ^ e == tN) = true := by rw [he]; decide +kernel
  exact eq_of_beq h
theorem tN_words : ∀ k, k = 7 → 2 ^ (64 * k) = tN := fun k h => tN_pow _ (by omega)
theorem lN_pos : 0 < lN := by decide +kernel
theorem lN_lt_t : lN < tN := by decide +kernel
theorem two_lN_lt_t : 2 * lN < tN := by decide +kernel
theorem lN_odd : lN % 2 = 1 := by decide +kernel
theorem lN_two : 2 < lN := by decide +kernel
instance nz_lN : NeZero lN := ⟨by decide +kernel⟩
/-- What goes beyond comes in again. -/
def fold (x : Nat) : Nat := x % qN + x / qN * rN
theorem fold_gen (x P l r : Nat) (h : P = l + r) : (x % P + x / P * r) % l = x % l := by
  have e : x = x % P + x / P * r + l * (x / P) := by
    have h1 := Nat.div_add_mod x P
    have h2 : P * (x / P) = l * (x / P) + x / P * r := by rw [h, Nat.add_mul, Nat.mul_comm r]
    omega
  conv => rhs; rw [e]
  rw [Nat.add_mul_mod_self_left]
theorem fold_mod (x : Nat) : fold x % lN = x % lN := fold_gen x qN lN rN qN_eq
theorem fold_gen_lt {x B C q r : Nat} (h : x < B) (hq : 0 < q) (hb : q + B / q * r ≤ C) : x % q + x / q * r < C := by
  have h1 := Nat.mod_lt x hq
  have h2 : x / q ≤ B / q := Nat.div_le_div_right (Nat.le_of_lt h)
  have h3 := Nat.mul_le_mul_right r h2
  omega
theorem leb {a b : Nat} (h : Nat.ble a b = true) : a ≤ b := Nat.le_of_ble_eq_true h
theorem fold_16 {x : Nat} (h : x < 2 ^ (64 * 16)) : fold x < 2 ^ (64 * 13) := fold_gen_lt h (by decide +kernel) (leb (by decide +kernel))
theorem fold_13 {x : Nat} (h : x < 2 ^ (64 * 13)) : fold x < 2 ^ (64 * 10) := fold_gen_lt h (by decide +kernel) (leb (by decide +kernel))
theorem fold_10 {x : Nat} (h : x < 2 ^ (64 * 10)) : fold x < 2 * lN := fold_gen_lt h (by decide +kernel) (leb (by decide +kernel))
/-- What is beyond has few words. -/
theorem beyond_gen {x B q C : Nat} (h : x < B) (hb : B / q < C) : x / q < C := Nat.lt_of_le_of_lt (Nat.div_le_div_right (Nat.le_of_lt h)) hb
theorem beyond_16 {x : Nat} (h : x < 2 ^ (64 * 16)) : x / qN < 2 ^ (64 * 10) := beyond_gen h (leb (by decide +kernel))
theorem beyond_13 {x : Nat} (h : x < 2 ^ (64 * 13)) : x / qN < 2 ^ (64 * 7) := beyond_gen h (leb (by decide +kernel))
theorem beyond_10 {x : Nat} (h : x < 2 ^ (64 * 10)) : x / qN < 2 ^ (64 * 4) := beyond_gen h (leb (by decide +kernel))
/-- Half of a number modulo an odd one. -/
def hf (x : Nat) : Nat := (x + (if x % 2 = 1 then lN else 0)) / 2
theorem hf_lt {x : Nat} (h : x < lN) : hf x < lN := by
  unfold hf
  have := lN_odd
  split <;> omega
theorem hf_two {x : Nat} (h : x < lN) : (hf x + hf x) % lN = x := by
  unfold hf
  have := lN_odd
  split
  · rename_i h1
    rw [show (x + lN) / 2 + (x + lN) / 2 = x + lN by omega, Nat.add_mod_right, Nat.mod_eq_of_lt h]
  · rename_i h1
    rw [show (x + 0) / 2 + (x + 0) / 2 = x by omega, Nat.mod_eq_of_lt h]
/-- The scalars. -/
abbrev KL := Fin lN
def haK (a : KL) : KL := ⟨hf a.val, hf_lt a.isLt⟩
theorem haK_two (a : KL) : haK a + haK a = a := Fin.ext (by rw [Fin.val_add]; exact hf_two a.isLt)
/-- A number of any sign as a scalar. -/
def ofL (n : Int) : KL := ⟨(n % (lN : Int)).toNat, by
  have h0 : (0 : Int) < (lN : Int) := by have := lN_pos; omega
  have h1 := Int.emod_lt_of_pos n h0
  have h2 := Int.emod_nonneg n (show (lN : Int) ≠ 0 by omega)
  omega⟩
theorem ofL_nat (n : Nat) : (ofL n).val = n % lN := by
  show ((n : Int) % (lN : Int)).toNat = _
  rw [← Int.natCast_emod, Int.toNat_natCast]
theorem ofL_one : ofL 1 = 1 := Fin.ext (by
  rw [show ((1 : Int)) = ((1 : Nat) : Int) from rfl, ofL_nat]
  rfl)
theorem ofL_neg (n : Int) : ofL (-n) = -ofL n := by
  apply Fin.ext
  show ((-n) % (lN : Int)).toNat = (lN - (n % (lN : Int)).toNat) % lN
  have h0 : (0 : Int) < (lN : Int) := by have := lN_pos; omega
  have h1 := Int.emod_lt_of_pos n h0
  have h2 := Int.emod_nonneg n (show (lN : Int) ≠ 0 by omega)
  rcases Int.lt_or_eq_of_le h2 with h3 | h3
  · have e : (-n) % (lN : Int) = (lN : Int) - n % (lN : Int) := by
      rw [← Int.add_mul_emod_self_left (-n) (lN : Int) (n / (lN : Int) + 1)]
      have h4 := Int.mul_ediv_add_emod n (lN : Int)
      have h5 : -n + (lN : Int) * (n / (lN : Int) + 1) = (lN : Int) - n % (lN : Int) := by
        rw [Int.mul_add]; omega
      rw [h5]
      exact Int.emod_eq_of_lt (by omega) (by omega)
    rw [e, Nat.mod_eq_of_lt (by omega)]
    omega
  · have e : (-n) % (lN : Int) = 0 := Int.emod_eq_zero_of_dvd (Int.dvd_neg.2 (Int.dvd_of_emod_eq_zero h3.symm))
    rw [e, ← h3]
    simp
theorem ofL_add (m n : Int) : ofL (m + n) = ofL m + ofL n := by
  apply Fin.ext
  rw [Fin.val_add]
  show ((m + n) % (lN : Int)).toNat = ((m % (lN : Int)).toNat + (n % (lN : Int)).toNat) % lN
  have h0 : (0 : Int) < (lN : Int) := by have := lN_pos; omega
  have h1 := Int.emod_nonneg m (show (lN : Int) ≠ 0 by omega)
  have h2 := Int.emod_nonneg n (show (lN : Int) ≠ 0 by omega)
  rw [Int.add_emod]
  generalize m % (lN : Int) = u at *
  generalize n % (lN : Int) = v at *
  obtain ⟨u, rfl⟩ := Int.eq_ofNat_of_zero_le h1
  obtain ⟨v, rfl⟩ := Int.eq_ofNat_of_zero_le h2
  show (((u : Int) + (v : Int)) % (lN : Int)).toNat = (u + v) % lN
  rw [← Int.natCast_add, ← Int.natCast_emod, Int.toNat_natCast]
theorem ofL_mul (m n : Int) : ofL (m * n) = ofL m * ofL n := by
  apply Fin.ext
  rw [Fin.val_mul]
  show ((m * n) % (lN : Int)).toNat = ((m % (lN : Int)).toNat * (n % (lN : Int)).toNat) % lN
  have h0 : (0 : Int) < (lN : Int) := by have := lN_pos; omega
  have h1 := Int.emod_nonneg m (show (lN : Int) ≠ 0 by omega)
  have h2 := Int.emod_nonneg n (show (lN : Int) ≠ 0 by omega)
  rw [Int.mul_emod]
  generalize m % (lN : Int) = u at *
  generalize n % (lN : Int) = v at *
  obtain ⟨u, rfl⟩ := Int.eq_ofNat_of_zero_le h1
  obtain ⟨v, rfl⟩ := Int.eq_ofNat_of_zero_le h2
  show (((u : Int) * (v : Int)) % (lN : Int)).toNat = u * v % lN
  rw [← Int.natCast_mul, ← Int.natCast_emod, Int.toNat_natCast]
end Go.Proofs.YtocjncflgbnglaaDoor

/-
  Scalars as rows of seven words; the package's tables; single words of rows that are the call's own, read and written. No statement is proved here: lemmas for the walks.
-/
namespace Go.Proofs.YtocjncflgbnglaaDoor
open Go.RowKit

/-- Words as what a row holds. -/
abbrev LZ (g : Nat → BitVec 64) : Nat → Int := fun i => L (g i)
/-- Seven words, of which an array, or a scalar, is made; seventeen. -/
abbrev W7 (x : Nat) : Value := .agg (AZ .u64 7 (LZ (wd x)))
abbrev W17 (x : Nat) : Value := .agg (AZ .u64 17 (LZ (wd x)))
abbrev WB (t : TypeId) (n : Nat) (g : Nat → BitVec 64) : Obj := Blk t .u64 n (LZ g)
theorem LZ_zero : (fun _ => (0 : Int)) = LZ fun _ => 0 := rfl
theorem LZ_wd0 : LZ (wd 0) = fun _ => 0 := by
  funext i
  show L (wd 0 i) = 0
  rw [wd_zero]
  rfl
theorem LZ_upd (g : Nat → BitVec 64) (i : Nat) (v : BitVec 64) : updZ (LZ g) i (L v) = LZ (upd g i v) := by
  funext j
  unfold updZ upd
  by_cases h : j = i
  · rw [if_pos h]; show _ = L (if j = i then v else g j); rw [if_pos h]
  · rw [if_neg h]; show _ = L (if j = i then v else g j); rw [if_neg h]
theorem AZ_7 (f : Nat → Int) : AZ .u64 7 f = #[.int .u64 (f 0), .int .u64 (f 1), .int .u64 (f 2), .int .u64 (f 3), .int .u64 (f 4), .int .u64 (f 5), .int .u64 (f 6)] := by
  unfold AZ
  rfl
theorem zero7 : AZ .u64 7 (fun _ => 0) = #[.int .u64 0, .int .u64 0, .int .u64 0, .int .u64 0, .int .u64 0, .int .u64 0, .int .u64 0] := by
  unfold AZ
  rfl
theorem zero17 : AZ .u64 17 (fun _ => 0) = #[.int .u64 0, .int .u64 0, .int .u64 0, .int .u64 0, .int .u64 0, .int .u64 0, .int .u64 0, .int .u64 0, .int .u64 0, .int .u64 0, .int .u64 0, .int .u64 0, .int .u64 0, .int .u64 0, .int .u64 0, .int .u64 0, .int .u64 0] := by
  unfold AZ
  rfl
theorem zero10 : AZ .u64 10 (fun _ => 0) = #[.int .u64 0, .int .u64 0, .int .u64 0, .int .u64 0, .int .u64 0, .int .u64 0, .int .u64 0, .int .u64 0, .int .u64 0, .int .u64 0] := by
  unfold AZ
  rfl
theorem zero4 : AZ .u64 4 (fun _ => 0) = #[.int .u64 0, .int .u64 0, .int .u64 0, .int .u64 0] := by
  unfold AZ
  rfl
theorem row7 : IsRow Tryd.prog 25 7 := ⟨⟨_, Tryd.underlying25, rfl⟩, by kernel_rfl⟩
theorem nil7 (w : World) : (zeroValue 25).run Tryd.prog w = .ok (.agg (AZ .u64 7 fun _ => 0)) w := by rw [zero7]; exact Tryd.zeroValue25 w
theorem rowSc : IsRow Tryd.prog 27 7 := ⟨⟨_, Tryd.underlying27, rfl⟩, by kernel_rfl⟩
theorem nilSc (w : World) : (zeroValue 27).run Tryd.prog w = .ok (.agg (AZ .u64 7 fun _ => 0)) w := by rw [zero7]; exact Tryd.zeroValue27 w
theorem row17 : IsRow Tryd.prog 62 17 := ⟨⟨_, Tryd.underlying62, rfl⟩, by kernel_rfl⟩
theorem nil17 (w : World) : (zeroValue 62).run Tryd.prog w = .ok (.agg (AZ .u64 17 fun _ => 0)) w := by rw [zero17]; exact Tryd.zeroValue62 w
theorem row10 : IsRow Tryd.prog 89 10 := ⟨⟨_, Tryd.underlying89, rfl⟩, by kernel_rfl⟩
theorem nil10 (w : World) : (zeroValue 89).run Tryd.prog w = .ok (.agg (AZ .u64 10 fun _ => 0)) w := by rw [zero10]; exact Tryd.zeroValue89 w
theorem row4 : IsRow Tryd.prog 88 4 := ⟨⟨_, Tryd.underlying88, rfl⟩, by kernel_rfl⟩
theorem nil4 (w : World) : (zeroValue 88).run Tryd.prog w = .ok (.agg (AZ .u64 4 fun _ => 0)) w := by rw [zero4]; exact Tryd.zeroValue88 w
theorem oneU : IsOne Tryd.prog 24 .u64 := ⟨Tryd.underlying24, by kernel_rfl⟩
/-- What the package's tables hold: L; if r, the other one, too. -/
structure Tl (r : Bool) (w : World) : Prop where
  ord : ∀ i, i < 7 → w.cell? ⟨0, i, none⟩ = some (V (wd lN i))
  rst : r = true → ∀ i, i < 4 → w.cell? ⟨1, i, none⟩ = some (V (wd rN i))
theorem Tl.below {r : Bool} {w w' : World} (h : Tl r w) (hb : Below w.heap.size w w') : Tl r w' :=
  ⟨fun i hi => (hb.cell (p := ⟨_, i, none⟩) (block_lt_of_cell (h.ord i hi))).trans (h.ord i hi), fun hr i hi => (hb.cell (p := ⟨_, i, none⟩) (block_lt_of_cell (h.rst hr i hi))).trans (h.rst hr i hi)⟩
section
variable {P : Program} {w : World} {ty : TypeId} {m : Nat}
/-- A row is read of which the cells are known. -/
theorem run_load_cells (hT : IsRow P ty m) {b o : Nat} {g : Nat → BitVec 64} (hr : ∀ i, i < m → w.cell? ⟨b, o + i, none⟩ = some (V (g i))) :
    (Instr.loadAt ty (.pointer (some ⟨b, o, none⟩))).run P w = .ok (.agg (AZ .u64 m (LZ g))) w := by
  obtain ⟨d, hd, hd'⟩ := hT.under
  have := run_loadAt_mid (P := P) w b o ty (AZ .u64 m (LZ g)).toList d (fun j v hv => by
    have hj : j < m := by
      rcases Nat.lt_or_ge j m with h' | h'
      · exact h'
      · rw [List.getElem?_eq_none (by rw [Array.length_toList, AZ_size]; exact h')] at hv; cases hv
    rw [Array.getElem?_toList, AZ_get _ _ _ _ hj] at hv
    rw [hr j hj, hv]) hd (by cases d <;> simp_all) (by rw [Array.length_toList, AZ_size]; exact hT.size)
  rwa [Array.toArray_toList] at this
theorem Tl.load_ord {r : Bool} (h : Tl r w) : (Instr.loadAt 25 (.pointer (some ⟨0, 0, none⟩))).run Tryd.prog w = .ok (W7 lN) w :=
  run_load_cells row7 fun i hi => by rw [Nat.zero_add]; exact h.ord i hi
theorem Tl.load_rst (h : Tl true w) : (Instr.loadAt 88 (.pointer (some ⟨1, 0, none⟩))).run Tryd.prog w = .ok (.agg (AZ .u64 4 (LZ (wd rN)))) w :=
  run_load_cells row4 fun i hi => by rw [Nat.zero_add]; exact h.rst rfl i hi
end
section
variable {ops : Array Oper} {rest : List Oper} {o : Oper} {a : Act} {w : World} {Q : Exit → Act → World → Prop}
theorem lay_load_ord {r : Bool} (HT : Hid (Tl r w)) (hgd : o.guard = none) {x : Operand} (ho : o.op = .load 25 x) (hx : a.eval x = .pointer (some ⟨0, 0, none⟩))
    (h : ∀ K : Act → World → Prop, (∀ a w, wpList Tryd.prog ops Q rest a w → K a w) → K (a.put o.dst (W7 lN)) w) : wpList Tryd.prog ops Q (o :: rest) a w :=
  wpList_plain hgd fun K hK => by
    unfold Oper.wp execOp
    simp only [ho, hx, Sem.run_bind, HT.out.load_ord, Result.andThen_ok]
    exact h K hK
theorem lay_load_rst (HT : Hid (Tl true w)) (hgd : o.guard = none) {x : Operand} (ho : o.op = .load 88 x) (hx : a.eval x = .pointer (some ⟨1, 0, none⟩))
    (h : ∀ K : Act → World → Prop, (∀ a w, wpList Tryd.prog ops Q rest a w → K a w) → K (a.put o.dst (.agg (AZ .u64 4 (LZ (wd rN))))) w) : wpList Tryd.prog ops Q (o :: rest) a w :=
  wpList_plain hgd fun K hK => by
    unfold Oper.wp execOp
    simp only [ho, hx, Sem.run_bind, HT.out.load_rst, Result.andThen_ok]
    exact h K hK
end
section
variable {P : Program} {md : Region.Mode} {ops : Array Oper} {Q : Exit → Act → World → Prop} {S : World → Prop} {fuel : Nat} {listed : Array Bool} {a : Act} {w : World} {t ty : TypeId} {n : Nat}
/-- In a region that draws its order: one word of a row is taken. -/
theorem held_word (i : Nat) (d : Tmp) {oi : Oper} (hT : IsOne P ty .u64) (hi : ops[i]? = some oi) (hd : oi.dst = some d) (hs : Region.noSelect ops = true) (hf : Region.free md ops listed i = true)
    (hr : (Region.ready md ops listed).contains i = true) (hw : Region.wanted oi (yielded ops a.tmps) = true) (hS : S w) {x : Operand} (ho : oi.op = .load ty x) {g j : Nat} (hx : a.eval x = .pointer (some ⟨g, j, none⟩))
    {f : Nat → BitVec 64} (hrow : ∀ w, S w → w.heap[g]? = some (WB t n f)) (hj : j < n)
    (h : wpAnyH P md ops (NoPanic Q) S fuel (listed.setIfInBounds i true) (a.put (some d) (V (f j))) w) : wpAnyH P md ops (NoPanic Q) S (fuel + 1) listed a w :=
  held_value i d (V (f j)) hi hd hs hf hr hw hS (fun w hw' => by
    unfold execOp
    simp only [ho, hx, Sem.run_bind, run_get hT (hrow w hw') hj, Result.andThen_ok]
    rfl) h
end
section
variable {P : Program} {o : Oper} {a : Act} {w w0 : World} {l : List (Nat × Obj)} {K : Act → World → Prop} {Q : Exit → Act → World → Prop} {t ty : TypeId} {n : Nat}
/-- One word is read. -/
theorem own_wp_getw (dd : Tmp) (hd : o.dst = some dd) (i : Nat) (hT : IsOne P ty .u64) (H : Ow w0 w l) {x : Operand} (ho : o.op = .load ty x) {g j : Nat} (hx : a.eval x = .pointer (some ⟨g, j, none⟩)) {f : Nat → BitVec 64}
    (hi : l[i]? = some (g, WB t n f)) (hj : j < n) (h : K (a.put (some dd) (V (f j))) w) : o.wp P a w K Q := by
  unfold Oper.wp execOp
  simp only [ho, hx, Sem.run_bind, run_get hT (H.row i hi) hj, Result.andThen_ok]
  show K (a.put o.dst _) _
  rw [hd]
  exact h
/-- One word is stored. -/
theorem own_wp_word (i : Nat) (hT : IsOne P ty .u64) (H : Ow w0 w l) {x y : Operand} (ho : o.op = .store ty x y) {g j : Nat} (hx : a.eval x = .pointer (some ⟨g, j, none⟩)) {v : BitVec 64} {f : Nat → BitVec 64} (hy : a.eval y = V v)
    (hi : l[i]? = some (g, WB t n f)) (hj : j < n) (h : ∀ w', Ow w0 w' (l.set i (g, WB t n (upd f j v))) → K (a.put o.dst undef) w') : o.wp P a w K Q := by
  unfold Oper.wp execOp
  simp only [ho, hx, hy, Sem.run_bind, run_put hT (H.row i hi) hj (L v), Result.andThen_ok]
  rw [LZ_upd]
  exact h _ (H.setRow i hi _)
end
section
variable {P : Program} {ops : Array Oper} {rest : List Oper} {o : Oper} {a : Act} {w w0 : World} {l : List (Nat × Obj)} {Q : Exit → Act → World → Prop} {t ty : TypeId} {n : Nat}
theorem own_word {i : Nat} (hT : IsOne P ty .u64) (H : Hid (Ow w0 w l)) (hgd : o.guard = none) {x : Operand} (ho : o.op = .load ty x) {g j : Nat} (hx : a.eval x = .pointer (some ⟨g, j, none⟩)) {f : Nat → BitVec 64}
    (hi : l[i]? = some (g, WB t n f)) (hj : j < n) (h : ∀ K : Act → World → Prop, (∀ a w, wpList P ops Q rest a w → K a w) → K (a.put o.dst (V (f j))) w) : wpList P ops Q (o :: rest) a w :=
  own_get hT H hgd ho hx hi hj h
theorem own_putw {i : Nat} (hT : IsOne P ty .u64) (H : Hid (Ow w0 w l)) (hgd : o.guard = none) {x y : Operand} (ho : o.op = .store ty x y) {g j : Nat} (hx : a.eval x = .pointer (some ⟨g, j, none⟩)) {v : BitVec 64} {f : Nat → BitVec 64} (hy : a.eval y = V v)
    (hi : l[i]? = some (g, WB t n f)) (hj : j < n) (h : ∀ w', Hid (Ow w0 w' (l.set i (g, WB t n (upd f j v)))) → ∀ K : Act → World → Prop, (∀ a w, wpList P ops Q rest a w → K a w) → K (a.put o.dst undef) w') : wpList P ops Q (o :: rest) a w :=
  own_put hT H hgd ho hx hy hi hj fun w' H' => h w' (by rw [LZ_upd] at H'; exact H')
end
end Go.Proofs.YtocjncflgbnglaaDoor

/-
  The contracts of scalar.plus, lessen, pick. No statement is proved here: lemmas for the walks.
-/
namespace Go.Proofs.YtocjncflgbnglaaDoor
open Go.RowKit

theorem padc_word (x y i : Nat) : adc (wd x i) (wd y i) (car x y i) = wd (x + y) i := by
  apply BitVec.eq_of_toNat_eq
  rw [wd_add]
  unfold adc
  rw [BitVec.toNat_ofNat, cy_of (car_le x y i)]
theorem padk_word (x y i : Nat) : adk (wd x i) (wd y i) (car x y i) = car x y (i + 1) := by
  rw [car_succ]
  unfold adk
  rw [cy_of (car_le x y i)]
set_option maxRecDepth 8000 in
set_option maxHeartbeats 3200000 in
theorem plus_v (x y : Nat) (w : World) :
    Calls Tryd.prog 54 #[W7 x, W7 y] w fun e w' => e = .returned (W7 (x + y)) ∧ Below w.heap.size w w' := by
  have H := Lib.hid (Ow.start w)
  go_enter Tryd.func54, Tryd.ntmps54
  go_wp2_with (first
    | ((fail_if_success have := g2); (with_reducible apply own_box H); (case hgd => exact rfl); (case ho => exact rfl); (case hx => exact rfl); intro w2 g2 H' _ _; replace H := H'; clear H'; go_simp)
    | ((fail_if_success have := g3); (with_reducible apply own_box H); (case hgd => exact rfl); (case ho => exact rfl); (case hx => exact rfl); intro w3 g3 H' _ _; replace H := H'; clear H'; go_simp)
    | ((fail_if_success have := g4); (with_reducible apply own_alloc nil7 H); (case hgd => exact rfl); (case ho => exact rfl); intro w4 g4 H' _ _; replace H := H'; clear H'; go_simp))
  rw [LZ_zero] at H
  go_loopw [5, 7] (fun v5 v7 wr => ∃ i : Nat, i ≤ 7 ∧ v7 = .int .i64 i ∧ v5 = V (cy (car x y i)) ∧ Ow w wr [(g4, WB 25 7 (mix i (wd (x + y)) fun _ => 0)), (g3, WB 25 7 (wd y)), (g2, WB 25 7 (wd x))]) (fun _ v7 _ => 7 - (intOf v7).toNat)
  case atStart => exact ⟨0, by omega, rfl, by rw [car_zero]; rfl, by rw [mix_zero]; exact H.out⟩
  case round =>
    clear H
    obtain ⟨i, hi, rfl, rfl, HR⟩ := hrel
    have H := Lib.hid HR
    clear HR
    by_cases hlt : i < 7
    · have hid : decide ((i : Int) < 7) = true := by simp; omega
      have i7 : (i : Int) < 7 := by omega
      go_wp2_with fail
      refine wp_region_noPanic ?_
      refine wp_region_held_drew (S := fun W => W.heap[g2]? = some (WB 25 7 (wd x)) ∧ W.heap[g3]? = some (WB 25 7 (wd y))) (by kernel_rfl) (⟨H.out.drew.row 2 rfl, H.out.drew.row 1 rfl⟩) (fun hH => ?_)
      replace H := Lib.hid H.out.drew
      generalize World.drew _ = w8 at *
      refine held_value 0 11 (.int .i64 i) rfl rfl (by kernel_rfl) (by kernel_rfl) (by kernel_rfl) rfl hH (fun w hw => by go_simp) ?_
      try simp only [Act.put, List.setIfInBounds_toArray, List.set_cons_zero, List.set_cons_succ]
      refine held_value 1 12 (.int .i64 i) rfl rfl (by kernel_rfl) (by kernel_rfl) (by kernel_rfl) rfl hH (fun w hw => by go_simp) ?_
      try simp only [Act.put, List.setIfInBounds_toArray, List.set_cons_zero, List.set_cons_succ]
      refine held_value 2 13 (.pointer (some ⟨g2, i, none⟩)) rfl rfl (by kernel_rfl) (by kernel_rfl) (by kernel_rfl) rfl hH (fun w hw => by go_simp) ?_
      try simp only [Act.put, List.setIfInBounds_toArray, List.set_cons_zero, List.set_cons_succ]
      refine held_word 3 14 oneU rfl rfl (by kernel_rfl) (by kernel_rfl) (by kernel_rfl) rfl hH rfl rfl (fun _ h => h.1) hlt ?_
      try simp only [Act.put, List.setIfInBounds_toArray, List.set_cons_zero, List.set_cons_succ]
      refine held_value 4 15 (.int .i64 i) rfl rfl (by kernel_rfl) (by kernel_rfl) (by kernel_rfl) rfl hH (fun w hw => by go_simp) ?_
      try simp only [Act.put, List.setIfInBounds_toArray, List.set_cons_zero, List.set_cons_succ]
      refine held_value 5 16 (.pointer (some ⟨g3, i, none⟩)) rfl rfl (by kernel_rfl) (by kernel_rfl) (by kernel_rfl) rfl hH (fun w hw => by go_simp) ?_
      try simp only [Act.put, List.setIfInBounds_toArray, List.set_cons_zero, List.set_cons_succ]
      refine held_word 6 17 oneU rfl rfl (by kernel_rfl) (by kernel_rfl) (by kernel_rfl) rfl hH rfl rfl (fun _ h => h.2) hlt ?_
      try simp only [Act.put, List.setIfInBounds_toArray, List.set_cons_zero, List.set_cons_succ]
      refine held_value 7 18 (V (cy (car x y i))) rfl rfl (by kernel_rfl) (by kernel_rfl) (by kernel_rfl) rfl hH (fun w hw => by go_simp) ?_
      try simp only [Act.put, List.setIfInBounds_toArray, List.set_cons_zero, List.set_cons_succ]
      refine held_value 8 19 (Value.tuple #[V (adc (wd x i) (wd y i) (car x y i)), V (cy (adk (wd x i) (wd y i) (car x y i)))]) rfl rfl (by kernel_rfl) (by kernel_rfl) (by kernel_rfl) rfl hH (fun w hw => by go_simp) ?_
      try simp only [Act.put, List.setIfInBounds_toArray, List.set_cons_zero, List.set_cons_succ]
      refine held_value 9 10 (Value.tuple #[V (adc (wd x i) (wd y i) (car x y i)), V (cy (adk (wd x i) (wd y i) (car x y i)))]) rfl rfl (by kernel_rfl) (by kernel_rfl) (by kernel_rfl) rfl hH (fun w hw => by go_simp) ?_
      try simp only [Act.put, List.setIfInBounds_toArray, List.set_cons_zero, List.set_cons_succ]
      refine held_value 10 20 (V (adc (wd x i) (wd y i) (car x y i))) rfl rfl (by kernel_rfl) (by kernel_rfl) (by kernel_rfl) rfl hH (fun w hw => by go_simp) ?_
      try simp only [Act.put, List.setIfInBounds_toArray, List.set_cons_zero, List.set_cons_succ]
      refine held_value 11 21 (V (cy (adk (wd x i) (wd y i) (car x y i)))) rfl rfl (by kernel_rfl) (by kernel_rfl) (by kernel_rfl) rfl hH (fun w hw => by go_simp) ?_
      try simp only [Act.put, List.setIfInBounds_toArray, List.set_cons_zero, List.set_cons_succ]
      refine held_value 12 22 (.pointer (some ⟨g4, i, none⟩)) rfl rfl (by kernel_rfl) (by kernel_rfl) (by kernel_rfl) rfl hH (fun w hw => by go_simp) ?_
      try simp only [Act.put, List.setIfInBounds_toArray, List.set_cons_zero, List.set_cons_succ]
      refine wpAnyH_ready (rs := [13]) (by kernel_rfl) (by simp) ?_
      refine AllReadyH.cons (o := _) rfl (fun K hK => ?_) AllReadyH.nil
      refine own_wp_word 0 oneU H.out rfl rfl rfl rfl hlt ?_
      intro ws HS
      simp only [List.set_cons_zero] at HS
      replace H := Lib.hid HS
      refine hK.out _ _ (⟨H.out.row 2 rfl, H.out.row 1 rfl⟩) (fun hN => ?_)
      clear hK K hH HS
      have hH := hN
      clear hN
      try simp only [Act.put, List.setIfInBounds_toArray]
      refine held_value 14 5 (V (cy (adk (wd x i) (wd y i) (car x y i)))) rfl rfl (by kernel_rfl) (by kernel_rfl) (by kernel_rfl) rfl hH (fun w hw => by go_simp) ?_
      try simp only [Act.put]
      try simp only [Act.put]
      refine wpAnyH_done (by kernel_rfl) ?_ _
      refine NoPanic.normal ?_
      clear hH
      go_wp2_with fail
      go_roundw
      case rel => exact ⟨i + 1, by omega, by go_num, by rw [padk_word], by rw [← mix_upd, ← padc_word]; exact H.out⟩
      case measure => simp [intOf]; omega
    · obtain rfl : i = 7 := by omega
      clear hlt hi
      rw [show ((7 : Nat) : Int) = 7 from rfl]
      replace H := Lib.hid (H.out.like 0 (g := LZ (wd (x + y))) rfl fun k hk => by show L (mix 7 _ _ k) = _; rw [mix_all _ _ _ k hk])
      simp only [List.set_cons_zero] at H
      go_wp2_with (first
        | ((with_reducible apply own_load row7 H); (case hgd => exact rfl); (case ho => exact rfl); (case hx => exact rfl); (case hi => first | exact at0 | exact at1 | exact at2 | exact at3 | exact at4 | exact at5 | exact at6 | exact at7 | exact at8 | exact at9); intro _ _; go_simp)
        | ((with_reducible apply own_store row7 H); (case hgd => exact rfl); (case ho => exact rfl); (case hx => exact rfl); (case hy => exact rfl); (case hi => first | exact at0 | exact at1 | exact at2 | exact at3 | exact at4 | exact at5 | exact at6 | exact at7 | exact at8 | exact at9); intro ws H' _ _; replace H := H'; clear H'; simp only [List.set_cons_zero] at H; go_simp))
      exact bodyPost_ret (own_result 0 row7 rfl _ H rfl rfl) rfl ⟨rfl, H.out.bel⟩
/-- What is there, 2^448 being there more. -/
def more (x : Nat) : Nat := tN + x
theorem wd_more (x i : Nat) (hi : i < 7) : wd (more x) i = wd x i := by
  unfold more
  have h := wd_low x 1 7 i hi
  rwa [tN_words 7 rfl, Nat.mul_one] at h
theorem more_ge {x y : Nat} (hy : y < tN) : y ≤ more x := by unfold more; omega
/-- What is left, of it and 2^448, and whether it falls below 0. -/
def dif (x y : Nat) : Nat := more x - y
/-- Whether it falls below 0. -/
def und (x y : Nat) : Nat := if x < y then 1 else 0
theorem bor_seven {x y : Nat} (hx : x < tN) (hy : y < tN) : bor (more x) y 7 = und x y := by
  unfold bor more und
  rw [tN_words 7 rfl, Nat.mod_eq_of_lt hy, Nat.add_mod_left, Nat.mod_eq_of_lt hx]
theorem dif_ge {x y : Nat} (h : y ≤ x) (i : Nat) (hi : i < 7) : wd (dif x y) i = wd (x - y) i := by
  rw [show dif x y = more (x - y) by unfold dif more; omega, wd_more _ _ hi]
set_option maxRecDepth 8000 in
set_option maxHeartbeats 3200000 in
theorem slessen_v (x y : Nat) (w : World) (hx : x < tN) (hy : y < tN) :
    Calls Tryd.prog 45 #[W7 x, W7 y] w fun e w' => e = .returned (.tuple #[W7 (dif x y), V (cy (und x y))]) ∧ Below w.heap.size w w' := by
  have HW : Hid (∀ i, i < 7 → sbb (wd x i) (wd y i) (bor (more x) y i) = wd (dif x y) i) := Lib.hid fun i hi => by
    rw [← wd_more x i hi, sbb_word (more_ge hy)]
    rfl
  have HK : Hid (∀ i, i < 7 → sbk (wd x i) (wd y i) (bor (more x) y i) = bor (more x) y (i + 1)) := Lib.hid fun i hi => by
    rw [← wd_more x i hi, sbk_word (more_ge hy)]
  have HF := Lib.hid (bor_seven hx hy)
  clear hx hy
  have H := Lib.hid (Ow.start w)
  go_enter Tryd.func45, Tryd.ntmps45
  go_wp2_with (first
    | ((fail_if_success have := g2); (with_reducible apply own_box H); (case hgd => exact rfl); (case ho => exact rfl); (case hx => exact rfl); intro w2 g2 H' _ _; replace H := H'; clear H'; go_simp)
    | ((fail_if_success have := g3); (with_reducible apply own_box H); (case hgd => exact rfl); (case ho => exact rfl); (case hx => exact rfl); intro w3 g3 H' _ _; replace H := H'; clear H'; go_simp)
    | ((fail_if_success have := g4); (with_reducible apply own_alloc nil7 H); (case hgd => exact rfl); (case ho => exact rfl); intro w4 g4 H' _ _; replace H := H'; clear H'; go_simp))
  rw [LZ_zero] at H
  go_loopw [5, 7] (fun v5 v7 wr => ∃ i : Nat, i ≤ 7 ∧ v7 = .int .i64 i ∧ v5 = V (cy (bor (more x) y i)) ∧ Ow w wr [(g4, WB 25 7 (mix i (wd (dif x y)) fun _ => 0)), (g3, WB 25 7 (wd y)), (g2, WB 25 7 (wd x))]) (fun _ v7 _ => 7 - (intOf v7).toNat)
  case atStart => exact ⟨0, by omega, rfl, by rw [bor_zero]; rfl, by rw [mix_zero]; exact H.out⟩
  case round =>
    clear H
    obtain ⟨i, hi, rfl, rfl, HR⟩ := hrel
    have H := Lib.hid HR
    clear HR
    by_cases hlt : i < 7
    · have hid : decide ((i : Int) < 7) = true := by simp; omega
      have i7 : (i : Int) < 7 := by omega
      go_wp2_with fail
      refine wp_region_noPanic ?_
      refine wp_region_held_drew (S := fun W => W.heap[g2]? = some (WB 25 7 (wd x)) ∧ W.heap[g3]? = some (WB 25 7 (wd y))) (by kernel_rfl) (⟨H.out.drew.row 2 rfl, H.out.drew.row 1 rfl⟩) (fun hH => ?_)
      replace H := Lib.hid H.out.drew
      generalize World.drew _ = w8 at *
      refine held_value 0 11 (.int .i64 i) rfl rfl (by kernel_rfl) (by kernel_rfl) (by kernel_rfl) rfl hH (fun w hw => by go_simp) ?_
      try simp only [Act.put, List.setIfInBounds_toArray, List.set_cons_zero, List.set_cons_succ]
      refine held_value 1 12 (.int .i64 i) rfl rfl (by kernel_rfl) (by kernel_rfl) (by kernel_rfl) rfl hH (fun w hw => by go_simp) ?_
      try simp only [Act.put, List.setIfInBounds_toArray, List.set_cons_zero, List.set_cons_succ]
      refine held_value 2 13 (.pointer (some ⟨g2, i, none⟩)) rfl rfl (by kernel_rfl) (by kernel_rfl) (by kernel_rfl) rfl hH (fun w hw => by go_simp) ?_
      try simp only [Act.put, List.setIfInBounds_toArray, List.set_cons_zero, List.set_cons_succ]
      refine held_word 3 14 oneU rfl rfl (by kernel_rfl) (by kernel_rfl) (by kernel_rfl) rfl hH rfl rfl (fun _ h => h.1) hlt ?_
      try simp only [Act.put, List.setIfInBounds_toArray, List.set_cons_zero, List.set_cons_succ]
      refine held_value 4 15 (.int .i64 i) rfl rfl (by kernel_rfl) (by kernel_rfl) (by kernel_rfl) rfl hH (fun w hw => by go_simp) ?_
      try simp only [Act.put, List.setIfInBounds_toArray, List.set_cons_zero, List.set_cons_succ]
      refine held_value 5 16 (.pointer (some ⟨g3, i, none⟩)) rfl rfl (by kernel_rfl) (by kernel_rfl) (by kernel_rfl) rfl hH (fun w hw => by go_simp) ?_
      try simp only [Act.put, List.setIfInBounds_toArray, List.set_cons_zero, List.set_cons_succ]
      refine held_word 6 17 oneU rfl rfl (by kernel_rfl) (by kernel_rfl) (by kernel_rfl) rfl hH rfl rfl (fun _ h => h.2) hlt ?_
      try simp only [Act.put, List.setIfInBounds_toArray, List.set_cons_zero, List.set_cons_succ]
      refine held_value 7 18 (V (cy (bor (more x) y i))) rfl rfl (by kernel_rfl) (by kernel_rfl) (by kernel_rfl) rfl hH (fun w hw => by go_simp) ?_
      try simp only [Act.put, List.setIfInBounds_toArray, List.set_cons_zero, List.set_cons_succ]
      refine held_value 8 19 (Value.tuple #[V (sbb (wd x i) (wd y i) (bor (more x) y i)), V (cy (sbk (wd x i) (wd y i) (bor (more x) y i)))]) rfl rfl (by kernel_rfl) (by kernel_rfl) (by kernel_rfl) rfl hH (fun w hw => by go_simp) ?_
      try simp only [Act.put, List.setIfInBounds_toArray, List.set_cons_zero, List.set_cons_succ]
      refine held_value 9 10 (Value.tuple #[V (sbb (wd x i) (wd y i) (bor (more x) y i)), V (cy (sbk (wd x i) (wd y i) (bor (more x) y i)))]) rfl rfl (by kernel_rfl) (by kernel_rfl) (by kernel_rfl) rfl hH (fun w hw => by go_simp) ?_
      try simp only [Act.put, List.setIfInBounds_toArray, List.set_cons_zero, List.set_cons_succ]
      refine held_value 10 20 (V (sbb (wd x i) (wd y i) (bor (more x) y i))) rfl rfl (by kernel_rfl) (by kernel_rfl) (by kernel_rfl) rfl hH (fun w hw => by go_simp) ?_
      try simp only [Act.put, List.setIfInBounds_toArray, List.set_cons_zero, List.set_cons_succ]
      refine held_value 11 21 (V (cy (sbk (wd x i) (wd y i) (bor (more x) y i)))) rfl rfl (by kernel_rfl) (by kernel_rfl) (by kernel_rfl) rfl hH (fun w hw => by go_simp) ?_
      try simp only [Act.put, List.setIfInBounds_toArray, List.set_cons_zero, List.set_cons_succ]
      refine held_value 12 22 (.pointer (some ⟨g4, i, none⟩)) rfl rfl (by kernel_rfl) (by kernel_rfl) (by kernel_rfl) rfl hH (fun w hw => by go_simp) ?_
      try simp only [Act.put, List.setIfInBounds_toArray, List.set_cons_zero, List.set_cons_succ]
      refine wpAnyH_ready (rs := [13]) (by kernel_rfl) (by simp) ?_
      refine AllReadyH.cons (o := _) rfl (fun K hK => ?_) AllReadyH.nil
      refine own_wp_word 0 oneU H.out rfl rfl rfl rfl hlt ?_
      intro ws HS
      simp only [List.set_cons_zero] at HS
      replace H := Lib.hid HS
      refine hK.out _ _ (⟨H.out.row 2 rfl, H.out.row 1 rfl⟩) (fun hN => ?_)
      clear hK K hH HS
      have hH := hN
      clear hN
      try simp only [Act.put, List.setIfInBounds_toArray]
      refine held_value 14 5 (V (cy (sbk (wd x i) (wd y i) (bor (more x) y i)))) rfl rfl (by kernel_rfl) (by kernel_rfl) (by kernel_rfl) rfl hH (fun w hw => by go_simp) ?_
      try simp only [Act.put]
      try simp only [Act.put]
      refine wpAnyH_done (by kernel_rfl) ?_ _
      refine NoPanic.normal ?_
      clear hH
      go_wp2_with fail
      go_roundw
      case rel => exact ⟨i + 1, by omega, by go_num, by rw [(HK.out i hlt)], by rw [← mix_upd, ← (HW.out i hlt)]; exact H.out⟩
      case measure => simp [intOf]; omega
    · obtain rfl : i = 7 := by omega
      clear hlt hi
      rw [show ((7 : Nat) : Int) = 7 from rfl]
      replace H := Lib.hid (H.out.like 0 (g := LZ (wd (dif x y))) rfl fun k hk => by show L (mix 7 _ _ k) = _; rw [mix_all _ _ _ k hk])
      simp only [List.set_cons_zero] at H
      go_wp2_with (first
        | ((with_reducible apply own_load row7 H); (case hgd => exact rfl); (case ho => exact rfl); (case hx => exact rfl); (case hi => first | exact at0 | exact at1 | exact at2 | exact at3 | exact at4 | exact at5 | exact at6 | exact at7 | exact at8 | exact at9); intro _ _; go_simp)
        | ((with_reducible apply own_store row7 H); (case hgd => exact rfl); (case ho => exact rfl); (case hx => exact rfl); (case hy => exact rfl); (case hi => first | exact at0 | exact at1 | exact at2 | exact at3 | exact at4 | exact at5 | exact at6 | exact at7 | exact at8 | exact at9); intro ws H' _ _; replace H := H'; clear H'; simp only [List.set_cons_zero] at H; go_simp))
      rw [HF.out]
      exact bodyPost_ret (own_result_slot 0 row7 rfl _ H rfl rfl rfl) rfl ⟨rfl, H.out.bel⟩
set_option maxRecDepth 8000 in
set_option maxHeartbeats 3200000 in
theorem pick_v (m : BitVec 64) (x y z : Nat) (w : World) (hm : ∀ i, i < 7 → wd x i ^^^ (m &&& (wd x i ^^^ wd y i)) = wd z i) :
    Calls Tryd.prog 56 #[V m, W7 x, W7 y] w fun e w' => e = .returned (W7 z) ∧ Below w.heap.size w w' := by
  have HM := Lib.hid hm
  clear hm
  have H := Lib.hid (Ow.start w)
  go_enter Tryd.func56, Tryd.ntmps56
  go_wp2_with (first
    | ((fail_if_success have := g4); (with_reducible apply own_box H); (case hgd => exact rfl); (case ho => exact rfl); (case hx => exact rfl); intro w4 g4 H' _ _; replace H := H'; clear H'; go_simp)
    | ((fail_if_success have := g5); (with_reducible apply own_box H); (case hgd => exact rfl); (case ho => exact rfl); (case hx => exact rfl); intro w5 g5 H' _ _; replace H := H'; clear H'; go_simp)
    | ((fail_if_success have := g6); (with_reducible apply own_alloc nil7 H); (case hgd => exact rfl); (case ho => exact rfl); intro w6 g6 H' _ _; replace H := H'; clear H'; go_simp))
  rw [LZ_zero] at H
  go_loopw [8] (fun v8 wr => ∃ i : Nat, i ≤ 7 ∧ v8 = .int .i64 i ∧ Ow w wr [(g6, WB 25 7 (mix i (wd z) fun _ => 0)), (g5, WB 25 7 (wd y)), (g4, WB 25 7 (wd x))]) (fun v8 _ => 7 - (intOf v8).toNat)
  case atStart => exact ⟨0, by omega, rfl, by rw [mix_zero]; exact H.out⟩
  case round =>
    clear H
    obtain ⟨i, hi, rfl, HR⟩ := hrel
    have H := Lib.hid HR
    clear HR
    by_cases hlt : i < 7
    · have hid : decide ((i : Int) < 7) = true := by simp; omega
      have i7 : (i : Int) < 7 := by omega
      go_wp2_with fail
      refine wp_region_noPanic ?_
      refine wp_region_held_drew (S := fun W => W.heap[g4]? = some (WB 25 7 (wd x)) ∧ W.heap[g5]? = some (WB 25 7 (wd y))) (by kernel_rfl) (⟨H.out.drew.row 2 rfl, H.out.drew.row 1 rfl⟩) (fun hH => ?_)
      replace H := Lib.hid H.out.drew
      generalize World.drew _ = w8 at *
      refine held_value 0 11 (.int .i64 i) rfl rfl (by kernel_rfl) (by kernel_rfl) (by kernel_rfl) rfl hH (fun w hw => by go_simp) ?_
      try simp only [Act.put, List.setIfInBounds_toArray, List.set_cons_zero, List.set_cons_succ]
      refine held_value 1 12 (.int .i64 i) rfl rfl (by kernel_rfl) (by kernel_rfl) (by kernel_rfl) rfl hH (fun w hw => by go_simp) ?_
      try simp only [Act.put, List.setIfInBounds_toArray, List.set_cons_zero, List.set_cons_succ]
      refine held_value 2 13 (.pointer (some ⟨g4, i, none⟩)) rfl rfl (by kernel_rfl) (by kernel_rfl) (by kernel_rfl) rfl hH (fun w hw => by go_simp) ?_
      try simp only [Act.put, List.setIfInBounds_toArray, List.set_cons_zero, List.set_cons_succ]
      refine held_word 3 14 oneU rfl rfl (by kernel_rfl) (by kernel_rfl) (by kernel_rfl) rfl hH rfl rfl (fun _ h => h.1) hlt ?_
      try simp only [Act.put, List.setIfInBounds_toArray, List.set_cons_zero, List.set_cons_succ]
      refine held_value 4 15 (V m) rfl rfl (by kernel_rfl) (by kernel_rfl) (by kernel_rfl) rfl hH (fun w hw => by go_simp) ?_
      try simp only [Act.put, List.setIfInBounds_toArray, List.set_cons_zero, List.set_cons_succ]
      refine held_value 5 16 (.int .i64 i) rfl rfl (by kernel_rfl) (by kernel_rfl) (by kernel_rfl) rfl hH (fun w hw => by go_simp) ?_
      try simp only [Act.put, List.setIfInBounds_toArray, List.set_cons_zero, List.set_cons_succ]
      refine held_value 6 17 (.pointer (some ⟨g4, i, none⟩)) rfl rfl (by kernel_rfl) (by kernel_rfl) (by kernel_rfl) rfl hH (fun w hw => by go_simp) ?_
      try simp only [Act.put, List.setIfInBounds_toArray, List.set_cons_zero, List.set_cons_succ]
      refine held_word 7 18 oneU rfl rfl (by kernel_rfl) (by kernel_rfl) (by kernel_rfl) rfl hH rfl rfl (fun _ h => h.1) hlt ?_
      try simp only [Act.put, List.setIfInBounds_toArray, List.set_cons_zero, List.set_cons_succ]
      refine held_value 8 19 (.int .i64 i) rfl rfl (by kernel_rfl) (by kernel_rfl) (by kernel_rfl) rfl hH (fun w hw => by go_simp) ?_
      try simp only [Act.put, List.setIfInBounds_toArray, List.set_cons_zero, List.set_cons_succ]
      refine held_value 9 20 (.pointer (some ⟨g5, i, none⟩)) rfl rfl (by kernel_rfl) (by kernel_rfl) (by kernel_rfl) rfl hH (fun w hw => by go_simp) ?_
      try simp only [Act.put, List.setIfInBounds_toArray, List.set_cons_zero, List.set_cons_succ]
      refine held_word 10 21 oneU rfl rfl (by kernel_rfl) (by kernel_rfl) (by kernel_rfl) rfl hH rfl rfl (fun _ h => h.2) hlt ?_
      try simp only [Act.put, List.setIfInBounds_toArray, List.set_cons_zero, List.set_cons_succ]
      refine held_value 11 22 (V (wd x i ^^^ wd y i)) rfl rfl (by kernel_rfl) (by kernel_rfl) (by kernel_rfl) rfl hH (fun w hw => by go_simp) ?_
      try simp only [Act.put, List.setIfInBounds_toArray, List.set_cons_zero, List.set_cons_succ]
      refine held_value 12 23 (V (m &&& (wd x i ^^^ wd y i))) rfl rfl (by kernel_rfl) (by kernel_rfl) (by kernel_rfl) rfl hH (fun w hw => by go_simp) ?_
      try simp only [Act.put, List.setIfInBounds_toArray, List.set_cons_zero, List.set_cons_succ]
      refine held_value 13 24 (V (wd x i ^^^ (m &&& (wd x i ^^^ wd y i)))) rfl rfl (by kernel_rfl) (by kernel_rfl) (by kernel_rfl) rfl hH (fun w hw => by go_simp) ?_
      try simp only [Act.put, List.setIfInBounds_toArray, List.set_cons_zero, List.set_cons_succ]
      refine held_value 14 25 (.pointer (some ⟨g6, i, none⟩)) rfl rfl (by kernel_rfl) (by kernel_rfl) (by kernel_rfl) rfl hH (fun w hw => by go_simp) ?_
      try simp only [Act.put, List.setIfInBounds_toArray, List.set_cons_zero, List.set_cons_succ]
      refine wpAnyH_ready (rs := [15]) (by kernel_rfl) (by simp) ?_
      refine AllReadyH.cons (o := _) rfl (fun K hK => ?_) AllReadyH.nil
      refine own_wp_word 0 oneU H.out rfl rfl rfl rfl hlt ?_
      intro ws HS
      simp only [List.set_cons_zero] at HS
      replace H := Lib.hid HS
      refine hK.out _ _ (⟨H.out.row 2 rfl, H.out.row 1 rfl⟩) (fun hN => ?_)
      clear hK K hH HS
      have hH := hN
      clear hN
      try simp only [Act.put, List.setIfInBounds_toArray]
      try simp only [Act.put]
      refine wpAnyH_done (by kernel_rfl) ?_ _
      refine NoPanic.normal ?_
      clear hH
      go_wp2_with fail
      go_roundw
      case rel => exact ⟨i + 1, by omega, by go_num, by rw [← mix_upd, ← HM.out i hlt]; exact H.out⟩
      case measure => simp [intOf]; omega
    · obtain rfl : i = 7 := by omega
      clear hlt hi
      rw [show ((7 : Nat) : Int) = 7 from rfl]
      replace H := Lib.hid (H.out.like 0 (g := LZ (wd z)) rfl fun k hk => by show L (mix 7 _ _ k) = _; rw [mix_all _ _ _ k hk])
      simp only [List.set_cons_zero] at H
      go_wp2_with (first
        | ((with_reducible apply own_load row7 H); (case hgd => exact rfl); (case ho => exact rfl); (case hx => exact rfl); (case hi => first | exact at0 | exact at1 | exact at2 | exact at3 | exact at4 | exact at5 | exact at6 | exact at7 | exact at8 | exact at9); intro _ _; go_simp)
        | ((with_reducible apply own_store row7 H); (case hgd => exact rfl); (case ho => exact rfl); (case hx => exact rfl); (case hy => exact rfl); (case hi => first | exact at0 | exact at1 | exact at2 | exact at3 | exact at4 | exact at5 | exact at6 | exact at7 | exact at8 | exact at9); intro ws H' _ _; replace H := H'; clear H'; simp only [List.set_cons_zero] at H; go_simp))
      exact bodyPost_ret (own_result 0 row7 rfl _ H rfl rfl) rfl ⟨rfl, H.out.bel⟩
theorem pick_0 (x y : Nat) (w : World) :
    Calls Tryd.prog 56 #[.int .u64 0, W7 x, W7 y] w fun e w' => e = .returned (W7 x) ∧ Below w.heap.size w w' :=
  pick_v 0 x y x w fun i _ => by simp
theorem pick_1 (x y : Nat) (w : World) :
    Calls Tryd.prog 56 #[.int .u64 18446744073709551615, W7 x, W7 y] w fun e w' => e = .returned (W7 y) ∧ Below w.heap.size w w' :=
  pick_v 18446744073709551615 x y y w fun i _ => by
    rw [show (18446744073709551615 : BitVec 64) = BitVec.allOnes 64 from rfl, BitVec.allOnes_and, ← BitVec.xor_assoc, BitVec.xor_self, BitVec.zero_xor]
end Go.Proofs.YtocjncflgbnglaaDoor

/-
  Literals of scalars, copies of words; the contracts of scalar.first, below, beyond, least. No statement is proved here: lemmas for the walks.
-/
namespace Go.Proofs.YtocjncflgbnglaaDoor
open Go.RowKit

theorem built_S (f : Nat → Int) (w : World) : (Instr.build 27 #[(0, .agg (AZ .u64 7 f))]).run Tryd.prog w = .ok (.agg (AZ .u64 7 f)) w := by
  rw [AZ_7]
  go_simp
theorem W7_0 : W7 0 = .agg (AZ .u64 7 fun _ => 0) := congrArg (fun f => Value.agg (AZ .u64 7 f)) LZ_wd0
theorem built_S0 (w : World) : (Instr.build 27 #[]).run Tryd.prog w = .ok (W7 0) w := by
  rw [W7_0, AZ_7]
  go_simp
theorem built_70 (w : World) : (Instr.build 25 #[]).run Tryd.prog w = .ok (W7 0) w := by
  rw [W7_0, AZ_7]
  go_simp
theorem LZ_one (x : Nat) (hx : x < 18446744073709551616) : LZ (wd x) = updZ (fun _ => 0) 0 (x : Int) := by
  funext i
  unfold updZ
  by_cases h : i = 0
  · subst h
    rw [if_pos rfl]
    show ((wd x 0).toNat : Int) = _
    rw [wd_nat, Nat.mul_zero, Nat.pow_zero, Nat.div_one, Nat.mod_eq_of_lt hx]
  · rw [if_neg h]
    show L (wd x i) = 0
    rw [wd_over (n := 1) (by omega) (by omega)]
    rfl
theorem built_71 (x : Nat) (hx : x < 18446744073709551616) (w : World) : (Instr.build 25 #[(0, .int .u64 (x : Int))]).run Tryd.prog w = .ok (W7 x) w := by
  rw [show W7 x = .agg (AZ .u64 7 (updZ (fun _ => 0) 0 (x : Int))) from congrArg (fun f => Value.agg (AZ .u64 7 f)) (LZ_one x hx), AZ_7]
  go_simp
  simp [updZ]
section
variable {ops : Array Oper} {rest : List Oper} {o : Oper} {a : Act} {w : World} {Q : Exit → Act → World → Prop}
theorem lay_build_S (hgd : o.guard = none) {x : Operand} (ho : o.op = .build 27 #[(0, x)]) {f : Nat → Int} (hx : a.eval x = .agg (AZ .u64 7 f))
    (k : ∀ K : Act → World → Prop, (∀ a w, wpList Tryd.prog ops Q rest a w → K a w) → K (a.put o.dst (.agg (AZ .u64 7 f))) w) : wpList Tryd.prog ops Q (o :: rest) a w :=
  wpList_plain hgd fun K hK => by
    unfold Oper.wp execOp
    simp only [ho, List.map_toArray, List.map_cons, List.map_nil, hx, Sem.run_bind, built_S, Result.andThen_ok]
    exact k K hK
theorem lay_build_S0 (hgd : o.guard = none) (ho : o.op = .build 27 #[])
    (k : ∀ K : Act → World → Prop, (∀ a w, wpList Tryd.prog ops Q rest a w → K a w) → K (a.put o.dst (W7 0)) w) : wpList Tryd.prog ops Q (o :: rest) a w :=
  wpList_plain hgd fun K hK => by
    unfold Oper.wp execOp
    simp only [ho, Array.map_empty, Sem.run_bind, built_S0, Result.andThen_ok]
    exact k K hK
theorem lay_build_71 (hgd : o.guard = none) {x : Operand} (ho : o.op = .build 25 #[(0, x)]) {n : Nat} (hn : n < 18446744073709551616) (hx : a.eval x = .int .u64 (n : Int))
    (k : ∀ K : Act → World → Prop, (∀ a w, wpList Tryd.prog ops Q rest a w → K a w) → K (a.put o.dst (W7 n)) w) : wpList Tryd.prog ops Q (o :: rest) a w :=
  wpList_plain hgd fun K hK => by
    unfold Oper.wp execOp
    simp only [ho, List.map_toArray, List.map_cons, List.map_nil, hx, Sem.run_bind, built_71 n hn, Result.andThen_ok]
    exact k K hK
end
theorem W7_congr {x y : Nat} (h : ∀ i, i < 7 → wd x i = wd y i) : W7 x = W7 y := congrArg Value.agg (AZ_congr fun i hi => congrArg L (h i hi))
theorem layZ_mix (m : Nat) (f f0 : Nat → BitVec 64) : layZ (LZ f0) 0 m (LZ f) = LZ (mix m f f0) := by
  funext j
  unfold layZ mix
  by_cases h : j < m
  · rw [if_pos (by omega), Nat.sub_zero]; show L (f j) = L (if j < m then f j else f0 j); rw [if_pos h]
  · rw [if_neg (by omega)]; show L (f0 j) = L (if j < m then f j else f0 j); rw [if_neg h]
section
variable {o : Oper} {a : Act} {w w0 : World} {l : List (Nat × Obj)} {K : Act → World → Prop} {Q : Exit → Act → World → Prop} {t : TypeId} {M : Nat}
/-- Words are copied into a row of the call's own. -/
theorem own_wp_copy (i : Nat) {m : Nat} {f : Nat → BitVec 64} (H : Ow w0 w l) {d s : Operand} {sT : TypeId} (ho : o.op = .call { callee := .builtin .copy, args := #[d, s], argTypes := #[69, sT] }) {g cd : Nat}
    (hd : a.eval d = .slice (some ⟨g, 0, none⟩) M cd) {f0 : Nat → BitVec 64} (hi : l[i]? = some (g, WB t M f0)) {b off k cs : Nat} (hs : a.eval s = .slice (some ⟨b, off, none⟩) k cs) (hm : m = min k M) (hM : m ≤ M)
    (hsrc : ∀ j, j < m → w.cell? ⟨b, off + j, none⟩ = some (V (f j))) (h : ∀ w', Ow w0 w' (l.set i (g, WB t M (mix m f f0))) → K (a.put o.dst (.int .i64 (m : Int))) w') : o.wp Tryd.prog a w K Q := by
  have hl : (AZ .u64 m (LZ f)).toList.length = m := by rw [Array.length_toList, AZ_size]
  have hrow : w.heap[g]? = some (.cells (AZ .u64 M (LZ f0)) t) := H.row i hi
  have hrun := run_copy_row (P := Tryd.prog) w 69 sT o.type 24 g 0 M cd ⟨b, off, none⟩ k cs (AZ .u64 M (LZ f0)) t (AZ .u64 m (LZ f)).toList Tryd.underlying69 oneU.size hrow
    (by rw [hl]; exact hm) (fun j v hv => by
      have hj : j < m := by
        rcases Nat.lt_or_ge j m with h' | h'
        · exact h'
        · rw [List.getElem?_eq_none (by rw [hl]; exact h')] at hv; cases hv
      rw [Array.getElem?_toList, AZ_get _ _ _ _ hj] at hv
      obtain rfl := Option.some.inj hv
      rw [Addr.add_mid]
      exact hsrc j hj) (by rw [hl, AZ_size]; omega) cells_one
  rw [hl, AZ_mid _ _ _ _ _ _ (by omega), layZ_mix] at hrun
  unfold Oper.wp
  simp [execOp, ho, resolve, invoke, builtin, hd, hs, hrun, Result.andThen]
  exact h _ (H.setRow i hi _)
end
section
variable {ops : Array Oper} {rest : List Oper} {o : Oper} {a : Act} {w w0 : World} {l : List (Nat × Obj)} {Q : Exit → Act → World → Prop} {t : TypeId} {M : Nat}
theorem own_copy {i m : Nat} {f : Nat → BitVec 64} (H : Hid (Ow w0 w l)) (hgd : o.guard = none) {d s : Operand} {sT : TypeId} (ho : o.op = .call { callee := .builtin .copy, args := #[d, s], argTypes := #[69, sT] }) {g cd : Nat}
    (hd : a.eval d = .slice (some ⟨g, 0, none⟩) M cd) {f0 : Nat → BitVec 64} (hi : l[i]? = some (g, WB t M f0)) {b off k cs : Nat} (hs : a.eval s = .slice (some ⟨b, off, none⟩) k cs) (hm : m = min k M) (hM : m ≤ M)
    (hsrc : ∀ j, j < m → w.cell? ⟨b, off + j, none⟩ = some (V (f j))) (h : ∀ w', Hid (Ow w0 w' (l.set i (g, WB t M (mix m f f0)))) → ∀ K : Act → World → Prop, (∀ a w, wpList Tryd.prog ops Q rest a w → K a w) → K (a.put o.dst (.int .i64 (m : Int))) w') : wpList Tryd.prog ops Q (o :: rest) a w :=
  wpList_plain hgd fun K hK => own_wp_copy i H.out ho hd hi hs hm hM hsrc fun w' H' => h w' (Lib.hid H') K hK
end
section
variable {ops : Array Oper} {rest : List Oper} {o : Oper} {a : Act} {w : World} {Q : Exit → Act → World → Prop} {t : TypeId} {kk : IntKind} {n : Nat}
theorem own_indexw {f : Nat → BitVec 64} (hu : Tryd.prog.underlying t = some (.array n 24)) (hgd : o.guard = none) {x y : Operand} (ho : o.op = .index t x y) (hx : a.eval x = .agg (AZ .u64 n (LZ f))) {i : Nat} (hy : a.eval y = .int kk (i : Int)) (hi : i < n)
    (h : ∀ K : Act → World → Prop, (∀ a w, wpList Tryd.prog ops Q rest a w → K a w) → K (a.put o.dst (V (f i))) w) : wpList Tryd.prog ops Q (o :: rest) a w :=
  own_index hu oneU hgd ho hx hy hi h
end
section
variable {md : Region.Mode} {ops : Array Oper} {Q : Exit → Act → World → Prop} {S : World → Prop} {fuel : Nat} {listed : Array Bool} {a : Act} {w : World}
/-- In a region that draws its order: L is read. -/
theorem held_ord (i : Nat) (d : Tmp) {oi : Oper} (hi : ops[i]? = some oi) (hd : oi.dst = some d) (hs : Region.noSelect ops = true) (hf : Region.free md ops listed i = true)
    (hr : (Region.ready md ops listed).contains i = true) (hw : Region.wanted oi (yielded ops a.tmps) = true) (hS : S w) {x : Operand} (ho : oi.op = .load 25 x) (hx : a.eval x = .pointer (some ⟨0, 0, none⟩))
    {r : Bool} (hT : ∀ w, S w → Tl r w) (h : wpAnyH Tryd.prog md ops (NoPanic Q) S fuel (listed.setIfInBounds i true) (a.put (some d) (W7 lN)) w) : wpAnyH Tryd.prog md ops (NoPanic Q) S (fuel + 1) listed a w :=
  held_value i d (W7 lN) hi hd hs hf hr hw hS (fun w hw' => by
    unfold execOp
    simp only [ho, hx, Sem.run_bind, (hT w hw').load_ord, Result.andThen_ok]
    rfl) h
/-- Literals, made in any world. -/
theorem exec_70 {e : Operand → Value} {o : Oper} (ho : o.op = .build 25 #[]) (w : World) : (execOp e o).run Tryd.prog w = .ok (.value (W7 0)) w := by
  unfold execOp
  simp only [ho, Array.map_empty, Sem.run_bind, built_70, Result.andThen_ok]
  rfl
theorem exec_S {e : Operand → Value} {o : Oper} {x : Operand} (ho : o.op = .build 27 #[(0, x)]) {f : Nat → Int} (hx : e x = .agg (AZ .u64 7 f)) (w : World) : (execOp e o).run Tryd.prog w = .ok (.value (.agg (AZ .u64 7 f))) w := by
  unfold execOp
  simp only [ho, List.map_toArray, List.map_cons, List.map_nil, hx, Sem.run_bind, built_S, Result.andThen_ok]
  rfl
end
set_option maxRecDepth 8000 in
set_option maxHeartbeats 3200000 in
theorem first_v (x : Nat) (w : World) :
    Calls Tryd.prog 44 #[W17 x] w fun e w' => e = .returned (W7 x) ∧ Below w.heap.size w w' := by
  have H := Lib.hid (Ow.start w)
  go_enter Tryd.func44, Tryd.ntmps44
  go_wp2_with (first
    | ((fail_if_success have := g1); (with_reducible apply own_box H); (case hgd => exact rfl); (case ho => exact rfl); (case hx => exact rfl); intro w1 g1 H' _ _; replace H := H'; clear H'; go_simp)
    | ((fail_if_success have := g2); (with_reducible apply own_alloc nil7 H); (case hgd => exact rfl); (case ho => exact rfl); intro w2 g2 H' _ _; replace H := H'; clear H'; go_simp))
  rw [LZ_zero] at H
  refine wp_region_still_tail 2 (by kernel_rfl) (by kernel_rfl) ?_
  replace H := Lib.hid H.out.drew
  change wpStill _ _ (World.drew _) (fun a' => wpList _ _ _ _ a' (World.drew _)) _ _
  generalize World.drew _ = w8 at *
  simp only [List.take_succ_cons, List.take_zero, List.drop_succ_cons, List.drop_zero]
  iterate 2 still_step
  refine wpStill_nil ?_
  go_wp2_with (first
    | ((with_reducible apply own_copy (m := 7) (f := wd x) H); (case hgd => exact rfl); (case ho => exact rfl); (case hd => exact rfl); (case hi => first | exact at0 | exact at1 | exact at2 | exact at3 | exact at4 | exact at5 | exact at6 | exact at7 | exact at8 | exact at9); (case hs => exact rfl); (case hm => decide); (case hM => decide); (case hsrc => intro j hj; rw [Nat.zero_add]; exact H.out.cell 1 rfl j (by omega)); intro ws H' _ _; replace H := H'; clear H'; simp only [List.set_cons_zero] at H; go_simp)
    | ((with_reducible apply own_load row7 H); (case hgd => exact rfl); (case ho => exact rfl); (case hx => exact rfl); (case hi => first | exact at0 | exact at1 | exact at2 | exact at3 | exact at4 | exact at5 | exact at6 | exact at7 | exact at8 | exact at9); intro _ _; go_simp)
    | ((with_reducible apply own_store row7 H); (case hgd => exact rfl); (case ho => exact rfl); (case hx => exact rfl); (case hy => exact rfl); (case hi => first | exact at0 | exact at1 | exact at2 | exact at3 | exact at4 | exact at5 | exact at6 | exact at7 | exact at8 | exact at9); intro ws H' _ _; replace H := H'; clear H'; simp only [List.set_cons_zero] at H; go_simp))
  replace H := Lib.hid (H.out.like 0 (g := LZ (wd x)) rfl fun k hk => by show L (mix 7 _ _ k) = _; rw [mix_all _ _ _ k hk])
  simp only [List.set_cons_zero] at H
  exact bodyPost_ret (own_result 0 row7 rfl _ H rfl rfl) rfl ⟨rfl, H.out.bel⟩
theorem wd_mod (x e i : Nat) (h : 64 * i + 64 ≤ e) : wd (x % 2 ^ e) i = wd x i := by
  apply BitVec.eq_of_getLsbD_eq
  intro j hj
  rw [wd_bit, wd_bit, Nat.testBit_mod_two_pow]
  have h1 : 64 * i + j < e := by omega
  simp [h1]
theorem wd_mod_over (x e i : Nat) (h : e ≤ 64 * i) : wd (x % 2 ^ e) i = 0 := by
  apply BitVec.eq_of_getLsbD_eq
  intro j hj
  rw [wd_bit, Nat.testBit_mod_two_pow]
  have h1 : ¬ 64 * i + j < e := by omega
  simp [h1]
theorem wd_mod_top (x e i : Nat) (h : e = 64 * i + 62) : wd (x % 2 ^ e) i = wd x i &&& 4611686018427387903 := by
  apply BitVec.eq_of_getLsbD_eq
  intro j hj
  rw [wd_bit, Nat.testBit_mod_two_pow, BitVec.getLsbD_and, wd_bit]
  have e1 : (4611686018427387903 : BitVec 64).getLsbD j = decide (j < 62) := by
    show (4611686018427387903 : BitVec 64).getLsbD j = _
    rw [show (4611686018427387903 : BitVec 64) = BitVec.ofNat 64 (2 ^ 62 - 1) from rfl, BitVec.getLsbD_ofNat, Nat.testBit_two_pow_sub_one]
    simp [hj]
  rw [e1]
  by_cases h1 : j < 62
  · have h2 : 64 * i + j < e := by omega
    simp [hj, h1, h2]
  · have h2 : ¬ 64 * i + j < e := by omega
    simp [h1, h2]
theorem low_words (x : Nat) (i : Nat) : upd (mix 7 (wd x) fun _ => 0) 6 (mix 7 (wd x) (fun _ => 0) 6 &&& 4611686018427387903) i = wd (x % qN) i := by
  rw [mix_all 7 _ _ 6 (by omega)]
  obtain ⟨e, he⟩ : ∃ e, e = 446 := ⟨_, rfl⟩
  rw [← qN_pow e he]
  unfold upd mix
  by_cases h6 : i = 6
  · subst h6
    rw [if_pos rfl, wd_mod_top x e 6 (by omega)]
  · rw [if_neg h6]
    by_cases h7 : i < 7
    · rw [if_pos h7, wd_mod x e i (by omega)]
    · rw [if_neg h7, wd_mod_over x e i (by omega)]
@[go_sem] theorem and62_bv (a : BitVec 64) : bits .and .u64 (L a) 4611686018427387903 = L (a &&& 4611686018427387903) := and_bv a 4611686018427387903
set_option maxRecDepth 8000 in
set_option maxHeartbeats 3200000 in
theorem below_v (x : Nat) (w : World) :
    Calls Tryd.prog 68 #[W17 x] w fun e w' => e = .returned (W17 (x % qN)) ∧ Below w.heap.size w w' := by
  have HL := Lib.hid (low_words x)
  have H := Lib.hid (Ow.start w)
  go_enter Tryd.func68, Tryd.ntmps68
  go_wp2_with (first
    | ((fail_if_success have := g1); (with_reducible apply own_box H); (case hgd => exact rfl); (case ho => exact rfl); (case hx => exact rfl); intro w1 g1 H' _ _; replace H := H'; clear H'; go_simp)
    | ((fail_if_success have := g2); (with_reducible apply own_alloc nil17 H); (case hgd => exact rfl); (case ho => exact rfl); intro w2 g2 H' _ _; replace H := H'; clear H'; go_simp))
  rw [LZ_zero] at H
  refine wp_region_still_tail 2 (by kernel_rfl) (by kernel_rfl) ?_
  replace H := Lib.hid H.out.drew
  change wpStill _ _ (World.drew _) (fun a' => wpList _ _ _ _ a' (World.drew _)) _ _
  generalize World.drew _ = w8 at *
  simp only [List.take_succ_cons, List.take_zero, List.drop_succ_cons, List.drop_zero]
  iterate 2 still_step
  refine wpStill_nil ?_
  go_wp2_with (first
    | ((with_reducible apply own_copy (m := 7) (f := wd x) H); (case hgd => exact rfl); (case ho => exact rfl); (case hd => exact rfl); (case hi => first | exact at0 | exact at1 | exact at2 | exact at3 | exact at4 | exact at5 | exact at6 | exact at7 | exact at8 | exact at9); (case hs => exact rfl); (case hm => decide); (case hM => decide); (case hsrc => intro j hj; rw [Nat.zero_add]; exact H.out.cell 1 rfl j (by omega)); intro ws H' _ _; replace H := H'; clear H'; simp only [List.set_cons_zero] at H; go_simp)
    | ((with_reducible apply own_word oneU H); (case hgd => exact rfl); (case ho => exact rfl); (case hx => exact rfl); (case hi => first | exact at0 | exact at1 | exact at2 | exact at3 | exact at4 | exact at5 | exact at6 | exact at7 | exact at8 | exact at9); (case hj => omega); intro _ _; go_simp)
    | ((with_reducible apply own_putw oneU H); (case hgd => exact rfl); (case ho => exact rfl); (case hx => exact rfl); (case hy => exact rfl); (case hi => first | exact at0 | exact at1 | exact at2 | exact at3 | exact at4 | exact at5 | exact at6 | exact at7 | exact at8 | exact at9); (case hj => omega); intro ws H' _ _; replace H := H'; clear H'; simp only [List.set_cons_zero] at H; go_simp)
    | ((with_reducible apply own_load row17 H); (case hgd => exact rfl); (case ho => exact rfl); (case hx => exact rfl); (case hi => first | exact at0 | exact at1 | exact at2 | exact at3 | exact at4 | exact at5 | exact at6 | exact at7 | exact at8 | exact at9); intro _ _; go_simp)
    | ((with_reducible apply own_store row17 H); (case hgd => exact rfl); (case ho => exact rfl); (case hx => exact rfl); (case hy => exact rfl); (case hi => first | exact at0 | exact at1 | exact at2 | exact at3 | exact at4 | exact at5 | exact at6 | exact at7 | exact at8 | exact at9); intro ws H' _ _; replace H := H'; clear H'; simp only [List.set_cons_zero] at H; go_simp))
  replace H := Lib.hid (H.out.like 0 (g := LZ (wd (x % qN))) rfl fun k _ => congrArg L (HL.out k))
  simp only [List.set_cons_zero] at H
  exact bodyPost_ret (own_result 0 row17 rfl _ H rfl rfl) rfl ⟨rfl, H.out.bel⟩
theorem high_words (x i : Nat) : shr (wd x (i + 6)) 62 ||| shl (wd x (i + 7)) 2 = wd (x / qN) i := by
  obtain ⟨e, he⟩ : ∃ e, e = 446 := ⟨_, rfl⟩
  have h := wd_down x e i
  rw [show e / 64 = 6 by omega, show e % 64 = 62 by omega] at h
  rw [← qN_pow e he, h]
set_option maxRecDepth 8000 in
set_option maxHeartbeats 3200000 in
theorem beyond_v (x : Nat) (w : World) :
    Calls Tryd.prog 67 #[W17 x] w fun e w' => e = .returned (.agg (AZ .u64 10 (LZ (wd (x / qN))))) ∧ Below w.heap.size w w' := by
  have HL := Lib.hid (high_words x)
  have H := Lib.hid (Ow.start w)
  go_enter Tryd.func67, Tryd.ntmps67
  go_wp2_with (first
    | ((fail_if_success have := g1); (with_reducible apply own_box H); (case hgd => exact rfl); (case ho => exact rfl); (case hx => exact rfl); intro w1 g1 H' _ _; replace H := H'; clear H'; go_simp)
    | ((fail_if_success have := g2); (with_reducible apply own_alloc nil10 H); (case hgd => exact rfl); (case ho => exact rfl); intro w2 g2 H' _ _; replace H := H'; clear H'; go_simp))
  rw [LZ_zero] at H
  go_loopw [4] (fun v4 wr => ∃ i : Nat, i ≤ 10 ∧ v4 = .int .i64 i ∧ Ow w wr [(g2, WB 89 10 (mix i (wd (x / qN)) fun _ => 0)), (g1, WB 62 17 (wd x))]) (fun v4 _ => 10 - (intOf v4).toNat)
  case atStart => exact ⟨0, by omega, rfl, by rw [mix_zero]; exact H.out⟩
  case round =>
    clear H
    obtain ⟨i, hi, rfl, HR⟩ := hrel
    have H := Lib.hid HR
    clear HR
    by_cases hlt : i < 10
    · have hid : decide ((i : Int) < 10) = true := by simp; omega
      have i10 : (i : Int) < 10 := by omega
      have f1 : IntKind.i64.wrap ((i : Int) + 7) = ((i + 7 : Nat) : Int) := (IntWalk.i64_in _ (by omega)).trans (by omega)
      have f2 : IntKind.i64.wrap (((i + 7 : Nat) : Int) - 1) = ((i + 6 : Nat) : Int) := (IntWalk.i64_in _ (by omega)).trans (by omega)
      obtain ⟨p, hp⟩ : ∃ p, i + 7 = p := ⟨_, rfl⟩
      obtain ⟨q, hq⟩ : ∃ q, i + 6 = q := ⟨_, rfl⟩
      have HP := Lib.hid hp
      have HQ := Lib.hid hq
      rw [hp] at f1 f2
      rw [hq] at f2
      have p17 : (p : Int) < 17 := by omega
      have q17 : (q : Int) < 17 := by omega
      have p17' : p < 17 := by omega
      have q17' : q < 17 := by omega
      clear hp hq
      go_wp2_with fail
      refine wp_region_noPanic ?_
      refine wp_region_held_drew (S := fun W => W.heap[g1]? = some (WB 62 17 (wd x))) (by kernel_rfl) (H.out.drew.row 1 rfl) (fun hH => ?_)
      replace H := Lib.hid H.out.drew
      generalize World.drew _ = w8 at *
      refine held_value 0 7 (.int .i64 i) rfl rfl (by kernel_rfl) (by kernel_rfl) (by kernel_rfl) rfl hH (fun w hw => by go_simp) ?_
      try simp only [Act.put, List.setIfInBounds_toArray, List.set_cons_zero, List.set_cons_succ]
      refine held_value 1 8 (.int .i64 i) rfl rfl (by kernel_rfl) (by kernel_rfl) (by kernel_rfl) rfl hH (fun w hw => by go_simp) ?_
      try simp only [Act.put, List.setIfInBounds_toArray, List.set_cons_zero, List.set_cons_succ]
      refine held_value 2 9 (.int .i64 p) rfl rfl (by kernel_rfl) (by kernel_rfl) (by kernel_rfl) rfl hH (fun w hw => by go_simp) ?_
      try simp only [Act.put, List.setIfInBounds_toArray, List.set_cons_zero, List.set_cons_succ]
      refine held_value 3 10 (.int .i64 q) rfl rfl (by kernel_rfl) (by kernel_rfl) (by kernel_rfl) rfl hH (fun w hw => by go_simp) ?_
      try simp only [Act.put, List.setIfInBounds_toArray, List.set_cons_zero, List.set_cons_succ]
      refine held_value 4 11 (.pointer (some ⟨g1, q, none⟩)) rfl rfl (by kernel_rfl) (by kernel_rfl) (by kernel_rfl) rfl hH (fun w hw => by go_simp) ?_
      try simp only [Act.put, List.setIfInBounds_toArray, List.set_cons_zero, List.set_cons_succ]
      refine held_word 5 12 oneU rfl rfl (by kernel_rfl) (by kernel_rfl) (by kernel_rfl) rfl hH rfl rfl (fun _ h => h) q17' ?_
      try simp only [Act.put, List.setIfInBounds_toArray, List.set_cons_zero, List.set_cons_succ]
      refine held_value 6 13 (V (shr (wd x q) 62)) rfl rfl (by kernel_rfl) (by kernel_rfl) (by kernel_rfl) rfl hH (fun w hw => by (go_simp; exact u64_shr _ 62)) ?_
      try simp only [Act.put, List.setIfInBounds_toArray, List.set_cons_zero, List.set_cons_succ]
      refine held_value 7 14 (.int .i64 i) rfl rfl (by kernel_rfl) (by kernel_rfl) (by kernel_rfl) rfl hH (fun w hw => by go_simp) ?_
      try simp only [Act.put, List.setIfInBounds_toArray, List.set_cons_zero, List.set_cons_succ]
      refine held_value 8 15 (.int .i64 p) rfl rfl (by kernel_rfl) (by kernel_rfl) (by kernel_rfl) rfl hH (fun w hw => by go_simp) ?_
      try simp only [Act.put, List.setIfInBounds_toArray, List.set_cons_zero, List.set_cons_succ]
      refine held_value 9 16 (.pointer (some ⟨g1, p, none⟩)) rfl rfl (by kernel_rfl) (by kernel_rfl) (by kernel_rfl) rfl hH (fun w hw => by go_simp) ?_
      try simp only [Act.put, List.setIfInBounds_toArray, List.set_cons_zero, List.set_cons_succ]
      refine held_word 10 17 oneU rfl rfl (by kernel_rfl) (by kernel_rfl) (by kernel_rfl) rfl hH rfl rfl (fun _ h => h) p17' ?_
      try simp only [Act.put, List.setIfInBounds_toArray, List.set_cons_zero, List.set_cons_succ]
      refine held_value 11 18 (V (shl (wd x p) 2)) rfl rfl (by kernel_rfl) (by kernel_rfl) (by kernel_rfl) rfl hH (fun w hw => by (go_simp; exact u64_shl _ 2)) ?_
      try simp only [Act.put, List.setIfInBounds_toArray, List.set_cons_zero, List.set_cons_succ]
      refine held_value 12 19 (V (shr (wd x q) 62 ||| shl (wd x p) 2)) rfl rfl (by kernel_rfl) (by kernel_rfl) (by kernel_rfl) rfl hH (fun w hw => by go_simp) ?_
      try simp only [Act.put, List.setIfInBounds_toArray, List.set_cons_zero, List.set_cons_succ]
      refine held_value 13 20 (.pointer (some ⟨g2, i, none⟩)) rfl rfl (by kernel_rfl) (by kernel_rfl) (by kernel_rfl) rfl hH (fun w hw => by go_simp) ?_
      try simp only [Act.put, List.setIfInBounds_toArray, List.set_cons_zero, List.set_cons_succ]
      refine wpAnyH_ready (rs := [14]) (by kernel_rfl) (by simp) ?_
      refine AllReadyH.cons (o := _) rfl (fun K hK => ?_) AllReadyH.nil
      refine own_wp_word 0 oneU H.out rfl rfl rfl rfl hlt ?_
      intro ws HS
      simp only [List.set_cons_zero] at HS
      replace H := Lib.hid HS
      refine hK.out _ _ (H.out.row 1 rfl) (fun hN => ?_)
      clear hK K hH HS
      have hH := hN
      clear hN
      try simp only [Act.put, List.setIfInBounds_toArray]
      try simp only [Act.put]
      refine wpAnyH_done (by kernel_rfl) ?_ _
      refine NoPanic.normal ?_
      clear hH
      clear f1 f2
      go_wp2_with fail
      go_roundw
      case rel => exact ⟨i + 1, by omega, by go_num, by rw [← mix_upd, ← HL.out, HP.out, HQ.out]; exact H.out⟩
      case measure => simp [intOf]; omega
    · obtain rfl : i = 10 := by omega
      clear hlt hi
      rw [show ((10 : Nat) : Int) = 10 from rfl]
      replace H := Lib.hid (H.out.like 0 (g := LZ (wd (x / qN))) rfl fun k hk => by show L (mix 10 _ _ k) = _; rw [mix_all _ _ _ k hk])
      simp only [List.set_cons_zero] at H
      go_wp2_with (first
        | ((with_reducible apply own_load row10 H); (case hgd => exact rfl); (case ho => exact rfl); (case hx => exact rfl); (case hi => first | exact at0 | exact at1 | exact at2 | exact at3 | exact at4 | exact at5 | exact at6 | exact at7 | exact at8 | exact at9); intro _ _; go_simp)
        | ((with_reducible apply own_store row10 H); (case hgd => exact rfl); (case ho => exact rfl); (case hx => exact rfl); (case hy => exact rfl); (case hi => first | exact at0 | exact at1 | exact at2 | exact at3 | exact at4 | exact at5 | exact at6 | exact at7 | exact at8 | exact at9); intro ws H' _ _; replace H := H'; clear H'; simp only [List.set_cons_zero] at H; go_simp))
      exact bodyPost_ret (own_result 0 row10 rfl _ H rfl rfl) rfl ⟨rfl, H.out.bel⟩
set_option maxRecDepth 8000 in
set_option maxHeartbeats 3200000 in
theorem least_v (x : Nat) (w : World) {r : Bool} (hT : Tl r w) (hx : x < 2 * lN) :
    Calls Tryd.prog 53 #[W7 x] w fun e w' => e = .returned (W7 (x % lN)) ∧ Below w.heap.size w w' := by
  have HT := Lib.hid hT
  have HX : Hid (x < tN) := Lib.hid (Nat.lt_trans hx two_lN_lt_t)
  clear hT
  by_cases hlt : x < lN
  · have HU : Hid (V (cy (und x lN)) = .int .u64 1) := Lib.hid (by unfold und; rw [if_pos hlt]; rfl)
    have HE : Hid (W7 x = W7 (x % lN)) := Lib.hid (by rw [Nat.mod_eq_of_lt hlt])
    have f1 : IntKind.u64.wrap (-1) = 18446744073709551615 := by rw [IntKind.wrap_u64]; rfl
    clear hx hlt
    have H := Lib.hid (Ow.start w)
    go_enter Tryd.func53, Tryd.ntmps53
    go_wp2_with (first
      | ((fail_if_success have := g1); (with_reducible apply own_box H); (case hgd => exact rfl); (case ho => exact rfl); (case hx => exact rfl); intro w1 g1 H' _ _; replace H := H'; clear H'; go_simp)
      | ((fail_if_success have := g2); (with_reducible apply own_alloc nilSc H); (case hgd => exact rfl); (case ho => exact rfl); intro w2 g2 H' _ _; replace H := H'; clear H'; go_simp)
      | ((with_reducible apply own_load row7 H); (case hgd => exact rfl); (case ho => exact rfl); (case hx => exact rfl); (case hi => first | exact at0 | exact at1 | exact at2 | exact at3 | exact at4 | exact at5 | exact at6 | exact at7 | exact at8 | exact at9); intro _ _; go_simp)
      | ((with_reducible apply lay_load_ord (Lib.hid (HT.out.below H.out.bel))); (case hgd => exact rfl); (case ho => exact rfl); (case hx => exact rfl); intro _ _; go_simp)
      | ((fail_if_success have := g3); (with_reducible apply own_alloc nil7 H); (case hgd => exact rfl); (case ho => exact rfl); intro w3 g3 H' _ _; replace H := H'; clear H'; go_simp)
      | ((with_reducible apply own_store row7 H); (case hgd => exact rfl); (case ho => exact rfl); (case hx => exact rfl); (case hy => exact rfl); (case hi => first | exact at0 | exact at1 | exact at2 | exact at3 | exact at4 | exact at5 | exact at6 | exact at7 | exact at8 | exact at9); intro ws H' _ _; replace H := H'; clear H'; simp only [List.set_cons_zero] at H; go_simp)
      | ((with_reducible refine (slessen_v x lN _ HX.out lN_lt_t).mono ?_); rintro e wc ⟨rfl, hb⟩; replace H := Lib.hid (H.out.call hb); clear hb; rw [HU.out])
      | ((with_reducible refine (pick_1 _ _ _).mono ?_); rintro e wc ⟨rfl, hb⟩; replace H := Lib.hid (H.out.call hb); clear hb)
      | ((with_reducible apply lay_build_S); (case hgd => exact rfl); (case ho => exact rfl); (case hx => exact rfl); intro _ _; go_simp)
      | ((with_reducible apply own_store rowSc H); (case hgd => exact rfl); (case ho => exact rfl); (case hx => exact rfl); (case hy => exact rfl); (case hi => first | exact at0 | exact at1 | exact at2 | exact at3 | exact at4 | exact at5 | exact at6 | exact at7 | exact at8 | exact at9); intro ws H' _ _; replace H := H'; clear H'; simp only [List.set_cons_zero, List.set_cons_succ] at H; go_simp))
    exact bodyPost_ret (own_result 1 rowSc rfl _ H rfl rfl) rfl ⟨congrArg Ending.returned HE.out, H.out.bel⟩
  · have HU : Hid (V (cy (und x lN)) = .int .u64 0) := Lib.hid (by unfold und; rw [if_neg hlt]; rfl)
    have HE : Hid (W7 (dif x lN) = W7 (x % lN)) := Lib.hid (W7_congr fun i hi => by rw [dif_ge (by omega) i hi, Nat.mod_eq_sub_mod (by omega), Nat.mod_eq_of_lt (by omega)])
    clear hx hlt
    have H := Lib.hid (Ow.start w)
    go_enter Tryd.func53, Tryd.ntmps53
    go_wp2_with (first
      | ((fail_if_success have := g1); (with_reducible apply own_box H); (case hgd => exact rfl); (case ho => exact rfl); (case hx => exact rfl); intro w1 g1 H' _ _; replace H := H'; clear H'; go_simp)
      | ((fail_if_success have := g2); (with_reducible apply own_alloc nilSc H); (case hgd => exact rfl); (case ho => exact rfl); intro w2 g2 H' _ _; replace H := H'; clear H'; go_simp)
      | ((with_reducible apply own_load row7 H); (case hgd => exact rfl); (case ho => exact rfl); (case hx => exact rfl); (case hi => first | exact at0 | exact at1 | exact at2 | exact at3 | exact at4 | exact at5 | exact at6 | exact at7 | exact at8 | exact at9); intro _ _; go_simp)
      | ((with_reducible apply lay_load_ord (Lib.hid (HT.out.below H.out.bel))); (case hgd => exact rfl); (case ho => exact rfl); (case hx => exact rfl); intro _ _; go_simp)
      | ((fail_if_success have := g3); (with_reducible apply own_alloc nil7 H); (case hgd => exact rfl); (case ho => exact rfl); intro w3 g3 H' _ _; replace H := H'; clear H'; go_simp)
      | ((with_reducible apply own_store row7 H); (case hgd => exact rfl); (case ho => exact rfl); (case hx => exact rfl); (case hy => exact rfl); (case hi => first | exact at0 | exact at1 | exact at2 | exact at3 | exact at4 | exact at5 | exact at6 | exact at7 | exact at8 | exact at9); intro ws H' _ _; replace H := H'; clear H'; simp only [List.set_cons_zero] at H; go_simp)
      | ((with_reducible refine (slessen_v x lN _ HX.out lN_lt_t).mono ?_); rintro e wc ⟨rfl, hb⟩; replace H := Lib.hid (H.out.call hb); clear hb; rw [HU.out])
      | ((with_reducible refine (pick_0 _ _ _).mono ?_); rintro e wc ⟨rfl, hb⟩; replace H := Lib.hid (H.out.call hb); clear hb)
      | ((with_reducible apply lay_build_S); (case hgd => exact rfl); (case ho => exact rfl); (case hx => exact rfl); intro _ _; go_simp)
      | ((with_reducible apply own_store rowSc H); (case hgd => exact rfl); (case ho => exact rfl); (case hx => exact rfl); (case hy => exact rfl); (case hi => first | exact at0 | exact at1 | exact at2 | exact at3 | exact at4 | exact at5 | exact at6 | exact at7 | exact at8 | exact at9); intro ws H' _ _; replace H := H'; clear H'; simp only [List.set_cons_zero, List.set_cons_succ] at H; go_simp))
    exact bodyPost_ret (own_result 1 rowSc rfl _ H rfl rfl) rfl ⟨congrArg Ending.returned HE.out, H.out.bel⟩
end Go.Proofs.YtocjncflgbnglaaDoor

/-
  The contract of scalar.addTimes. No statement is proved here: lemmas for the walks.
-/
namespace Go.Proofs.YtocjncflgbnglaaDoor
open Go.RowKit

/-- Behind the last word that is multiplied: what has gone over goes on. -/
theorem carry_step (z y k : Nat) (x : BitVec 64) (h : wd y k = 0) :
    adc (wd z k) (ov z y x.toNat k) 0 = wd (z + y * x.toNat) k ∧ cy (adk (wd z k) (ov z y x.toNat k) 0) = ov z y x.toNat (k + 1) := by
  have h1 := times_step z y k x
  rw [h] at h1
  have e1 : mlo x 0 = 0 := by unfold mlo; simp
  have e2 : mhi x 0 = 0 := by unfold mhi; simp
  have e3 : adc 0 (wd z k) 0 = wd z k := by
    unfold adc
    apply BitVec.eq_of_toNat_eq
    rw [BitVec.toNat_ofNat, show (cy 0).toNat = 0 from rfl]
    have := (wd z k).isLt
    simp
    exact this
  have e4 : cy (adk 0 (wd z k) 0) = 0 := by
    unfold adk
    rw [show (cy 0).toNat = 0 from rfl, Nat.div_eq_of_lt (by have := (wd z k).isLt; simp; exact this)]
    rfl
  rw [e1, e2, e3, e4] at h1
  refine ⟨h1.1, ?_⟩
  rw [← h1.2]
  simp
theorem RowZ.setWord {w : World} {b n : Nat} {t : TypeId} {f : Nat → BitVec 64} (h : RowZ w b t .u64 n (LZ f)) (i : Nat) (v : BitVec 64) : RowZ (w.setCell ⟨b, i, none⟩ (V v)) b t .u64 n (LZ (upd f i v)) := by
  have := h.setCell i (L v)
  rwa [LZ_upd] at this
theorem Apart.setCell {g : Nat} {w w' : World} (h : Apart g w w') (i : Nat) (v : Value) : Apart g w (w'.setCell ⟨g, i, none⟩ v) := fun b hb => (heap_setCell_other _ _ _ _ (by show b ≠ g; exact hb)).trans (h b hb)
theorem Apart.refl (g : Nat) (w : World) : Apart g w w := fun _ _ => rfl
set_option maxRecDepth 8000 in
set_option maxHeartbeats 3200000 in
theorem stimes_v (g N i R Z gl m y : Nat) (t tl : TypeId) (x : BitVec 64) (w : World) (hR : i + R = N) (hN : N ≤ 1000) (hm : m ≤ R) (hr : RowZ w g t .u64 N (LZ (wd Z))) (hl : RowZ w gl tl .u64 m (LZ (wd y))) (hne : gl ≠ g) (hy : y < 2 ^ (64 * m)) :
    Calls Tryd.prog 57 #[.slice (some ⟨g, i, none⟩) R R, .slice (some ⟨gl, 0, none⟩) m m, V x] w fun e w' => e = .returned (.tuple #[]) ∧ RowZ w' g t .u64 N (LZ (wd (tim i y x Z))) ∧ Below g w w' ∧ Apart g w w' := by
  have HY : Hid (∀ k, m ≤ k → wd y k = 0) := Lib.hid fun k hk => wd_over hy hk
  have HL := Lib.hid hl
  have HR := Lib.hid hr
  have HN := Lib.hid hne
  have hR' : (R : Int) ≤ 1000 := by omega
  have hm' : (m : Int) ≤ (R : Int) := by omega
  have HE := Lib.hid hR
  have H0 := Lib.hid (ov_zero (Z / 2 ^ (64 * i)) y x.toNat)
  have HT := Lib.hid (fun k => times_step (Z / 2 ^ (64 * i)) y k x)
  have HC := Lib.hid (fun k hk => carry_step (Z / 2 ^ (64 * i)) y k x (HY.out k hk))
  clear hl hr hR hne hy
  go_enter Tryd.func57, Tryd.ntmps57
  go_wp2_with fail
  go_loopw [6, 16] (fun v6 v16 wr => ∃ k : Nat, k ≤ m ∧ v16 = .int .i64 k ∧ v6 = V (ov (Z / 2 ^ (64 * i)) y x.toNat k) ∧ RowZ wr g t .u64 N (LZ (mix (i + k) (wd (tim i y x Z)) (wd Z))) ∧ Below g w wr ∧ Apart g w wr) (fun _ v16 _ => m - (intOf v16).toNat)
  case atStart => exact ⟨0, by omega, rfl, by rw [H0.out]; rfl, HR.out.congr fun k _ => congrArg L (by
    unfold mix
    by_cases hk : k < i + 0
    · rw [if_pos hk, tim_low _ _ _ _ _ (by omega)]
    · rw [if_neg hk]), Below.refl _ _, Apart.refl _ _⟩
  case round =>
    clear HR H0
    obtain ⟨k, hk, rfl, rfl, HW, HB, HA⟩ := hrel
    by_cases hlt : k < m
    · have hid : decide ((k : Int) < (m : Int)) = true := by simp; omega
      have kR : (k : Int) < (R : Int) := by omega
      have km : (k : Int) < (m : Int) := by omega
      have hc1 : wr.cell? ⟨gl, k, none⟩ = some (V (wd y k)) := (HL.out.apart HA HN.out).cell k hlt
      have hc : wr.cell? ⟨g, i + k, none⟩ = some (V (wd (Z / 2 ^ (64 * i)) k)) := by
        rw [HW.cell (i + k) (by have := HE.out; omega), ← (tim_wd i y x Z k).2]
        show some (V (mix (i + k) _ (wd Z) (i + k))) = _
        rw [mix_at]
      have hz := HW.thaw (i + k)
      have H1 := Lib.hid HW
      have H2 := Lib.hid HB
      have H3 := Lib.hid HA
      obtain ⟨s1, s2⟩ := HT.out k
      have S1 := Lib.hid s1
      have S2 := Lib.hid s2
      clear HW HB HA s1 s2
      go_wp2_with (first | ((with_reducible refine (mul64_any x (wd y k) _).mono ?_); rintro e w' ⟨rfl, rfl⟩))
      go_roundw
      case rel =>
        refine ⟨k + 1, by omega, by go_num, by rw [S2.out], ?_, H2.out.setCell (Nat.le_refl _) _, H3.out.setCell _ _⟩
        have h := H1.out.setWord (i + k) (wd (tim i y x Z) (i + k))
        rw [mix_upd] at h
        rw [S1.out, ← (tim_wd i y x Z k).1]
        exact h
      case measure => simp [intOf]; omega
    · obtain rfl : k = m := by omega
      have hid : decide ((k : Int) < (k : Int)) = false := by simp
      have H1 := Lib.hid HW
      have H2 := Lib.hid HB
      have H3 := Lib.hid HA
      clear HW HB HA HT HL hlt hk
      go_wp2_with fail
      clear hid
      go_loopw [6, 13] (fun v6 v13 wr' => ∃ j : Nat, k ≤ j ∧ j ≤ R ∧ v13 = .int .i64 j ∧ v6 = V (ov (Z / 2 ^ (64 * i)) y x.toNat j) ∧ RowZ wr' g t .u64 N (LZ (mix (i + j) (wd (tim i y x Z)) (wd Z))) ∧ Below g w wr' ∧ Apart g w wr') (fun _ v13 _ => R - (intOf v13).toNat)
      case atStart => exact ⟨k, Nat.le_refl _, by omega, rfl, rfl, H1.out, H2.out, H3.out⟩
      case round =>
        clear H1 H2 H3
        obtain ⟨j, hkj, hj, rfl, rfl, HW, HB, HA⟩ := hrel
        by_cases hlt : j < R
        · have hid : decide ((j : Int) < (R : Int)) = true := by simp; omega
          have jR : (j : Int) < (R : Int) := by omega
          have hc : wr.cell? ⟨g, i + j, none⟩ = some (V (wd (Z / 2 ^ (64 * i)) j)) := by
            rw [HW.cell (i + j) (by have := HE.out; omega), ← (tim_wd i y x Z j).2]
            show some (V (mix (i + j) _ (wd Z) (i + j))) = _
            rw [mix_at]
          have hz := HW.thaw (i + j)
          have H1 := Lib.hid HW
          have H2 := Lib.hid HB
          have H3 := Lib.hid HA
          obtain ⟨s1, s2⟩ := HC.out j hkj
          have S1 := Lib.hid s1
          have S2 := Lib.hid s2
          clear HW HB HA s1 s2
          go_wp2_with fail
          go_roundw
          case rel =>
            refine ⟨j + 1, by omega, by omega, by go_num, by rw [S2.out], ?_, H2.out.setCell (Nat.le_refl _) _, H3.out.setCell _ _⟩
            have h := H1.out.setWord (i + j) (wd (tim i y x Z) (i + j))
            rw [mix_upd] at h
            rw [S1.out, ← (tim_wd i y x Z j).1]
            exact h
          case measure => simp [intOf]; omega
        · obtain rfl : j = R := by omega
          have hid : decide ((j : Int) < (j : Int)) = false := by simp
          have H1 := Lib.hid HW
          have H2 := Lib.hid HB
          have H3 := Lib.hid HA
          clear HW HB HA
          go_wp2_with fail
          go_end0
          exact ⟨rfl, H1.out.congr fun k hk => congrArg L (mix_all _ _ _ k (by have := HE.out; omega)), H2.out, H3.out⟩
end Go.Proofs.YtocjncflgbnglaaDoor

/-
  The contract of scalar.reduce. No statement is proved here: lemmas for the walks.
-/
namespace Go.Proofs.YtocjncflgbnglaaDoor
open Go.RowKit

/-- How great a number is when so many rounds are still to come. -/
def Bd (k X : Nat) : Prop := if k = 0 then X < 2 * lN else X < 2 ^ (64 * (7 + 3 * k))
/-- n words are enough. -/
def Fw (n H : Nat) : Prop := H < 2 ^ (64 * n)
theorem bd_step {k X : Nat} (hk : k < 3) (h : Bd (k + 1) X) : Fw (3 * k + 4) (X / qN) ∧ Bd k (fold X) := by
  unfold Bd at h
  rw [if_neg (by omega)] at h
  rcases (by omega : k = 0 ∨ k = 1 ∨ k = 2) with rfl | rfl | rfl
  · exact ⟨beyond_gen h (leb (by decide +kernel)), by unfold Bd fold; rw [if_pos rfl]; exact fold_gen_lt h (by decide +kernel) (leb (by decide +kernel))⟩
  · exact ⟨beyond_gen h (leb (by decide +kernel)), by unfold Bd fold; rw [if_neg (by decide)]; exact fold_gen_lt h (by decide +kernel) (leb (by decide +kernel))⟩
  · exact ⟨beyond_gen h (leb (by decide +kernel)), by unfold Bd fold; rw [if_neg (by decide)]; exact fold_gen_lt h (by decide +kernel) (leb (by decide +kernel))⟩
theorem bd_zero {X : Nat} (h : Bd 0 X) : X < 2 * lN := by unfold Bd at h; rwa [if_pos rfl] at h
theorem fw_mod {n H i : Nat} (h : Fw n H) (hi : n ≤ i) : H % 2 ^ (64 * i) = H :=
  Nat.mod_eq_of_lt (Nat.lt_of_lt_of_le h (Nat.pow_le_pow_right (by omega) (by omega)))
/-- What has come in again, of so many words. -/
def come (X i : Nat) : Nat := X % qN + X / qN % 2 ^ (64 * i) * rN
theorem come_zero (X : Nat) : come X 0 = X % qN := by unfold come; rw [Nat.mul_zero, Nat.pow_zero, Nat.mod_one, Nat.zero_mul, Nat.add_zero]
theorem come_all {n X i : Nat} (h : Fw n (X / qN)) (hi : n ≤ i) : come X i = fold X := by unfold come fold; rw [fw_mod h hi]
theorem come_step (X i : Nat) : tim i rN (wd (X / qN) i) (come X i) = come X (i + 1) := by
  unfold tim come
  rw [wd_nat, pow64, Nat.mod_mul, Nat.add_mul]
  generalize X / qN / 2 ^ (64 * i) % 18446744073709551616 = d
  rw [Nat.mul_assoc (2 ^ (64 * i)), Nat.mul_comm d rN, ← Nat.add_assoc]
theorem rN_fits : rN < 2 ^ (64 * 4) := by
  have h : Nat.blt rN (2 ^ (64 * 4)) = true := by decide +kernel
  exact Nat.le_of_ble_eq_true h
set_option maxRecDepth 8000 in
set_option maxHeartbeats 3200000 in
theorem reduce_v (x : Nat) (w : World) (hT : Tl true w) (hx : Bd 3 x) :
    Calls Tryd.prog 46 #[W17 x] w fun e w' => e = .returned (W7 (x % lN)) ∧ Below w.heap.size w w' := by
  have HT := Lib.hid hT
  have HX := Lib.hid hx
  clear hT hx
  have H := Lib.hid (Ow.start w)
  go_enter Tryd.func46, Tryd.ntmps46
  go_wp2_with (first
    | ((fail_if_success have := g1); (with_reducible apply own_box H); (case hgd => exact rfl); (case ho => exact rfl); (case hx => exact rfl); intro w1 g1 H' _ _; replace H := H'; clear H'; go_simp)
    | ((fail_if_success have := g2); (with_reducible apply own_alloc nilSc H); (case hgd => exact rfl); (case ho => exact rfl); intro w2 g2 H' _ _; replace H := H'; clear H'; go_simp))
  go_step3
  go_wp2_with (first
    | ((with_reducible apply lay_load_rst (Lib.hid (HT.out.below H.out.bel))); (case hgd => exact rfl); (case ho => exact rfl); (case hx => exact rfl); intro _ _; go_simp)
    | ((fail_if_success have := g3); (with_reducible apply own_alloc nil4 H); (case hgd => exact rfl); (case ho => exact rfl); intro w3 g3 H' _ _; replace H := H'; clear H'; go_simp)
    | ((with_reducible apply own_store row4 H); (case hgd => exact rfl); (case ho => exact rfl); (case hx => exact rfl); (case hy => exact rfl); (case hi => first | exact at0 | exact at1 | exact at2 | exact at3 | exact at4 | exact at5 | exact at6 | exact at7 | exact at8 | exact at9); intro ws H' _ _; replace H := H'; clear H'; simp only [List.set_cons_zero] at H; go_simp))
  go_step3
  go_wp2_with fail
  go_loopg [4] 3 (fun gk v4 wr => ∃ X : Nat, gk ≤ 3 ∧ v4 = .int .i64 ((7 + 3 * gk : Nat) : Int) ∧ Bd gk X ∧ X % lN = x % lN ∧ Ow w wr [(g3, WB 88 4 (wd rN)), (g2, Blk 27 .u64 7 fun _ => 0), (g1, WB 62 17 (wd X))])
  case atStart => exact ⟨x, by omega, rfl, HX.out, rfl, H.out⟩
  case round =>
    clear H HX
    obtain ⟨X, hg3, rfl, hb, hm, HR⟩ := hrel
    have H := Lib.hid HR
    have HM := Lib.hid hm
    clear HR hm
    cases gk with
    | zero =>
      have HB := Lib.hid (bd_zero hb)
      clear hb
      rw [show ((7 + 3 * 0 : Nat) : Int) = 7 from rfl]
      go_wp2_with (first
        | ((with_reducible apply own_load row17 H); (case hgd => exact rfl); (case ho => exact rfl); (case hx => exact rfl); (case hi => first | exact at0 | exact at1 | exact at2 | exact at3 | exact at4 | exact at5 | exact at6 | exact at7 | exact at8 | exact at9); intro _ _; go_simp)
        | ((with_reducible refine (first_v X _).mono ?_); rintro e wc ⟨rfl, hb⟩; replace H := Lib.hid (H.out.call hb); clear hb)
        | ((with_reducible refine (least_v X _ (HT.out.below H.out.bel) HB.out).mono ?_); rintro e wc ⟨rfl, hb⟩; replace H := Lib.hid (H.out.call hb); clear hb)
        | ((with_reducible apply own_store rowSc H); (case hgd => exact rfl); (case ho => exact rfl); (case hx => exact rfl); (case hy => exact rfl); (case hi => first | exact at0 | exact at1 | exact at2 | exact at3 | exact at4 | exact at5 | exact at6 | exact at7 | exact at8 | exact at9); intro ws H' _ _; replace H := H'; clear H'; simp only [List.set_cons_zero, List.set_cons_succ] at H; go_simp))
      rw [Exit.noGoto_ret]
      exact bodyPost_ret (own_result 1 rowSc rfl _ H rfl rfl) rfl ⟨by rw [← HM.out], H.out.bel⟩
    | succ k =>
      obtain ⟨hf, hb2⟩ := bd_step (by omega) hb
      have HF := Lib.hid hf
      have HB := Lib.hid hb2
      clear hf hb2 hb
      have k3 : (k : Int) < 3 := by omega
      have ek : ((7 + 3 * (k + 1) : Nat) : Int) = 3 * (k : Int) + 10 := by omega
      have hid : decide ((7 : Int) < 3 * (k : Int) + 10) = true := by simp; omega
      have f1 : IntKind.i64.wrap (3 * (k : Int) + 10 - 7) = 3 * (k : Int) + 3 := (IntWalk.i64_in _ (by omega)).trans (by omega)
      have f2 : IntKind.i64.wrap (3 * (k : Int) + 10 - 3) = 3 * (k : Int) + 7 := (IntWalk.i64_in _ (by omega)).trans (by omega)
      rw [ek]
      go_wp2_with (first
        | ((with_reducible apply own_load row17 H); (case hgd => exact rfl); (case ho => exact rfl); (case hx => exact rfl); (case hi => first | exact at0 | exact at1 | exact at2 | exact at3 | exact at4 | exact at5 | exact at6 | exact at7 | exact at8 | exact at9); intro _ _; go_simp)
        | ((with_reducible refine (beyond_v X _).mono ?_); rintro e wc ⟨rfl, hb⟩; replace H := Lib.hid (H.out.call hb); clear hb)
        | ((fail_if_success have := g5); (with_reducible apply own_alloc nil10 H); (case hgd => exact rfl); (case ho => exact rfl); intro w5 g5 H' _ _; replace H := H'; clear H'; go_simp)
        | ((with_reducible apply own_store row10 H); (case hgd => exact rfl); (case ho => exact rfl); (case hx => exact rfl); (case hy => exact rfl); (case hi => first | exact at0 | exact at1 | exact at2 | exact at3 | exact at4 | exact at5 | exact at6 | exact at7 | exact at8 | exact at9); intro ws H' _ _; replace H := H'; clear H'; simp only [List.set_cons_zero] at H; go_simp)
        | ((with_reducible refine (below_v X _).mono ?_); rintro e wc ⟨rfl, hb⟩; replace H := Lib.hid (H.out.call hb); clear hb)
        | ((with_reducible apply own_store row17 H); (case hgd => exact rfl); (case ho => exact rfl); (case hx => exact rfl); (case hy => exact rfl); (case hi => first | exact at0 | exact at1 | exact at2 | exact at3 | exact at4 | exact at5 | exact at6 | exact at7 | exact at8 | exact at9); intro ws H' _ _; replace H := H'; clear H'; simp only [List.set_cons_zero, List.set_cons_succ] at H; go_simp)
        | ((with_reducible apply own_load row10 H); (case hgd => exact rfl); (case ho => exact rfl); (case hx => exact rfl); (case hi => first | exact at0 | exact at1 | exact at2 | exact at3 | exact at4 | exact at5 | exact at6 | exact at7 | exact at8 | exact at9); intro _ _; go_simp))
      go_loopg [18] 10 (fun gj v18 wr' => ∃ i : Nat, i + gj = 10 ∧ i ≤ 3 * k + 4 ∧ v18 = .int .i64 i ∧ Ow w wr' [(g5, WB 89 10 (wd (X / qN))), (g3, WB 88 4 (wd rN)), (g2, Blk 27 .u64 7 fun _ => 0), (g1, WB 62 17 (wd (come X i)))])
      case atStart => exact ⟨0, by omega, by omega, rfl, by rw [come_zero]; exact H.out⟩
      case round =>
        clear H
        obtain ⟨i, hig, hik, rfl, HR⟩ := hrel
        have H := Lib.hid HR
        clear HR
        cases gk with
        | zero =>
          obtain rfl : i = 10 := by omega
          rw [show ((10 : Nat) : Int) = 10 from rfl]
          rw [come_all HF.out (by omega)] at H
          go_wp2_with fail
          go_roundg k
          case measure => omega
          case rel => exact ⟨fold X, by omega, by go_num, HB.out, by rw [fold_mod]; exact HM.out, H.out.pop⟩
        | succ gj =>
          have i10 : (i : Int) < 10 := by omega
          have i10' : i < 10 := by omega
          by_cases hlt : 3 * k + 3 < i
          · have hd : decide (3 * (k : Int) + 3 < (i : Int)) = true := by simp; omega
            rw [come_all HF.out (by omega)] at H
            go_wp2_with (first
              | ((with_reducible apply own_indexw (n := 10) (f := wd (X / qN)) Tryd.underlying89); (case hgd => exact rfl); (case ho => exact rfl); (case hx => exact rfl); (case hy => exact rfl); (case hi => omega); intro _ _; go_simp))
            go_roundg k
            case measure => omega
            case rel => exact ⟨fold X, by omega, by go_num, HB.out, by rw [fold_mod]; exact HM.out, H.out.pop⟩
          · have hd : decide (3 * (k : Int) + 3 < (i : Int)) = false := by simp; omega
            have i17 : (i : Int) ≤ 17 := by omega
            obtain ⟨R, hR⟩ : ∃ R, i + R = 17 := ⟨17 - i, by omega⟩
            have eR : 17 - i = R := by omega
            have HE := Lib.hid hR
            have R8 : 4 ≤ R := by omega
            have n17 : ¬ 17 = i := by omega
            go_wp2_with (first
              | ((with_reducible apply own_indexw (n := 10) (f := wd (X / qN)) Tryd.underlying89); (case hgd => exact rfl); (case ho => exact rfl); (case hx => exact rfl); (case hy => exact rfl); (case hi => omega); intro _ _; go_simp))
            refine wp_region_noPanic ?_
            refine wp_region_held_drew (S := fun _ => True) (by kernel_rfl) trivial (fun hH => ?_)
            replace H := Lib.hid H.out.drew
            generalize World.drew _ = w8 at *
            clear hR
            refine held_value 0 26 (.int .i64 i) rfl rfl (by kernel_rfl) (by kernel_rfl) (by kernel_rfl) rfl hH (fun w hw => by go_simp) ?_
            try simp only [Act.put, List.setIfInBounds_toArray, List.set_cons_zero, List.set_cons_succ]
            refine held_value 1 27 (.slice (some ⟨g1, i, none⟩) R R) rfl rfl (by kernel_rfl) (by kernel_rfl) (by kernel_rfl) rfl hH (fun w hw => by go_simp) ?_
            try simp only [Act.put, List.setIfInBounds_toArray, List.set_cons_zero, List.set_cons_succ]
            refine held_value 2 28 (.slice (some ⟨g3, 0, none⟩) 4 4) rfl rfl (by kernel_rfl) (by kernel_rfl) (by kernel_rfl) rfl hH (fun w hw => by go_simp) ?_
            try simp only [Act.put, List.setIfInBounds_toArray, List.set_cons_zero, List.set_cons_succ]
            refine held_value 3 29 (V (wd (X / qN) i)) rfl rfl (by kernel_rfl) (by kernel_rfl) (by kernel_rfl) rfl hH (fun w hw => by go_simp) ?_
            try simp only [Act.put, List.setIfInBounds_toArray, List.set_cons_zero, List.set_cons_succ]
            refine wpAnyH_ready (rs := [4]) (by kernel_rfl) (by simp) ?_
            refine AllReadyH.cons (o := _) rfl (fun K hK => ?_) AllReadyH.nil
            go_simp
            refine (stimes_v g1 17 i R (come X i) g3 4 rN _ _ (wd (X / qN) i) _ HE.out (by omega) R8 (H.out.row 3 rfl) (H.out.row 1 rfl) (H.out.ne 1 3 rfl rfl (by decide)) rN_fits).mono ?_
            rintro e wc ⟨rfl, hr, hb, ha⟩
            replace H := Lib.hid (H.out.put 3 rfl hb ha hr)
            simp only [List.set_cons_zero, List.set_cons_succ] at H
            clear hr hb ha
            refine hK.out _ _ trivial (fun _ => ?_)
            clear hK K hH
            try simp only [Act.put, List.setIfInBounds_toArray, List.set_cons_zero, List.set_cons_succ]
            try simp only [Act.put]
            refine wpAnyH_done (by kernel_rfl) ?_ _
            refine NoPanic.normal ?_
            rw [come_step] at H
            go_wp2_with fail
            go_roundg gj
            case measure => omega
            case rel => exact ⟨i + 1, by omega, by omega, by go_num, H.out⟩
end Go.Proofs.YtocjncflgbnglaaDoor

/-
  Slices of words that are the call's own: literals, numbers. No statement is proved here: lemmas for the walks.
-/
namespace Go.Proofs.YtocjncflgbnglaaDoor
open Go.RowKit

theorem A_AZ (n : Nat) (f : Nat → BitVec 64) : A n f = AZ .u64 n (LZ f) := by
  apply Array.ext_getElem?
  intro j
  by_cases hj : j < n
  · rw [A_get n _ j hj, AZ_get _ n _ j hj]
  · rw [Array.getElem?_eq_none (by simpa [A_size] using hj), Array.getElem?_eq_none (by simpa [AZ_size] using hj)]
theorem rowW_blk {w : World} {g n : Nat} {f : Nat → BitVec 64} (h : RowW w g n f) : w.heap[g]? = some (WB 24 n f) := by
  unfold RowW at h
  rw [h, A_AZ]
  rfl
/-- A number that lies in a block of the call's own. -/
theorem Ow.sw {w W : World} {l : List (Nat × Obj)} (h : Ow w W l) (i : Nat) {g n N x c : Nat} {t : TypeId} (hi : l[i]? = some (g, WB t N (wd x))) (hn : n ≤ N) (hc : n ≤ c) (hx : x < 2 ^ (64 * n)) : Sw W W.heap.size (some ⟨g, 0, none⟩) n c x :=
  ⟨hc, (fun e => by cases e), fun ad e _ => ⟨g, 0, (Option.some.inj e).symm, lt_row (h.row i hi), fun j hj => by rw [Nat.zero_add]; exact h.cell i hi j (by omega)⟩, hx⟩
theorem wd_small {v : Nat} (hv : v < 2 ^ 64) : V (wd v 0) = .int .u64 (v : Int) := V_eq (by rw [wd_nat, Nat.mul_zero, Nat.pow_zero, Nat.div_one]; exact Nat.mod_eq_of_lt hv)
section
variable {ops : Array Oper} {rest : List Oper} {o : Oper} {a : Act} {w w0 : World} {l : List (Nat × Obj)} {Q : Exit → Act → World → Prop} {t : TypeId}
theorem own_buildW {v : Nat} (hu : Tryd.prog.underlying t = some (.slice 24)) (hv : v < 2 ^ 64) (H : Hid (Ow w0 w l)) (hgd : o.guard = none) (ho : o.op = .buildSlice t 1 #[(0, .const (.int .u64 (v : Int)))])
    (h : ∀ w' g, Hid (Ow w0 w' ((g, WB 24 1 (wd v)) :: l)) → ∀ K : Act → World → Prop, (∀ a w, wpList Tryd.prog ops Q rest a w → K a w) → K (a.put o.dst (.slice (some ⟨g, 0, none⟩) 1 1)) w') : wpList Tryd.prog ops Q (o :: rest) a w :=
  wpList_plain hgd fun K hK => by
    obtain ⟨i, hi, hz, hs, _⟩ := info_u64
    have e : (#[.int .u64 (v : Int)] : Array Value) = AZ .u64 1 (LZ (wd v)) := by
      apply Array.ext_getElem?
      intro j
      rcases j with _ | j
      · rw [AZ_get _ _ _ _ (by omega)]
        exact congrArg some (wd_small hv).symm
      · rw [Array.getElem?_eq_none (by simp), Array.getElem?_eq_none (by rw [AZ_size]; omega)]
    refine Go.wp_buildSlice t 24 1 _ ho #[.int .u64 (v : Int)] i _ hu hi hz (by rw [hs]; decide) (by rw [hs]; decide) (by rw [hs]; simp [Instr.fill, Act.eval, Array.range, Value.cells]; exact Array.ext (by simp) (fun j h1 h2 => by obtain rfl : j = 0 := (by simpa using h2); simp)) ?_
    rw [e]
    exact h _ _ (Lib.hid (H.out.alloc _)) K hK
end
end Go.Proofs.YtocjncflgbnglaaDoor
