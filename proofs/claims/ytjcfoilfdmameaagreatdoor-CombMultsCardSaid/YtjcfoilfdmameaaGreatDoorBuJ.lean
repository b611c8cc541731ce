/-
  Lemmas for the walks, several texts in one. No statement is proved here.
-/
import Derived.Test.YtjcfoilfdmameaaGreatDoorBuB
import Derived.Test.YtjcfoilfdmameaaGreatDoorBuA
import Derived.Test.YtjcfoilfdmameaaGreatDoorBuN
import Derived.Deep.CutRange
import Derived.Test.YtjcfoilfdmameaaGreatDoorBuR
/-
  Rows and slices of ints in memory: what a walk knows of them, make, append. No statement is proved here: lemmas for the walks.
-/
namespace Go.Proofs.YtjcfoilfdmameaaGreatDoor
open Go.RowKit

theorem infoZ : (Tryz.prog.info? 3).map (fun i => (i.zero, i.size, i.bytes)) = some (some (.int .i64 0), 1, 8) := by kernel_rfl
theorem info_int : ∃ i, Tryz.prog.info? 3 = some i ∧ i.zero = some (.int .i64 0) ∧ i.size = 1 ∧ i.bytes = 8 := by
  cases hq : Tryz.prog.info? 3 with
  | none => have := infoZ; simp [hq] at this
  | some i =>
    have := infoZ
    simp [hq] at this
    exact ⟨i, rfl, this.1, this.2.1, this.2.2⟩
theorem AZ_zero (n : Nat) : AZ .i64 n (fun _ => 0) = Array.replicate n (.int .i64 0) := by
  apply Array.ext_getElem?
  intro j
  by_cases hj : j < n
  · rw [AZ_get _ n _ j hj]
    simp [hj]
  · rw [Array.getElem?_eq_none (by simpa [AZ_size] using hj), Array.getElem?_eq_none (by simpa using hj)]
theorem made_int (n : Nat) : madeCells (Value.int .i64 0).cells n = AZ .i64 n fun _ => 0 := by
  rw [AZ_zero]
  unfold madeCells
  apply Array.ext_getElem?
  intro j
  simp only [Array.getElem?_map, Array.getElem?_replicate]
  by_cases h : j < n
  · simp [h, Value.cells, Nat.mod_one]
  · simp [h]
theorem run_make_int (w : World) (l : Nat) (hc : l ≤ 1000000) : (Instr.makeSlice 133 (.int .i64 (l : Int)) (.int .i64 (l : Int))).run Tryz.prog w = .ok (.slice (some ⟨w.heap.size, 0, none⟩) l l) (w.alloc (Blk 3 .i64 l fun _ => 0)) := by
  obtain ⟨i, hi, hz, hs, hb⟩ := info_int
  have h := run_makeSlice (P := Tryz.prog) w 133 3 i (.int .i64 0) Tryz.underlying133 hi hz .i64 .i64 (l : Int) (l : Int) (by omega) (by omega) (by rw [hs, Int.toNat_natCast]; omega) (by rw [hb]; omega) (by omega)
  rw [hs, Int.toNat_natCast, Nat.mul_one, made_int] at h
  exact h
section
variable {ops : Array Oper} {rest : List Oper} {o : Oper} {a : Act} {w w0 : World} {l : List (Nat × Obj)} {Q : Exit → Act → World → Prop}
theorem own_makeI (H : Hid (Ow w0 w l)) (hgd : o.guard = none) {x y : Operand} (ho : o.op = .makeSlice 133 x y) {n : Nat} (hx : a.eval x = .int .i64 (n : Int)) (hy : a.eval y = .int .i64 (n : Int)) (hc : n ≤ 1000000)
    (k : ∀ w' g, Hid (Ow w0 w' ((g, Blk 3 .i64 n fun _ => 0) :: l)) → ∀ K : Act → World → Prop, (∀ a w, wpList Tryz.prog ops Q rest a w → K a w) → K (a.put o.dst (.slice (some ⟨g, 0, none⟩) n n)) w') : wpList Tryz.prog ops Q (o :: rest) a w :=
  wpList_plain hgd fun K hK => by
    unfold Oper.wp execOp
    simp only [ho, hx, hy, Sem.run_bind, run_make_int w n hc, Result.andThen_ok]
    exact k _ _ (Lib.hid (H.out.alloc _)) K hK
end
theorem oneIz : IsOne Tryz.prog 3 .i64 := ⟨Tryz.underlying3, by kernel_rfl⟩
theorem mixO_upd (i : Nat) (f g : Nat → Int) : updZ (mix i f g) i (f i) = mix (i + 1) f g := by
  funext j
  unfold updZ mix
  by_cases h : j = i
  · rw [if_pos h, if_pos (by omega), h]
  · rw [if_neg h]
    by_cases h1 : j < i
    · rw [if_pos h1, if_pos (by omega)]
    · rw [if_neg h1, if_neg (by omega)]
/-- A slice of n ints below block B. -/
structure SlZ (w : World) (B : Nat) (a : Option Addr) (n c : Nat) (f : Nat → Int) : Prop where
  le : n ≤ c
  nil : a = none → c = 0
  low : ∀ ad, a = some ad → 0 < n → ∃ b o, ad = ⟨b, o, none⟩ ∧ b < B ∧ ∀ i, i < n → w.cell? ⟨b, o + i, none⟩ = some (.int .i64 (f i))
section
variable {w w' : World} {B : Nat} {a : Option Addr} {n c : Nat} {f : Nat → Int}
theorem SlZ.get (h : SlZ w B a n c f) (i : Nat) (hi : i < n) : ∃ b o, a = some ⟨b, o, none⟩ ∧ b < B ∧ w.cell? ⟨b, o + i, none⟩ = some (.int .i64 (f i)) := by
  cases ha : a with
  | none =>
    have h1 := h.nil ha
    have h2 := h.le
    exfalso; omega
  | some ad =>
    obtain ⟨b, o, rfl, hb, hc⟩ := h.low ad ha (by omega)
    exact ⟨b, o, rfl, hb, hc i hi⟩
theorem SlZ.below (h : SlZ w B a n c f) (hb : Below B w w') : SlZ w' B a n c f :=
  ⟨h.le, h.nil, fun ad ha h0 => by
    obtain ⟨b, o, rfl, hlt, hc⟩ := h.low ad ha h0
    exact ⟨b, o, rfl, hlt, fun i hi => (hb.cell (p := ⟨b, o + i, none⟩) hlt).trans (hc i hi)⟩⟩
theorem SlZ.more {B' : Nat} (h : SlZ w B a n c f) (hB : B ≤ B') : SlZ w B' a n c f :=
  ⟨h.le, h.nil, fun ad ha h0 => by
    obtain ⟨b, o, rfl, hlt, hc⟩ := h.low ad ha h0
    exact ⟨b, o, rfl, by omega, hc⟩⟩
theorem SlZ.call (h : SlZ w w.heap.size a n c f) (hb : Below w.heap.size w w') : SlZ w' w'.heap.size a n c f := (h.below hb).more hb.size
theorem SlZ.congr {g : Nat → Int} (h : SlZ w B a n c f) (hg : ∀ i, i < n → f i = g i) : SlZ w B a n c g :=
  ⟨h.le, h.nil, fun ad ha h0 => by
    obtain ⟨b, o, rfl, hlt, hc⟩ := h.low ad ha h0
    exact ⟨b, o, rfl, hlt, fun i hi => by rw [hc i hi, hg i hi]⟩⟩
theorem SlZ.nought (w : World) (B : Nat) (f : Nat → Int) : SlZ w B none 0 0 f := ⟨Nat.le_refl _, fun _ => rfl, fun _ e _ => by cases e⟩
theorem SlZ.row {g : Nat} {t : TypeId} (h : w.heap[g]? = some (Blk t .i64 n f)) : SlZ w w.heap.size (some ⟨g, 0, none⟩) n n f :=
  ⟨Nat.le_refl _, (fun e => by cases e), fun ad e _ => ⟨g, 0, (Option.some.inj e).symm, lt_row h, fun i hi => by
    have hr : w.heap[g]? = some (.cells (AZ .i64 n f) t) := h
    rw [Nat.zero_add, cell_of_row _ _ _ _ _ _ hr, AZ_get _ _ _ _ hi]⟩⟩
end
/-- A row of the call's own that holds n ints. -/
def OwnZ (w : World) (base : Nat) (v : Value) (n : Nat) (f : Nat → Int) : Prop := w.ownsRow base 3 1 v n ((List.range n).map fun i => Value.int .i64 (f i))
theorem OwnZ.nil (w : World) (base : Nat) (f : Nat → Int) : OwnZ w base (.slice none 0 0) 0 f := ⟨rfl, .inl ⟨rfl, rfl⟩⟩
theorem OwnZ.alloc {w : World} {base : Nat} {v : Value} {n : Nat} {f : Nat → Int} (h : OwnZ w base v n f) (o : Obj) : OwnZ (w.alloc o) base v n f := by
  obtain ⟨hl, hv⟩ := h
  refine ⟨hl, ?_⟩
  rcases hv with h0 | ⟨g, cap, cur, hv, hg, hrow, hr⟩
  · exact .inl h0
  · exact .inr ⟨g, cap, cur, hv, hg, (heap_alloc_past _ _ _ (row_lt hrow)).trans hrow, hr⟩
theorem OwnZ.call {w w' : World} {base : Nat} {v : Value} {n : Nat} {f : Nat → Int} (h : OwnZ w base v n f) (hb : Below w.heap.size w w') : OwnZ w' base v n f := by
  obtain ⟨hl, hv⟩ := h
  refine ⟨hl, ?_⟩
  rcases hv with h0 | ⟨g, cap, cur, hv, hg, hrow, hr⟩
  · exact .inl h0
  · exact .inr ⟨g, cap, cur, hv, hg, (hb.block _ (row_lt hrow)).trans hrow, hr⟩






theorem OwnZ.congr {w : World} {base : Nat} {v : Value} {n : Nat} {f g : Nat → Int} (h : OwnZ w base v n f) (hg : ∀ i, i < n → f i = g i) : OwnZ w base v n g := by
  have e : ((List.range n).map fun i => Value.int .i64 (f i)) = (List.range n).map fun i => Value.int .i64 (g i) := List.map_congr_left fun i hi => by rw [hg i (List.mem_range.1 hi)]
  unfold OwnZ at h ⊢
  rwa [e] at h
theorem OwnZ.sl {w : World} {base : Nat} {v : Value} {n : Nat} {f : Nat → Int} (h : OwnZ w base v n f) : ∃ a c, v = .slice a n c ∧ SlZ w w.heap.size a n c f := by
  obtain ⟨hl, hv⟩ := h
  rcases hv with ⟨rfl, h0⟩ | ⟨g, cap, cur, rfl, hg, hrow, hle, _, hcs, htake⟩
  · subst h0
    exact ⟨none, 0, rfl, SlZ.nought _ _ _⟩
  · refine ⟨some ⟨g, 0, none⟩, cap, rfl, hle, (fun e => by cases e), fun ad e _ => ⟨g, 0, (Option.some.inj e).symm, row_lt hrow, fun i hi => ?_⟩⟩
    rw [Nat.zero_add, cell_of_row _ _ _ _ _ _ hrow]
    have := congrArg (·[i]?) htake
    rw [Nat.mul_one] at this
    simpa [hi] using this
section
variable {w : World} {ops : Array Oper} {rest : List Oper} {o : Oper} {act : Act} {Q : Exit → Act → World → Prop}


























end
end Go.Proofs.YtjcfoilfdmameaaGreatDoor

/-
  What slices.Backward answers, as an iterator. No statement is proved here: lemmas for the walks.
-/
namespace Go.Proofs.YtjcfoilfdmameaaGreatDoor
open Go.RowKit

theorem cellIs : IsCell Tryz.prog 133 := ⟨fun w => by unfold isAgg; rw [Sem.run_bind, run_underlying Tryz.underlying133 w]; rfl, by kernel_rfl⟩
/-- What it hands the i-th round of a row of m. -/
def BackV (m : Nat) (f : Nat → Int) (i : Nat) (args : Array Value) : Prop := args = #[.int .i64 ((m - 1 - i : Nat) : Int), .int .i64 (f (m - 1 - i))]
set_option maxRecDepth 8000 in
set_option maxHeartbeats 3200000 in
theorem back_iter {w : World} {b gc m : Nat} {f : Nat → Int} {X : Nat → Prop} (hb : w.heap[b]? = some (Oc 133 (.slice (some ⟨gc, 0, none⟩) m m))) (hc : w.heap[gc]? = some (Blk 3 .i64 m f)) (hm : m ≤ 1000) (xb : ¬ X b) (xc : ¬ X gc) :
    Iter Tryz.prog 115 #[.pointer (some ⟨b, 0, none⟩)] m (BackV m f) X w := by
  intro l J W hT hJ hY h0
  obtain ⟨Y, hYd⟩ : ∃ Y : Nat → Prop, (fun k => X k ∨ (w.heap.size ≤ k ∧ k < W.heap.size)) = Y := ⟨_, rfl⟩
  rw [hYd] at hY
  have yb : ¬ Y b := by
    have := lt_row hb
    rw [← hYd]
    rintro (h | h)
    · exact xb h
    · omega
  have yc : ¬ Y gc := by
    have := lt_row hc
    rw [← hYd]
    rintro (h | h)
    · exact xc h
    · omega
  have hb := hT.row hb xb
  have hc := hT.row hc xc
  clear hT xb xc hYd
  show Calls Tryz.prog 115 #[.func (.yield l) #[] #[], .pointer (some ⟨b, 0, none⟩)] W _
  have f1 : IntKind.i64.wrap ((m : Int) - 1) = (m : Int) - 1 := IntWalk.i64_in _ (by omega)
  have HB := Lib.hid hb
  have HCC := Lib.hid hc
  have HJ := Lib.hid hJ
  have HY := Lib.hid hY
  have H0 := Lib.hid h0
  have HM := Lib.hid hm
  have NB := Lib.hid yb
  have NC := Lib.hid yc
  clear hb hc hJ hY h0 yb yc
  have H := Lib.hid (Ow.start W)
  go_enter Tryz.func115, Tryz.ntmps115
  go_wp2_with (first
    | ((with_reducible apply own_loadCO cellIs H); (case hgd => exact rfl); (case ho => exact rfl); (case hx => exact rfl); (case hr => exact HB.out); (case hj => exact rfl); intro _ _; go_simp))
  clear f1 H
  go_loopw [3] (fun v3 wr => ∃ i : Nat, i ≤ m ∧ v3 = .int .i64 ((m : Int) - 1 - (i : Int)) ∧ J i wr ∧ Turn Y W wr) (fun v3 _ => (intOf v3 + 1).toNat)
  case atStart => exact ⟨0, Nat.zero_le _, by go_num, H0.out, Turn.refl _ _⟩
  case round =>
    clear H0
    obtain ⟨i, hi, rfl, hJi, hTi⟩ := hrel
    have HJI := Lib.hid hJi
    have HTI := Lib.hid hTi
    clear hJi hTi
    by_cases hlt : i < m
    · obtain ⟨j, hj⟩ : ∃ j, m - 1 - i = j := ⟨_, rfl⟩
      have ej : (m : Int) - 1 - (i : Int) = (j : Int) := by omega
      rw [ej]
      have hid : decide ((0 : Int) ≤ (j : Int)) = true := by simp
      have hjm : j < m := by omega
      have hjm' : (j : Int) < (m : Int) := by omega
      have j999 : (j : Int) ≤ 999 := by omega
      have HYI := Lib.hid (HY.out i _ wr HJI.out HTI.out.size hlt rfl)
      rw [hj] at HYI
      have EJ := Lib.hid hj
      have HB2 := Lib.hid (HTI.out.row HB.out NB.out)
      have HC2 := Lib.hid (HTI.out.row HCC.out NC.out)
      have HI := Lib.hid hlt
      have H := Lib.hid (Ow.start wr)
      clear hlt hi ej hj hm
      have hcell : wr.cell? ⟨gc, j, none⟩ = some (.int .i64 (f j)) := by
        have hrow : wr.heap[gc]? = some (.cells (AZ .i64 m f) 3) := HC2.out
        rw [cell_of_row _ _ _ _ _ _ hrow, AZ_get _ _ _ _ hjm]
      go_upto_region 3 with fail
      refine wp_in (wpIn_region_lit (list_lets (.inl rfl) 6 rfl Only.no ?_))
      simp only [List.take_succ_cons, List.take_zero, List.drop_succ_cons, List.drop_zero]
      go_wp2_with (first
        | ((with_reducible apply own_loadCO cellIs H); (case hgd => exact rfl); (case ho => exact rfl); (case hx => exact rfl); (case hr => exact HB2.out); (case hj => exact rfl); intro _ _; go_simp))

      refine list_yield (args := #[.int .i64 (j : Int), .int .i64 (f j)]) (.inl rfl) rfl rfl rfl (by simp only [List.map_toArray, List.map_cons, List.map_nil]; rfl) HYI.out ?_
      rintro e w' ⟨rfl, hJ', ht⟩
      refine ⟨_, rfl, ?_⟩
      refine list_lets (.inl rfl) 1 rfl Only.no ?_
      simp only [List.take_succ_cons, List.take_zero, List.drop_succ_cons, List.drop_zero]
      have HJ2 := Lib.hid hJ'
      have HT2 := Lib.hid (HTI.out.trans ht)
      clear hcell H HJI HTI hJ' ht HYI
      go_wp2_with fail
      simp only [wpListIn, Only]
      go_wp2_with fail
      go_roundw
      case rel => exact ⟨i + 1, by have := HI.out; omega, by (have := EJ.out; have := HI.out; have : (j : Int) - 1 = (m : Int) - 1 - ((i + 1 : Nat) : Int) := (by omega); go_num), HJ2.out, HT2.out⟩
      case measure => (simp [intOf] <;> omega)
    · obtain rfl : m = i := by omega
      have ej : (m : Int) - 1 - (m : Int) = -1 := by omega
      rw [ej]
      clear hlt hi ej hm
      go_wp2_with fail
      go_end0
      exact ⟨⟨_, rfl⟩, HJI.out⟩
end Go.Proofs.YtjcfoilfdmameaaGreatDoor

/-
  Numbers as digits: plain ones, those that may be below 0, those most of which are 0, and columns. No statement is proved here: numbers alone.
-/
namespace Go.Proofs.YtjcfoilfdmameaaGreatDoor

/-- The i-th bit. -/
def tb (x i : Nat) : Nat := x / 2 ^ i % 2
theorem tb_lt (x i : Nat) : tb x i < 2 := Nat.mod_lt _ (by omega)
theorem tb_over {x n i : Nat} (h : x < 2 ^ n) (hi : n ≤ i) : tb x i = 0 := by
  unfold tb
  rw [Nat.div_eq_of_lt (Nat.lt_of_lt_of_le h (Nat.pow_le_pow_right (by omega) hi))]
/-- So many bits, each so far behind the one ahead, the first one times 1. -/
def tog (x f a : Nat) : Nat → Nat
  | 0 => 0
  | k + 1 => tog x f a k + tb x (f + k * a) * 2 ^ k
theorem tog_lt (x f a : Nat) : ∀ k, tog x f a k < 2 ^ k
  | 0 => by simp [tog]
  | k + 1 => by
    have h1 := tog_lt x f a k
    have h2 := tb_lt x (f + k * a)
    unfold tog
    rw [Nat.pow_succ]
    rcases (by omega : tb x (f + k * a) = 0 ∨ tb x (f + k * a) = 1) with e | e <;> rw [e] <;> omega














































theorem nat_pow (n : Nat) : ((2 ^ n : Nat) : Int) = 2 ^ n := by simp


























































































/-- The first place behind the bits that the last odd digit stands for, and what goes over. -/
def nst (x k : Nat) : Nat → Nat × Nat
  | 0 => (0, 0)
  | i + 1 => if i < (nst x k i).1 ∨ tb x i = (nst x k i).2 then nst x k i else (i + k, (x / 2 ^ i % 2 ^ k + (nst x k i).2 + 2 ^ (k - 1)) / 2 ^ k)
def nfr (x k i : Nat) : Nat := (nst x k i).1
def nov (x k i : Nat) : Nat := (nst x k i).2
/-- Its digit is 0. -/
def nz (x k i : Nat) : Prop := i < nfr x k i ∨ tb x i = nov x k i
instance (x k i : Nat) : Decidable (nz x k i) := inferInstanceAs (Decidable (_ ∨ _))














/-- What is left of a number behind its lowest digit. -/
def cutN (k n : Nat) : Nat := if n % 2 = 1 then (if 2 ^ (k - 1) ≤ n % 2 ^ k then (n + (2 ^ k - n % 2 ^ k)) / 2 else (n - n % 2 ^ k) / 2) else n / 2
def left (x k : Nat) : Nat → Nat
  | 0 => x
  | i + 1 => cutN k (left x k i)
































































































































































































































































































end Go.Proofs.YtjcfoilfdmameaaGreatDoor

/-
  A comb: what a table's places are worth, and that columns, each doubled and a place added, are the number. No statement is proved here: numbers alone.
-/
namespace Go.Proofs.YtjcfoilfdmameaaGreatDoor

/-- What a table's place is worth: the rows whose bit it has, of m bits each. -/
def cw (m p : Nat) : Nat → Nat
  | 0 => 0
  | k + 1 => cw m p k + tb p k * 2 ^ (m * k)
/-- Columns from the highest one on, each doubled. -/
def hz (x m k : Nat) : Nat → Nat
  | 0 => 0
  | j + 1 => 2 * hz x m k j + cw m (tog x (m - 1 - j) m k) k
/-- The highest j bits of each row. -/
def hrw (x m j : Nat) : Nat → Nat
  | 0 => 0
  | t + 1 => hrw x m j t + x / 2 ^ (m * t) % 2 ^ m / 2 ^ (m - j) * 2 ^ (m * t)
theorem tb_add {P t : Nat} (a b : Nat) (_h : P < 2 ^ t) (s : Nat) (hs : s < t) : tb (P + a * 2 ^ t + b * 0) s = tb P s := by
  unfold tb
  rw [Nat.mul_zero, Nat.add_zero, show t = s + (t - s) by omega, Nat.pow_add, Nat.mul_comm (2 ^ s), ← Nat.mul_assoc, Nat.add_mul_div_right _ _ (Nat.two_pow_pos s)]
  obtain ⟨r, hr⟩ : ∃ r, t - s = r + 1 := ⟨t - s - 1, by omega⟩
  rw [hr, Nat.pow_succ, ← Nat.mul_assoc, Nat.add_mul_mod_self_right]
theorem tb_tog (x f a : Nat) : ∀ k t, t < k → tb (tog x f a k) t = tb x (f + t * a)
  | 0, _, h => by omega
  | k + 1, t, h => by
    unfold tog
    rcases (by omega : t < k ∨ t = k) with h1 | h1
    · have e := tb_add (tb x (f + k * a)) 0 (tog_lt x f a k) t h1
      rw [Nat.mul_zero, Nat.add_zero] at e
      rw [e]
      exact tb_tog x f a k t h1
    · subst h1
      have hl := tog_lt x f a t
      have hb := tb_lt x (f + t * a)
      show (tog x f a t + tb x (f + t * a) * 2 ^ t) / 2 ^ t % 2 = _
      rw [Nat.add_mul_div_right _ _ (Nat.two_pow_pos t), Nat.div_eq_of_lt hl, Nat.zero_add, Nat.mod_eq_of_lt hb]





theorem row_step (x m t q : Nat) (hq : q < m) : x / 2 ^ (m * t) % 2 ^ m / 2 ^ q = 2 * (x / 2 ^ (m * t) % 2 ^ m / 2 ^ (q + 1)) + tb x (q + t * m) := by
  have e1 : x / 2 ^ (m * t) % 2 ^ m / 2 ^ q % 2 = tb x (q + t * m) := by
    unfold tb
    have h1 : (x / 2 ^ (m * t) % 2 ^ m).testBit q = (x / 2 ^ (m * t)).testBit q := by rw [Nat.testBit_mod_two_pow, decide_eq_true hq, Bool.true_and]
    rw [Nat.testBit_eq_decide_div_mod_eq, Nat.testBit_eq_decide_div_mod_eq, decide_eq_decide] at h1
    rw [show q + t * m = m * t + q by rw [Nat.mul_comm]; omega, Nat.pow_add, ← Nat.div_div_eq_div_mul]
    have a1 := Nat.mod_lt (x / 2 ^ (m * t) % 2 ^ m / 2 ^ q) (show 0 < 2 by omega)
    have a2 := Nat.mod_lt (x / 2 ^ (m * t) / 2 ^ q) (show 0 < 2 by omega)
    omega
  rw [← e1, Nat.pow_succ, ← Nat.div_div_eq_div_mul]
  omega
theorem hz_step (x m k j : Nat) (hj : j < m) : ∀ t, t ≤ k → 2 * hrw x m j t + cw m (tog x (m - 1 - j) m k) t = hrw x m (j + 1) t
  | 0, _ => rfl
  | t + 1, h => by
    unfold hrw cw
    have e := hz_step x m k j hj t (by omega)
    rw [tb_tog _ _ _ k t (by omega), ← e]
    have r := row_step x m t (m - 1 - j) (by omega)
    rw [show m - 1 - j + 1 = m - j by omega] at r
    rw [show m - (j + 1) = m - 1 - j by omega, r, Nat.add_mul, Nat.mul_add, Nat.mul_assoc]
    omega
theorem hz_hrw (x m k : Nat) : ∀ j, j ≤ m → hz x m k j = hrw x m j k
  | 0, _ => by
    have z : ∀ t, hrw x m 0 t = 0 := fun t => by
      induction t with
      | zero => rfl
      | succ t ih =>
        unfold hrw
        rw [ih, Nat.sub_zero, Nat.div_eq_of_lt (Nat.mod_lt _ (Nat.two_pow_pos m)), Nat.zero_mul]
    exact (z k).symm
  | j + 1, h => by
    unfold hz
    rw [hz_hrw x m k j (by omega)]
    exact hz_step x m k j (by omega) k (Nat.le_refl _)
theorem hrw_all (x m : Nat) : ∀ k, hrw x m m k = x % 2 ^ (m * k)
  | 0 => by
    unfold hrw
    rw [Nat.mul_zero, Nat.pow_zero, Nat.mod_one]
  | k + 1 => by
    unfold hrw
    rw [hrw_all x m k, Nat.sub_self, Nat.pow_zero, Nat.div_one, Nat.mul_succ, Nat.pow_add, Nat.mod_mul, Nat.mul_comm (2 ^ (m * k))]
/-- Columns are the number. -/
theorem hz_all {x m k : Nat} (h : x < 2 ^ (m * k)) : hz x m k m = x := by rw [hz_hrw x m k m (Nat.le_refl _), hrw_all, Nat.mod_eq_of_lt h]
end Go.Proofs.YtjcfoilfdmameaaGreatDoor

/-
  The contracts of package digits' bits: the closure that tells a bit, together, parts. No statement is proved here: lemmas for the walks.
-/
namespace Go.Proofs.YtjcfoilfdmameaaGreatDoor
open Go.RowKit

/-- A cell that holds a slice of bytes that are a number. -/
structure RdB (w : World) (g : Nat) (a : Option Addr) (n c x : Nat) : Prop where
  cell : w.cell? ⟨g, 0, none⟩ = some (.slice a n c)
  sb : Sb w w.heap.size a n c x
theorem and1_u8 : ∀ v : Nat, v < 256 → bits .and .u8 (v : Int) 1 = ((v % 2 : Nat) : Int) := by decide +kernel
theorem byte_bit (x i : Nat) : ∀ q s, i / 8 = q → i % 8 = s → wrap64 (bits .and .u8 (U8 (bt x q) / 2 ^ s) 1) = ((tb x i : Nat) : Int) := by
  intro q s hq hs
  subst hq hs
  have h1 : U8 (bt x (i / 8)) / 2 ^ (i % 8) = ((dg x (i / 8) / 2 ^ (i % 8) : Nat) : Int) := by
    rw [U8_bt]
    push_cast
    rfl
  have h2 : dg x (i / 8) / 2 ^ (i % 8) < 256 := Nat.lt_of_le_of_lt (Nat.div_le_self _ _) (dg_lt _ _)
  rw [h1, and1_u8 _ h2, dg_bit]
  have h3 := tb_lt x i
  unfold tb at h3 ⊢
  exact IntWalk.wrap64_in _ ⟨by omega, by omega⟩
abbrev Bit (g : Nat) : Value := .func (.func 127) #[] #[.pointer (some ⟨g, 0, none⟩)]
set_option maxRecDepth 8000 in
set_option maxHeartbeats 800000 in
theorem bit_v {w : World} {g : Nat} {a : Option Addr} {n c x : Nat} (i : Nat) (z : Int) (hz : z = (i : Int)) (hR : RdB w g a n c x) (hn : n ≤ 1000) (hi : i ≤ 1000000) :
    Calls Tryz.prog 127 #[.int .i64 z, .pointer (some ⟨g, 0, none⟩)] w fun e w' => e = .returned (.int .i64 ((tb x i : Nat) : Int)) ∧ w' = w := by
  subst hz
  have hc := hR.cell
  have HS := Lib.hid hR.sb
  clear hR
  by_cases hlt : i < 8 * n
  · have hid : decide (8 * (n : Int) ≤ (i : Int)) = false := by simp; omega
    obtain ⟨q, hq⟩ : ∃ q, i / 8 = q := ⟨_, rfl⟩
    obtain ⟨s, hs⟩ : ∃ s, i % 8 = s := ⟨_, rfl⟩
    have e1 : (i : Int) / 8 = (q : Int) := by omega
    have e2 : (i : Int) % 8 = (s : Int) := by omega
    have e3 : (i : Int).tmod 8 = (s : Int) := by rw [Int.tmod_eq_emod_of_nonneg (by omega)]; exact e2
    have e4 : (i : Int).tdiv 8 = (q : Int) := by rw [Int.tdiv_eq_ediv_of_nonneg (by omega)]; exact e1
    have hqn : (q : Int) < (n : Int) := by omega
    obtain ⟨b, o, rfl, _, hb⟩ := HS.out.sl.get q (by omega)
    have E := Lib.hid (byte_bit x i q s hq hs)
    have hs8 : (s : Int) < 8 := by omega
    clear hlt hq hs
    go_enter Tryz.func127, Tryz.ntmps127
    go_wp2
    go_ret
    exact ⟨congrArg (fun n => Ending.returned (.int .i64 n)) E.out, rfl⟩
  · have hid : decide (8 * (n : Int) ≤ (i : Int)) = true := by simp; omega
    have E := Lib.hid (tb_over HS.out.fits (i := i) (by omega))
    clear hlt
    go_enter Tryz.func127, Tryz.ntmps127
    go_wp2
    go_ret
    exact ⟨by rw [E.out]; rfl, rfl⟩
theorem parts_v (a : Option Addr) (n c k : Nat) (w : World) (hn : n ≤ 1000000) (hk : 0 < k) (hk8 : k ≤ 8) (m : Nat) (hm : (8 * n + k - 1) / k = m) :
    Calls Tryz.prog 113 #[.slice a n c, .int .i64 (k : Int)] w fun e w' => e = .returned (.int .i64 (m : Int)) ∧ w' = w := by
  have e1 : (8 * (n : Int) + (k : Int) - 1) / (k : Int) = (m : Int) := by
    subst hm
    rw [← Int.ofNat_ediv_ofNat]
    congr 1
    omega
  have e2 : (8 * (n : Int) + (k : Int) - 1).tdiv (k : Int) = (m : Int) := by rw [Int.tdiv_eq_ediv_of_nonneg (by omega)]; exact e1
  have hk' : ((k : Int) == 0) = false := by simp; omega
  have hk0 : (k : Int) ≠ 0 := by omega
  have hmb : m ≤ 10000000 := by
    have := Nat.div_le_self (8 * n + k - 1) k
    omega
  clear hm
  go_enter Tryz.func113, Tryz.ntmps113
  go_wp2
  go_ret
  exact ⟨rfl, rfl⟩
theorem reader_v (a : Option Addr) (n c x : Nat) (w0 w : World) (l : List (Nat × Obj)) (h : Ow w0 w l) (_hs : Sb w w.heap.size a n c x) :
    Calls Tryz.prog 112 #[.slice a n c] w fun e w' => ∃ g, e = .returned (Bit g) ∧ Ow w0 w' ((g, Oc 39 (.slice a n c)) :: l) ∧ Below w.heap.size w w' := by
  go_enter Tryz.func112, Tryz.ntmps112
  go_wp2
  go_ret
  exact ⟨_, rfl, h.alloc _, below_alloc _ _⟩
theorem or_bit : ∀ k : Nat, k < 8 → ∀ s : Nat, s < 256 → ∀ b : Nat, b < 2 → s < 2 ^ k → bits .or .i64 (s : Int) (wrap64 ((b : Int) * 2 ^ k)) = ((s + b * 2 ^ k : Nat) : Int) := by decide +kernel
set_option maxRecDepth 8000 in
set_option maxHeartbeats 800000 in
theorem together_v {w : World} {g : Nat} {a : Option Addr} {n c x : Nat} (f p k : Nat) (zf zp : Int) (hzf : zf = (f : Int)) (hzp : zp = (p : Int)) (hR : RdB w g a n c x) (hn : n ≤ 100) (hf : f ≤ 10000) (hp : p ≤ 10000) (hk : k ≤ 8) :
    Calls Tryz.prog 114 #[Bit g, .int .i64 zf, .int .i64 zp, .int .i64 (k : Int)] w fun e w' => e = .returned (.int .i64 ((tog x f p k : Nat) : Int)) ∧ w' = w := by
  subst hzf hzp
  have HR := Lib.hid hR
  clear hR
  go_enter Tryz.func114, Tryz.ntmps114
  go_wp2_with fail
  go_loop [9, 12] (fun v9 v12 => ∃ i : Nat, i ≤ k ∧ v12 = .int .i64 i ∧ v9 = .int .i64 ((tog x f p i : Nat) : Int)) (fun _ v12 => k - (intOf v12).toNat)
  case atStart => exact ⟨0, by omega, rfl, rfl⟩
  case round =>
    obtain ⟨i, hi, rfl, rfl⟩ := hrel
    by_cases hlt : i < k
    · have hid : decide ((i : Int) < (k : Int)) = true := by simp; omega
      have hm : (i : Int) * (p : Int) = ((i * p : Nat) : Int) := by push_cast; rfl
      have hmb : i * p ≤ 80000 := Nat.le_trans (Nat.mul_le_mul (by omega : i ≤ 8) hp) (by omega)
      have hb := tb_lt x (f + i * p)
      have hs := tog_lt x f p i
      have hs2 : 2 ^ i ≤ 2 ^ 7 := Nat.pow_le_pow_right (by omega) (by omega)
      have E := Lib.hid (or_bit i (by omega) (tog x f p i) (by omega) (tb x (f + i * p)) hb hs)
      have ES : Hid (tog x f p (i + 1) = tog x f p i + tb x (f + i * p) * 2 ^ i) := Lib.hid rfl
      obtain ⟨q, hq⟩ : ∃ q, i * p = q := ⟨_, rfl⟩
      rw [hq] at hm hmb hb E ES
      clear hs2 hq
      go_wp2_with ((with_reducible refine (bit_v (f + q) ((f : Int) + (q : Int)) (by omega) HR.out (by omega) (by omega)).mono ?_); rintro e w' ⟨rfl, rfl⟩)
      go_round
      case rel => exact ⟨i + 1, by omega, by go_num, by rw [ES.out, ← E.out]⟩
      case measure => (simp [intOf] <;> omega)
    · obtain rfl : i = k := by omega
      have hid : decide ((i : Int) < (i : Int)) = false := by simp
      clear hlt
      go_wp2_with fail
      go_ret
      exact ⟨rfl, rfl⟩
end Go.Proofs.YtjcfoilfdmameaaGreatDoor

/-
  The contracts of digits.beyond and digits.asked. No statement is proved here: lemmas for the walks.
-/
namespace Go.Proofs.YtjcfoilfdmameaaGreatDoor
open Go.RowKit

set_option maxRecDepth 8000 in
set_option maxHeartbeats 800000 in
theorem beyond_v {w : World} {g : Nat} {a0 a1 a2 a3 a4 a5 a6 a7 : Int} {t : TypeId} (r : Int) (hr : (if a0 < a1 ∨ a2 < a0 then a3 else if a4 < a5 ∨ a6 < a4 then a7 else 0) = r) (hrow : w.heap[g]? = some (.cells #[.int .i64 a0, .int .i64 a1, .int .i64 a2, .int .i64 a3, .int .i64 a4, .int .i64 a5, .int .i64 a6, .int .i64 a7] t)) :
    Calls Tryz.prog 126 #[.slice (some ⟨g, 0, none⟩) 2 2] w fun e w' => e = .returned (.int .i64 r) ∧ Below w.heap.size w w' := by
  have hg := row_lt hrow
  have HR : Hid (∀ wr, Below w.heap.size w wr → wr.heap[g]? = some (.cells #[.int .i64 a0, .int .i64 a1, .int .i64 a2, .int .i64 a3, .int .i64 a4, .int .i64 a5, .int .i64 a6, .int .i64 a7] t)) := Lib.hid fun wr h => (h.block _ hg).trans hrow
  have ER := Lib.hid hr
  clear hrow hr
  go_enter Tryz.func126, Tryz.ntmps126
  go_wp2_with fail
  go_loopw [7] (fun v wr => ∃ i : Nat, i ≤ 2 ∧ v = .int .i64 i ∧ (0 < i → ¬ (a0 < a1 ∨ a2 < a0)) ∧ (1 < i → ¬ (a4 < a5 ∨ a6 < a4)) ∧ Below w.heap.size w wr) (fun v _ => 2 - (intOf v).toNat)
  case atStart => exact ⟨0, by omega, rfl, by omega, by omega, Below.refl _ _⟩
  case round =>
    obtain ⟨i, hi, rfl, h0, h1, hb⟩ := hrel
    have hrow := HR.out wr hb
    rcases (by omega : i = 0 ∨ i = 1 ∨ i = 2) with rfl | rfl | rfl
    · have c0 : wr.cell? ⟨g, 0, none⟩ = some (.int .i64 a0) := by rw [cell_of_row _ _ _ _ _ _ hrow]; rfl
      have c1 : wr.cell? ⟨g, 1, none⟩ = some (.int .i64 a1) := by rw [cell_of_row _ _ _ _ _ _ hrow]; rfl
      have c2 : wr.cell? ⟨g, 2, none⟩ = some (.int .i64 a2) := by rw [cell_of_row _ _ _ _ _ _ hrow]; rfl
      have c3 : wr.cell? ⟨g, 3, none⟩ = some (.int .i64 a3) := by rw [cell_of_row _ _ _ _ _ _ hrow]; rfl
      have HB := Lib.hid hb
      clear hrow hb h0 h1 hi
      by_cases hx : a0 < a1
      · have d0 : decide (a0 < a1) = true := by simpa using hx
        have E : Hid (a0 < a1 ∨ a2 < a0) := Lib.hid (.inl hx)
        clear hx
        go_wp2_with fail
        go_ret
        exact ⟨by rw [← ER.out, if_pos E.out]; rfl, HB.out.alloc (HB.out.size) _⟩
      · have d0 : decide (a0 < a1) = false := by simpa using hx
        by_cases hy : a2 < a0
        · have d1 : decide (a2 < a0) = true := by simpa using hy
          have E : Hid (a0 < a1 ∨ a2 < a0) := Lib.hid (.inr hy)
          clear hx hy
          go_wp2_with fail
          go_ret
          exact ⟨by rw [← ER.out, if_pos E.out]; rfl, HB.out.alloc (HB.out.size) _⟩
        · have d1 : decide (a2 < a0) = false := by simpa using hy
          have E : Hid (¬ (a0 < a1 ∨ a2 < a0)) := Lib.hid (fun h => h.elim hx hy)
          clear hx hy
          go_wp2_with fail
          go_roundw
          case rel => exact ⟨1, by omega, by go_num, fun _ => E.out, by omega, HB.out.alloc (HB.out.size) _⟩
          case measure => simp [intOf]
    · have c4 : wr.cell? ⟨g, 4, none⟩ = some (.int .i64 a4) := by rw [cell_of_row _ _ _ _ _ _ hrow]; rfl
      have c5 : wr.cell? ⟨g, 5, none⟩ = some (.int .i64 a5) := by rw [cell_of_row _ _ _ _ _ _ hrow]; rfl
      have c6 : wr.cell? ⟨g, 6, none⟩ = some (.int .i64 a6) := by rw [cell_of_row _ _ _ _ _ _ hrow]; rfl
      have c7 : wr.cell? ⟨g, 7, none⟩ = some (.int .i64 a7) := by rw [cell_of_row _ _ _ _ _ _ hrow]; rfl
      have HB := Lib.hid hb
      have HN := Lib.hid (h0 (by omega))
      clear hrow hb h0 h1 hi
      by_cases hx : a4 < a5
      · have d0 : decide (a4 < a5) = true := by simpa using hx
        have E : Hid (a4 < a5 ∨ a6 < a4) := Lib.hid (.inl hx)
        clear hx
        go_wp2_with fail
        go_ret
        exact ⟨by rw [← ER.out, if_neg HN.out, if_pos E.out]; rfl, HB.out.alloc (HB.out.size) _⟩
      · have d0 : decide (a4 < a5) = false := by simpa using hx
        by_cases hy : a6 < a4
        · have d1 : decide (a6 < a4) = true := by simpa using hy
          have E : Hid (a4 < a5 ∨ a6 < a4) := Lib.hid (.inr hy)
          clear hx hy
          go_wp2_with fail
          go_ret
          exact ⟨by rw [← ER.out, if_neg HN.out, if_pos E.out]; rfl, HB.out.alloc (HB.out.size) _⟩
        · have d1 : decide (a6 < a4) = false := by simpa using hy
          have E : Hid (¬ (a4 < a5 ∨ a6 < a4)) := Lib.hid (fun h => h.elim hx hy)
          clear hx hy
          go_wp2_with fail
          go_roundw
          case rel => exact ⟨2, by omega, by go_num, fun _ => HN.out, fun _ => E.out, HB.out.alloc (HB.out.size) _⟩
          case measure => simp [intOf]
    · have HN := Lib.hid (h0 (by omega))
      have HM := Lib.hid (h1 (by omega))
      have HB := Lib.hid hb
      clear hrow hb h0 h1 hi
      go_wp2_with fail
      go_ret
      exact ⟨by rw [← ER.out, if_neg HN.out, if_neg HM.out]; rfl, HB.out⟩
/-- What is wrong with bytes, or with how they are to be cut. -/
def ask (n : Nat) (k least : Int) : Int := if 64 < n then 11 else if k < least ∨ 8 < k then 10 else 0
theorem ask_eq (n : Nat) (k least : Int) : (if (n : Int) < 0 ∨ (64 : Int) < (n : Int) then (11 : Int) else if k < least ∨ 8 < k then 10 else 0) = ask n k least := by
  unfold ask
  by_cases h : 64 < n
  · rw [if_pos (by omega), if_pos h]
  · rw [if_neg (by omega), if_neg h]
set_option maxRecDepth 8000 in
set_option maxHeartbeats 800000 in
theorem asked_v (a : Option Addr) (n c : Nat) (k least : Int) (w : World) :
    Calls Tryz.prog 111 #[.slice a n c, .int .i64 k, .int .i64 least] w fun e w' => e = .returned (.int .i64 (ask n k least)) ∧ Below w.heap.size w w' := by
  have E := Lib.hid (ask_eq n k least)
  generalize ask n k least = r at *
  go_enter Tryz.func111, Tryz.ntmps111
  go_wp2_with ((with_reducible refine (beyond_v r E.out (heap_alloc_last _ _)).mono ?_); rintro e w' ⟨rfl, hb⟩; have HB := Lib.hid ((below_alloc _ _).trans (hb.mono (by simp))); clear hb)
  go_ret
  exact ⟨rfl, HB.out⟩
end Go.Proofs.YtjcfoilfdmameaaGreatDoor

/-
  The contracts of digits.Columns. No statement is proved here: lemmas for the walks.
-/
namespace Go.Proofs.YtjcfoilfdmameaaGreatDoor
open Go.RowKit












set_option maxRecDepth 8000 in
set_option maxHeartbeats 1600000 in
theorem columns_v (a : Option Addr) (n c x k m : Nat) (w : World) (hn : n ≤ 64) (hk : 1 ≤ k) (hk8 : k ≤ 8) (hm : (8 * n + k - 1) / k = m) (hs : Sb w w.heap.size a n c x) :
    Calls Tryz.prog 88 #[.slice a n c, .int .i64 (k : Int)] w fun e w' => ∃ g, e = .returned (.tuple #[.slice (some ⟨g, 0, none⟩) m m, .int .i64 0]) ∧ w.heap.size ≤ g ∧ w'.heap[g]? = some (Blk 3 .i64 m fun i => ((tog x i m k : Nat) : Int)) ∧ Below w.heap.size w w' := by
  have E : Hid (ask n (k : Int) 1 = 0) := Lib.hid (by unfold ask; rw [if_neg (by omega), if_neg (by omega)])
  have HS := Lib.hid hs
  have HM := Lib.hid hm
  have hmb : m ≤ 600 := by
    have := Nat.div_le_self (8 * n + k - 1) k
    omega
  have hmk : m * k ≤ 600 := by
    have := Nat.div_mul_le_self (8 * n + k - 1) k
    rw [hm] at this
    omega
  have HK : Hid (∀ i, i < m → i * k ≤ 600) := Lib.hid fun i hi => Nat.le_trans (Nat.mul_le_mul_right k (by omega)) hmk
  clear hs hm hmk
  have H := Lib.hid (Ow.start w)
  go_enter Tryz.func88, Tryz.ntmps88
  go_wp2_with (first
    | ((with_reducible refine (asked_v a n c (k : Int) 1 _).mono ?_); rintro e wa ⟨rfl, hb⟩; rw [E.out]; replace H := Lib.hid (H.out.call hb); clear hb)
    | ((with_reducible refine (reader_v a n c x w _ _ H.out (HS.out.call H.out.bel)).mono ?_); rintro e wb ⟨g1, rfl, hO, _⟩; replace H := Lib.hid hO; clear hO)
    | ((with_reducible refine (parts_v a n c k _ (by omega) (by omega) hk8 m HM.out).mono ?_); rintro e wc ⟨rfl, rfl⟩)
    | ((with_reducible apply own_makeI (n := m) H); (case hgd => exact rfl); (case ho => exact rfl); (case hx => exact rfl); (case hy => exact rfl); (case hc => omega); intro wd g2 H' _ _; replace H := H'; clear H'; go_simp))
  go_loopw [25] (fun v wr => ∃ i : Nat, i ≤ m ∧ v = .int .i64 i ∧ Ow w wr [(g2, Blk 3 .i64 m (mix i (fun i => ((tog x i m k : Nat) : Int)) fun _ => 0)), (g1, Oc 39 (.slice a n c))]) (fun v _ => m - (intOf v).toNat)
  case atStart => exact ⟨0, by omega, rfl, by rw [mix_zero]; exact H.out⟩
  case round =>
    clear H
    obtain ⟨i, hi, rfl, HO⟩ := hrel
    have H := Lib.hid HO
    clear HO
    by_cases hlt : i < m
    · have hid : decide ((i : Int) < (m : Int)) = true := by simp; omega
      have hik := HK.out i hlt
      have EQ : Hid (tog x i m k = tog x i m k) := Lib.hid (rfl)
      have EM := mixO_upd i (fun i => ((tog x i m k : Nat) : Int)) (fun _ => 0)
      have HE := Lib.hid EM
      have hlt' : (i : Int) < (m : Int) := by omega
      clear EM hi
      go_wp2_with (first
        | ((with_reducible refine (together_v i m k (i : Int) (m : Int) rfl (by omega) ⟨H.out.oc 1 rfl, HS.out.call H.out.bel⟩ (by omega) (by omega) (by omega) hk8).mono ?_); rintro e wc ⟨rfl, rfl⟩; rw [EQ.out])
        | ((with_reducible apply own_put oneIz H); (case hgd => exact rfl); (case ho => exact rfl); (case hx => exact rfl); (case hy => exact rfl); (case hi => exact at0); (case hj => omega); intro ws H' _ _; replace H := H'; clear H'; simp only [List.set_cons_zero] at H; rw [HE.out] at H; go_simp))
      go_roundw
      case rel => exact ⟨i + 1, by omega, by go_num, H.out⟩
      case measure => simp [intOf]; omega
    · obtain rfl : m = i := by omega
      have hid : decide ((m : Int) < (m : Int)) = false := by simp
      clear hlt hi HM
      go_wp2_with fail
      go_ret2
      have H2 := H.out.like 0 (g := fun i => ((tog x i m k : Nat) : Int)) rfl fun j hj => mix_all _ _ _ _ hj
      simp only [List.set_cons_zero] at H2
      exact ⟨_, rfl, H2.ge 0 rfl, H2.row 0 rfl, H2.bel⟩
end Go.Proofs.YtjcfoilfdmameaaGreatDoor
