/-
  Lemmas for the walks, several texts in one. No statement is proved here.
-/
import Derived.Test.YtckmboebipbpbaaDoorBuQ
import Derived.Test.YtckmboebipbpbaaDoorBuH
import Derived.Test.YtckmboebipbpbaaDoorBuN
/-
  What a secret number and u's bytes come to, as numbers. Plain mathematics, no program. No statement is proved here.
-/
namespace Go.Proofs.YtckmboebipbpbaaDoor
open Go.RowKit

/-- What scalar.Clamp makes of 56 bytes. -/
def clB (f : Nat → BitVec 8) : Nat → BitVec 8 := upd8 (fun i => if i < 55 then f i else if i = 55 then f 55 ||| 128 else 0) 0 (f 0 &&& ~~~3)
/-- A secret number, clamped. -/
def clN (x : Nat) : Nat := nB (clB (bt x)) 56
theorem clN_lt (x : Nat) : clN x < 2 ^ (8 * 56) := by
  have h := nB_lt (clB (bt x)) 56
  rw [show (256 : Nat) = 2 ^ 8 from rfl, ← Nat.pow_mul] at h
  exact h
theorem clN_bt (x : Nat) {i : Nat} (h : i < 56) : clB (bt x) i = bt (clN x) i := by
  have e := bX_nB (clB (bt x)) 56 i h
  rw [bX_bt] at e
  exact e.symm
/-- Two secret numbers that are clamped to one. -/
theorem clN_same {x y : Nat} (h : ∀ i, i < 56 → i ≠ 0 → i ≠ 55 → bt x i = bt y i) (h0 : bt x 0 &&& ~~~3 = bt y 0 &&& ~~~3) (h1 : bt x 55 ||| 128 = bt y 55 ||| 128) : clN x = clN y := by
  have e : ∀ i, i < 56 → clB (bt x) i = clB (bt y) i := fun i hi => by
    unfold clB upd8
    by_cases e0 : i = 0
    · rw [if_pos e0, if_pos e0, h0]
    · rw [if_neg e0, if_neg e0]
      by_cases e1 : i = 55
      · subst e1
        exact h1
      · have e2 : i < 55 := by omega
        show (if i < 55 then bt x i else _) = (if i < 55 then bt y i else _)
        rw [if_pos e2, if_pos e2, h i hi e0 e1]
  unfold clN
  exact nB_congr 56 e
/-- How many bytes X448 answers, and which error. -/
def lnR (R : K) : Nat := if R = 0 then 0 else 56
def erR (R : K) : Int := if R = 0 then 15 else 0
theorem lnR_zero : lnR 0 = 0 := if_pos rfl
theorem erR_zero : erR 0 = 15 := if_pos rfl
theorem lnR_ne {R : K} (h : R ≠ 0) : lnR R = 56 := if_neg h
theorem erR_ne {R : K} (h : R ≠ 0) : erR R = 0 := if_neg h
theorem res_or (R : K) : (R = 0 ∧ lnR R = 0 ∧ erR R = 15) ∨ (R ≠ 0 ∧ lnR R = 56 ∧ erR R = 0) := by
  by_cases h : R = 0
  · exact .inl ⟨h, by rw [h, lnR_zero], by rw [h, erR_zero]⟩
  · exact .inr ⟨h, lnR_ne h, erR_ne h⟩
/-- What two come to is the same. -/
theorem meets (u : K) (a b : Nat) : ldV (ldV u a) b = ldV (ldV u b) a := ldV_swap u a b

end Go.Proofs.YtckmboebipbpbaaDoor

/-
  Bytes built as a slice, as a row that is a number; a slice made, in a region that draws its order. No statement is proved here: lemmas for the walks.
-/
namespace Go.Proofs.YtckmboebipbpbaaDoor
open Go.RowKit

theorem yb_sb {w : World} {g n x : Nat} (h : w.heap[g]? = some (YB n (bt x))) (hx : x < 2 ^ (8 * n)) : Sb w w.heap.size (some ⟨g, 0, none⟩) n n x := ⟨(blk_rowB h).sl, hx⟩
theorem yb_nought {w : World} {g n : Nat} (h : w.heap[g]? = some (YB n fun _ => 0)) : Sb w w.heap.size (some ⟨g, 0, none⟩) n n 0 :=
  ⟨(blk_rowB h).sl.congr fun i _ => (bt_zero i).symm, Nat.two_pow_pos _⟩
theorem sb_none (w : World) : Sb w w.heap.size none 0 0 0 := ⟨⟨Nat.le_refl _, fun _ => rfl, fun _ e _ => by cases e⟩, by decide⟩
theorem az_1 (f : Nat → BitVec 8) : (#[U (f 0)] : Array Value) = AZ .u8 1 (UB f) := by
  apply Array.ext_getElem?
  intro j
  by_cases hj : j < 1
  · rw [AZ_get _ _ _ _ hj]
    obtain rfl : j = 0 := by omega
    rfl
  · rw [Array.getElem?_eq_none (by simp; omega), Array.getElem?_eq_none (by rw [AZ_size]; omega)]
theorem az_2 (f : Nat → BitVec 8) : (#[U (f 0), U (f 1)] : Array Value) = AZ .u8 2 (UB f) := by
  apply Array.ext_getElem?
  intro j
  by_cases hj : j < 2
  · rw [AZ_get _ _ _ _ hj]
    rcases (by omega : j = 0 ∨ j = 1) with rfl | rfl <;> rfl
  · rw [Array.getElem?_eq_none (by simp; omega), Array.getElem?_eq_none (by rw [AZ_size]; omega)]
theorem az_4 (f : Nat → BitVec 8) : (#[U (f 0), U (f 1), U (f 2), U (f 3)] : Array Value) = AZ .u8 4 (UB f) := by
  apply Array.ext_getElem?
  intro j
  by_cases hj : j < 4
  · rw [AZ_get _ _ _ _ hj]
    rcases (by omega : j = 0 ∨ j = 1 ∨ j = 2 ∨ j = 3) with rfl | rfl | rfl | rfl <;> rfl
  · rw [Array.getElem?_eq_none (by simp; omega), Array.getElem?_eq_none (by rw [AZ_size]; omega)]
section
variable {ops : Array Oper} {rest : List Oper} {o : Oper} {a : Act} {w w0 : World} {l : List (Nat × Obj)} {Q : Exit → Act → World → Prop}
theorem lay_b1 {x : Nat} (H : Hid (Ow w0 w l)) (hgd : o.guard = none) {p0 : Operand} (ho : o.op = .buildSlice 44 1 #[(0, p0)]) (h0 : a.eval p0 = U (bt x 0))
    (h : ∀ w' g, Hid (Ow w0 w' ((g, YB 1 (bt x)) :: l)) → ∀ K : Act → World → Prop, (∀ a w, wpList Tryd.prog ops Q rest a w → K a w) → K (a.put o.dst (.slice (some ⟨g, 0, none⟩) 1 1)) w') : wpList Tryd.prog ops Q (o :: rest) a w :=
  wpList_plain hgd fun K hK => by
    obtain ⟨i, hi, hz, hs, _⟩ := info_u8
    have e := az_1 (bt x)
    refine Go.wp_buildSlice 44 5 1 _ ho #[U (bt x 0)] i _ Tryd.underlying44 hi hz (by rw [hs]; decide) (by rw [hs]; decide) (by rw [hs]; simp [Instr.fill, h0, Array.range, Value.cells]; exact Array.ext (by simp) (fun j h1 h2 => by obtain rfl : j = 0 := (by simpa using h2); simp)) ?_
    rw [e]
    exact h _ _ (Lib.hid (H.out.alloc _)) K hK
theorem lay_b2 {x : Nat} (H : Hid (Ow w0 w l)) (hgd : o.guard = none) {p0 p1 : Operand} (ho : o.op = .buildSlice 44 2 #[(0, p0), (1, p1)]) (h0 : a.eval p0 = U (bt x 0)) (h1 : a.eval p1 = U (bt x 1))
    (h : ∀ w' g, Hid (Ow w0 w' ((g, YB 2 (bt x)) :: l)) → ∀ K : Act → World → Prop, (∀ a w, wpList Tryd.prog ops Q rest a w → K a w) → K (a.put o.dst (.slice (some ⟨g, 0, none⟩) 2 2)) w') : wpList Tryd.prog ops Q (o :: rest) a w :=
  wpList_plain hgd fun K hK => by
    obtain ⟨i, hi, hz, hs, _⟩ := info_u8
    have e := az_2 (bt x)
    refine Go.wp_buildSlice 44 5 2 _ ho #[U (bt x 0), U (bt x 1)] i _ Tryd.underlying44 hi hz (by rw [hs]; decide) (by rw [hs]; decide) (by rw [hs]; simp [Instr.fill, h0, h1, Array.range, Value.cells]; exact Array.ext (by simp) (fun j h1 h2 => by rcases (by have : j < 2 := (by simpa using h2); omega : j = 0 ∨ j = 1) with rfl | rfl <;> simp)) ?_
    rw [e]
    exact h _ _ (Lib.hid (H.out.alloc _)) K hK
theorem lay_b4 {x : Nat} (H : Hid (Ow w0 w l)) (hgd : o.guard = none) {p0 p1 p2 p3 : Operand} (ho : o.op = .buildSlice 44 4 #[(0, p0), (1, p1), (2, p2), (3, p3)]) (h0 : a.eval p0 = U (bt x 0)) (h1 : a.eval p1 = U (bt x 1)) (h2 : a.eval p2 = U (bt x 2)) (h3 : a.eval p3 = U (bt x 3))
    (h : ∀ w' g, Hid (Ow w0 w' ((g, YB 4 (bt x)) :: l)) → ∀ K : Act → World → Prop, (∀ a w, wpList Tryd.prog ops Q rest a w → K a w) → K (a.put o.dst (.slice (some ⟨g, 0, none⟩) 4 4)) w') : wpList Tryd.prog ops Q (o :: rest) a w :=
  wpList_plain hgd fun K hK => by
    obtain ⟨i, hi, hz, hs, _⟩ := info_u8
    have e := az_4 (bt x)
    refine Go.wp_buildSlice 44 5 4 _ ho #[U (bt x 0), U (bt x 1), U (bt x 2), U (bt x 3)] i _ Tryd.underlying44 hi hz (by rw [hs]; decide) (by rw [hs]; decide) (by rw [hs]; simp [Instr.fill, h0, h1, h2, h3, Array.range, Value.cells]; exact Array.ext (by simp) (fun j h1 h2 => by rcases (by have : j < 4 := (by simpa using h2); omega : j = 0 ∨ j = 1 ∨ j = 2 ∨ j = 3) with rfl | rfl | rfl | rfl <;> simp)) ?_
    rw [e]
    exact h _ _ (Lib.hid (H.out.alloc _)) K hK
end
section
variable {o : Oper} {a : Act} {w w0 : World} {l : List (Nat × Obj)} {K : Act → World → Prop} {Q : Exit → Act → World → Prop}
theorem own_wp_makeB (dd : Tmp) (hd : o.dst = some dd) (H : Ow w0 w l) {x y : Operand} (ho : o.op = .makeSlice 44 x y) {m : Nat} (hx : a.eval x = .int .i64 (m : Int)) (hy : a.eval y = .int .i64 (m : Int)) (hc : m ≤ 1000000)
    (h : ∀ w' g, Ow w0 w' ((g, YB m fun _ => 0) :: l) → Below w.heap.size w w' → K (a.put (some dd) (.slice (some ⟨g, 0, none⟩) m m)) w') : o.wp Tryd.prog a w K Q := by
  have e := run_make_u8 w m m (Nat.le_refl _) hc
  rw [AB_AZ] at e
  unfold Oper.wp execOp
  simp only [ho, hx, hy, Sem.run_bind, e, Result.andThen_ok]
  rw [← hd] at h
  exact h _ _ (H.alloc _) (below_alloc _ _)
end
end Go.Proofs.YtckmboebipbpbaaDoor

/-
  Bytes appended onto nil: the new row, to its last cell. No statement is proved here: lemmas for the walks.
-/
namespace Go.Proofs.YtckmboebipbpbaaDoor
open Go.RowKit

section
variable {ops : Array Oper} {rest : List Oper} {o : Oper} {a : Act} {w w0 : World} {l : List (Nat × Obj)} {Q : Exit → Act → World → Prop}
/-- Onto nil is appended: the new row, to the last cell. -/
theorem own_new (H : Hid (Ow w0 w l)) (hgd : o.guard = none) {s x : Operand} (ho : o.op = .call { callee := .builtin .append, args := #[s, x], argTypes := #[44, 44] }) (hs : a.eval s = .slice none 0 0) {ad : Option Addr} {n c : Nat} (hx : a.eval x = .slice ad n c)
    {f : Nat → BitVec 8} (hS : Sl w w.heap.size ad n c f) (h0 : ∀ j, n ≤ j → f j = 0) (hn : 0 < n) (hl : n ≤ 1000000)
    (h : ∀ w' g cap, Hid (n ≤ cap) → Hid (Ow w0 w' ((g, YB cap f) :: l)) → ∀ K : Act → World → Prop, (∀ a w, wpList Tryd.prog ops Q rest a w → K a w) → K (a.put o.dst (.slice (some ⟨g, 0, none⟩) n cap)) w') : wpList Tryd.prog ops Q (o :: rest) a w :=
  wpList_plain hgd fun K hK => by
    obtain ⟨i, hi, hz, hs1, hb⟩ := info_u8
    obtain ⟨b, off, rfl, _, _⟩ := hS.get 0 hn
    have hg2 := grownCap_ge w n 0 5
    have hcell : ∀ j, j < n → w.cell? ⟨b, off + j, none⟩ = some (.int .u8 (UB f j)) := fun j hj => by
      obtain ⟨b1, o1, e1, _, hc⟩ := hS.get j hj
      cases e1
      exact hc
    have hr := run_append_nil (P := Tryd.prog) w 44 o.type 5 i (.int .u8 0) Tryd.underlying44 hi hz ⟨b, off, none⟩ n c (AZ .u8 n (UB f)).toList (by rw [hs1, Nat.mul_one]; exact (AZ_list _ _ _).1) (list_cell hcell) hn (by omega) (by rw [hb]; omega)
    have e := AZ_grown (k := .u8) (f := UB f) (n := 0) (m := n) (cap := grownCap w n 0 5) (z := .int .u8 0) rfl rfl [] (AZ .u8 n (UB f)).toList rfl (AZ_list _ _ _).1 (fun j hj => absurd hj (by omega)) (fun j hj => by rw [Nat.zero_add]; exact (AZ_list _ n _).2 j hj) (fun j hj => by unfold UB; rw [h0 j (by omega)]; rfl) (by omega)
    rw [Nat.zero_add, show ([] : List Value).toArray = #[] from rfl, Array.empty_append] at e
    rw [e] at hr
    exact Lib.wp_append_run w s x _ _ ho _ _ hs hx _ _ hr (h _ _ _ (Lib.hid hg2) (Lib.hid (H.out.grew _)) K hK)
end
end Go.Proofs.YtckmboebipbpbaaDoor

/-
  The contract of chicoryref06's Clamp, of 56 bytes. No statement is proved here: lemmas for the walks.
-/
namespace Go.Proofs.YtckmboebipbpbaaDoor
open Go.RowKit

theorem ru8_four (a : BitVec 8) : (U8 a).tdiv 4 % 256 * 4 % 256 = U8 (a &&& ~~~3) := by
  revert a
  decide +kernel
theorem ru8_top (a : BitVec 8) : ((U8 a).tmod 128 + 128) % 256 = U8 (a ||| 128) := by
  revert a
  decide +kernel
theorem rru8_topp (a : BitVec 8) : ((U8 a).tmod 128 % 256 + 128) % 256 = U8 (a ||| 128) := by
  revert a
  decide +kernel
set_option maxRecDepth 8000 in
set_option maxHeartbeats 3200000 in
theorem rclamp_56 (a : Option Addr) (c : Nat) (f : Nat → BitVec 8) (w : World) (hs : Sl w w.heap.size a 56 c f) :
    Calls Tryd.prog 52 #[.slice a 56 c] w fun e w' => ∃ a' c', e = .returned (.slice a' 56 c') ∧ Sl w' w'.heap.size a' 56 c' (clB f) ∧ Below w.heap.size w w' := by
  obtain ⟨F, hF⟩ : ∃ F : Nat → BitVec 8, F = fun j => if j < 56 then f j else 0 := ⟨_, rfl⟩
  have hf0 : F 0 = f 0 := by rw [hF]; rfl
  have hf55 : upd8 F 0 (f 0 &&& ~~~3) 55 = f 55 := by rw [hF]; rfl
  have HZ : Hid (∀ j, 56 ≤ j → F j = 0) := Lib.hid fun j hj => by rw [hF]; show (if j < 56 then f j else 0) = 0; rw [if_neg (by omega)]
  have HS : Hid (Sl w w.heap.size a 56 c F) := Lib.hid ⟨hs.le, hs.nil, fun ad e h0 => by
    obtain ⟨b, o, e', hb, hc⟩ := hs.low ad e h0
    exact ⟨b, o, e', hb, fun j hj => by rw [hc j hj, hF]; show some (U (f j)) = some (U (if j < 56 then f j else 0)); rw [if_pos hj]⟩⟩
  have HE : Hid (∀ j, upd8 (upd8 F 0 (f 0 &&& ~~~3)) 55 (f 55 ||| 128) j = clB f j) := Lib.hid fun j => by
    rw [hF]
    unfold clB upd8
    by_cases h0 : j = 0
    · subst h0; rfl
    · by_cases h55 : j = 55
      · subst h55; rfl
      · skip
        skip
        simp only [h0, h55, if_false]
        by_cases h : j < 55
        · rw [if_pos h, if_pos (by omega)]
        · rw [if_neg h, if_neg (by omega)]
  clear hs hF
  have H := Lib.hid (Ow.start w)
  go_enter Tryd.func52, Tryd.ntmps52
  go_wp2_with (first
    | ((with_reducible apply own_new (f := F) (n := 56) H); (case hgd => exact rfl); (case ho => exact rfl); (case hs => exact rfl); (case hx => exact rfl); (case hS => exact HS.out); (case h0 => exact HZ.out); (case hn => omega); (case hl => omega); intro wz gz cap HCap H' _ _; replace H := H'; clear H'; go_simp)
    | ((with_reducible apply own_getb H); (case hgd => exact rfl); (case ho => exact rfl); (case hx => exact rfl); (case hi => exact at0); (case hj => have := HCap.out; omega); intro _ _; (try rw [hf0]); (try rw [hf55]); go_simp)
    | ((with_reducible apply own_putb (v := f 0 &&& ~~~3) H); (case hgd => exact rfl); (case ho => exact rfl); (case hx => exact rfl); (case hy => exact congrArg (Value.int .u8) (ru8_four _)); (case hi => exact at0); (case hj => have := HCap.out; omega); intro ws H' _ _; replace H := H'; clear H'; simp only [List.set_cons_zero] at H; go_simp)
    | ((with_reducible apply own_putb (v := f 55 ||| 128) H); (case hgd => exact rfl); (case ho => exact rfl); (case hx => exact rfl); (case hy => first | exact congrArg (Value.int .u8) (ru8_top _) | exact congrArg (Value.int .u8) (rru8_topp _)); (case hi => exact at0); (case hj => have := HCap.out; omega); intro ws H' _ _; replace H := H'; clear H'; simp only [List.set_cons_zero] at H; go_simp))

  go_ret
  replace H := Lib.hid (H.out.like 0 (g := UB (clB f)) rfl fun j _ => congrArg U8 (HE.out j))
  simp only [List.set_cons_zero] at H
  exact ⟨_, _, rfl, H.out.slb 0 rfl HCap.out HCap.out, H.out.bel⟩
theorem rclamp_x {a : Option Addr} {c x : Nat} (w : World) (hs : Sb w w.heap.size a 56 c x) :
    Calls Tryd.prog 52 #[.slice a 56 c] w fun e w' => ∃ a' c', e = .returned (.slice a' 56 c') ∧ Sb w' w'.heap.size a' 56 c' (clN x) ∧ Below w.heap.size w w' :=
  (rclamp_56 a c (bt x) w hs.sl).mono fun _ _ ⟨a', c', h, h2, hb⟩ => ⟨a', c', h, ⟨h2.congr fun _ hi => clN_bt x hi, clN_lt x⟩, hb⟩
end Go.Proofs.YtckmboebipbpbaaDoor
