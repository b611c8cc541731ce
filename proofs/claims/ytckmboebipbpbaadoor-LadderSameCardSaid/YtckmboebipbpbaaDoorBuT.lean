/-
  Lemmas for the walks, several texts in one. No statement is proved here.
-/
import Derived.Test.YtckmboebipbpbaaDoorBuN
/-
  The contracts of scalar.sized, read, L, Bytes, Reduce, Decode. No statement is proved here: lemmas for the walks.
-/
namespace Go.Proofs.YtckmboebipbpbaaDoor
open Go.RowKit

/-- What sized answers: the function that asks, and what it holds. -/
def Asks (w : World) (v : Value) (f g : Int) : Prop := ∃ gf gg, v = .func (.func 100) #[] #[.pointer (some ⟨gf, 0, none⟩), .pointer (some ⟨gg, 0, none⟩)] ∧ w.cell? ⟨gf, 0, none⟩ = some (.int .i64 f) ∧ w.cell? ⟨gg, 0, none⟩ = some (.int .i64 g)
theorem sized_v (f g : Int) (w : World) :
    Calls Tryd.prog 86 #[.int .i64 f, .int .i64 g] w fun e w' => ∃ v, e = .returned v ∧ Asks w' v f g ∧ Below w.heap.size w w' := by
  go_enter Tryd.func86, Tryd.ntmps86
  go_wp2
  go_ret
  exact ⟨_, rfl, ⟨_, _, rfl, by simp, by simp⟩, ((Below.refl _ _).alloc (Nat.le_refl _) _).alloc (by simp) _⟩
/-- Whether so many bytes are right. -/
def szE (n : Nat) (f g : Int) : Int := if (n : Int) < f ∨ g < (n : Int) then 11 else 0

theorem szE_ok {n : Nat} {f g : Int} (h1 : f ≤ (n : Int)) (h2 : (n : Int) ≤ g) : szE n f g = 0 := by unfold szE; rw [if_neg (by omega)]
theorem ask_v (n c : Nat) (a : Option Addr) (gf gg : Nat) (f g : Int) (w : World) (hf : w.cell? ⟨gf, 0, none⟩ = some (.int .i64 f)) (hg : w.cell? ⟨gg, 0, none⟩ = some (.int .i64 g)) :
    Calls Tryd.prog 100 #[.slice a n c, .pointer (some ⟨gf, 0, none⟩), .pointer (some ⟨gg, 0, none⟩)] w fun e w' => e = .returned (.int .i64 (szE n f g)) ∧ w' = w := by
  by_cases h1 : (n : Int) < f
  · have d1 : decide ((n : Int) < f) = true := by simpa using h1
    have HE : Hid (szE n f g = 11) := Lib.hid (by unfold szE; rw [if_pos (.inl h1)])
    clear h1
    go_enter Tryd.func100, Tryd.ntmps100
    go_wp2
    go_ret
    exact ⟨by rw [HE.out]; rfl, rfl⟩
  · have d1 : decide ((n : Int) < f) = false := by simpa using h1
    by_cases h2 : g < (n : Int)
    · have d2 : decide (g < (n : Int)) = true := by simpa using h2
      have HE : Hid (szE n f g = 11) := Lib.hid (by unfold szE; rw [if_pos (.inr h2)])
      clear h1 h2
      go_enter Tryd.func100, Tryd.ntmps100
      go_wp2
      go_ret
      exact ⟨by rw [HE.out]; rfl, rfl⟩
    · have d2 : decide (g < (n : Int)) = false := by simpa using h2
      have HE : Hid (szE n f g = 0) := Lib.hid (by unfold szE; rw [if_neg (by omega)])
      clear h1 h2
      go_enter Tryd.func100, Tryd.ntmps100
      go_wp2
      go_ret
      exact ⟨by rw [HE.out]; rfl, rfl⟩
end Go.Proofs.YtckmboebipbpbaaDoor

/-
  The contract of scalar.Clamp. No statement is proved here: lemmas for the walks.
-/
namespace Go.Proofs.YtckmboebipbpbaaDoor
open Go.RowKit

/-- What Clamp makes of bytes. -/
def clF (f : Nat → BitVec 8) : Nat → BitVec 8 := upd8 (fun i => if i < 55 then f i else if i = 55 then f 55 ||| 128 else 0) 0 (f 0 &&& ~~~3)
theorem clF_over (f : Nat → BitVec 8) (j : Nat) (h : 56 ≤ j) : clF f j = 0 := by
  unfold clF upd8
  rw [if_neg (by omega)]
  show (if j < 55 then f j else if j = 55 then f 55 ||| 128 else 0) = 0
  rw [if_neg (by omega), if_neg (by omega)]
@[go_sem] theorem u8_andNot3 (a : BitVec 8) : bits .andNot .u8 (U8 a) 3 = U8 (a &&& ~~~3) := by
  revert a
  decide +kernel
@[go_sem] theorem u8_or128 (a : BitVec 8) : bits .or .u8 (U8 a) 128 = U8 (a ||| 128) := by
  revert a
  decide +kernel
section
variable {w w0 : World} {l : List (Nat × Obj)}
/-- Noughts are appended to a row that has nothing but noughts behind. -/
theorem own_more {g n m cap N : Nat} {f : Nat → BitVec 8} (H : Ow w0 w l) (i : Nat) (hi : l[i]? = some (g, YB N f)) (hn : n ≤ N) (hc : N = cap) (h0 : ∀ j, n ≤ j → f j = 0) (hl : n + m ≤ 1000000) (hm : m ≤ 1) (ty : TypeId) :
    ∃ a' c' w', (Builtin.append_ #[44, 3] ty #[.slice (some ⟨g, 0, none⟩) n cap, .int .i64 (m : Int)]).run Tryd.prog w = .ok (.slice a' (n + m) c') w' ∧ Sl w' w'.heap.size a' (n + m) c' f ∧ Below w0.heap.size w0 w' := by
  subst hc
  by_cases hr : n + m ≤ N
  · obtain ⟨ie, hie, hz, hs1, hb⟩ := info_u8
    rcases (by omega : m = 0 ∨ m = 1) with rfl | rfl
    · refine ⟨some ⟨g, 0, none⟩, N, w, ?_, H.slb i hi hr hr, H.bel⟩
      have hw : IntKind.i64.wrap 0 = 0 := by rw [IntKind.wrap_i64]; rfl
      simp [Builtin.append_, run_underlying Tryd.underlying44, run_underlying Tryd.underlying3, sizeOf, typeInfo, hie, hb, asInt, asIntOf, hw, hn, storeCells]
    · have hrow : w.heap[g]? = some (.cells (AZ .u8 N (UB f)) 5) := H.row i hi
      have hst := run_storeCells_at Tryd.prog g n 5 [.int .u8 0] 0 (AZ .u8 N (UB f)) w hrow (by rw [AZ_size]; simp; omega) (fun v hv => by simp at hv; subst hv; rfl)
      have e : ((AZ .u8 N (UB f)).toList.take (n + 0) ++ [Value.int .u8 0] ++ (AZ .u8 N (UB f)).toList.drop (n + 0 + 1)).toArray = AZ .u8 N (UB f) := by
        have h1 := AZ_mid .u8 N (UB f) (fun _ => 0) n 1 (by omega)
        rw [AZ_single, layZ_one] at h1
        rw [Nat.add_zero, h1]
        refine AZ_congr fun j _ => ?_
        unfold updZ
        by_cases hj : j = n
        · rw [if_pos hj]; subst hj; unfold UB; rw [h0 _ (Nat.le_refl _)]; rfl
        · rw [if_neg hj]
      rw [show ([Value.int .u8 0] : List Value).length = 1 from rfl, e] at hst
      have hO := H.setRow i hi (UB f)
      have hw : IntKind.i64.wrap 1 = 1 := by rw [IntKind.wrap_i64]; rfl
      refine ⟨some ⟨g, 0, none⟩, N, w.setRow g (AZ .u8 N (UB f)), ?_, hO.slb i (set_at hi) hr hr, hO.bel⟩
      have hz1 : Builtin.zeroCells (Value.int .u8 0).cells 1 = #[.int .u8 0] := by
        apply Array.ext_getElem?
        intro j
        rw [zeros_at _ rfl]
        rcases j with _ | j <;> simp
      simp [Builtin.append_, run_underlying Tryd.underlying44, run_underlying Tryd.underlying3, sizeOf, typeInfo, zeroValue, hie, hz, hs1, hb, asInt, asIntOf, hw, hr, hz1, Addr.add_mid, hst]
  · obtain ⟨cap', hcap, hrun⟩ := run_zeros (H.slb i hi hn (by omega)) h0 (by omega) (by omega) hl ty (m := m)
    exact ⟨_, _, _, hrun, (H.grew _).slb 0 rfl hcap hcap, (H.grew _).bel⟩
end
section
variable {ops : Array Oper} {rest : List Oper} {o : Oper} {a : Act} {w w0 : World} {l : List (Nat × Obj)} {Q : Exit → Act → World → Prop}
theorem lay_more {i : Nat} (H : Hid (Ow w0 w l)) (hgd : o.guard = none) {s x : Operand} (ho : o.op = .call { callee := .builtin .append, args := #[s, x], argTypes := #[44, 3] }) {g n m N : Nat} (hs : a.eval s = .slice (some ⟨g, 0, none⟩) n N) (hx : a.eval x = .int .i64 (m : Int))
    {f : Nat → BitVec 8} (hi : l[i]? = some (g, YB N f)) (hn : n ≤ N) (h0 : ∀ j, n ≤ j → f j = 0) {M : Nat} (hM : n + m = M) (hl : M ≤ 1000000) (hm : m ≤ 1)
    (h : ∀ w' a' c', Hid (Sl w' w'.heap.size a' M c' f) → Hid (Below w0.heap.size w0 w') → ∀ K : Act → World → Prop, (∀ a w, wpList Tryd.prog ops Q rest a w → K a w) → K (a.put o.dst (.slice a' M c')) w') : wpList Tryd.prog ops Q (o :: rest) a w :=
  wpList_plain hgd fun K hK => by
    subst hM
    obtain ⟨a', c', w', hr, h1, h2⟩ := own_more H.out i hi hn rfl h0 hl hm o.type
    exact Lib.wp_append_run w s x _ _ ho _ _ hs hx _ _ hr (h _ _ _ (Lib.hid h1) (Lib.hid h2) K hK)
end
section
variable {o : Oper} {a : Act} {w w0 : World} {l : List (Nat × Obj)} {K : Act → World → Prop} {Q : Exit → Act → World → Prop}
/-- A slice of one byte is made; a row grows by it. -/
theorem own_wp_byteU (dd : Tmp) (hd : o.dst = some dd) {v : BitVec 8} (H : Ow w0 w l) {x : Operand} (ho : o.op = .buildSlice 44 1 #[(0, x)]) (hx : a.eval x = U v)
    (h : ∀ w' g, Ow w0 w' ((g, YB 1 fun _ => v) :: l) → Below w.heap.size w w' → K (a.put (some dd) (.slice (some ⟨g, 0, none⟩) 1 1)) w') : o.wp Tryd.prog a w K Q := by
  obtain ⟨i, hi, hz, hs, _⟩ := info_u8
  refine Go.wp_buildSlice 44 5 1 _ ho #[U v] i _ Tryd.underlying44 hi hz (by rw [hs]; decide) (by rw [hs]; decide) (by rw [hs]; simp [Instr.fill, hx, Array.range, Value.cells]; exact Array.ext (by simp) (fun j h1 h2 => by obtain rfl : j = 0 := (by simpa using h2); simp)) ?_
  rw [hd]
  have e : (#[U v] : Array Value) = AZ .u8 1 (UB fun _ => v) := by
    apply Array.ext_getElem?
    intro j
    rcases j with _ | j
    · rw [AZ_get _ _ _ _ (by omega)]; rfl
    · rw [Array.getElem?_eq_none (by simp), Array.getElem?_eq_none (by rw [AZ_size]; omega)]
  rw [e]
  exact h _ _ (H.alloc _) (below_alloc _ _)
theorem own_wp_grew (dd : Tmp) (hd : o.dst = some dd) {f : Nat → BitVec 8} {n N : Nat} (hN : n + 1 = N) (H : Ow w0 w l) {s x : Operand} (ho : o.op = .call { callee := .builtin .append, args := #[s, x], argTypes := #[44, 44] }) {b ob b' c' : Nat} (hs : a.eval s = .slice (some ⟨b, ob, none⟩) n n) (hx : a.eval x = .slice (some ⟨b', 0, none⟩) 1 c')
    (hn : ∀ j, j < n → w.cell? ⟨b, ob + j, none⟩ = some (.int .u8 (UB f j))) (hm : ∀ j, j < 1 → w.cell? ⟨b', 0 + j, none⟩ = some (.int .u8 (UB f (n + j)))) (h0 : ∀ j, n + 1 ≤ j → f j = 0) (hl : N ≤ 1000000)
    (h : ∀ w' g cap, N ≤ cap → Ow w0 w' ((g, YB cap f) :: l) → Below w.heap.size w w' → K (a.put (some dd) (.slice (some ⟨g, 0, none⟩) N cap)) w') : o.wp Tryd.prog a w K Q := by
  subst hN
  obtain ⟨cap, hcap, hr⟩ := run_grown (w := w) Tryd.underlying44 info_b hn hm (fun j hj => by show U8 (f j) = 0; rw [h0 j hj]; rfl) (Nat.lt_succ_self n) hl o.type
  rw [← hd] at h
  exact Lib.wp_append_run w s x _ _ ho _ _ hs hx _ _ hr (h _ _ cap hcap (H.grew _) ((Below.drew (Below.refl _ _)).alloc (Nat.le_refl _) _))
end













set_option maxRecDepth 8000 in
set_option maxHeartbeats 3200000 in
theorem clamp_ok (a : Option Addr) (n c : Nat) (f : Nat → BitVec 8) (w : World) (hn : n = 56 ∨ n = 57) (hs : Sl w w.heap.size a n c f) :
    Calls Tryd.prog 51 #[.slice a n c] w fun e w' => ∃ a' c', e = .returned (.tuple #[.slice a' n c', .int .i64 0]) ∧ Sl w' w'.heap.size a' n c' (clF f) ∧ Below w.heap.size w w' := by
  have HE : Hid (szE n 56 57 = 0) := Lib.hid (szE_ok (by omega) (by omega))
  obtain ⟨b, o, rfl, hb, hc⟩ : ∃ b o, a = some ⟨b, o, none⟩ ∧ b < w.heap.size ∧ ∀ j, j < n → w.cell? ⟨b, o + j, none⟩ = some (U (f j)) := by
    obtain ⟨b, o, e, hb, _⟩ := hs.get 0 (by omega)
    refine ⟨b, o, e, hb, fun j hj => ?_⟩
    obtain ⟨b', o', e', _, h⟩ := hs.get j hj
    rw [e] at e'
    cases e'
    exact h
  have hle := hs.le
  have Hb := Lib.hid hb
  have HC := Lib.hid hc
  have n55 : (55 : Int) < (n : Int) := by omega
  have n55' : (55 : Int) ≤ (n : Int) := by omega
  have c55 : (55 : Int) ≤ (c : Int) := by omega
  obtain ⟨m, hm⟩ : ∃ m, 56 + m = n := ⟨n - 56, by omega⟩
  have e1 : (n : Int) - 56 = (m : Int) := by omega
  have k55 : 55 < n := by omega
  have k0 : ∀ j, j < 55 → j < n := fun j hj => by omega
  have hm1 : m ≤ 1 := by omega
  have HM := Lib.hid hm
  have hl : n ≤ 1000000 := by omega
  clear hb hc hs hle hn hm
  have H := Lib.hid (Ow.start w)
  go_enter Tryd.func51, Tryd.ntmps51
  go_wp2_with (first
    | ((with_reducible refine (sized_v 56 57 _).mono ?_); rintro e wc ⟨v, rfl, hq, hb⟩; obtain ⟨gf, gg, rfl, hf, hg⟩ := hq; have HQ1 := Lib.hid hf; have HQ2 := Lib.hid hg; replace H := Lib.hid (H.out.call hb); clear hb hf hg)
    | ((with_reducible refine (ask_v n c _ gf gg 56 57 _ HQ1.out HQ2.out).mono ?_); rintro e wc ⟨rfl, rfl⟩; rw [HE.out]))
  refine wp_region_noPanic ?_
  refine wp_region_held_drew (S := fun W => W.cell? ⟨b, o + 55, none⟩ = some (U (f 55))) (by kernel_rfl) ((H.out.drew.bel.cell (p := ⟨b, o + 55, none⟩) Hb.out).trans (HC.out 55 k55)) (fun hH => ?_)
  replace H := Lib.hid H.out.drew
  generalize World.drew _ = w8 at *
  refine held_value 0 12 (.slice (some ⟨b, o, none⟩) n c) rfl rfl (by kernel_rfl) (by kernel_rfl) (by kernel_rfl) rfl hH (fun w hw => by go_simp) ?_
  try simp only [Act.put, List.setIfInBounds_toArray, List.set_cons_zero, List.set_cons_succ]
  refine held_value 1 13 (.slice (some ⟨b, o, none⟩) 55 55) rfl rfl (by kernel_rfl) (by kernel_rfl) (by kernel_rfl) rfl hH (fun w hw => by go_simp) ?_
  try simp only [Act.put, List.setIfInBounds_toArray, List.set_cons_zero, List.set_cons_succ]
  refine held_value 2 14 (.slice (some ⟨b, o, none⟩) n c) rfl rfl (by kernel_rfl) (by kernel_rfl) (by kernel_rfl) rfl hH (fun w hw => by go_simp) ?_
  try simp only [Act.put, List.setIfInBounds_toArray, List.set_cons_zero, List.set_cons_succ]
  refine held_value 3 15 (.pointer (some ⟨b, o + 55, none⟩)) rfl rfl (by kernel_rfl) (by kernel_rfl) (by kernel_rfl) rfl hH (fun w hw => by go_simp) ?_
  try simp only [Act.put, List.setIfInBounds_toArray, List.set_cons_zero, List.set_cons_succ]
  refine held_value 4 16 (U (f 55)) rfl rfl (by kernel_rfl) (by kernel_rfl) (by kernel_rfl) rfl hH (fun w hw => by go_simp) ?_
  try simp only [Act.put, List.setIfInBounds_toArray, List.set_cons_zero, List.set_cons_succ]
  refine held_value 5 17 (U (f 55 ||| 128)) rfl rfl (by kernel_rfl) (by kernel_rfl) (by kernel_rfl) rfl hH (fun w hw => by go_simp) ?_
  try simp only [Act.put, List.setIfInBounds_toArray, List.set_cons_zero, List.set_cons_succ]
  refine wpAnyH_ready (rs := [6]) (by kernel_rfl) (by simp) ?_
  refine AllReadyH.cons (o := _) rfl (fun K hK => ?_) AllReadyH.nil
  refine own_wp_byteU 18 rfl (v := f 55 ||| 128) H.out rfl rfl ?_
  intro wb gb H3 hb
  have hN := (hb.cell (p := ⟨b, o + 55, none⟩) (block_lt_of_cell hH)).trans hH
  replace H := Lib.hid H3
  refine hK.out _ _ hN (fun hN => ?_)
  clear hK K hH H3 hb
  have hH := hN
  clear hN
  try simp only [Act.put, List.setIfInBounds_toArray, List.set_cons_zero, List.set_cons_succ]
  refine wpAnyH_ready (rs := [7]) (by kernel_rfl) (by simp) ?_
  refine AllReadyH.cons (o := _) rfl (fun K hK => ?_) AllReadyH.nil
  refine own_wp_grew 19 rfl (f := fun i => if i < 55 then f i else if i = 55 then f 55 ||| 128 else 0) (n := 55) (N := 56) rfl H.out rfl rfl rfl (fun j hj => ?_) (fun j hj => ?_) (fun j hj => ?_) (by omega) ?_
  · refine ((H.out.bel.cell (p := ⟨b, o + j, none⟩) Hb.out).trans (HC.out j (k0 j hj))).trans ?_
    show some (Value.int .u8 (U8 (f j))) = some (Value.int .u8 (U8 (if j < 55 then f j else _)))
    rw [if_pos hj]
  · obtain rfl : j = 0 := Nat.lt_one_iff.1 hj
    rw [Nat.zero_add]
    exact H.out.cell 0 rfl 0 (by omega)
  · show (if j < 55 then f j else if j = 55 then f 55 ||| 128 else 0) = 0
    rw [if_neg (by omega), if_neg (by omega)]
  intro wz gz cap hcap H3 hb
  have hN := (hb.cell (p := ⟨b, o + 55, none⟩) (block_lt_of_cell hH)).trans hH
  replace H := Lib.hid H3
  have HCap := Lib.hid hcap
  refine hK.out _ _ hN (fun hN => ?_)
  clear hK K hH H3 hb hcap
  have hH := hN
  clear hN
  try simp only [Act.put, List.setIfInBounds_toArray, List.set_cons_zero, List.set_cons_succ]
  refine held_value 8 5 (.slice (some ⟨gz, 0, none⟩) 56 cap) rfl rfl (by kernel_rfl) (by kernel_rfl) (by kernel_rfl) rfl hH (fun w hw => by go_simp) ?_
  try simp only [Act.put, List.setIfInBounds_toArray, List.set_cons_zero, List.set_cons_succ]
  try simp only [Act.put]
  refine wpAnyH_done (by kernel_rfl) ?_ _
  refine NoPanic.normal ?_
  clear hH
  go_wp2_with (first
    | ((with_reducible apply own_getb H); (case hgd => exact rfl); (case ho => exact rfl); (case hx => exact rfl); (case hi => first | exact at0 | exact at1 | exact at2 | exact at3 | exact at4 | exact at5 | exact at6 | exact at7 | exact at8 | exact at9); (case hj => have := HCap.out; omega); intro _ _; go_simp)
    | ((with_reducible apply own_putb (v := f 0 &&& ~~~3) H); (case hgd => exact rfl); (case ho => exact rfl); (case hx => exact rfl); (case hy => exact rfl); (case hi => first | exact at0 | exact at1 | exact at2 | exact at3 | exact at4 | exact at5 | exact at6 | exact at7 | exact at8 | exact at9); (case hj => have := HCap.out; omega); intro ws H' _ _; replace H := H'; clear H'; simp only [List.set_cons_zero] at H; go_simp)
    | ((with_reducible apply lay_more (f := clF f) (n := 56) (m := m) (M := n) H); (case hgd => exact rfl); (case ho => exact rfl); (case hs => exact rfl); (case hx => exact rfl); (case hi => exact at0); (case hn => exact HCap.out); (case h0 => exact clF_over f); (case hM => exact HM.out); (case hl => exact hl); (case hm => exact hm1); intro wm am cm HS2 HB2 _ _; go_simp))
  go_ret2
  exact ⟨_, _, rfl, HS2.out, HB2.out⟩
end Go.Proofs.YtckmboebipbpbaaDoor
