/-
  The contracts of the reference's turned, Offsets, Row.
-/
import Derived.Test.YtjppmeihobcenaaDoorKecRefB
import Derived.Test.YtjppmeihobcenaaDoorKecInj
namespace Go.Proofs.YtjppmeihobcenaaDoor
open Go.RowKit

set_option maxHeartbeats 800000 in
theorem turned_any (a : BitVec 64) (k : Nat) (w : World) (hk : k < 64) :
    Calls Tryd.prog 29 #[V a, .int .i64 k] w fun e w' => e = .returned (V (rotl a k)) ∧ Below w.heap.size w w' := by
  by_cases h0 : k = 0
  · subst h0
    have hd : (((0 : Nat) : Int) == 0) = true := rfl
    go_enter Tryd.func29, Tryd.ntmps29
    go_wp2_with fail
    go_ret
    exact ⟨by rw [rotl_zero]; rfl, Below.refl _ _⟩
  · have hd : ((k : Int) == 0) = false := by rw [beq_eq_false_iff_ne]; omega
    have hL := L_bd a
    go_enter Tryd.func29, Tryd.ntmps29
    go_wp2_with fail
    refine wp_region_still_lit (by kernel_rfl) (by kernel_rfl) ?_
    change wpStill _ _ w.drew (fun a' => Exit.then _ _ Exit.normal a' w.drew) _ _
    have k0 : (0 : Int) ≤ (k : Int) := by omega
    have k1 : (k : Int) ≤ 64 := by omega
    have e1 : IntKind.i64.wrap (64 - (k : Int)) = ((64 - k : Nat) : Int) := (IntWalk.i64_in _ (by omega)).trans (by omega)
    have k2 : ((64 - k : Nat) : Int) ≤ 64 := by omega
    obtain ⟨k', hk'⟩ : ∃ k', 64 - k = k' := ⟨_, rfl⟩
    rw [hk'] at e1 k2
    have Hk := Lib.hid hk'
    clear hk'
    iterate 9 still_step
    refine wpStill_nil ?_
    go_wp2_with fail
    go_ret
    refine ⟨?_, (Below.refl _ _).drew⟩
    have hr := rot_bv a k hk
    rw [u64_shl, u64_shr, Hk.out, or_bv] at hr
    exact congrArg (fun n => Ending.returned (.int .u64 n)) hr

/-- An array of n ints. -/
def AI (n : Nat) (f : Nat → Nat) : Array Value := Array.ofFn (n := n) fun i => Value.int .i64 (f i : Int)
def updN (f : Nat → Nat) (i : Nat) (v : Nat) : Nat → Nat := fun j => if j = i then v else f j
theorem AI_size (n : Nat) (f : Nat → Nat) : (AI n f).size = n := by simp [AI]
theorem AI_get (n : Nat) (f : Nat → Nat) (i : Nat) (h : i < n) : (AI n f)[i]? = some (.int .i64 (f i : Int)) := by simp [AI, h]
theorem AI_set (n : Nat) (f : Nat → Nat) (i v : Nat) : (AI n f).setIfInBounds i (.int .i64 (v : Int)) = AI n (updN f i v) := by
  apply Array.ext_getElem?
  intro j
  by_cases hj : j < n
  · rw [AI_get n _ j hj]
    by_cases e : i = j
    · subst e
      simp [updN, AI_size, hj]
    · rw [Array.getElem?_setIfInBounds_ne e, AI_get n f j hj]
      have e' : ¬ j = i := fun h => e h.symm
      simp [updN, e']
  · rw [Array.getElem?_eq_none (by simpa [AI_size] using hj), Array.getElem?_eq_none (by simpa [AI_size] using hj)]
theorem AI_one (n : Nat) (f : Nat → Nat) : (AI n f).all (·.oneCell') = true := by
  rw [Array.all_eq_true]
  intro i hi
  simp [AI, Value.oneCell']
theorem AI_congr {n : Nat} {f g : Nat → Nat} (h : ∀ i, i < n → f i = g i) : AI n f = AI n g := by
  apply Array.ext_getElem?
  intro j
  by_cases hj : j < n
  · rw [AI_get n _ j hj, AI_get n _ j hj, h j hj]
  · rw [Array.getElem?_eq_none (by simpa [AI_size] using hj), Array.getElem?_eq_none (by simpa [AI_size] using hj)]
theorem zeroI : AI 25 (fun _ => 0) = #[.int .i64 0, .int .i64 0, .int .i64 0, .int .i64 0, .int .i64 0, .int .i64 0, .int .i64 0, .int .i64 0, .int .i64 0, .int .i64 0, .int .i64 0, .int .i64 0, .int .i64 0, .int .i64 0, .int .i64 0, .int .i64 0, .int .i64 0, .int .i64 0, .int .i64 0, .int .i64 0, .int .i64 0, .int .i64 0, .int .i64 0, .int .i64 0, .int .i64 0] := rfl
attribute [irreducible] AI
theorem size41 : (Tryd.prog.info? 59).map (·.size) = some 25 := by kernel_rfl
theorem zero41 (w : World) : (zeroValue 59).run Tryd.prog w = .ok (.agg (AI 25 fun _ => 0)) w := by
  rw [zeroI]; exact Tryd.zeroValue59 w
section
variable {ops : Array Oper} {rest : List Oper} {o : Oper} {a : Act} {w : World} {Q : Exit → Act → World → Prop}
theorem ints_alloc (hgd : o.guard = none) (ho : o.op = .alloc 59)
    (h : ∀ K : Act → World → Prop, (∀ a w, wpList Tryd.prog ops Q rest a w → K a w) → K (a.put o.dst (.pointer (some ⟨w.heap.size, 0, none⟩))) (w.alloc (.cells (AI 25 fun _ => 0) 59))) : wpList Tryd.prog ops Q (o :: rest) a w :=
  wpList_plain hgd fun K hK => by
    unfold Oper.wp execOp
    simp only [ho, Instr.alloc, Sem.run_bind, zero41, Result.andThen_ok, newVar, Value.cells]
    simp [go_sem]
    exact h K hK
theorem ints_load (hgd : o.guard = none) {x : Operand} (ho : o.op = .load 59 x) {g : Nat} (hx : a.eval x = .pointer (some ⟨g, 0, none⟩)) {tb : TypeId} {f : Nat → Nat}
    (hg : w.heap[g]? = some (.cells (AI 25 f) tb)) (h : ∀ K : Act → World → Prop, (∀ a w, wpList Tryd.prog ops Q rest a w → K a w) → K (a.put o.dst (.agg (AI 25 f))) w) : wpList Tryd.prog ops Q (o :: rest) a w :=
  wpList_plain hgd fun K hK => wp_load_row _ x ho g hx tb _ (0, 0) _ hg Tryd.underlying59 rfl (by rw [AI_size]; exact size41) (h K hK)
theorem ints_store (hgd : o.guard = none) {x y : Operand} (ho : o.op = .store 59 x y) {g : Nat} (hx : a.eval x = .pointer (some ⟨g, 0, none⟩)) {f : Nat → Nat} (hy : a.eval y = .agg (AI 25 f))
    {tb : TypeId} {f0 : Nat → Nat} (hg : w.heap[g]? = some (.cells (AI 25 f0) tb)) (h : ∀ K : Act → World → Prop, (∀ a w, wpList Tryd.prog ops Q rest a w → K a w) → K (a.put o.dst undef) (w.setRow g (AI 25 f))) : wpList Tryd.prog ops Q (o :: rest) a w :=
  wpList_plain hgd fun K hK => wp_store_row _ x y ho g _ hx hy tb _ hg (by rw [AI_size]; exact size41) (by rw [AI_size, AI_size]) (AI_one 25 f) (h K hK)
end

/-- Where the t-th offset stands, and the offsets when t of them are told. -/
def xyTo : Nat → Nat × Nat
  | 0 => (1, 0)
  | t + 1 => ((xyTo t).2, (2 * (xyTo t).1 + 3 * (xyTo t).2) % 5)
def offTo : Nat → Nat → Nat
  | 0 => fun _ => 0
  | t + 1 => updN (offTo t) ((xyTo t).1 + 5 * (xyTo t).2) ((t + 1) * (t + 2) / 2 % 64)
theorem xyTo_lt : ∀ t, (xyTo t).1 < 5 ∧ (xyTo t).2 < 5
  | 0 => by decide
  | t + 1 => ⟨(xyTo_lt t).2, Nat.mod_lt _ (by omega)⟩
theorem offTo_offs : ∀ i, i < 25 → offTo 24 i = offs i := by decide

attribute [local go_sem] AI_get
set_option maxHeartbeats 1600000 in
theorem offsets_any (w : World) :
    Calls Tryd.prog 27 #[] w fun e w' => e = .returned (.agg (AI 25 offs)) ∧ Below w.heap.size w w' := by
  go_enter Tryd.func27, Tryd.ntmps27
  go_wp2_with ((with_reducible apply ints_alloc); (case hgd => exact rfl); (case ho => exact rfl); intro _ _; go_simp)
  go_loopw [2, 3, 4] (fun v2 v3 v4 wr => ∃ t : Nat, t ≤ 24 ∧ v4 = .int .i64 t ∧ v2 = .int .i64 ((xyTo t).1 : Int) ∧ v3 = .int .i64 ((xyTo t).2 : Int) ∧ wr = ((w.alloc (.cells (AI 25 fun _ => 0) 59)).alloc (.cells (AI 25 (offTo t)) 59))) (fun _ _ v4 _ => 24 - (intOf v4).toNat)
  case atStart => exact ⟨0, by omega, rfl, rfl, rfl, rfl⟩
  case round =>
    obtain ⟨t, ht, rfl, rfl, rfl, rfl⟩ := hrel
    by_cases hlt : t < 24
    · have hid : decide ((t : Int) < 24) = true := by simp; omega
      have hxy := xyTo_lt t
      have hx1 : xyTo (t + 1) = ((xyTo t).2, (2 * (xyTo t).1 + 3 * (xyTo t).2) % 5) := rfl
      have ho1 : offTo (t + 1) = updN (offTo t) ((xyTo t).1 + 5 * (xyTo t).2) ((t + 1) * (t + 2) / 2 % 64) := rfl
      have Hx := Lib.hid hx1
      have Ho := Lib.hid ho1
      clear hx1 ho1
      generalize xyTo t = xy at *
      obtain ⟨x, y⟩ := xy
      have hx : x < 5 := hxy.1
      have hy : y < 5 := hxy.2
      clear hxy
      have hp : (t + 1) * (t + 2) ≤ 650 := Nat.le_trans (Nat.mul_le_mul (show t + 1 ≤ 25 by omega) (show t + 2 ≤ 26 by omega)) (by omega)
      obtain ⟨q, hq⟩ : ∃ q, (t + 1) * (t + 2) = q := ⟨_, rfl⟩
      have hqi : ((t : Int) + 1) * ((t : Int) + 2) = (q : Int) := by rw [← hq]; simp
      rw [hq] at hp
      have Hq := Lib.hid hq
      clear hq
      obtain ⟨p, hpp⟩ : ∃ p, x + 5 * y = p := ⟨_, rfl⟩
      have hpi : (x : Int) + 5 * (y : Int) = (p : Int) := by omega
      have p25 : p < 25 := by omega
      have Hp := Lib.hid hpp
      clear hpp
      go_wp2_with fail
      go_roundw
      case rel =>
        refine ⟨t + 1, by omega, by go_num, by rw [Hx.out], by rw [Hx.out]; go_num, ?_⟩
        rw [Ho.out, Hp.out, Hq.out, ← AI_set]
        simp
      case measure => simp [intOf]; omega
    · obtain rfl : t = 24 := by omega
      clear hlt ht
      rw [show ((24 : Nat) : Int) = 24 from rfl]
      have e : AI 25 (offTo 24) = AI 25 offs := AI_congr offTo_offs
      rw [e]
      clear e
      generalize xyTo 24 = xy
      go_wp2_with (first
        | ((with_reducible apply ints_load); (case hgd => exact rfl); (case ho => exact rfl); (case hx => exact rfl); (case hg => exact row2b _ _ _); intro _ _; go_simp)
        | ((with_reducible apply ints_store); (case hgd => exact rfl); (case ho => exact rfl); (case hx => exact rfl); (case hy => exact rfl); (case hg => exact row2a _ _ _); intro _ _; go_simp))
      refine bodyPost_ret (results_cell_row Tryd.results27 _ _ w.heap.size 59 (AI 25 offs) (0, 0) _ rfl (row2a _ _ _) Tryd.underlying59 rfl (by rw [AI_size]; exact size41)) rfl ⟨rfl, ?_⟩
      go_grown
end Go.Proofs.YtjppmeihobcenaaDoor
