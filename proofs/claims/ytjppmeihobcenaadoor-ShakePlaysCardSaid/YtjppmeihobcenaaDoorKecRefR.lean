/-
  The contract of the reference's Row.
-/
import Derived.Test.YtjppmeihobcenaaDoorKecRefS
namespace Go.Proofs.YtjppmeihobcenaaDoor
open Go.RowKit

theorem info3 : (Tryd.prog.info? 3).map (fun i => (i.zero, i.size, i.bytes)) = some (some (.int .i64 0), 1, 8) := by kernel_rfl
theorem info_i64 : ∃ i, Tryd.prog.info? 3 = some i ∧ i.zero = some (.int .i64 0) ∧ i.size = 1 ∧ i.bytes = 8 := by
  cases hq : Tryd.prog.info? 3 with
  | none => have := info3; simp [hq] at this
  | some i =>
    have := info3
    simp [hq] at this
    exact ⟨i, rfl, this.1, this.2.1, this.2.2⟩

/-- A row of the call's own that holds n ints. -/
def OwnI (w : World) (base : Nat) (v : Value) (n : Nat) (f : Nat → Nat) : Prop := w.ownsRow base 3 1 v n ((List.range n).map fun i => Value.int .i64 (f i : Int))
theorem OwnI.nil (w : World) (base : Nat) (f : Nat → Nat) : OwnI w base (.slice none 0 0) 0 f := ⟨rfl, .inl ⟨rfl, rfl⟩⟩
theorem OwnI.alloc {w : World} {base : Nat} {v : Value} {n : Nat} {f : Nat → Nat} (h : OwnI w base v n f) (o : Obj) : OwnI (w.alloc o) base v n f := by
  obtain ⟨hl, hv⟩ := h
  refine ⟨hl, ?_⟩
  rcases hv with h0 | ⟨g, cap, cur, hv, hg, hrow, hr⟩
  · exact .inl h0
  · exact .inr ⟨g, cap, cur, hv, hg, (heap_alloc_past _ _ _ (row_lt hrow)).trans hrow, hr⟩
theorem OwnI.cells {w : World} {base : Nat} {v : Value} {n : Nat} {f : Nat → Nat} (h : OwnI w base v n f) (hn : 0 < n) :
    ∃ g c cur, v = .slice (some ⟨g, 0, none⟩) n c ∧ base ≤ g ∧ n ≤ c ∧ w.heap[g]? = some (.cells cur 3) ∧ ∀ i, i < n → cur[i]? = some (.int .i64 (f i : Int)) := by
  obtain ⟨_, hv⟩ := h
  rcases hv with ⟨_, h0⟩ | ⟨g, cap, cur, rfl, hg, hrow, hle, _, hcs, htake⟩
  · omega
  · refine ⟨g, cap, cur, rfl, hg, hle, hrow, fun i hi => ?_⟩
    have := congrArg (·[i]?) htake
    rw [Nat.mul_one] at this
    simpa [hi] using this
section
variable {w : World} {ops : Array Oper} {rest : List Oper} {o : Oper} {act : Act} {Q : Exit → Act → World → Prop}
theorem lay_append_int (hgd : o.guard = none) {s x : Operand} (ho : o.op = .call { callee := .builtin .append, args := #[s, x], argTypes := #[40, 40] }) {v : Value} (hs : act.eval s = v)
    {gx cx : Nat} (hx : act.eval x = .slice (some ⟨gx, 0, none⟩) 1 cx) {base n : Nat} {f : Nat → Nat} (hc : w.cell? ⟨gx, 0, none⟩ = some (.int .i64 (f n : Int))) (hown : OwnI w base v n f) (hn : n ≤ 1000) (hbase : base ≤ w.heap.size)
    (h : ∀ v' w', OwnI w' base v' (n + 1) f → Below base w w' → ∀ K : Act → World → Prop, (∀ a w, wpList Tryd.prog ops Q rest a w → K a w) → K (act.put o.dst v') w') : wpList Tryd.prog ops Q (o :: rest) act w := by
  obtain ⟨i, hi, hz, hsz, hby⟩ := info_i64
  refine wpList_append_own w hgd s x _ ho base 3 i (.int .i64 0) 1 8 Tryd.underlying40 hi hz hsz hby rfl (by omega) v n _ hs hown
    ⟨gx, 0, none⟩ 1 cx [.int .i64 (f n : Int)] hx rfl (fun j u hu => ?_) (fun u hu => ?_) (by unfold maxLen; omega) (by omega) hbase ?_
  · have hj : j = 0 := by
      rcases j with _ | j
      · rfl
      · simp at hu
    subst hj
    simp at hu
    rw [Addr.add_mid, Nat.add_zero, hc, ← hu]
  · simp at hu
    subst hu
    rfl
  · intro v' w' ho' hgrow _
    refine h v' w' ?_ ((Below.refl _ _).grown hgrow hbase fun k hk => ?_) _ fun _ _ h => h
    · unfold OwnI
      rw [List.range_succ, List.map_append]
      exact ho'
    · obtain ⟨_, hv⟩ := hown
      rcases hv with ⟨rfl, _⟩ | ⟨g, cap, cur, rfl, hg, _⟩
      · cases hk
      · have : g = k := by simpa [Value.ownBlock] using hk
        omega
end

/-- The byte that tells the row, behind t steps. -/
def rrTo : Nat → Nat
  | 0 => 1
  | t + 1 => if rrTo t / 128 = 1 then (rrTo t * 2 % 256) ^^^ 113 else rrTo t * 2 % 256
def rowBit (t : Nat) : Nat := rrTo t % 2
theorem xor113 : ∀ x : Nat, x < 256 → bits .xor .i64 (x : Int) 113 = ((x ^^^ 113 : Nat) : Int) ∧ x ^^^ 113 < 256 := by decide +kernel
theorem rrTo_lt : ∀ t, rrTo t < 256
  | 0 => by decide
  | t + 1 => by
    rw [rrTo]
    split
    · exact (xor113 _ (Nat.mod_lt _ (by omega))).2
    · exact Nat.mod_lt _ (by omega)

set_option maxHeartbeats 1600000 in
theorem row_any (w : World) :
    Calls Tryd.prog 28 #[.int .i64 168] w fun e w' => (∃ g c cur, e = .returned (.slice (some ⟨g, 0, none⟩) 168 c) ∧ w.heap.size ≤ g ∧ 168 ≤ c ∧ w'.heap[g]? = some (.cells cur 3) ∧ ∀ i, i < 168 → cur[i]? = some (.int .i64 (rowBit i : Int))) ∧ Below w.heap.size w w' := by
  go_enter Tryd.func28, Tryd.ntmps28
  go_wp2_with fail
  go_loopw [3, 4, 5] (fun v3 v4 v5 wr => ∃ t : Nat, t ≤ 168 ∧ v5 = .int .i64 t ∧ v4 = .int .i64 (rrTo t : Int) ∧ OwnI wr w.heap.size v3 t rowBit ∧ Below w.heap.size w wr) (fun _ _ v5 _ => 168 - (intOf v5).toNat)
  case atStart => exact ⟨0, by omega, rfl, rfl, OwnI.nil _ _ _, Below.refl _ _⟩
  case round =>
    obtain ⟨t, ht, rfl, rfl, HO, HB⟩ := hrel
    by_cases hlt : t < 168
    · have hid : decide ((t : Int) < 168) = true := by simp; omega
      have hr := rrTo_lt t
      have hx := xor113 (rrTo t * 2 % 256) (Nat.mod_lt _ (by omega))
      have hbit : rowBit t = rrTo t % 2 := rfl
      have hn : rrTo (t + 1) = if rrTo t / 128 = 1 then (rrTo t * 2 % 256) ^^^ 113 else rrTo t * 2 % 256 := rfl
      generalize rrTo t = r at *
      have HN := Lib.hid hn
      have Hbit := Lib.hid hbit
      clear hn hbit
      have hr' : (r : Int) ≤ 255 := by omega
      have HO1 := Lib.hid HO
      have HB1 := Lib.hid HB
      have hz := HB.size
      clear HO HB
      by_cases hh : r / 128 = 1
      · have hb : (((r : Int) / 128) == 1) = true := by rw [beq_iff_eq]; omega
        have hxx : bits .xor .i64 ((r : Int) * 2 % 256) 113 = ((r * 2 % 256 ^^^ 113 : Nat) : Int) := by have := hx.1; simpa using this
        obtain ⟨s, hs⟩ : ∃ s, r * 2 % 256 ^^^ 113 = s := ⟨_, rfl⟩
        rw [hs] at hxx
        have Hs := Lib.hid hs
        have Hh := Lib.hid hh
        clear hx hs hh
        go_wp2_with ((with_reducible apply lay_append_int); (case hgd => exact rfl); (case ho => exact rfl); (case hs => exact rfl); (case hx => exact rfl); (case hown => exact HO1.out.alloc _); (case hc => rw [Hbit.out]; simp); (case hn => omega); (case hbase => simp; omega); intro v' w' ho' hb' _ _; go_simp)
        go_roundw
        case rel => exact ⟨t + 1, by omega, by go_num, by rw [HN.out, if_pos Hh.out, Hs.out], ho', (HB1.out.alloc hz _).trans hb'⟩
        case measure => simp [intOf]; omega
      · have hb : (((r : Int) / 128) == 1) = false := by rw [beq_eq_false_iff_ne]; omega
        have Hh := Lib.hid hh
        clear hx hh
        go_wp2_with ((with_reducible apply lay_append_int); (case hgd => exact rfl); (case ho => exact rfl); (case hs => exact rfl); (case hx => exact rfl); (case hown => exact HO1.out.alloc _); (case hc => rw [Hbit.out]; simp); (case hn => omega); (case hbase => simp; omega); intro v' w' ho' hb' _ _; go_simp)
        go_roundw
        case rel => exact ⟨t + 1, by omega, by go_num, by rw [HN.out, if_neg Hh.out]; go_num, ho', (HB1.out.alloc hz _).trans hb'⟩
        case measure => simp [intOf]; omega
    · obtain rfl : t = 168 := by omega
      clear hlt ht
      rw [show ((168 : Nat) : Int) = 168 from rfl]
      generalize rrTo 168 = r
      have HO2 := Lib.hid HO
      have HB2 := Lib.hid HB
      clear HO HB
      go_wp2_with fail
      go_ret
      obtain ⟨g, c, cur, rfl, hg, hle, hrow, hcell⟩ := HO2.out.cells (by omega)
      exact ⟨⟨g, c, cur, rfl, hg, hle, hrow, hcell⟩, HB2.out⟩
end Go.Proofs.YtjppmeihobcenaaDoor
