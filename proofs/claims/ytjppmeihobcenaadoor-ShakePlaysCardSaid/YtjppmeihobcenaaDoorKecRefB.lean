/-
  The contract of the reference's Bytes.
-/
import Derived.Test.YtjppmeihobcenaaDoorKecSt
namespace Go.Proofs.YtjppmeihobcenaaDoor
open Go.RowKit

/-- A row of the call's own that holds n bytes. -/
def OwnB (w : World) (base : Nat) (v : Value) (n : Nat) (f : Nat → BitVec 8) : Prop := w.ownsRow base 5 1 v n ((List.range n).map fun i => U (f i))
theorem OwnB.nil (w : World) (base : Nat) (f : Nat → BitVec 8) : OwnB w base (.slice none 0 0) 0 f := ⟨rfl, .inl ⟨rfl, rfl⟩⟩
theorem OwnB.sl {w : World} {base : Nat} {v : Value} {n : Nat} {f : Nat → BitVec 8} (h : OwnB w base v n f) (hn : 0 < n) :
    ∃ g c cur, v = .slice (some ⟨g, 0, none⟩) n c ∧ base ≤ g ∧ w.heap[g]? = some (.cells cur 5) ∧ Sl w w.heap.size (some ⟨g, 0, none⟩) n c f := by
  obtain ⟨_, hv⟩ := h
  rcases hv with ⟨_, h0⟩ | ⟨g, cap, cur, rfl, hg, hrow, hle, _, hcs, htake⟩
  · omega
  · refine ⟨g, cap, cur, rfl, hg, hrow, hle, (fun e => by cases e), fun ad e _ => ⟨g, 0, (Option.some.inj e).symm, row_lt hrow, fun i hi => ?_⟩⟩
    rw [Nat.zero_add, cell_of_row _ _ _ _ _ _ hrow]
    have := congrArg (·[i]?) htake
    rw [Nat.mul_one] at this
    simpa [hi] using this

theorem OwnB.alloc {w : World} {base : Nat} {v : Value} {n : Nat} {f : Nat → BitVec 8} (h : OwnB w base v n f) (o : Obj) : OwnB (w.alloc o) base v n f := by
  obtain ⟨hl, hv⟩ := h
  refine ⟨hl, ?_⟩
  rcases hv with h0 | ⟨g, cap, cur, hv, hg, hrow, hr⟩
  · exact .inl h0
  · exact .inr ⟨g, cap, cur, hv, hg, (heap_alloc_past _ _ _ (row_lt hrow)).trans hrow, hr⟩

section
variable {w : World} {ops : Array Oper} {rest : List Oper} {o : Oper} {act : Act} {Q : Exit → Act → World → Prop}
theorem lay_append_byte (hgd : o.guard = none) {s x : Operand} (ho : o.op = .call { callee := .builtin .append, args := #[s, x], argTypes := #[25, 25] }) {v : Value} (hs : act.eval s = v)
    {gx cx : Nat} (hx : act.eval x = .slice (some ⟨gx, 0, none⟩) 1 cx) {base n : Nat} {f : Nat → BitVec 8} (hc : w.cell? ⟨gx, 0, none⟩ = some (U (f n))) (hown : OwnB w base v n f) (hn : n ≤ 1000) (hbase : base ≤ w.heap.size)
    (h : ∀ v' w', OwnB w' base v' (n + 1) f → Below base w w' → ∀ K : Act → World → Prop, (∀ a w, wpList Tryd.prog ops Q rest a w → K a w) → K (act.put o.dst v') w') : wpList Tryd.prog ops Q (o :: rest) act w := by
  obtain ⟨i, hi, hz, hsz, hby⟩ := info_u8
  refine wpList_append_own w hgd s x _ ho base 5 i (.int .u8 0) 1 1 Tryd.underlying25 hi hz hsz hby rfl (by omega) v n _ hs hown
    ⟨gx, 0, none⟩ 1 cx [U (f n)] hx rfl (fun j u hu => ?_) (fun u hu => ?_) (by unfold maxLen; omega) (by omega) hbase ?_
  · have hj : j = 0 := by
      rcases j with _ | j
      · rfl
      · simp at hu
    subst hj
    simp at hu
    rw [Addr.add_mid, Nat.add_zero, hc, ← hu]
  · simp at hu
    subst hu
    rfl
  · intro v' w' ho' hgrow _
    refine h v' w' ?_ ((Below.refl _ _).grown hgrow hbase fun k hk => ?_) _ fun _ _ h => h
    · unfold OwnB
      rw [List.range_succ, List.map_append]
      exact ho'
    · obtain ⟨_, hv⟩ := hown
      rcases hv with ⟨rfl, _⟩ | ⟨g, cap, cur, rfl, hg, _⟩
      · cases hk
      · have : g = k := by simpa [Value.ownBlock] using hk
        omega
end

@[go_sem] theorem u64_div256 (x : BitVec 64) : L x / 256 = L (shr x 8) := u64_shr x 8
@[go_sem] theorem u8_mod256 (x : BitVec 64) : IntKind.u8.wrap (L x % 256) = U8 (low8 x) := by
  rw [← u8_L, IntKind.wrap_u8, IntKind.wrap_u8]
  omega
theorem shr_shr (x : BitVec 64) (a b : Nat) : shr (shr x a) b = shr x (a + b) := by
  unfold shr
  rw [BitVec.shiftRight_add]
theorem shr_zero (x : BitVec 64) : shr x 0 = x := by
  unfold shr
  simp
theorem bytesF_at (f : Nat → BitVec 64) (i k : Nat) (hk : k < 8) : bytesF f (8 * i + k) = low8 (shr (f i) (8 * k)) := by
  unfold bytesF
  rw [show (8 * i + k) / 8 = i by omega, show (8 * i + k) % 8 * 8 = 8 * k by omega]

set_option maxHeartbeats 1600000 in
theorem refBytes_any (f : Nat → BitVec 64) (w : World) :
    Calls Tryd.prog 22 #[.agg (A 25 f)] w fun e w' => (∃ g c cur, e = .returned (.slice (some ⟨g, 0, none⟩) 200 c) ∧ w.heap.size < g ∧ w'.heap[g]? = some (.cells cur 5) ∧ Sl w' w'.heap.size (some ⟨g, 0, none⟩) 200 c (bytesF f)) ∧ Below w.heap.size w w' := by
  go_enter Tryd.func22, Tryd.ntmps22
  go_wp2_with fail
  go_loopw [3, 4] (fun v3 v4 wr => ∃ i : Nat, i ≤ 25 ∧ v4 = .int .i64 i ∧ OwnB wr (w.heap.size + 1) v3 (8 * i) (bytesF f) ∧ Below (w.heap.size + 1) (w.alloc (.cells (A 25 f) 51)) wr) (fun _ v4 _ => 25 - (intOf v4).toNat)
  case atStart => exact ⟨0, by omega, rfl, OwnB.nil _ _ _, Below.refl _ _⟩
  case round =>
    obtain ⟨i, hi, rfl, HO, HB⟩ := hrel
    by_cases hlt : i < 25
    · have hid : decide ((i : Int) < 25) = true := by simp; omega
      have i25 : (i : Int) < 25 := by omega
      have hc : wr.cell? ⟨w.heap.size, i, none⟩ = some (V (f i)) := by
        rw [cell_of_row _ _ _ _ _ _ ((HB.block _ (by omega)).trans (row1 _ _)), A_get _ _ _ hlt]
      have HO1 := Lib.hid HO
      have HB1 := Lib.hid HB
      clear HO HB
      go_wp2_with fail
      clear hc
      go_loopw [3, 5, 6] (fun v3 v5 v6 wr' => ∃ k : Nat, k ≤ 8 ∧ v6 = .int .i64 k ∧ v5 = V (shr (f i) (8 * k)) ∧ OwnB wr' (w.heap.size + 1) v3 (8 * i + k) (bytesF f) ∧ Below (w.heap.size + 1) (w.alloc (.cells (A 25 f) 51)) wr') (fun _ _ v6 _ => 8 - (intOf v6).toNat)
      case atStart => exact ⟨0, by omega, rfl, by rw [Nat.mul_zero, shr_zero], HO1.out, HB1.out⟩
      case round =>
        clear HO1 HB1
        obtain ⟨k, hk, rfl, rfl, HO, HB⟩ := hrel
        by_cases hlk : k < 8
        · have hkd : decide ((k : Int) < 8) = true := by simp; omega
          have hL := L_bd (shr (f i) (8 * k))
          have hb := bytesF_at f i k hlk
          obtain ⟨x, hx⟩ : ∃ x, shr (f i) (8 * k) = x := ⟨_, rfl⟩
          rw [hx] at hL hb ⊢
          have Hx := Lib.hid hx
          have Hb := Lib.hid hb
          have HO2 := Lib.hid HO
          have HB2 := Lib.hid HB
          clear HO HB hx hb
          have hz : w.heap.size + 1 ≤ wr.heap.size := by have := HB2.out.size; simpa using this
          go_wp2_with ((with_reducible apply lay_append_byte); (case hgd => exact rfl); (case ho => exact rfl); (case hs => exact rfl); (case hx => exact rfl); (case hown => exact HO2.out.alloc _); (case hc => rw [Hb.out]; simp); (case hn => omega); (case hbase => simp; omega); intro v' w' ho' hb' _ _; go_simp)
          go_roundw
          case rel => exact ⟨k + 1, by omega, by go_num, by rw [← Hx.out, u64_div256, shr_shr, show 8 * (k + 1) = 8 * k + 8 by omega], ho', (HB2.out.alloc hz _).trans hb'⟩
          case measure => simp [intOf]; omega
        · obtain rfl : k = 8 := by omega
          clear hlk hk
          rw [show ((8 : Nat) : Int) = 8 from rfl]
          have HO2 := Lib.hid HO
          have HB2 := Lib.hid HB
          clear HO HB
          go_wp2_with fail
          go_roundw
          case rel => exact ⟨i + 1, by omega, by go_num, by rw [show 8 * (i + 1) = 8 * i + 8 by omega]; exact HO2.out, HB2.out⟩
          case measure => simp [intOf]; omega
    · obtain rfl : i = 25 := by omega
      clear hlt hi
      rw [show ((25 : Nat) : Int) = 25 from rfl]
      have HO2 := Lib.hid HO
      have HB2 := Lib.hid HB
      clear HO HB
      go_wp2_with fail
      go_ret
      obtain ⟨g, c, cur, rfl, hg, hrow, hsl⟩ := HO2.out.sl (by omega)
      exact ⟨⟨g, c, cur, rfl, hg, hrow, hsl⟩, ((Below.refl _ _).alloc (Nat.le_refl _) _).trans (HB2.out.mono (by omega))⟩
end Go.Proofs.YtjppmeihobcenaaDoor
