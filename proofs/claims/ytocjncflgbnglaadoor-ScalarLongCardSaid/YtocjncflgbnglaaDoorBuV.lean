/-
  Lemmas for the walks, several texts in one. No statement is proved here.
-/
import Derived.Test.YtocjncflgbnglaaDoorBuS
import Derived.Test.YtocjncflgbnglaaDoorBuN
import Derived.Test.YtocjncflgbnglaaDoorBuR
import Derived.Test.YtocjncflgbnglaaDoorBuU
import Derived.Test.YtocjncflgbnglaaDoorBuT
/-
  The contracts of chicoryref06's digit and L. No statement is proved here: lemmas for the walks.
-/
namespace Go.Proofs.YtocjncflgbnglaaDoor
open Go.RowKit

/-- L's text, and its digits. -/
def chL : List Nat := [56, 51, 51, 53, 100, 99, 49, 54, 51, 98, 98, 49, 50, 52, 98, 54, 53, 49, 50, 57, 99, 57, 54, 102, 100, 101, 57, 51, 51, 100, 56, 100, 55, 50, 51, 97, 55, 48, 97, 97, 100, 99, 56, 55, 51, 100, 54, 100, 53, 52, 97, 55, 98, 98, 48, 100]
def ch (i : Nat) : Nat := chL.getD i 0
def txL : ByteArray := ⟨#[56, 51, 51, 53, 100, 99, 49, 54, 51, 98, 98, 49, 50, 52, 98, 54, 53, 49, 50, 57, 99, 57, 54, 102, 100, 101, 57, 51, 51, 100, 56, 100, 55, 50, 51, 97, 55, 48, 97, 97, 100, 99, 56, 55, 51, 100, 54, 100, 53, 52, 97, 55, 98, 98, 48, 100]⟩
def hxd (n : Nat) : Nat := if 97 ≤ n then n - 87 else n - 48
theorem txL_at : ∀ i, i < 56 → txL[i]? = some (UInt8.ofNat (ch i)) := by decide +kernel
theorem ch_ok : ∀ i, i < 56 → (48 ≤ ch i ∧ ch i < 58) ∨ (97 ≤ ch i ∧ ch i < 103) := by decide +kernel
theorem ch_pair : ∀ k, k < 28 → 16 * hxd (ch (54 - 2 * k)) + hxd (ch (55 - 2 * k)) = dg rN k := by decide +kernel
theorem digit_v (n : Nat) (w : World) (h : (48 ≤ n ∧ n < 58) ∨ (97 ≤ n ∧ n < 103)) :
    Calls Tryd.prog 48 #[.int .u8 (n : Int)] w fun e w' => e = .returned (.int .i64 ((hxd n : Nat) : Int)) ∧ w' = w := by
  rcases h with ⟨h1, h2⟩ | ⟨h1, h2⟩
  · have d1 : decide ((97 : Int) ≤ (n : Int)) = false := by simp; omega
    have HE : Hid (((hxd n : Nat) : Int) = (n : Int) - 48) := Lib.hid (by unfold hxd; rw [if_neg (by omega)]; omega)
    have f1 : IntKind.u8.wrap ((n : Int) - 48) = (n : Int) - 48 := by rw [IntKind.wrap_u8]; omega
    go_enter Tryd.func48, Tryd.ntmps48
    go_wp2
    go_ret
    exact ⟨by rw [HE.out]; rfl, rfl⟩
  · have d1 : decide ((97 : Int) ≤ (n : Int)) = true := by simp; omega
    have HE : Hid (((hxd n : Nat) : Int) = (n : Int) - 97 + 10) := Lib.hid (by unfold hxd; rw [if_pos h1]; omega)
    have f1 : IntKind.u8.wrap ((n : Int) - 97) = (n : Int) - 97 := by rw [IntKind.wrap_u8]; omega
    go_enter Tryd.func48, Tryd.ntmps48
    go_wp2
    go_ret
    exact ⟨by rw [HE.out]; rfl, rfl⟩
theorem exec_char {e : Operand → Value} {o : Oper} {x y : Operand} {S : ByteArray} {k : IntKind} {i n : Nat} (ho : o.op = .index 9 x y) (hx : e x = .string S) (hy : e y = .int k (i : Int)) (hs : S[i]? = some (UInt8.ofNat n)) (hn : n < 256) (w : World) :
    (execOp e o).run Tryd.prog w = .ok (.value (.int .u8 (n : Int))) w := by
  have h2 : (UInt8.ofNat n).toNat = n := by rw [UInt8.toNat_ofNat']; exact Nat.mod_eq_of_lt hn
  have h1 : (Instr.index 9 (.string S) (.int k (i : Int))).run Tryd.prog w = .ok (.int .u8 (n : Int)) w := by
    unfold Instr.index
    simp only [asIntOf, Sem.run_bind, Sem.run_pure, Result.andThen_ok, run_underlying Tryd.underlying9 w]
    rw [if_pos (by omega), Int.toNat_natCast, hs]
    show (Sem.run Tryd.prog (pure (Value.int .u8 (((UInt8.ofNat n).toNat : Nat) : Int))) w) = _
    rw [h2]
    rfl
  unfold execOp
  simp only [ho, hx, hy, Sem.run_bind, h1, Result.andThen_ok]
  rfl
section
variable {o : Oper} {a : Act} {w : World} {K : Act → World → Prop} {Q : Exit → Act → World → Prop}
/-- A slice of one byte is made, in any world. -/
theorem wp_oneByte (dd : Tmp) (hd : o.dst = some dd) {v : BitVec 8} {x : Operand} (ho : o.op = .buildSlice 22 1 #[(0, x)]) (hx : a.eval x = U v)
    (h : ∀ w' g, w'.cell? ⟨g, 0, none⟩ = some (U v) → (∃ ob, w' = w.alloc ob) → K (a.put (some dd) (.slice (some ⟨g, 0, none⟩) 1 1)) w') : o.wp Tryd.prog a w K Q := by
  obtain ⟨i, hi, hz, hs, _⟩ := info_u8
  refine Go.wp_buildSlice 22 5 1 _ ho #[U v] i _ Tryd.underlying22 hi hz (by rw [hs]; decide) (by rw [hs]; decide) (by rw [hs]; simp [Instr.fill, hx, Array.range, Value.cells]; exact Array.ext (by simp) (fun j h1 h2 => by obtain rfl : j = 0 := (by simpa using h2); simp)) ?_
  rw [hd]
  exact h _ _ (by simp) ⟨_, rfl⟩
/-- One byte is appended to a row of the call's own. -/
theorem wp_appendB (dd : Tmp) (hd : o.dst = some dd) {s x : Operand} (ho : o.op = .call { callee := .builtin .append, args := #[s, x], argTypes := #[22, 22] }) {v : Value} (hs : a.eval s = v)
    {gx cx : Nat} (hx : a.eval x = .slice (some ⟨gx, 0, none⟩) 1 cx) {base n : Nat} {f : Nat → BitVec 8} (hc : w.cell? ⟨gx, 0, none⟩ = some (U (f n))) (hown : OwnB w base v n f) (hn : n ≤ 100000) (hbase : base ≤ w.heap.size)
    (h : ∀ v' w', OwnB w' base v' (n + 1) f → Below base w w' → K (a.put (some dd) v') w') : o.wp Tryd.prog a w K Q := by
  obtain ⟨i, hi, hz, hsz, hby⟩ := info_u8
  rw [← hd] at h
  refine wp_append_own w s x _ ho base 5 i (.int .u8 0) 1 1 Tryd.underlying22 hi hz hsz hby rfl (by omega) v n _ hs hown
    ⟨gx, 0, none⟩ 1 cx [U (f n)] hx rfl (fun j u hu => ?_) (fun u hu => ?_) (by unfold maxLen; omega) (by omega) hbase ?_
  · have hj : j = 0 := by
      rcases j with _ | j
      · rfl
      · simp at hu
    subst hj
    simp at hu
    rw [Addr.add_mid, Nat.add_zero, hc, ← hu]
  · simp at hu
    subst hu
    rfl
  · intro v' w' ho' hgrow _
    refine h v' w' ?_ ((Below.refl _ _).grown hgrow hbase fun k hk => ?_)
    · unfold OwnB
      rw [List.range_succ, List.map_append]
      exact ho'
    · obtain ⟨_, hv⟩ := hown
      rcases hv with ⟨rfl, _⟩ | ⟨g, cap, cur, rfl, hg, _⟩
      · cases hk
      · have : g = k := by simpa [Value.ownBlock] using hk
        omega
end
theorem OwnB.drew {w : World} {base : Nat} {v : Value} {n : Nat} {f : Nat → BitVec 8} (h : OwnB w base v n f) : OwnB w.drew base v n f := h
theorem OwnB.made {w w' : World} {base : Nat} {v : Value} {n : Nat} {f : Nat → BitVec 8} (h : OwnB w base v n f) (he : ∃ ob, w' = w.alloc ob) : OwnB w' base v n f := by
  obtain ⟨ob, rfl⟩ := he
  exact h.alloc ob
theorem Below.made {w w' W : World} {B : Nat} (h : Below B W w) (hB : B ≤ w.heap.size) (he : ∃ ob, w' = w.alloc ob) : Below B W w' := by
  obtain ⟨ob, rfl⟩ := he
  exact h.alloc hB ob
theorem rN_fits8 : rN < 2 ^ (8 * 28) := by
  have h : Nat.blt rN (2 ^ (8 * 28)) = true := by decide +kernel
  exact Nat.le_of_ble_eq_true h
theorem qN_at (j : Nat) : upd8 (fun _ => 0) 55 64 j = bt qN j := by
  obtain ⟨e, he⟩ : ∃ e, e = 446 := ⟨_, rfl⟩
  rw [← qN_pow e he]
  apply BitVec.eq_of_getLsbD_eq
  intro k hk
  rw [bt_bit, Nat.testBit_two_pow]
  unfold upd8
  by_cases h : j = 55
  · subst h
    rw [if_pos rfl]
    rcases (by omega : k = 0 ∨ k = 1 ∨ k = 2 ∨ k = 3 ∨ k = 4 ∨ k = 5 ∨ k = 6 ∨ k = 7) with rfl | rfl | rfl | rfl | rfl | rfl | rfl | rfl <;> subst he <;> decide
  · rw [if_neg h]
    have h1 : ¬ e = 8 * j + k := by omega
    simp [h1]
theorem qN_fits : qN < 2 ^ (8 * 56) := leb (by decide +kernel)
theorem rN_le : rN ≤ qN := leb (by decide +kernel)
theorem qN_sub : qN - rN = lN := by rw [qN_eq, Nat.add_sub_cancel]
theorem lN_len : dl 8 lN = 56 := dl_eq (by omega) (Nat.lt_of_le_of_lt (by rw [qN_eq]; exact Nat.le_add_right _ _) qN_fits) (.inr (leb (by decide +kernel)))
set_option maxRecDepth 8000 in
set_option maxHeartbeats 3200000 in
theorem refL_v (w : World) :
    Calls Tryd.prog 16 #[] w fun e w' => ∃ a c, e = .returned (.slice a 56 c) ∧ Sb w' w'.heap.size a 56 c lN ∧ Below w.heap.size w w' := by
  obtain ⟨S, hS⟩ : ∃ S, txL = S := ⟨_, rfl⟩
  have HS : Hid (∀ i, i < 56 → S[i]? = some (UInt8.ofNat (ch i))) := Lib.hid (by rw [← hS]; exact txL_at)
  have hsz : S.size = 56 := by rw [← hS]; rfl
  have hSt : txL = S := hS
  unfold txL at hS
  go_enter Tryd.func16, Tryd.ntmps16
  go_wp2_with fail
  clear hS hSt hsz
  go_loopw [2, 3] (fun v2 v3 wr => ∃ k : Nat, k ≤ 28 ∧ v3 = .int .i64 (54 - 2 * (k : Int)) ∧ OwnB wr w.heap.size v2 k (bt rN) ∧ Below w.heap.size w wr) (fun _ v3 _ => (intOf v3 + 2).toNat)
  case atStart => exact ⟨0, by omega, by go_num, OwnB.nil _ _ _, Below.refl _ _⟩
  case round =>
    obtain ⟨k, hk, rfl, HO, HB⟩ := hrel
    have HO := Lib.hid HO
    have HB := Lib.hid HB
    by_cases hlt : k < 28
    · obtain ⟨i, hi⟩ : ∃ i, 54 - 2 * k = i := ⟨_, rfl⟩
      have ei : 54 - 2 * (k : Int) = (i : Int) := by omega
      rw [ei]
      have hid : decide ((0 : Int) ≤ (i : Int)) = true := by simp
      have q1 := HS.out i (by omega)
      have q2 := HS.out (i + 1) (by omega)
      have o1 := ch_ok i (by omega)
      have o2 := ch_ok (i + 1) (by omega)
      have pr := ch_pair k hlt
      rw [hi, show 55 - 2 * k = i + 1 by omega] at pr
      obtain ⟨c1, h1⟩ : ∃ u, ch i = u := ⟨_, rfl⟩
      obtain ⟨c2, h2⟩ : ∃ u, ch (i + 1) = u := ⟨_, rfl⟩
      rw [h1] at q1 o1 pr
      rw [h2] at q2 o2 pr
      have HD1 := Lib.hid (fun w => digit_v c1 w o1)
      have HD2 := Lib.hid (fun w => digit_v c2 w o2)
      have T1 : Hid (c1 < 256) := Lib.hid (by omega)
      have T2 : Hid (c2 < 256) := Lib.hid (by omega)
      have Q1 := Lib.hid q1
      have Q2 := Lib.hid q2
      clear q1 q2
      obtain ⟨d1, hd1⟩ : ∃ d, hxd c1 = d := ⟨_, rfl⟩
      obtain ⟨d2, hd2⟩ : ∃ d, hxd c2 = d := ⟨_, rfl⟩
      rw [hd1] at pr HD1
      rw [hd2] at pr HD2
      have hg := dg_lt rN k
      obtain ⟨y, hy⟩ : ∃ y, dg rN k = y := ⟨_, rfl⟩
      rw [hy] at pr hg
      have HY : Hid (U8 (bt rN k) = (y : Int)) := Lib.hid (by rw [← hy]; exact U8_bt rN k)
      have f0 : IntKind.i64.wrap ((i : Int) + 1) = ((i + 1 : Nat) : Int) := (IntWalk.i64_in _ (by omega)).trans (by omega)
      have f1 : IntKind.i64.wrap (16 * (d1 : Int)) = 16 * (d1 : Int) := IntWalk.i64_in _ (by omega)
      have f2 : IntKind.i64.wrap (16 * (d1 : Int) + (d2 : Int)) = (y : Int) := (IntWalk.i64_in _ (by omega)).trans (by omega)
      have f3 : IntKind.u8.wrap (y : Int) = (y : Int) := by rw [IntKind.wrap_u8]; omega
      have Hi : Hid ((i : Int) - 2 = 54 - 2 * ((k + 1 : Nat) : Int)) := Lib.hid (by omega)
      have i54 : (i : Int) ≤ 54 := by omega
      have e1 : (i : Int) < 56 := by omega
      have Hk : Hid (k + 1 ≤ 28) := Lib.hid (by omega)
      have k28 : k ≤ 100000 := by omega
      clear o1 o2 h1 h2 hd1 hd2 hy pr hg ei hi hlt hk
      go_wp2_with fail
      refine wp_region_noPanic ?_
      refine wp_region_held_drew (S := fun _ => True) (by kernel_rfl) trivial (fun hH => ?_)
      replace HO := Lib.hid HO.out.drew
      replace HB := Lib.hid (Below.drew HB.out)
      generalize World.drew _ = w8 at *
      have hz : w.heap.size ≤ w8.heap.size := HB.out.size
      refine held_value 0 12 (u2) rfl rfl (by kernel_rfl) (by kernel_rfl) (by kernel_rfl) rfl hH (fun w hw => by go_simp) ?_
      try simp only [Act.put, List.setIfInBounds_toArray, List.set_cons_zero, List.set_cons_succ]
      refine held_value 1 13 (.string S) rfl rfl (by kernel_rfl) (by kernel_rfl) (by kernel_rfl) rfl hH (fun w hw => by go_simp) ?_
      try simp only [Act.put, List.setIfInBounds_toArray, List.set_cons_zero, List.set_cons_succ]
      refine held_value 2 14 (.int .i64 i) rfl rfl (by kernel_rfl) (by kernel_rfl) (by kernel_rfl) rfl hH (fun w hw => by go_simp) ?_
      try simp only [Act.put, List.setIfInBounds_toArray, List.set_cons_zero, List.set_cons_succ]
      refine held_value 3 15 (.int .u8 (c1 : Int)) rfl rfl (by kernel_rfl) (by kernel_rfl) (by kernel_rfl) rfl hH (fun w hw => by exact exec_char rfl rfl rfl Q1.out T1.out w) ?_
      try simp only [Act.put, List.setIfInBounds_toArray, List.set_cons_zero, List.set_cons_succ]
      refine held_value 6 18 (.string S) rfl rfl (by kernel_rfl) (by kernel_rfl) (by kernel_rfl) rfl hH (fun w hw => by go_simp) ?_
      try simp only [Act.put, List.setIfInBounds_toArray, List.set_cons_zero, List.set_cons_succ]
      refine held_value 7 19 (.int .i64 i) rfl rfl (by kernel_rfl) (by kernel_rfl) (by kernel_rfl) rfl hH (fun w hw => by go_simp) ?_
      try simp only [Act.put, List.setIfInBounds_toArray, List.set_cons_zero, List.set_cons_succ]
      refine held_value 8 20 (.int .i64 ((i + 1 : Nat) : Int)) rfl rfl (by kernel_rfl) (by kernel_rfl) (by kernel_rfl) rfl hH (fun w hw => by go_simp) ?_
      try simp only [Act.put, List.setIfInBounds_toArray, List.set_cons_zero, List.set_cons_succ]
      refine held_value 9 21 (.int .u8 (c2 : Int)) rfl rfl (by kernel_rfl) (by kernel_rfl) (by kernel_rfl) rfl hH (fun w hw => by exact exec_char rfl rfl rfl Q2.out T2.out w) ?_
      try simp only [Act.put, List.setIfInBounds_toArray, List.set_cons_zero, List.set_cons_succ]
      refine wpAnyH_ready (rs := [4]) (by kernel_rfl) (by simp) ?_
      refine AllReadyH.cons (o := _) rfl (fun K hK => ?_) AllReadyH.nil
      go_simp
      refine (HD1.out _).mono ?_
      rintro e wc ⟨rfl, rfl⟩
      refine hK.out _ _ (trivial) (fun hN => ?_)
      clear hK K hH
      have hH := hN
      clear hN
      try simp only [Act.put, List.setIfInBounds_toArray, List.set_cons_zero, List.set_cons_succ]
      refine held_value 5 17 (.int .i64 (16 * (d1 : Int))) rfl rfl (by kernel_rfl) (by kernel_rfl) (by kernel_rfl) rfl hH (fun w hw => by go_simp) ?_
      try simp only [Act.put, List.setIfInBounds_toArray, List.set_cons_zero, List.set_cons_succ]
      refine wpAnyH_ready (rs := [10]) (by kernel_rfl) (by simp) ?_
      refine AllReadyH.cons (o := _) rfl (fun K hK => ?_) AllReadyH.nil
      go_simp
      refine (HD2.out _).mono ?_
      rintro e wc ⟨rfl, rfl⟩
      refine hK.out _ _ (trivial) (fun hN => ?_)
      clear hK K hH
      have hH := hN
      clear hN
      try simp only [Act.put, List.setIfInBounds_toArray, List.set_cons_zero, List.set_cons_succ]
      refine held_value 11 23 (.int .i64 (y : Int)) rfl rfl (by kernel_rfl) (by kernel_rfl) (by kernel_rfl) rfl hH (fun w hw => by go_simp) ?_
      try simp only [Act.put, List.setIfInBounds_toArray, List.set_cons_zero, List.set_cons_succ]
      refine held_value 12 24 (U (bt rN k)) rfl rfl (by kernel_rfl) (by kernel_rfl) (by kernel_rfl) rfl hH (fun w hw => by (go_simp; exact HY.out.symm)) ?_
      try simp only [Act.put, List.setIfInBounds_toArray, List.set_cons_zero, List.set_cons_succ]
      refine wpAnyH_ready (rs := [13]) (by kernel_rfl) (by simp) ?_
      refine AllReadyH.cons (o := _) rfl (fun K hK => ?_) AllReadyH.nil
      refine wp_oneByte 25 rfl (v := bt rN k) rfl rfl ?_
      intro wb gb hc he
      replace HO := Lib.hid (HO.out.made he)
      replace HB := Lib.hid (Below.made HB.out hz he)
      have HC := Lib.hid hc
      clear hc he hz
      refine hK.out _ _ (trivial) (fun hN => ?_)
      clear hK K hH
      have hH := hN
      clear hN
      try simp only [Act.put, List.setIfInBounds_toArray, List.set_cons_zero, List.set_cons_succ]
      refine wpAnyH_ready (rs := [14]) (by kernel_rfl) (by simp) ?_
      refine AllReadyH.cons (o := _) rfl (fun K hK => ?_) AllReadyH.nil
      refine wp_appendB 26 rfl rfl rfl rfl HC.out HO.out k28 HB.out.size ?_
      intro v' wq ho hb
      refine hK.out _ _ (trivial) (fun hN => ?_)
      clear hK K hH
      have hH := hN
      clear hN
      try simp only [Act.put, List.setIfInBounds_toArray, List.set_cons_zero, List.set_cons_succ]
      refine held_value 15 2 (v') rfl rfl (by kernel_rfl) (by kernel_rfl) (by kernel_rfl) rfl hH (fun w hw => by go_simp) ?_
      try simp only [Act.put, List.setIfInBounds_toArray, List.set_cons_zero, List.set_cons_succ]
      try simp only [Act.put]
      refine wpAnyH_done (by kernel_rfl) ?_ _
      refine NoPanic.normal ?_
      clear hH
      clear f0 f1 f2 f3
      go_wp2_with fail
      go_roundw
      case rel => exact ⟨k + 1, Hk.out, congrArg (Value.int .i64) Hi.out, ho, HB.out.trans hb⟩
      case measure => (simp [intOf] <;> omega)
    · obtain rfl : k = 28 := by omega
      obtain ⟨a2, c2, rfl, hsl⟩ := HO.out.any
      have HC : Hid (Sb wr wr.heap.size a2 28 c2 rN) := Lib.hid ⟨hsl, rN_fits8⟩
      have HQF := Lib.hid qN_fits
      have HRQ := Lib.hid rN_le
      have HLS := Lib.hid qN_sub
      have HLN := Lib.hid lN_len
      clear hsl hlt hk HO HS
      rw [show 54 - 2 * ((28 : Nat) : Int) = -2 from rfl]
      have H := Lib.hid (Ow.start wr)
      go_wp2_with (first
        | ((with_reducible apply own_makeB (m := 56) H); (case hgd => exact rfl); (case ho => exact rfl); (case hx => exact rfl); (case hy => exact rfl); (case hc => decide); intro wm gm H' _ _; replace H := H'; clear H'; go_simp)
        | ((with_reducible apply own_putb (v := 64) H); (case hgd => exact rfl); (case ho => exact rfl); (case hx => exact rfl); (case hy => exact rfl); (case hi => exact at0); (case hj => decide); intro ws H' _ _; replace H := H'; clear H'; simp only [List.set_cons_zero] at H; replace H := Lib.hid (H.out.like 0 (g := UB (bt qN)) rfl fun j _ => congrArg U8 (qN_at j)); simp only [List.set_cons_zero] at H; have HQ : Hid (Sb ws ws.heap.size (some ⟨gm, 0, none⟩) 56 56 qN) := Lib.hid ⟨H.out.slb 0 rfl (Nat.le_refl _) (Nat.le_refl _), HQF.out⟩; have HC2 : Hid (Sb ws ws.heap.size a2 28 c2 rN) := Lib.hid (HC.out.call H.out.bel); go_simp)
        | ((with_reducible refine (nrefSub_any (some ⟨gm, 0, none⟩) 56 56 qN a2 28 c2 rN _ (by omega) (by omega) HQ.out HC2.out HRQ.out).mono ?_); rintro e wc ⟨v, rfl, hv⟩; obtain ⟨a3, c3, rfl, hs, hb⟩ := hv; rw [HLS.out, HLN.out] at hs; rw [HLS.out, HLN.out]; have HS3 := Lib.hid hs; have HB3 := Lib.hid hb; clear hs hb))
      go_ret
      exact ⟨_, _, rfl, HS3.out, HB.out.trans ((H.out.bel.mono HB.out.size).trans (HB3.out.mono (Nat.le_trans HB.out.size H.out.bel.size)))⟩
end Go.Proofs.YtocjncflgbnglaaDoor

/-
  The contracts of chicoryref06's Reduce, Fits, Add, Neg, Mul, Half. No statement is proved here: lemmas for the walks.
-/
namespace Go.Proofs.YtocjncflgbnglaaDoor
open Go.RowKit

set_option maxRecDepth 8000 in
set_option maxHeartbeats 3200000 in
theorem r6reduce_v (a : Option Addr) (n c x : Nat) (w : World) (hn : n ≤ 1000) (hs : Sb w w.heap.size a n c x) :
    Calls Tryd.prog 19 #[.slice a n c] w fun e w' => ∃ v, e = .returned v ∧ GotB w w' v (x % lN) := by
  have HD : Hid (dl 8 x ≤ 1000) := Lib.hid (Nat.le_trans ((dl_le 8 x n (by omega)).2 hs.fits) hn)
  have HN : Hid (n ≤ 1000000) := Lib.hid (by omega)
  have HP := Lib.hid lN_pos
  have HS := Lib.hid hs
  clear hs hn
  have H := Lib.hid (Ow.start w)
  go_enter Tryd.func19, Tryd.ntmps19
  go_wp2_with (first
    | ((with_reducible refine (cut_any a n c x _ HN.out HS.out).mono ?_); rintro e wc ⟨rfl, rfl⟩; replace HS := Lib.hid HS.out.cut)
    | ((with_reducible refine (refL_v _).mono ?_); rintro e wc ⟨a1, c1, rfl, hs, hb⟩; replace HS := Lib.hid (HS.out.call hb); replace H := Lib.hid (H.out.call hb); have S1 := Lib.hid hs; clear hs; clear hb)
    | ((with_reducible refine (refDiv_any a (dl 8 x) c x a1 56 c1 lN _ HD.out (by omega) HS.out S1.out HP.out).mono ?_); rintro e wc ⟨v, v', rfl, hq, hr⟩; have HR := Lib.hid hr; clear hq hr))
  go_ret
  obtain ⟨a3, c3, hv, hs3, hb3⟩ := HR.out
  exact ⟨_, rfl, a3, c3, hv, hs3, H.out.bel.trans (hb3.mono H.out.bel.size)⟩
set_option maxRecDepth 8000 in
set_option maxHeartbeats 3200000 in
theorem r6fits_v (a : Option Addr) (n c x : Nat) (w : World) (hn : n ≤ 1000) (hs : Sb w w.heap.size a n c x) :
    Calls Tryd.prog 20 #[.slice a n c] w fun e w' => e = .returned (.bool (decide (x < lN))) ∧ Below w.heap.size w w' := by
  have HN : Hid (n ≤ 1000000) := Lib.hid (by omega)
  have HC : Hid (decide (cmp x lN < 0) = decide (x < lN)) := Lib.hid (decide_eq_decide.2 (by
    unfold cmp
    by_cases h : x < lN
    · rw [if_pos h]; simp [h]
    · rw [if_neg h]
      constructor
      · intro h1; split at h1 <;> omega
      · intro h1; omega))
  obtain ⟨z, hz⟩ : ∃ z, cmp x lN = z := ⟨_, rfl⟩
  rw [hz] at HC
  have HZ := Lib.hid hz
  have HS := Lib.hid hs
  clear hs hn hz
  have H := Lib.hid (Ow.start w)
  go_enter Tryd.func20, Tryd.ntmps20
  go_wp2_with (first
    | ((with_reducible refine (refL_v _).mono ?_); rintro e wc ⟨a1, c1, rfl, hs, hb⟩; replace HS := Lib.hid (HS.out.call hb); replace H := Lib.hid (H.out.call hb); have S1 := Lib.hid hs; clear hs; clear hb)
    | ((with_reducible refine (refCompare_any a n c x a1 56 c1 lN _ HN.out (by omega) HS.out S1.out).mono ?_); rintro e wc ⟨rfl, rfl⟩; rw [HZ.out]))
  go_ret
  exact ⟨congrArg (fun b => Ending.returned (.bool b)) HC.out, H.out.bel⟩
/-- A scalar's number, as many bytes as it wants: at most 56. -/
theorem kl_len (x : KL) : dl 8 x.val ≤ 56 := (dl_le 8 _ 56 (by omega)).2 (Nat.lt_trans x.isLt (Nat.lt_of_le_of_lt (by rw [qN_eq]; exact Nat.le_add_right _ _) qN_fits))
set_option maxRecDepth 8000 in
set_option maxHeartbeats 3200000 in
theorem r6add_v (x y : KL) (a a' : Option Addr) (c c' : Nat) (w : World) (hs : Sb w w.heap.size a (dl 8 x.val) c x.val) (hs' : Sb w w.heap.size a' (dl 8 y.val) c' y.val) :
    Calls Tryd.prog 25 #[.slice a (dl 8 x.val) c, .slice a' (dl 8 y.val) c'] w fun e w' => ∃ v, e = .returned v ∧ GotB w w' v (x + y).val := by
  have hx := kl_len x
  have hy := kl_len y
  obtain ⟨n, hn⟩ : ∃ n, dl 8 x.val = n := ⟨_, rfl⟩
  obtain ⟨m, hm⟩ : ∃ m, dl 8 y.val = m := ⟨_, rfl⟩
  rw [hn] at hx hs ⊢
  rw [hm] at hy hs' ⊢
  obtain ⟨z, hz⟩ : ∃ z, x.val + y.val = z := ⟨_, rfl⟩
  have HZ := Lib.hid hz
  have HE : Hid ((x + y).val = z % lN) := Lib.hid (by rw [← hz]; exact Fin.val_add _ _)
  rw [HE.out]
  have HL : Hid (dl 8 z ≤ 1000) := Lib.hid ((dl_le 8 _ 1000 (by omega)).2 (by
    rw [← hz]
    have h1 := x.isLt
    have h2 := y.isLt
    have h3 : lN * lN < 2 ^ (8 * 1000) := leb (by decide +kernel)
    have h4 : x.val + y.val ≤ lN * lN := by have h5 : lN + lN ≤ lN * lN := leb (by decide +kernel); omega
    exact Nat.lt_of_le_of_lt h4 h3))
  have HX := Lib.hid hs
  have HY := Lib.hid hs'
  have n9 : n ≤ 10000 := by omega
  have m9 : m ≤ 10000 := by omega
  clear hs hs' hn hm hx hy hz
  have H := Lib.hid (Ow.start w)
  go_enter Tryd.func25, Tryd.ntmps25
  go_wp2_with (first
    | ((with_reducible refine (nrefAdd_any a n c x.val a' m c' y.val _ n9 m9 HX.out HY.out).mono ?_); rintro e wc ⟨v, rfl, a1, c1, rfl, hs, hb⟩; replace H := Lib.hid (H.out.call hb); rw [HZ.out] at hs; rw [HZ.out]; have S1 := Lib.hid hs; clear hs; clear hb)
    | ((with_reducible refine (r6reduce_v a1 (dl 8 z) c1 z _ HL.out S1.out).mono ?_); rintro e wc ⟨v, rfl, hv⟩; have HV := Lib.hid hv; clear hv))
  go_ret
  obtain ⟨a3, c3, hv, hs3, hb3⟩ := HV.out
  exact ⟨_, rfl, a3, c3, hv, hs3, H.out.bel.trans (hb3.mono H.out.bel.size)⟩
set_option maxRecDepth 8000 in
set_option maxHeartbeats 3200000 in
theorem r6mul_v (x y : KL) (a a' : Option Addr) (c c' : Nat) (w : World) (hs : Sb w w.heap.size a (dl 8 x.val) c x.val) (hs' : Sb w w.heap.size a' (dl 8 y.val) c' y.val) :
    Calls Tryd.prog 32 #[.slice a (dl 8 x.val) c, .slice a' (dl 8 y.val) c'] w fun e w' => ∃ v, e = .returned v ∧ GotB w w' v (x * y).val := by
  have hx := kl_len x
  have hy := kl_len y
  obtain ⟨n, hn⟩ : ∃ n, dl 8 x.val = n := ⟨_, rfl⟩
  obtain ⟨m, hm⟩ : ∃ m, dl 8 y.val = m := ⟨_, rfl⟩
  rw [hn] at hx hs ⊢
  rw [hm] at hy hs' ⊢
  obtain ⟨z, hz⟩ : ∃ z, x.val * y.val = z := ⟨_, rfl⟩
  have HZ := Lib.hid hz
  have HE : Hid ((x * y).val = z % lN) := Lib.hid (by rw [← hz]; exact Fin.val_mul _ _)
  rw [HE.out]
  have HL : Hid (dl 8 z ≤ 1000) := Lib.hid ((dl_le 8 _ 1000 (by omega)).2 (by
    rw [← hz]
    have h1 := x.isLt
    have h2 := y.isLt
    have h3 : lN * lN < 2 ^ (8 * 1000) := leb (by decide +kernel)
    have h4 : x.val * y.val ≤ lN * lN := by have := Nat.mul_le_mul (Nat.le_of_lt h1) (Nat.le_of_lt h2); exact this
    exact Nat.lt_of_le_of_lt h4 h3))
  have HX := Lib.hid hs
  have HY := Lib.hid hs'
  have n9 : n ≤ 10000 := by omega
  have m9 : m ≤ 10000 := by omega
  clear hs hs' hn hm hx hy hz
  have H := Lib.hid (Ow.start w)
  go_enter Tryd.func32, Tryd.ntmps32
  go_wp2_with (first
    | ((with_reducible refine (nrefMul_any a n c x.val a' m c' y.val _ n9 m9 HX.out HY.out).mono ?_); rintro e wc ⟨v, rfl, a1, c1, rfl, hs, hb⟩; replace H := Lib.hid (H.out.call hb); rw [HZ.out] at hs; rw [HZ.out]; have S1 := Lib.hid hs; clear hs; clear hb)
    | ((with_reducible refine (r6reduce_v a1 (dl 8 z) c1 z _ HL.out S1.out).mono ?_); rintro e wc ⟨v, rfl, hv⟩; have HV := Lib.hid hv; clear hv))
  go_ret
  obtain ⟨a3, c3, hv, hs3, hb3⟩ := HV.out
  exact ⟨_, rfl, a3, c3, hv, hs3, H.out.bel.trans (hb3.mono H.out.bel.size)⟩
set_option maxRecDepth 8000 in
set_option maxHeartbeats 3200000 in
theorem r6neg_v (x : KL) (a : Option Addr) (c : Nat) (w : World) (hs : Sb w w.heap.size a (dl 8 x.val) c x.val) :
    Calls Tryd.prog 27 #[.slice a (dl 8 x.val) c] w fun e w' => ∃ v, e = .returned v ∧ GotB w w' v (-x).val := by
  have hx := kl_len x
  obtain ⟨n, hn⟩ : ∃ n, dl 8 x.val = n := ⟨_, rfl⟩
  rw [hn] at hx hs ⊢
  rw [fp_val_neg]
  have HL : Hid (dl 8 (lN - x.val) ≤ 1000) := Lib.hid (Nat.le_trans (dl_mono (by omega) (Nat.sub_le _ _)) (by rw [lN_len]; omega))
  have HX := Lib.hid hs
  have HLE := Lib.hid (Nat.le_of_lt x.isLt)
  have n9 : n ≤ 10000 := by omega
  clear hs hn hx
  have H := Lib.hid (Ow.start w)
  go_enter Tryd.func27, Tryd.ntmps27
  go_wp2_with (first
    | ((with_reducible refine (refL_v _).mono ?_); rintro e wc ⟨a1, c1, rfl, hs, hb⟩; replace HX := Lib.hid (HX.out.call hb); replace H := Lib.hid (H.out.call hb); have S1 := Lib.hid hs; clear hs; clear hb)
    | ((with_reducible refine (nrefSub_any a1 56 c1 lN a n c x.val _ (by omega) n9 S1.out HX.out HLE.out).mono ?_); rintro e wc ⟨v, rfl, a2, c2, rfl, hs, hb⟩; replace H := Lib.hid (H.out.call hb); have S2 := Lib.hid hs; clear hs; clear hb)
    | ((with_reducible refine (r6reduce_v a2 (dl 8 (lN - x.val)) c2 (lN - x.val) _ HL.out S2.out).mono ?_); rintro e wc ⟨v, rfl, hv⟩; have HV := Lib.hid hv; clear hv))
  go_ret
  obtain ⟨a3, c3, hv, hs3, hb3⟩ := HV.out
  exact ⟨_, rfl, a3, c3, hv, hs3, H.out.bel.trans (hb3.mono H.out.bel.size)⟩
theorem shf_half (x : Nat) : shf x (-1) = x / 2 := by
  unfold shf
  rw [if_pos (by decide)]
  rfl
set_option maxRecDepth 8000 in
set_option maxHeartbeats 3200000 in
theorem r6half_v (x : KL) (a : Option Addr) (c : Nat) (w : World) (hs : Sb w w.heap.size a (dl 8 x.val) c x.val) :
    Calls Tryd.prog 34 #[.slice a (dl 8 x.val) c] w fun e w' => ∃ v, e = .returned v ∧ GotB w w' v (haK x).val := by
  have hx := kl_len x
  obtain ⟨n, hn⟩ : ∃ n, dl 8 x.val = n := ⟨_, rfl⟩
  rw [hn] at hx hs ⊢
  have HX := Lib.hid hs
  have n9 : n ≤ 1000 := by omega
  have n6 : n ≤ 1000000 := by omega
  have n5 : n ≤ 10000 := by omega
  have hb : bitI x.val 0 = ((x.val % 2 : Nat) : Int) := by unfold bitI; rw [if_neg (by decide)]; simp
  by_cases h : x.val % 2 = 1
  · have HE : Hid ((haK x).val = shf (x.val + lN) (-1)) := Lib.hid (by rw [shf_half]; show hf x.val = _; unfold hf; rw [if_pos h])
    have HB : Hid (bitI x.val 0 = 1) := Lib.hid (by rw [hb, h]; rfl)
    have HL : Hid (dl 8 (x.val + lN) ≤ 1000) := Lib.hid ((dl_le 8 _ 1000 (by omega)).2 (by
      have h1 := x.isLt
      have h3 : lN + lN < 2 ^ (8 * 1000) := leb (by decide +kernel)
      exact Nat.lt_of_le_of_lt (Nat.add_le_add_right (Nat.le_of_lt h1) lN) h3))
    rw [HE.out]
    clear hs hn hx hb h
    have H := Lib.hid (Ow.start w)
    go_enter Tryd.func34, Tryd.ntmps34
    go_wp2_with (first
      | ((with_reducible refine (refBit_any a n c x.val 0 _ n6 (by omega) HX.out).mono ?_); rintro e wc ⟨rfl, rfl⟩; rw [HB.out])
      | ((with_reducible refine (refL_v _).mono ?_); rintro e wc ⟨a1, c1, rfl, hs, hb⟩; replace HX := Lib.hid (HX.out.call hb); replace H := Lib.hid (H.out.call hb); have S1 := Lib.hid hs; clear hs; clear hb)
      | ((with_reducible refine (nrefAdd_any a n c x.val a1 56 c1 lN _ n5 (by omega) HX.out S1.out).mono ?_); rintro e wc ⟨v, rfl, a2, c2, rfl, hs, hb⟩; replace H := Lib.hid (H.out.call hb); have S2 := Lib.hid hs; clear hs; clear hb)
      | ((with_reducible refine (refShift_any a2 (dl 8 (x.val + lN)) c2 (x.val + lN) (-1) _ HL.out (by omega) (by omega) S2.out).mono ?_); rintro e wc ⟨v, rfl, hv⟩; have HV := Lib.hid hv; clear hv))
    go_ret
    obtain ⟨a3, c3, hv, hs3, hb3⟩ := HV.out
    exact ⟨_, rfl, a3, c3, hv, hs3, H.out.bel.trans (hb3.mono H.out.bel.size)⟩
  · have HE : Hid ((haK x).val = shf x.val (-1)) := Lib.hid (by rw [shf_half]; show hf x.val = _; unfold hf; rw [if_neg h, Nat.add_zero])
    have HB : Hid (bitI x.val 0 = 0) := Lib.hid (by rw [hb, show x.val % 2 = 0 by omega]; rfl)
    rw [HE.out]
    clear hs hn hx hb h
    have H := Lib.hid (Ow.start w)
    go_enter Tryd.func34, Tryd.ntmps34
    go_wp2_with (first
      | ((with_reducible refine (refBit_any a n c x.val 0 _ n6 (by omega) HX.out).mono ?_); rintro e wc ⟨rfl, rfl⟩; rw [HB.out])
      | ((with_reducible refine (refShift_any a n c x.val (-1) _ n9 (by omega) (by omega) HX.out).mono ?_); rintro e wc ⟨v, rfl, hv⟩; have HV := Lib.hid hv; clear hv))
    go_ret
    obtain ⟨a3, c3, hv, hs3, hb3⟩ := HV.out
    exact ⟨_, rfl, a3, c3, hv, hs3, H.out.bel.trans (hb3.mono H.out.bel.size)⟩
end Go.Proofs.YtocjncflgbnglaaDoor

/-
  The contracts of chicoryref06's Bytes, Int and Clamp. No statement is proved here: lemmas for the walks.
-/
namespace Go.Proofs.YtocjncflgbnglaaDoor
open Go.RowKit

section
variable {w w0 : World} {l : List (Nat × Obj)} {ops : Array Oper} {rest : List Oper} {o : Oper} {a : Act} {Q : Exit → Act → World → Prop}
/-- Onto nil is appended: the new row, to the last cell. -/
theorem own_fresh (H : Hid (Ow w0 w l)) (hgd : o.guard = none) {s x : Operand} (ho : o.op = .call { callee := .builtin .append, args := #[s, x], argTypes := #[22, 22] }) (hs : a.eval s = .slice none 0 0) {ad : Option Addr} {n c : Nat} (hx : a.eval x = .slice ad n c)
    {f : Nat → BitVec 8} (hS : Sl w w.heap.size ad n c f) (h0 : ∀ j, n ≤ j → f j = 0) (hn : 0 < n) (hl : n ≤ 1000000)
    (h : ∀ w' g cap, Hid (n ≤ cap) → Hid (Ow w0 w' ((g, YB cap f) :: l)) → ∀ K : Act → World → Prop, (∀ a w, wpList Tryd.prog ops Q rest a w → K a w) → K (a.put o.dst (.slice (some ⟨g, 0, none⟩) n cap)) w') : wpList Tryd.prog ops Q (o :: rest) a w :=
  wpList_plain hgd fun K hK => by
    obtain ⟨i, hi, hz, hs1, hb⟩ := info_u8
    obtain ⟨b, off, rfl, _, _⟩ := hS.get 0 hn
    have hg2 := grownCap_ge w n 0 5
    have hcell : ∀ j, j < n → w.cell? ⟨b, off + j, none⟩ = some (.int .u8 (UB f j)) := fun j hj => by
      obtain ⟨b1, o1, e1, _, hc⟩ := hS.get j hj
      cases e1
      exact hc
    have hr := run_append_nil (P := Tryd.prog) w 22 o.type 5 i (.int .u8 0) Tryd.underlying22 hi hz ⟨b, off, none⟩ n c (AZ .u8 n (UB f)).toList (by rw [hs1, Nat.mul_one]; exact (AZ_list _ _ _).1) (list_cell hcell) hn (by omega) (by rw [hb]; omega)
    have e := AZ_grown (k := .u8) (f := UB f) (n := 0) (m := n) (cap := grownCap w n 0 5) (z := .int .u8 0) rfl rfl [] (AZ .u8 n (UB f)).toList rfl (AZ_list _ _ _).1 (fun j hj => absurd hj (by omega)) (fun j hj => by rw [Nat.zero_add]; exact (AZ_list _ n _).2 j hj) (fun j hj => by unfold UB; rw [h0 j (by omega)]; rfl) (by omega)
    rw [Nat.zero_add, show ([] : List Value).toArray = #[] from rfl, Array.empty_append] at e
    rw [e] at hr
    exact Lib.wp_append_run w s x _ _ ho _ _ hs hx _ _ hr (h _ _ _ (Lib.hid hg2) (Lib.hid (H.out.grew _)) K hK)
/-- Onto nil is appended: a row of the call's own. -/
theorem lay_nilB (hgd : o.guard = none) {s x : Operand} (ho : o.op = .call { callee := .builtin .append, args := #[s, x], argTypes := #[22, 22] }) (hs : a.eval s = .slice none 0 0)
    {ad : Option Addr} {n c : Nat} {f : Nat → BitVec 8} (hx : a.eval x = .slice ad n c) (hS : Sl w w.heap.size ad n c f) (hn : n ≤ 1000)
    (h : ∀ v' w', OwnB w' w.heap.size v' n f → Below w.heap.size w w' → ∀ K : Act → World → Prop, (∀ a w, wpList Tryd.prog ops Q rest a w → K a w) → K (a.put o.dst v') w') : wpList Tryd.prog ops Q (o :: rest) a w := by
  obtain ⟨i, hi, hz, hsz, hby⟩ := info_u8
  cases ad with
  | none =>
    have hc := hS.nil rfl
    have hle := hS.le
    obtain rfl : n = 0 := by omega
    subst hc
    exact wpList_append_own_none hgd s x _ ho w.heap.size 5 i 1 Tryd.underlying22 hi (.slice none 0 0) 0 [] hs ⟨rfl, .inl ⟨rfl, rfl⟩⟩ hx
      (h _ w (OwnB.nil _ _ _) (Below.refl _ _) _ fun _ _ h => h)
  | some ad =>
    refine wpList_append_own w hgd s x _ ho w.heap.size 5 i (.int .u8 0) 1 1 Tryd.underlying22 hi hz hsz hby rfl (by omega) (.slice none 0 0) 0 [] hs ⟨rfl, .inl ⟨rfl, rfl⟩⟩
      ad n c ((List.range n).map fun i => U (f i)) hx (by simp) (fun j u hu => ?_) (fun u hu => ?_) (by unfold maxLen; omega) (by omega) (Nat.le_refl _) ?_
    · obtain ⟨hj, rfl⟩ := newsB_get n f j u hu
      obtain ⟨b, off, rfl, hb, hc⟩ := hS.low ad rfl (by omega)
      rw [Addr.add_mid]
      exact hc j hj
    · obtain ⟨i, _, rfl⟩ := List.mem_map.1 hu
      rfl
    · intro v' w' hown hgrow _
      have hbel : Below w.heap.size w w' := (Below.refl _ _).grown hgrow (Nat.le_refl _) (fun k hk => by cases hk)
      rw [Nat.zero_add, List.nil_append] at hown
      exact h _ _ hown hbel _ fun _ _ h => h
end
set_option maxRecDepth 8000 in
set_option maxHeartbeats 3200000 in
theorem r6bytes_v (a : Option Addr) (n c x : Nat) (w : World) (hn : n ≤ 57) (hs : Sb w w.heap.size a n c x) :
    Calls Tryd.prog 15 #[.slice a n c] w fun e w' => ∃ a' c', e = .returned (.slice a' 57 c') ∧ Sb w' w'.heap.size a' 57 c' x ∧ Below w.heap.size w w' := by
  have HF : Hid (x < 2 ^ (8 * 57)) := Lib.hid (fits_more (b := 8) (n := n) (m := 57) hs.fits hn)
  have HZ : Hid (∀ j, n ≤ j → bt x j = 0) := Lib.hid fun j hj => bt_over hs.fits hj
  have HS := Lib.hid hs
  clear hs
  go_enter Tryd.func15, Tryd.ntmps15
  go_wp2_with (first
    | ((with_reducible apply lay_nilB); (case hgd => exact rfl); (case ho => exact rfl); (case hs => exact rfl); (case hx => exact rfl); (case hS => exact HS.out.sl); (case hn => omega); intro v1 w1 ho hb _ _; have HO := Lib.hid ho; have HB := Lib.hid hb; clear ho hb; go_simp))
  go_loopw [3] (fun v3 wr => ∃ k : Nat, n ≤ k ∧ k ≤ 57 ∧ (∃ a c, v3 = .slice a k c) ∧ OwnB wr w.heap.size v3 k (bt x) ∧ Below w.heap.size w wr) (fun v3 _ => 57 - (match v3 with | .slice _ k _ => k | _ => 0))
  case atStart => exact ⟨n, Nat.le_refl _, hn, by obtain ⟨a', c', e, _⟩ := HO.out.any; exact ⟨a', c', e⟩, HO.out, HB.out⟩
  case round =>
    clear HO HB
    obtain ⟨k, hk, hk57, ⟨ak, ck, rfl⟩, HO, HB⟩ := hrel
    have H1 := Lib.hid HO
    have H2 := Lib.hid HB
    have hz : w.heap.size ≤ wr.heap.size := HB.size
    clear HO HB
    by_cases hlt : k < 57
    · have hid : decide ((k : Int) < 57) = true := by simp; omega
      have HK : Hid (U8 (bt x k) = 0) := Lib.hid (by rw [HZ.out k hk]; rfl)
      go_wp2_with (first
        | ((with_reducible apply lay_append_byte); (case hgd => exact rfl); (case ho => exact rfl); (case hs => exact rfl); (case hx => exact rfl); (case hown => exact H1.out.alloc _); (case hc => exact new_byte _ _ _ HK.out); (case hn => omega); (case hbase => simp; omega); intro v' w' ho' hb' _ _; go_simp))
      obtain ⟨a', c', rfl, _⟩ := ho'.any
      go_roundw
      case rel => exact ⟨k + 1, by omega, by omega, ⟨a', c', rfl⟩, ho', (H2.out.alloc hz _).trans hb'⟩
      case measure => (simp <;> omega)
    · obtain rfl : k = 57 := by omega
      obtain ⟨a', c', e, hsl⟩ := H1.out.any
      cases e
      have HSL := Lib.hid hsl
      clear hsl hlt hk hk57
      go_wp2_with fail
      go_ret
      exact ⟨_, _, rfl, ⟨HSL.out, HF.out⟩, H2.out⟩
set_option maxRecDepth 8000 in
set_option maxHeartbeats 3200000 in
theorem r6int_pos (v : Nat) (w : World) (hv : v ≤ 9223372036854775808 - 1) :
    Calls Tryd.prog 30 #[.int .i64 (v : Int)] w fun e w' => ∃ r, e = .returned r ∧ GotB w w' r ((ofL (v : Int))).val := by
  have HF : Hid (v < 2 ^ (8 * 8)) := Lib.hid (Nat.lt_of_le_of_lt hv (by decide))
  have hd0 : decide ((v : Int) < 0) = false := by simp
  go_enter Tryd.func30, Tryd.ntmps30
  go_wp2_with fail
  go_loopw [3, 4, 5, 6] (fun v3 v4 v5 v6 wr => ∃ k : Nat, k ≤ 8 ∧ v5 = .int .i64 k ∧ v4 = .int .i64 ((v / 2 ^ (8 * k) : Nat) : Int) ∧ OwnB wr w.heap.size v3 k (bt v) ∧ Below w.heap.size w wr) (fun _ _ v5 _ _ => 8 - (intOf v5).toNat)
  case atStart => exact ⟨0, by omega, rfl, by rw [Nat.mul_zero, Nat.pow_zero, Nat.div_one], OwnB.nil _ _ _, Below.refl _ _⟩
  case round =>
    obtain ⟨k, hk, rfl, rfl, HO, HB⟩ := hrel
    have H1 := Lib.hid HO
    have H2 := Lib.hid HB
    have hz : w.heap.size ≤ wr.heap.size := HB.size
    clear HO HB
    by_cases hlt : k < 8
    · have hid : decide ((k : Int) < 8) = true := by simp; omega
      have hu1 : v / 2 ^ (8 * k) ≤ v := Nat.div_le_self _ _
      have hn : v / 2 ^ (8 * (k + 1)) = v / 2 ^ (8 * k) / 256 := by rw [pow8, ← Nat.div_div_eq_div_mul]
      have hg : U8 (bt v k) = ((v / 2 ^ (8 * k) % 256 : Nat) : Int) := U8_bt v k
      obtain ⟨u, hu⟩ : ∃ u, v / 2 ^ (8 * k) = u := ⟨_, rfl⟩
      rw [hu] at hu1 hn hg ⊢
      obtain ⟨q, hq⟩ : ∃ q, u / 256 = q := ⟨_, rfl⟩
      obtain ⟨r, hr⟩ : ∃ r, u % 256 = r := ⟨_, rfl⟩
      rw [hq] at hn
      rw [hr] at hg
      have HG := Lib.hid hg
      have HN := Lib.hid hn
      have r256 : (r : Int) < 256 := by omega
      have u63 : (u : Int) ≤ 9223372036854775808 := by omega
      have q63 : (q : Int) ≤ 36028797018963968 := by omega
      have f3 : IntKind.u8.wrap (r : Int) = (r : Int) := by rw [IntKind.wrap_u8]; omega
      have e1 : (u : Int).tmod 256 = (r : Int) := by rw [Int.tmod_eq_emod_of_nonneg (by omega)]; omega
      have e2 : (u : Int) / 256 = (q : Int) := by omega
      have e3 : (u : Int).tdiv 256 = (q : Int) := by rw [Int.tdiv_eq_ediv_of_nonneg (by omega)]; omega
      have d1 : decide ((r : Int) < 0) = false := by simp
      clear hu hq hr hg hn hu1
      go_wp2_with (first
        | ((with_reducible apply lay_append_byte); (case hgd => exact rfl); (case ho => exact rfl); (case hs => exact rfl); (case hx => exact rfl); (case hown => exact H1.out.alloc _); (case hc => exact new_byte _ _ _ HG.out); (case hn => omega); (case hbase => simp; omega); intro v' w' ho' hb' _ _; go_simp))
      go_roundw
      case rel => exact ⟨k + 1, by omega, by go_num, by rw [HN.out], ho', (H2.out.alloc hz _).trans hb'⟩
      case measure => (simp [intOf] <;> omega)
    · obtain rfl : k = 8 := by omega
      rw [show ((8 : Nat) : Int) = 8 from rfl]
      obtain ⟨a', c', rfl, hsl⟩ := H1.out.any
      have HSL : Hid (Sb wr wr.heap.size a' 8 c' v) := Lib.hid ⟨hsl, HF.out⟩
      clear hsl hlt hk
      go_wp2_with (first
        | ((with_reducible refine (r6reduce_v a' 8 c' v _ (by omega) HSL.out).mono ?_); rintro e wc ⟨v', rfl, hv'⟩; have HV := Lib.hid hv'; clear hv'))
      go_ret
      rw [ofL_nat]
      obtain ⟨a3, c3, hv, hs3, hb3⟩ := HV.out
      exact ⟨_, rfl, a3, c3, hv, hs3, H2.out.trans (hb3.mono hz)⟩
set_option maxRecDepth 8000 in
set_option maxHeartbeats 3200000 in
theorem r6int_neg (v : Nat) (w : World) (hv : 0 < v ∧ v ≤ 9223372036854775808) :
    Calls Tryd.prog 30 #[.int .i64 (-(v : Int))] w fun e w' => ∃ r, e = .returned r ∧ GotB w w' r ((-ofL (v : Int))).val := by
  have HF : Hid (v < 2 ^ (8 * 8)) := Lib.hid (Nat.lt_of_le_of_lt hv.2 (by decide))
  have hd0 : decide ((-(v : Int)) < 0) = true := by simp; omega
  go_enter Tryd.func30, Tryd.ntmps30
  go_wp2_with fail
  go_loopw [3, 4, 5, 6] (fun v3 v4 v5 v6 wr => ∃ k : Nat, k ≤ 8 ∧ v5 = .int .i64 k ∧ v4 = .int .i64 (-((v / 2 ^ (8 * k) : Nat) : Int)) ∧ OwnB wr w.heap.size v3 k (bt v) ∧ Below w.heap.size w wr) (fun _ _ v5 _ _ => 8 - (intOf v5).toNat)
  case atStart => exact ⟨0, by omega, rfl, by rw [Nat.mul_zero, Nat.pow_zero, Nat.div_one], OwnB.nil _ _ _, Below.refl _ _⟩
  case round =>
    obtain ⟨k, hk, rfl, rfl, HO, HB⟩ := hrel
    have H1 := Lib.hid HO
    have H2 := Lib.hid HB
    have hz : w.heap.size ≤ wr.heap.size := HB.size
    clear HO HB
    by_cases hlt : k < 8
    · have hid : decide ((k : Int) < 8) = true := by simp; omega
      have hu1 : v / 2 ^ (8 * k) ≤ v := Nat.div_le_self _ _
      have hn : v / 2 ^ (8 * (k + 1)) = v / 2 ^ (8 * k) / 256 := by rw [pow8, ← Nat.div_div_eq_div_mul]
      have hg : U8 (bt v k) = ((v / 2 ^ (8 * k) % 256 : Nat) : Int) := U8_bt v k
      obtain ⟨u, hu⟩ : ∃ u, v / 2 ^ (8 * k) = u := ⟨_, rfl⟩
      rw [hu] at hu1 hn hg ⊢
      obtain ⟨q, hq⟩ : ∃ q, u / 256 = q := ⟨_, rfl⟩
      obtain ⟨r, hr⟩ : ∃ r, u % 256 = r := ⟨_, rfl⟩
      rw [hq] at hn
      rw [hr] at hg
      have HG := Lib.hid hg
      have HN := Lib.hid hn
      have r256 : (r : Int) < 256 := by omega
      have u63 : (u : Int) ≤ 9223372036854775808 := by omega
      have q63 : (q : Int) ≤ 36028797018963968 := by omega
      have f3 : IntKind.u8.wrap (r : Int) = (r : Int) := by rw [IntKind.wrap_u8]; omega
      have e1 : (-(u : Int)).tmod 256 = -(r : Int) := by rw [Int.neg_tmod, Int.tmod_eq_emod_of_nonneg (by omega)]; omega
      have e2 : (-(u : Int)).tdiv 256 = -(q : Int) := by rw [Int.neg_tdiv, Int.tdiv_eq_ediv_of_nonneg (by omega)]; omega
      clear hu hq hn hu1
      rcases Nat.eq_zero_or_pos r with hr0 | hr0
      · have e3 : (-(u : Int)).tmod 256 = 0 := by rw [e1, hr0]; rfl
        have HG0 : Hid (U8 (bt v k) = 0) := Lib.hid (by rw [hg, hr0]; rfl)
        clear e1 hr hg hr0 HG f3 r256
        go_wp2_with (first
          | ((with_reducible apply lay_append_byte); (case hgd => exact rfl); (case ho => exact rfl); (case hs => exact rfl); (case hx => exact rfl); (case hown => exact H1.out.alloc _); (case hc => exact new_byte _ _ _ HG0.out); (case hn => omega); (case hbase => simp; omega); intro v' w' ho' hb' _ _; go_simp))
        go_roundw
        case rel => exact ⟨k + 1, by omega, by go_num, by rw [HN.out], ho', (H2.out.alloc hz _).trans hb'⟩
        case measure => (simp [intOf] <;> omega)
      · have d1 : decide ((0 : Int) < (r : Int)) = true := by simp; omega
        have d2 : (0 : Int) < (r : Int) := by omega
        have HG1 : Hid (U8 (bt v k) = (r : Int)) := HG
        clear hr hg hr0 HG
        go_wp2_with (first
          | ((with_reducible apply lay_append_byte); (case hgd => exact rfl); (case ho => exact rfl); (case hs => exact rfl); (case hx => exact rfl); (case hown => exact H1.out.alloc _); (case hc => exact new_byte _ _ _ HG1.out); (case hn => omega); (case hbase => simp; omega); intro v' w' ho' hb' _ _; go_simp))
        go_roundw
        case rel => exact ⟨k + 1, by omega, by go_num, by rw [HN.out], ho', (H2.out.alloc hz _).trans hb'⟩
        case measure => (simp [intOf] <;> omega)
    · obtain rfl : k = 8 := by omega
      rw [show ((8 : Nat) : Int) = 8 from rfl]
      obtain ⟨a', c', rfl, hsl⟩ := H1.out.any
      have HSL : Hid (Sb wr wr.heap.size a' 8 c' v) := Lib.hid ⟨hsl, HF.out⟩
      have HV1 : Hid (v % lN = (ofL (v : Int)).val) := Lib.hid (ofL_nat v).symm
      clear hsl hlt hk
      go_wp2_with (first
        | ((with_reducible refine (r6reduce_v a' 8 c' v _ (by omega) HSL.out).mono ?_); rintro e wc ⟨v', rfl, hv'⟩; obtain ⟨a1, c1, rfl, hs1, hb1⟩ := hv'; rw [HV1.out] at hs1; rw [HV1.out]; have HS1 := Lib.hid hs1; have HB1 := Lib.hid hb1; clear hs1 hb1)
        | ((with_reducible refine (r6neg_v (ofL (v : Int)) a1 c1 _ HS1.out).mono ?_); rintro e wd ⟨v', rfl, hv'⟩; have HV := Lib.hid hv'; clear hv'))
      go_ret
      obtain ⟨a3, c3, hv, hs3, hb3⟩ := HV.out
      exact ⟨_, rfl, a3, c3, hv, hs3, H2.out.trans ((HB1.out.mono hz).trans (hb3.mono (Nat.le_trans hz HB1.out.size)))⟩
theorem r6int_v (n : Int) (w : World) (h1 : -9223372036854775808 ≤ n) (h2 : n ≤ 9223372036854775807) :
    Calls Tryd.prog 30 #[.int .i64 n] w fun e w' => ∃ r, e = .returned r ∧ GotB w w' r (ofL n).val := by
  rcases Int.lt_or_le n 0 with h | h
  · obtain ⟨v, hv⟩ := Int.eq_ofNat_of_zero_le (show 0 ≤ -n by omega)
    obtain rfl : n = -(v : Int) := by omega
    rw [ofL_neg]
    exact r6int_neg v w (by omega)
  · obtain ⟨v, rfl⟩ := Int.eq_ofNat_of_zero_le h
    exact r6int_pos v w (by omega)
theorem u8_four (a : BitVec 8) : (U8 a).tdiv 4 % 256 * 4 % 256 = U8 (a &&& ~~~3) := by
  revert a
  decide +kernel
theorem u8_top (a : BitVec 8) : ((U8 a).tmod 128 + 128) % 256 = U8 (a ||| 128) := by
  revert a
  decide +kernel
theorem u8_top' (a : BitVec 8) : ((U8 a).tmod 128 % 256 + 128) % 256 = U8 (a ||| 128) := by
  revert a
  decide +kernel
set_option maxRecDepth 8000 in
set_option maxHeartbeats 3200000 in
theorem r6clamp_56 (a : Option Addr) (c : Nat) (f : Nat → BitVec 8) (w : World) (hs : Sl w w.heap.size a 56 c f) :
    Calls Tryd.prog 37 #[.slice a 56 c] w fun e w' => ∃ a' c', e = .returned (.slice a' 56 c') ∧ Sl w' w'.heap.size a' 56 c' (clF f) ∧ Below w.heap.size w w' := by
  obtain ⟨F, hF⟩ : ∃ F : Nat → BitVec 8, F = fun j => if j < 56 then f j else 0 := ⟨_, rfl⟩
  have hf0 : F 0 = f 0 := by rw [hF]; rfl
  have hf55 : upd8 F 0 (f 0 &&& ~~~3) 55 = f 55 := by rw [hF]; rfl
  have HZ : Hid (∀ j, 56 ≤ j → F j = 0) := Lib.hid fun j hj => by rw [hF]; show (if j < 56 then f j else 0) = 0; rw [if_neg (by omega)]
  have HS : Hid (Sl w w.heap.size a 56 c F) := Lib.hid ⟨hs.le, hs.nil, fun ad e h0 => by
    obtain ⟨b, o, e', hb, hc⟩ := hs.low ad e h0
    exact ⟨b, o, e', hb, fun j hj => by rw [hc j hj, hF]; show some (U (f j)) = some (U (if j < 56 then f j else 0)); rw [if_pos hj]⟩⟩
  have HE : Hid (∀ j, upd8 (upd8 F 0 (f 0 &&& ~~~3)) 55 (f 55 ||| 128) j = clF f j) := Lib.hid fun j => by
    rw [hF]
    unfold clF upd8
    by_cases h0 : j = 0
    · subst h0; rfl
    · by_cases h55 : j = 55
      · subst h55; rfl
      · skip
        skip
        simp only [h0, h55, if_false]
        by_cases h : j < 55
        · rw [if_pos h, if_pos (by omega)]
        · rw [if_neg h, if_neg (by omega)]
  clear hs hF
  have H := Lib.hid (Ow.start w)
  go_enter Tryd.func37, Tryd.ntmps37
  go_wp2_with (first
    | ((with_reducible apply own_fresh (f := F) (n := 56) H); (case hgd => exact rfl); (case ho => exact rfl); (case hs => exact rfl); (case hx => exact rfl); (case hS => exact HS.out); (case h0 => exact HZ.out); (case hn => omega); (case hl => omega); intro wz gz cap HCap H' _ _; replace H := H'; clear H'; go_simp)
    | ((with_reducible apply own_getb H); (case hgd => exact rfl); (case ho => exact rfl); (case hx => exact rfl); (case hi => exact at0); (case hj => have := HCap.out; omega); intro _ _; (try rw [hf0]); (try rw [hf55]); go_simp)
    | ((with_reducible apply own_putb (v := f 0 &&& ~~~3) H); (case hgd => exact rfl); (case ho => exact rfl); (case hx => exact rfl); (case hy => exact congrArg (Value.int .u8) (u8_four _)); (case hi => exact at0); (case hj => have := HCap.out; omega); intro ws H' _ _; replace H := H'; clear H'; simp only [List.set_cons_zero] at H; go_simp)
    | ((with_reducible apply own_putb (v := f 55 ||| 128) H); (case hgd => exact rfl); (case ho => exact rfl); (case hx => exact rfl); (case hy => first | exact congrArg (Value.int .u8) (u8_top _) | exact congrArg (Value.int .u8) (u8_top' _)); (case hi => exact at0); (case hj => have := HCap.out; omega); intro ws H' _ _; replace H := H'; clear H'; simp only [List.set_cons_zero] at H; go_simp))

  go_ret
  replace H := Lib.hid (H.out.like 0 (g := UB (clF f)) rfl fun j _ => congrArg U8 (HE.out j))
  simp only [List.set_cons_zero] at H
  exact ⟨_, _, rfl, H.out.slb 0 rfl HCap.out HCap.out, H.out.bel⟩
set_option maxRecDepth 8000 in
set_option maxHeartbeats 3200000 in
theorem r6clamp_57 (a : Option Addr) (c : Nat) (f : Nat → BitVec 8) (w : World) (hs : Sl w w.heap.size a 57 c f) :
    Calls Tryd.prog 37 #[.slice a 57 c] w fun e w' => ∃ a' c', e = .returned (.slice a' 57 c') ∧ Sl w' w'.heap.size a' 57 c' (clF f) ∧ Below w.heap.size w w' := by
  obtain ⟨F, hF⟩ : ∃ F : Nat → BitVec 8, F = fun j => if j < 57 then f j else 0 := ⟨_, rfl⟩
  have hf0 : F 0 = f 0 := by rw [hF]; rfl
  have hf55 : upd8 F 0 (f 0 &&& ~~~3) 55 = f 55 := by rw [hF]; rfl
  have HZ : Hid (∀ j, 57 ≤ j → F j = 0) := Lib.hid fun j hj => by rw [hF]; show (if j < 57 then f j else 0) = 0; rw [if_neg (by omega)]
  have HS : Hid (Sl w w.heap.size a 57 c F) := Lib.hid ⟨hs.le, hs.nil, fun ad e h0 => by
    obtain ⟨b, o, e', hb, hc⟩ := hs.low ad e h0
    exact ⟨b, o, e', hb, fun j hj => by rw [hc j hj, hF]; show some (U (f j)) = some (U (if j < 57 then f j else 0)); rw [if_pos hj]⟩⟩
  have HE : Hid (∀ j, upd8 (upd8 (upd8 F 0 (f 0 &&& ~~~3)) 55 (f 55 ||| 128)) 56 0 j = clF f j) := Lib.hid fun j => by
    rw [hF]
    unfold clF upd8
    by_cases h0 : j = 0
    · subst h0; rfl
    · by_cases h55 : j = 55
      · subst h55; rfl
      · by_cases h56 : j = 56
        · subst h56; rfl
        · simp only [h0, h55, h56, if_false]
          by_cases h : j < 55
          · rw [if_pos h, if_pos (by omega)]
          · rw [if_neg h, if_neg (by omega)]
  clear hs hF
  have H := Lib.hid (Ow.start w)
  go_enter Tryd.func37, Tryd.ntmps37
  go_wp2_with (first
    | ((with_reducible apply own_fresh (f := F) (n := 57) H); (case hgd => exact rfl); (case ho => exact rfl); (case hs => exact rfl); (case hx => exact rfl); (case hS => exact HS.out); (case h0 => exact HZ.out); (case hn => omega); (case hl => omega); intro wz gz cap HCap H' _ _; replace H := H'; clear H'; go_simp)
    | ((with_reducible apply own_getb H); (case hgd => exact rfl); (case ho => exact rfl); (case hx => exact rfl); (case hi => exact at0); (case hj => have := HCap.out; omega); intro _ _; (try rw [hf0]); (try rw [hf55]); go_simp)
    | ((with_reducible apply own_putb (v := f 0 &&& ~~~3) H); (case hgd => exact rfl); (case ho => exact rfl); (case hx => exact rfl); (case hy => exact congrArg (Value.int .u8) (u8_four _)); (case hi => exact at0); (case hj => have := HCap.out; omega); intro ws H' _ _; replace H := H'; clear H'; simp only [List.set_cons_zero] at H; go_simp)
    | ((with_reducible apply own_putb (v := f 55 ||| 128) H); (case hgd => exact rfl); (case ho => exact rfl); (case hx => exact rfl); (case hy => first | exact congrArg (Value.int .u8) (u8_top _) | exact congrArg (Value.int .u8) (u8_top' _)); (case hi => exact at0); (case hj => have := HCap.out; omega); intro ws H' _ _; replace H := H'; clear H'; simp only [List.set_cons_zero] at H; go_simp)
    | ((with_reducible apply own_putb (v := 0) H); (case hgd => exact rfl); (case ho => exact rfl); (case hx => exact rfl); (case hy => exact rfl); (case hi => exact at0); (case hj => have := HCap.out; omega); intro ws H' _ _; replace H := H'; clear H'; simp only [List.set_cons_zero] at H; go_simp))

  go_ret
  replace H := Lib.hid (H.out.like 0 (g := UB (clF f)) rfl fun j _ => congrArg U8 (HE.out j))
  simp only [List.set_cons_zero] at H
  exact ⟨_, _, rfl, H.out.slb 0 rfl HCap.out HCap.out, H.out.bel⟩
end Go.Proofs.YtocjncflgbnglaaDoor

/-
  What the laws of layer 6 want: bytes compared, scalars made of raw bytes, the chapter's examples. No statement is proved here: lemmas for the walks.
-/
namespace Go.Proofs.YtocjncflgbnglaaDoor
open Go.RowKit

theorem U8_neq {a b : BitVec 8} (h : a ≠ b) : (U8 a != U8 b) = true := by
  rw [bne_iff_ne]
  exact fun e => h (U8_inj.1 e)
set_option maxRecDepth 8000 in
set_option maxHeartbeats 3200000 in
theorem same_sl (a a' : Option Addr) (n c c' : Nat) (f g : Nat → BitVec 8) (w : World) (hn : n ≤ 100000) (h1 : Sl w w.heap.size a n c f) (h2 : Sl w w.heap.size a' n c' g) (he : ∀ i, i < n → f i = g i) :
    Calls Tryd.prog 13 #[.slice a n c, .slice a' n c'] w fun e w' => e = .returned (.bool true) ∧ Below w.heap.size w w' := by
  have H1 := Lib.hid h1
  have H2 := Lib.hid h2
  have HE := Lib.hid he
  clear he
  clear h1 h2
  have hn' : (n : Int) ≤ 100000 := by omega
  go_enter Tryd.func13, Tryd.ntmps13
  go_wp2_with fail
  go_loopw [5] (fun v wr => ∃ i : Nat, i ≤ n ∧ v = .int .i64 i ∧ Below w.heap.size w wr) (fun v _ => n - (intOf v).toNat)
  case atStart => exact ⟨0, by omega, rfl, Below.refl _ _⟩
  case round =>
    obtain ⟨i, hi, rfl, HR⟩ := hrel
    by_cases hlt : i < n
    · have hid : decide ((i : Int) < (n : Int)) = true := by simp; omega
      obtain ⟨b, o, rfl, hbB, hcell⟩ := (H1.out.below HR).get i hlt
      obtain ⟨b', o', rfl, hbB', hcell'⟩ := (H2.out.below HR).get i hlt
      have HH := Lib.hid HR
      clear HR
      go_wp2_with fail
      refine wp_region_still_lit (by kernel_rfl) (by kernel_rfl) ?_
      have HD := Lib.hid (Below.drew HH.out)
      have hc : wr.drew.cell? ⟨b, o + i, none⟩ = some (U (f i)) := hcell
      have hc' : wr.drew.cell? ⟨b', o' + i, none⟩ = some (U (f i)) := by rw [HE.out i hlt]; exact hcell'
      clear HH hcell hcell'
      change wpStill _ _ wr.drew (fun a' => Exit.then _ _ Exit.normal a' wr.drew) _ _
      generalize wr.drew = w2 at *
      have hlt' : (i : Int) < (n : Int) := by omega
      iterate 9 still_step
      refine wpStill_nil ?_
      go_wp2_with fail
      go_roundw
      case rel => exact ⟨i + 1, by omega, by go_num, HD.out⟩
      case measure => simp [intOf]; omega
    · obtain rfl : i = n := by omega
      have HH := Lib.hid HR
      clear HR
      go_wp2_with fail
      go_ret
      exact ⟨rfl, HH.out⟩
set_option maxRecDepth 8000 in
set_option maxHeartbeats 3200000 in
theorem differ_sl (a a' : Option Addr) (n c c' : Nat) (f g : Nat → BitVec 8) (w : World) (hn : n ≤ 100000) (h1 : Sl w w.heap.size a n c f) (h2 : Sl w w.heap.size a' n c' g) (j : Nat) (hj : j < n) (hne : f j ≠ g j) (he : ∀ i, i < j → f i = g i) :
    Calls Tryd.prog 13 #[.slice a n c, .slice a' n c'] w fun e w' => e = .returned (.bool false) ∧ Below w.heap.size w w' := by
  have H1 := Lib.hid h1
  have H2 := Lib.hid h2
  have HE := Lib.hid he
  have HN := Lib.hid (U8_neq hne)
  clear he hne
  clear h1 h2
  have hn' : (n : Int) ≤ 100000 := by omega
  go_enter Tryd.func13, Tryd.ntmps13
  go_wp2_with fail
  go_loopw [5] (fun v wr => ∃ i : Nat, i ≤ j ∧ v = .int .i64 i ∧ Below w.heap.size w wr) (fun v _ => n - (intOf v).toNat)
  case atStart => exact ⟨0, by omega, rfl, Below.refl _ _⟩
  case round =>
    obtain ⟨i, hi, rfl, HR⟩ := hrel
    have hlt : i < n := by omega
    by_cases hij : i < j
    · have hg : g i = f i := (HE.out i hij).symm
      have hid : decide ((i : Int) < (n : Int)) = true := by simp; omega
      obtain ⟨b, o, rfl, hbB, hcell⟩ := (H1.out.below HR).get i hlt
      obtain ⟨b', o', rfl, hbB', hcell'⟩ := (H2.out.below HR).get i hlt
      rw [hg] at hcell'
      clear hg
      have HH := Lib.hid HR
      clear HR
      go_wp2_with fail
      refine wp_region_still_lit (by kernel_rfl) (by kernel_rfl) ?_
      have HD := Lib.hid (Below.drew HH.out)
      have hc : wr.drew.cell? ⟨b, o + i, none⟩ = some (U (f i)) := hcell
      have hc' : wr.drew.cell? ⟨b', o' + i, none⟩ = some (U (f i)) := hcell'
      clear HH hcell hcell'
      change wpStill _ _ wr.drew (fun a' => Exit.then _ _ Exit.normal a' wr.drew) _ _
      generalize wr.drew = w2 at *
      have hlt' : (i : Int) < (n : Int) := by omega
      iterate 9 still_step
      refine wpStill_nil ?_
      go_wp2_with fail
      go_roundw
      case rel => exact ⟨i + 1, by omega, by go_num, HD.out⟩
      case measure => simp [intOf]; omega
    · obtain rfl : i = j := by omega
      have hne := HN.out
      have hid : decide ((i : Int) < (n : Int)) = true := by simp; omega
      obtain ⟨b, o, rfl, hbB, hcell⟩ := (H1.out.below HR).get i hlt
      obtain ⟨b', o', rfl, hbB', hcell'⟩ := (H2.out.below HR).get i hlt
      have HH := Lib.hid HR
      clear HR
      go_wp2_with fail
      refine wp_region_still_lit (by kernel_rfl) (by kernel_rfl) ?_
      have HD := Lib.hid (Below.drew HH.out)
      have hc : wr.drew.cell? ⟨b, o + i, none⟩ = some (U (f i)) := hcell
      have hc' : wr.drew.cell? ⟨b', o' + i, none⟩ = some (U (g i)) := hcell'
      clear HH hcell hcell'
      change wpStill _ _ wr.drew (fun a' => Exit.then _ _ Exit.normal a' wr.drew) _ _
      generalize wr.drew = w2 at *
      have hlt' : (i : Int) < (n : Int) := by omega
      iterate 9 still_step
      refine wpStill_nil ?_
      go_wp2_with fail
      go_ret
      exact ⟨rfl, HD.out⟩
theorem other_sl (a a' : Option Addr) (n m c c' : Nat) (w : World) (h : n ≠ m) :
    Calls Tryd.prog 13 #[.slice a n c, .slice a' m c'] w fun e w' => e = .returned (.bool false) ∧ Below w.heap.size w w' := by
  have hd : ((n : Int) != (m : Int)) = true := by rw [bne_iff_ne]; omega
  go_enter Tryd.func13, Tryd.ntmps13
  go_wp2_with fail
  go_ret
  exact ⟨rfl, Below.refl _ _⟩
theorem eq_of_bytes {x y n : Nat} (hx : x < 2 ^ (8 * n)) (hy : y < 2 ^ (8 * n)) (h : ∀ i, i < n → bt x i = bt y i) : x = y := by
  refine eq_of_bits hx hy fun i hi => ?_
  have h1 := congrArg (fun b => b.getLsbD (i % 8)) (h (i / 8) (by omega))
  simp only [bt_bit] at h1
  rw [show 8 * (i / 8) + i % 8 = i by omega] at h1
  simpa [Nat.mod_lt] using h1
/-- The first place where two rows part. -/
theorem first_diff (f g : Nat → BitVec 8) : ∀ n, (∀ i, i < n → f i = g i) ∨ ∃ j, j < n ∧ f j ≠ g j ∧ ∀ i, i < j → f i = g i
  | 0 => .inl fun i hi => absurd hi (by omega)
  | n + 1 => by
    rcases first_diff f g n with h | ⟨j, hj, h1, h2⟩
    · by_cases e : f n = g n
      · exact .inl fun i hi => by
          rcases (by omega : i < n ∨ i = n) with h3 | rfl
          · exact h i h3
          · exact e
      · exact .inr ⟨n, by omega, e, h⟩
    · exact .inr ⟨j, by omega, h1, h2⟩
/-- Numbers are compared by as many bytes. -/
theorem cmp_same (a a' : Option Addr) (n c c' x y : Nat) (w : World) (hn : n ≤ 100000) (h1 : Sb w w.heap.size a n c x) (h2 : Sb w w.heap.size a' n c' y) :
    Calls Tryd.prog 13 #[.slice a n c, .slice a' n c'] w fun e w' => e = .returned (.bool (decide (x = y))) ∧ Below w.heap.size w w' := by
  rcases first_diff (bt x) (bt y) n with h | ⟨j, hj, hne, he⟩
  · rw [decide_eq_true (eq_of_bytes h1.fits h2.fits h)]
    exact same_sl a a' n c c' _ _ w hn h1.sl h2.sl h
  · rw [decide_eq_false (fun e => hne (by rw [e]))]
    exact differ_sl a a' n c c' _ _ w hn h1.sl h2.sl j hj hne he
/-- Numbers are compared by as many bytes as each wants. -/
theorem cmp_kl (x y : KL) (a a' : Option Addr) (c c' : Nat) (w : World) (h1 : Sb w w.heap.size a (dl 8 x.val) c x.val) (h2 : Sb w w.heap.size a' (dl 8 y.val) c' y.val) :
    Calls Tryd.prog 13 #[.slice a (dl 8 x.val) c, .slice a' (dl 8 y.val) c'] w fun e w' => e = .returned (.bool (decide (x = y))) ∧ Below w.heap.size w w' := by
  by_cases h : dl 8 x.val = dl 8 y.val
  · rw [← h] at h2 ⊢
    rw [decide_eq_decide.2 (Fin.ext_iff (a := x) (b := y))]
    exact cmp_same a a' _ c c' _ _ w (by have := kl_len x; omega) h1 h2
  · rw [decide_eq_false (fun e => h (by rw [e]))]
    exact other_sl a a' _ _ c c' w h
theorem rowRaw : IsRow Tryd.prog 38 57 := ⟨⟨_, Tryd.underlying38, rfl⟩, by kernel_rfl⟩
/-- 57 bytes that are a number. -/
abbrev RV (x : Nat) : Value := .agg (AZ .u8 57 (UB (bt x)))
theorem RV_of (u : Nat → BitVec 8) : ∃ x, x < 2 ^ (8 * 57) ∧ .agg (AZ .u8 57 (UB u)) = RV x := by
  obtain ⟨x, hx, h⟩ := bytes_of u 57
  exact ⟨x, hx, congrArg Value.agg (AZ_congr fun i hi => congrArg U8 (h i hi).symm)⟩
theorem blk_sl {w : World} {g n : Nat} {f : Nat → BitVec 8} {t : TypeId} (h : w.heap[g]? = some (Blk t .u8 n (UB f))) : Sl w w.heap.size (some ⟨g, 0, none⟩) n n f := by
  have hr : w.heap[g]? = some (.cells (AZ .u8 n (UB f)) t) := h
  refine ⟨Nat.le_refl _, (fun e => by cases e), fun ad e _ => ⟨g, 0, (Option.some.inj e).symm, lt_row h, fun i hi => ?_⟩⟩
  rw [Nat.zero_add, cell_of_row _ _ _ _ _ _ hr, AZ_get _ _ _ _ hi]
  rfl
set_option maxRecDepth 8000 in
set_option maxHeartbeats 3200000 in
theorem law6Bytes_v (x : Nat) (w : World) (hx : x < 2 ^ (8 * 57)) :
    Calls Tryd.prog 52 #[RV x] w fun e w' => ∃ a c, e = .returned (.slice a 57 c) ∧ Sb w' w'.heap.size a 57 c x ∧ Below w.heap.size w w' := by
  have HX := Lib.hid hx
  clear hx
  have H := Lib.hid (Ow.start w)
  go_enter Tryd.func52, Tryd.ntmps52
  go_wp2_with (first
    | ((fail_if_success have := g1); (with_reducible apply own_box H); (case hgd => exact rfl); (case ho => exact rfl); (case hx => exact rfl); intro w1 g1 H' _ _; replace H := H'; clear H'; go_simp)
    | ((with_reducible apply lay_nilB (n := 57) (f := bt x)); (case hgd => exact rfl); (case ho => exact rfl); (case hs => exact rfl); (case hx => exact rfl); (case hS => exact blk_sl (H.out.row 0 rfl)); (case hn => omega); intro v1 w2 ho hb _ _; have HO := Lib.hid ho; have HB := Lib.hid hb; clear ho hb; go_simp))
  go_ret
  obtain ⟨a, c, rfl, hs⟩ := HO.out.any
  exact ⟨a, c, rfl, ⟨hs, HX.out⟩, H.out.bel.trans (HB.out.mono H.out.bel.size)⟩
set_option maxRecDepth 8000 in
set_option maxHeartbeats 3200000 in
theorem made_v (x : Nat) (w : World) (hT : Tl true w) (hx : x < 2 ^ (8 * 57)) :
    Calls Tryd.prog 22 #[RV x] w fun e w' => e = .returned (.tuple #[W7 (ofL (x : Int)).val, .bool true]) ∧ Below w.heap.size w w' := by
  rw [ofL_nat]
  have HX := Lib.hid hx
  have HT := Lib.hid hT
  clear hx hT
  have H := Lib.hid (Ow.start w)
  go_enter Tryd.func22, Tryd.ntmps22
  go_wp2_with (first
    | ((fail_if_success have := g1); (with_reducible apply own_box H); (case hgd => exact rfl); (case ho => exact rfl); (case hx => exact rfl); intro w1 g1 H' _ _; replace H := H'; clear H'; go_simp)
    | ((fail_if_success have := g2); (with_reducible apply own_alloc nilSc H); (case hgd => exact rfl); (case ho => exact rfl); intro w2 g2 H' _ _; replace H := H'; clear H'; go_simp)
    | ((with_reducible apply own_load rowRaw H); (case hgd => exact rfl); (case ho => exact rfl); (case hx => exact rfl); (case hi => first | exact at0 | exact at1 | exact at2 | exact at3 | exact at4 | exact at5 | exact at6 | exact at7 | exact at8 | exact at9); intro _ _; go_simp)
    | ((with_reducible refine (law6Bytes_v x _ HX.out).mono ?_); rintro e wc ⟨a1, c1, rfl, hs, hb⟩; replace H := Lib.hid (H.out.call hb); have S1 := Lib.hid hs; clear hs hb)
    | ((with_reducible refine (reduce_ok a1 57 c1 x _ (HT.out.below H.out.bel) (by omega) S1.out).mono ?_); rintro e wc ⟨rfl, hb⟩; replace H := Lib.hid (H.out.call hb); clear hb)
    | ((fail_if_success have := g4); (with_reducible apply own_alloc nilSc H); (case hgd => exact rfl); (case ho => exact rfl); intro w4 g4 H' _ _; replace H := H'; clear H'; go_simp)
    | ((with_reducible apply own_load rowSc H); (case hgd => exact rfl); (case ho => exact rfl); (case hx => exact rfl); (case hi => first | exact at0 | exact at1 | exact at2 | exact at3 | exact at4 | exact at5 | exact at6 | exact at7 | exact at8 | exact at9); intro _ _; go_simp)
    | ((with_reducible apply own_store rowSc H); (case hgd => exact rfl); (case ho => exact rfl); (case hx => exact rfl); (case hy => exact rfl); (case hi => first | exact at0 | exact at1 | exact at2 | exact at3 | exact at4 | exact at5 | exact at6 | exact at7 | exact at8 | exact at9); intro ws H' _ _; replace H := H'; clear H'; simp only [List.set_cons_zero, List.set_cons_succ] at H; go_simp))
  exact bodyPost_ret (own_result_slot 1 rowSc rfl _ H rfl rfl rfl) rfl ⟨rfl, H.out.bel⟩
set_option maxRecDepth 8000 in
set_option maxHeartbeats 3200000 in
theorem plain_v (x : Nat) (w : World) (hx : x < 2 ^ (8 * 57)) :
    Calls Tryd.prog 23 #[RV x] w fun e w' => ∃ v, e = .returned v ∧ GotB w w' v (ofL (x : Int)).val := by
  rw [ofL_nat]
  have HX := Lib.hid hx
  clear hx
  have H := Lib.hid (Ow.start w)
  go_enter Tryd.func23, Tryd.ntmps23
  go_wp2_with (first
    | ((fail_if_success have := g1); (with_reducible apply own_box H); (case hgd => exact rfl); (case ho => exact rfl); (case hx => exact rfl); intro w1 g1 H' _ _; replace H := H'; clear H'; go_simp)
    | ((with_reducible apply own_load rowRaw H); (case hgd => exact rfl); (case ho => exact rfl); (case hx => exact rfl); (case hi => first | exact at0 | exact at1 | exact at2 | exact at3 | exact at4 | exact at5 | exact at6 | exact at7 | exact at8 | exact at9); intro _ _; go_simp)
    | ((with_reducible refine (law6Bytes_v x _ HX.out).mono ?_); rintro e wc ⟨a1, c1, rfl, hs, hb⟩; replace H := Lib.hid (H.out.call hb); have S1 := Lib.hid hs; clear hs hb)
    | ((with_reducible refine (r6reduce_v a1 57 c1 x _ (by omega) S1.out).mono ?_); rintro e wd ⟨v', rfl, hv'⟩; have HV := Lib.hid hv'; clear hv'))
  go_ret
  obtain ⟨a3, c3, hv, hs3, hb3⟩ := HV.out
  exact ⟨_, rfl, a3, c3, hv, hs3, H.out.bel.trans (hb3.mono H.out.bel.size)⟩
set_option maxRecDepth 8000 in
set_option maxHeartbeats 3200000 in
theorem is_v (x y : KL) (a : Option Addr) (c : Nat) (w : World) (hs : Sb w w.heap.size a (dl 8 y.val) c y.val) :
    Calls Tryd.prog 18 #[W7 x.val, .slice a (dl 8 y.val) c] w fun e w' => e = .returned (.bool (decide (x = y))) ∧ Below w.heap.size w w' := by
  rw [decide_eq_decide.2 (Fin.ext_iff (a := x) (b := y))]
  have hy := kl_len y
  obtain ⟨n, hn⟩ : ∃ n, dl 8 y.val = n := ⟨_, rfl⟩
  rw [hn] at hs hy ⊢
  have n57 : n ≤ 57 := by omega
  have HS := Lib.hid hs
  clear hs hn hy
  have H := Lib.hid (Ow.start w)
  go_enter Tryd.func18, Tryd.ntmps18
  go_wp2_with (first
    | ((fail_if_success have := g2); (with_reducible apply own_box H); (case hgd => exact rfl); (case ho => exact rfl); (case hx => exact rfl); intro w2 g2 H' _ _; replace H := H'; clear H'; go_simp)
    | ((with_reducible apply own_load rowSc H); (case hgd => exact rfl); (case ho => exact rfl); (case hx => exact rfl); (case hi => first | exact at0 | exact at1 | exact at2 | exact at3 | exact at4 | exact at5 | exact at6 | exact at7 | exact at8 | exact at9); intro _ _; go_simp)
    | ((with_reducible refine (bytes_s x _).mono ?_); rintro e wc ⟨a1, c1, rfl, hs, hb⟩; replace H := Lib.hid (H.out.call hb); have S1 := Lib.hid hs; clear hs hb)
    | ((with_reducible refine (r6bytes_v a n c y.val _ n57 (HS.out.call H.out.bel)).mono ?_); rintro e wc ⟨a2, c2, rfl, hs, hb⟩; replace H := Lib.hid (H.out.call hb); replace S1 := Lib.hid (S1.out.call hb); have S2 := Lib.hid hs; clear hs hb)
    | ((with_reducible refine (cmp_same a1 a2 57 c1 c2 x.val y.val _ (by omega) S1.out S2.out).mono ?_); rintro e wc ⟨rfl, hb⟩; replace H := Lib.hid (H.out.call hb); clear hb))
  go_ret
  exact ⟨rfl, H.out.bel⟩
section
variable {x y : KL}
theorem equal_st (w : World) {r : Bool} (hT : Tl r w) (h : x = y) :
    Calls Tryd.prog 35 #[W7 x.val, W7 y.val] w fun e w' => e = .returned (.bool true) ∧ Below w.heap.size w w' :=
  (equal_s x y w hT).mono fun _ _ ⟨he, hb⟩ => ⟨by rw [he, decide_eq_true h], hb⟩
theorem equal_sf (w : World) {r : Bool} (hT : Tl r w) (h : x ≠ y) :
    Calls Tryd.prog 35 #[W7 x.val, W7 y.val] w fun e w' => e = .returned (.bool false) ∧ Below w.heap.size w w' :=
  (equal_s x y w hT).mono fun _ _ ⟨he, hb⟩ => ⟨by rw [he, decide_eq_false h], hb⟩
theorem zero_st (w : World) (h : x = 0) : Calls Tryd.prog 17 #[W7 x.val] w fun e w' => e = .returned (.bool true) ∧ Below w.heap.size w w' :=
  (zero_s x w).mono fun _ _ ⟨he, hb⟩ => ⟨by rw [he, decide_eq_true h], hb⟩
theorem zero_sf (w : World) (h : x ≠ 0) : Calls Tryd.prog 17 #[W7 x.val] w fun e w' => e = .returned (.bool false) ∧ Below w.heap.size w w' :=
  (zero_s x w).mono fun _ _ ⟨he, hb⟩ => ⟨by rw [he, decide_eq_false h], hb⟩
theorem is_st {a : Option Addr} {c : Nat} (w : World) (hs : Sb w w.heap.size a (dl 8 y.val) c y.val) (h : x = y) :
    Calls Tryd.prog 18 #[W7 x.val, .slice a (dl 8 y.val) c] w fun e w' => e = .returned (.bool true) ∧ Below w.heap.size w w' :=
  (is_v x y a c w hs).mono fun _ _ ⟨he, hb⟩ => ⟨by rw [he, decide_eq_true h], hb⟩
end
theorem awk_bytes : bt (ofL (-1)).val 0 = 242 ∧ bt (ofL (-1)).val 1 = 68 ∧ bt (ofL (-1)).val 2 = 88 ∧ bt (ofL (-1)).val 3 = 171 := by decide +kernel
set_option maxRecDepth 8000 in
set_option maxHeartbeats 3200000 in
theorem awake6 (w : World) {r : Bool} (hT : Tl r w) :
    Calls Tryd.prog 10 #[] w fun e w' => e = .returned (.bool true) ∧ Below w.heap.size w w' := by
  have HT := Lib.hid hT
  clear hT
  obtain ⟨b0, b1, b2, b3⟩ := awk_bytes
  have B0 := Lib.hid b0
  have B1 := Lib.hid b1
  have B2 := Lib.hid b2
  have B3 := Lib.hid b3
  have HE : Hid (haK (ofL 1) + haK (ofL 1) = ofL 1) := Lib.hid (haK_two _)
  have u0 : U8 242 = 242 := rfl
  have u1 : U8 68 = 68 := rfl
  have u2 : U8 88 = 88 := rfl
  have u3 : U8 171 = 171 := rfl
  clear b0 b1 b2 b3
  have H := Lib.hid (Ow.start w)
  go_enter Tryd.func10, Tryd.ntmps10
  go_wp2_with (first
    | ((with_reducible refine (int_s (-1) _ (HT.out.below H.out.bel) (by omega) (by omega)).mono ?_); rintro e wc ⟨rfl, hb⟩; replace H := Lib.hid (H.out.call hb); clear hb)
    | ((with_reducible refine (bytes_g (ofL (-1)) _).mono ?_); rintro e wc ⟨gy, rfl, hgy, hry, hb⟩; replace H := Lib.hid (H.out.add hb hgy hry); clear hb hgy hry)
    | ((with_reducible refine (int_s 1 _ (HT.out.below H.out.bel) (by omega) (by omega)).mono ?_); rintro e wc ⟨rfl, hb⟩; replace H := Lib.hid (H.out.call hb); clear hb)
    | ((with_reducible refine (half_s (ofL 1) _ (HT.out.below H.out.bel)).mono ?_); rintro e wc ⟨rfl, hb⟩; replace H := Lib.hid (H.out.call hb); clear hb)
    | ((fail_if_success have := g2); (with_reducible apply own_alloc nilSc H); (case hgd => exact rfl); (case ho => exact rfl); intro w2 g2 H' _ _; replace H := H'; clear H'; go_simp)
    | ((with_reducible apply own_store rowSc H); (case hgd => exact rfl); (case ho => exact rfl); (case hx => exact rfl); (case hy => exact rfl); (case hi => first | exact at0 | exact at1 | exact at2 | exact at3 | exact at4 | exact at5 | exact at6 | exact at7 | exact at8 | exact at9); intro ws H' _ _; replace H := H'; clear H'; simp only [List.set_cons_zero] at H; go_simp)
    | ((with_reducible apply own_getbg (j := 0) H); (case hw => exact rfl); (case ho => exact rfl); (case hx => exact rfl); (case hi => first | exact at0 | exact at1 | exact at2 | exact at3 | exact at4 | exact at5 | exact at6 | exact at7 | exact at8 | exact at9); (case hj => omega); intro _ _; rw [B0.out]; go_simp)
    | ((with_reducible apply own_getbg (j := 1) H); (case hw => exact rfl); (case ho => exact rfl); (case hx => exact rfl); (case hi => first | exact at0 | exact at1 | exact at2 | exact at3 | exact at4 | exact at5 | exact at6 | exact at7 | exact at8 | exact at9); (case hj => omega); intro _ _; rw [B1.out]; go_simp)
    | ((with_reducible apply own_getbg (j := 2) H); (case hw => exact rfl); (case ho => exact rfl); (case hx => exact rfl); (case hi => first | exact at0 | exact at1 | exact at2 | exact at3 | exact at4 | exact at5 | exact at6 | exact at7 | exact at8 | exact at9); (case hj => omega); intro _ _; rw [B2.out]; go_simp)
    | ((with_reducible apply own_getbg (j := 3) H); (case hw => exact rfl); (case ho => exact rfl); (case hx => exact rfl); (case hi => first | exact at0 | exact at1 | exact at2 | exact at3 | exact at4 | exact at5 | exact at6 | exact at7 | exact at8 | exact at9); (case hj => omega); intro _ _; rw [B3.out]; go_simp)
    | ((with_reducible apply own_loadg rowSc H); (case hw => exact rfl); (case ho => exact rfl); (case hx => exact rfl); (case hi => first | exact at0 | exact at1 | exact at2 | exact at3 | exact at4 | exact at5 | exact at6 | exact at7 | exact at8 | exact at9); intro _ _; go_simp)
    | ((with_reducible refine (add_s (haK (ofL 1)) (haK (ofL 1)) _ (HT.out.below H.out.bel)).mono ?_); rintro e wc ⟨rfl, hb⟩; replace H := Lib.hid (H.out.call hb); clear hb)
    | ((with_reducible refine (equal_st (x := haK (ofL 1) + haK (ofL 1)) (y := ofL 1) _ (HT.out.below H.out.bel) HE.out).mono ?_); rintro e wc ⟨rfl, hb⟩; replace H := Lib.hid (H.out.call hb); clear hb))
  go_ret
  exact ⟨rfl, H.out.bel⟩
end Go.Proofs.YtocjncflgbnglaaDoor
