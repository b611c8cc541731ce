/-
  The walk of ScalarSame. No statement is proved here: lemmas for the walks.
-/
import Derived.Test.YtocjncflgbnglaaDoorZScBytesLaw
namespace Go.Proofs.YtocjncflgbnglaaDoor
open Go.RowKit

theorem sl_row {w W : World} {g n c B : Nat} {cur : Array Value} {t : TypeId} {f : Nat → BitVec 8} (h : Sl w B (some ⟨g, 0, none⟩) n c f) (hr : w.heap[g]? = some (.cells cur t)) (hr' : W.heap[g]? = some (.cells cur t)) : Sl W W.heap.size (some ⟨g, 0, none⟩) n c f :=
  ⟨h.le, h.nil, fun ad e h0 => by
    obtain ⟨b, o, e', _, hc⟩ := h.low ad e h0
    have e2 := e.trans (congrArg some e')
    cases e2
    refine ⟨g, 0, e', row_lt hr', fun j hj => ?_⟩
    have h2 := hc j hj
    rw [cell_of_row _ _ _ _ _ _ hr] at h2
    rw [cell_of_row _ _ _ _ _ _ hr']
    exact h2⟩
theorem new_three (w : World) (t : TypeId) (j : Nat) (hj : j < 3) : (w.alloc (.cells #[.int .u8 0, .int .u8 0, .int .u8 0] t)).cell? ⟨w.heap.size, j, none⟩ = some (.int .u8 0) := by
  rcases (by omega : j = 0 ∨ j = 1 ∨ j = 2) with rfl | rfl | rfl <;> simp
section
variable {ops : Array Oper} {rest : List Oper} {o : Oper} {act : Act} {w : World} {Q : Exit → Act → World → Prop}
/-- Three bytes are appended to a row of the call's own. -/
theorem lay_append_three (hgd : o.guard = none) {s x : Operand} (ho : o.op = .call { callee := .builtin .append, args := #[s, x], argTypes := #[22, 22] }) {v : Value} (hs : act.eval s = v)
    {gx cx : Nat} (hx : act.eval x = .slice (some ⟨gx, 0, none⟩) 3 cx) {base n : Nat} {f : Nat → BitVec 8} (hc : ∀ j, j < 3 → w.cell? ⟨gx, j, none⟩ = some (U (f (n + j)))) (hown : OwnB w base v n f) (hn : n ≤ 100000) (hbase : base ≤ w.heap.size)
    (h : ∀ g c cur w', base ≤ g → w'.heap[g]? = some (.cells cur 5) → Hid (∀ W : World, W.heap[g]? = some (.cells cur 5) → Sl W W.heap.size (some ⟨g, 0, none⟩) (n + 3) c f) → Below base w w' → ∀ K : Act → World → Prop, (∀ a w, wpList Tryd.prog ops Q rest a w → K a w) → K (act.put o.dst (.slice (some ⟨g, 0, none⟩) (n + 3) c)) w') : wpList Tryd.prog ops Q (o :: rest) act w := by
  obtain ⟨i, hi, hz, hsz, hby⟩ := info_u8
  refine wpList_append_own w hgd s x _ ho base 5 i (.int .u8 0) 1 1 Tryd.underlying22 hi hz hsz hby rfl (by omega) v n _ hs hown
    ⟨gx, 0, none⟩ 3 cx [U (f n), U (f (n + 1)), U (f (n + 2))] hx rfl (fun j u hu => ?_) (fun u hu => ?_) (by unfold maxLen; omega) (by omega) hbase ?_
  · have hj : j < 3 := by
      have := (List.getElem?_eq_some_iff.1 hu).1
      simpa using this
    have e := hc j hj
    rw [Addr.add_mid, Nat.zero_add, e]
    rcases (by omega : j = 0 ∨ j = 1 ∨ j = 2) with rfl | rfl | rfl <;> exact hu
  · simp at hu
    rcases hu with rfl | rfl | rfl <;> rfl
  · intro v' w' ho' hgrow _
    have hO : OwnB w' base v' (n + 3) f := by
      unfold OwnB
      rw [List.range_succ, List.range_succ, List.range_succ, List.map_append, List.map_append, List.map_append, List.append_assoc, List.append_assoc]
      exact ho'
    have hB : Below base w w' := (Below.refl _ _).grown hgrow hbase fun k hk => by
      obtain ⟨_, hv⟩ := hown
      rcases hv with ⟨rfl, _⟩ | ⟨g, cap, cur, rfl, hg, _⟩
      · cases hk
      · have : g = k := by simpa [Value.ownBlock] using hk
        omega
    obtain ⟨g, c, cur, rfl, hg, hr, hsl⟩ := hO.sl (by omega)
    exact h g c cur w' hg hr (Lib.hid fun W hW => sl_row hsl hr hW) hB _ fun _ _ h => h
end
theorem reduce_kk {k : KL} (a : Option Addr) (n c x : Nat) (w : World) (hk : k.val = x % lN) (hT : Tl true w) (hn : n ≤ 128) (hs : Sb w w.heap.size a n c x) :
    Calls Tryd.prog 12 #[.slice a n c] w fun e w' => e = .returned (.tuple #[W7 k.val, .int .i64 0]) ∧ Below w.heap.size w w' := by
  rw [hk]
  exact reduce_ok a n c x w hT hn hs
theorem clamp_all (a : Option Addr) (n c x : Nat) (w : World) (hs : Sb w w.heap.size a n c x) :
    Calls Tryd.prog 36 #[.slice a n c] w fun e w' => ∃ v, e = .returned v ∧ Below w.heap.size w w' := by
  by_cases h : n = 56 ∨ n = 57
  · exact (clamp_ok a n c _ w h hs.sl).mono fun _ _ ⟨_, _, h1, _, h2⟩ => ⟨_, h1, h2⟩
  · exact (clamp_bad a n c w (fun e => h (.inl e)) (fun e => h (.inr e))).mono fun _ _ ⟨h1, h2⟩ => ⟨_, h1, h2⟩
set_option maxRecDepth 20000 in
set_option maxHeartbeats 12800000 in
theorem same_far (u : Nat) (a : Option Addr) (n c : Nat) (w : World) (hT : Tl true w) (hr1 : u < 2 ^ (8 * 57)) (hn : 60 < n) : Calls Tryd.prog 8 #[RV u, .slice a n c] w fun e w' => e = .returned (.bool true) ∧ Below w.heap.size w w' := by
  have hid : decide ((60 : Int) < (n : Int)) = true := by simp; omega
  obtain ⟨x, hm1, _⟩ := raw_k6 u hr1
  have HM1 := Lib.hid hm1
  clear hm1 hr1
  have HT := Lib.hid hT
  clear hT
  have H := Lib.hid (Ow.start w)
  go_enter Tryd.func8, Tryd.ntmps8
  go_wp2_with (first
    | ((fail_if_success have := g2); (with_reducible apply own_box H); (case hgd => exact rfl); (case ho => exact rfl); (case hx => exact rfl); intro w2 g2 H' _ _; replace H := H'; clear H'; go_simp)
    | ((with_reducible apply own_load rowRaw H); (case hgd => exact rfl); (case ho => exact rfl); (case hx => exact rfl); (case hi => first | exact at0 | exact at1 | exact at2 | exact at3 | exact at4 | exact at5 | exact at6 | exact at7 | exact at8 | exact at9); intro _ _; go_simp)
    | ((with_reducible refine (HM1.out _ (HT.out.below H.out.bel)).mono ?_); rintro e wc ⟨rfl, hb⟩; replace H := Lib.hid (H.out.call hb); clear hb)
    | ((fail_if_success have := g5); (with_reducible apply own_alloc nilSc H); (case hgd => exact rfl); (case ho => exact rfl); intro w5 g5 H' _ _; replace H := H'; clear H'; go_simp)
    | ((with_reducible apply own_store rowSc H); (case hgd => exact rfl); (case ho => exact rfl); (case hx => exact rfl); (case hy => exact rfl); (case hi => first | exact at0 | exact at1 | exact at2 | exact at3 | exact at4 | exact at5 | exact at6 | exact at7 | exact at8 | exact at9); intro ws H' _ _; replace H := H'; clear H'; simp only [List.set_cons_zero] at H; go_simp)
    | ((with_reducible refine (awake6 _ (HT.out.below H.out.bel)).mono ?_); rintro e wc ⟨rfl, hb⟩; replace H := Lib.hid (H.out.call hb); clear hb))
  go_ret
  exact ⟨rfl, H.out.bel⟩
set_option maxRecDepth 20000 in
set_option maxHeartbeats 12800000 in
theorem same_near (u : Nat) (a : Option Addr) (n c v : Nat) (w : World) (hT : Tl true w) (hr1 : u < 2 ^ (8 * 57)) (hn : n ≤ 60) (hs : Sb w w.heap.size a n c v) : Calls Tryd.prog 8 #[RV u, .slice a n c] w fun e w' => e = .returned (.bool true) ∧ Below w.heap.size w w' := by
  have hid : decide ((60 : Int) < (n : Int)) = false := by simp; omega
  obtain ⟨x, hm1, _⟩ := raw_k6 u hr1
  have HM1 := Lib.hid hm1
  have h7 := fits7 x
  have h56 : x.val < 2 ^ (8 * 56) := (pow_both 56 7 rfl).2 h7
  have HF56 := Lib.hid h56
  have HF57 : Hid (x.val < 2 ^ (8 * 57)) := Lib.hid (fits57 (kl_lt x))
  have B56 : Hid (bt x.val 56 = 0) := Lib.hid (bt_over h56 (Nat.le_refl _))
  have HZ : Hid (∀ j, U (bt v (n + j)) = .int .u8 0) := Lib.hid fun j => by rw [bt_over hs.fits (by omega)]; rfl
  obtain ⟨o, ho⟩ : ∃ o : KL, o = 0 := ⟨_, rfl⟩
  have Z0 := Lib.hid ho
  have ZL : Hid (o.val = lN % lN) := Lib.hid (by rw [Nat.mod_self]; exact fp_val_zero.1 ho)
  obtain ⟨k, hk⟩ : ∃ k : KL, k.val = v % lN := ⟨⟨v % lN, Nat.mod_lt _ lN_pos⟩, rfl⟩
  have HK := Lib.hid hk
  have HV : Hid (v < 2 ^ (8 * (n + 3))) := Lib.hid (fits_more hs.fits (by omega))
  clear hm1 ho hk h7 h56 hr1
  have HS := Lib.hid hs
  clear hs
  have HT := Lib.hid hT
  clear hT
  have H := Lib.hid (Ow.start w)
  go_enter Tryd.func8, Tryd.ntmps8
  go_wp2_with (first
    | ((fail_if_success have := g2); (with_reducible apply own_box H); (case hgd => exact rfl); (case ho => exact rfl); (case hx => exact rfl); intro w2 g2 H' _ _; replace H := H'; clear H'; go_simp)
    | ((with_reducible apply own_load rowRaw H); (case hgd => exact rfl); (case ho => exact rfl); (case hx => exact rfl); (case hi => first | exact at0 | exact at1 | exact at2 | exact at3 | exact at4 | exact at5 | exact at6 | exact at7 | exact at8 | exact at9); intro _ _; go_simp)
    | ((with_reducible refine (HM1.out _ (HT.out.below H.out.bel)).mono ?_); rintro e wc ⟨rfl, hb⟩; replace H := Lib.hid (H.out.call hb); clear hb)
    | ((fail_if_success have := g5); (with_reducible apply own_alloc nilSc H); (case hgd => exact rfl); (case ho => exact rfl); intro w5 g5 H' _ _; replace H := H'; clear H'; go_simp)
    | ((with_reducible apply own_store rowSc H); (case hgd => exact rfl); (case ho => exact rfl); (case hx => exact rfl); (case hy => exact rfl); (case hi => first | exact at0 | exact at1 | exact at2 | exact at3 | exact at4 | exact at5 | exact at6 | exact at7 | exact at8 | exact at9); intro ws H' _ _; replace H := H'; clear H'; simp only [List.set_cons_zero] at H; go_simp)
    | ((with_reducible apply own_load rowSc H); (case hgd => exact rfl); (case ho => exact rfl); (case hx => exact rfl); (case hi => first | exact at0 | exact at1 | exact at2 | exact at3 | exact at4 | exact at5 | exact at6 | exact at7 | exact at8 | exact at9); intro _ _; go_simp)
    | ((with_reducible refine (bytes_g x _).mono ?_); rintro e wc ⟨gy, rfl, hgy, hry, hb⟩; replace H := Lib.hid (H.out.add hb hgy hry); clear hb hgy hry)
    | ((with_reducible apply own_getbg (j := 56) H); (case hw => exact rfl); (case ho => exact rfl); (case hx => exact rfl); (case hi => first | exact at0 | exact at1); (case hj => omega); intro _ _; rw [B56.out]; rw [show (U 0 : Value) = .int .u8 0 from rfl]; go_simp)
    | ((with_reducible refine (decode_ok (some ⟨gy, 0, none⟩) 57 57 x.val _ (HT.out.below H.out.bel) (.inr rfl) ⟨H.out.slb 0 rfl (by omega) (by omega), HF57.out⟩ x.isLt).mono ?_); rintro e wc ⟨rfl, hb⟩; replace H := Lib.hid (H.out.call hb); clear hb)
    | ((fail_if_success have := g8); (with_reducible apply own_alloc nilSc H); (case hgd => exact rfl); (case ho => exact rfl); intro w8 g8 H' _ _; replace H := H'; clear H'; go_simp)
    | ((with_reducible refine (decode_ok (some ⟨gy, 0, none⟩) 56 57 x.val _ (HT.out.below H.out.bel) (.inl rfl) ⟨H.out.slb 1 rfl (by omega) (by omega), HF56.out⟩ x.isLt).mono ?_); rintro e wc ⟨rfl, hb⟩; replace H := Lib.hid (H.out.call hb); clear hb)
    | ((fail_if_success have := g10); (with_reducible apply own_alloc nilSc H); (case hgd => exact rfl); (case ho => exact rfl); intro w10 g10 H' _ _; replace H := H'; clear H'; go_simp)
    | ((with_reducible refine (L_v _ (HT.out.below H.out.bel)).mono ?_); rintro e wc ⟨a1, c1, rfl, hs, hb⟩; replace H := Lib.hid (H.out.call hb); have S1 := Lib.hid hs; clear hs hb)
    | ((with_reducible refine (reduce_kk a1 57 c1 lN _ ZL.out (HT.out.below H.out.bel) (by omega) S1.out).mono ?_); rintro e wc ⟨rfl, hb⟩; replace H := Lib.hid (H.out.call hb); clear hb)
    | ((fail_if_success have := g12); (with_reducible apply own_alloc nilSc H); (case hgd => exact rfl); (case ho => exact rfl); intro w12 g12 H' _ _; replace H := H'; clear H'; go_simp)
    | ((with_reducible refine (decode_k1 a1 57 c1 lN Z0.out _ (HT.out.below H.out.bel) (.inr rfl) S1.out (Nat.le_refl _)).mono ?_); rintro e wc ⟨rfl, hb⟩; replace H := Lib.hid (H.out.call hb); clear hb)
    | ((fail_if_success have := g14); (with_reducible apply own_alloc nilSc H); (case hgd => exact rfl); (case ho => exact rfl); intro w14 g14 H' _ _; replace H := H'; clear H'; go_simp)
    | ((fail_if_success have := HM); (with_reducible apply lay_nilB (n := n) (f := bt v)); (case hgd => exact rfl); (case ho => exact rfl); (case hs => exact rfl); (case hx => exact rfl); (case hS => exact (HS.out.call H.out.bel).sl); (case hn => omega); intro v1 w1 ho hb _ _; have HO := Lib.hid ho; have HB := Lib.hid hb; clear ho hb; go_simp)
    | ((with_reducible apply lay_append_three (n := n) (f := bt v)); (case hgd => exact rfl); (case ho => exact rfl); (case hs => exact rfl); (case hx => exact rfl); (case hc => exact fun j hj => (new_three _ _ j hj).trans (congrArg some (HZ.out j).symm)); (case hown => exact HO.out.alloc _); (case hn => omega); (case hbase => have := HB.out.size; simp; omega); intro gm cm cur wm hg hr HM hb _ _; replace H := Lib.hid (H.out.add ((HB.out.alloc HB.out.size _).trans hb) hg hr); clear HO HB hg hr hb; go_simp)
    | ((with_reducible refine (reduce_kk a n c v _ HK.out (HT.out.below H.out.bel) (by omega) (HS.out.call H.out.bel)).mono ?_); rintro e wc ⟨rfl, hb⟩; replace H := Lib.hid (H.out.call hb); clear hb)
    | ((fail_if_success have := g17); (with_reducible apply own_alloc nilSc H); (case hgd => exact rfl); (case ho => exact rfl); intro w17 g17 H' _ _; replace H := H'; clear H'; go_simp)
    | ((with_reducible refine (reduce_kk (some ⟨gm, 0, none⟩) (n + 3) cm v _ HK.out (HT.out.below H.out.bel) (by omega) ⟨HM.out _ (H.out.row 1 rfl), HV.out⟩).mono ?_); rintro e wc ⟨rfl, hb⟩; replace H := Lib.hid (H.out.call hb); clear hb)
    | ((fail_if_success have := g19); (with_reducible apply own_alloc nilSc H); (case hgd => exact rfl); (case ho => exact rfl); intro w19 g19 H' _ _; replace H := H'; clear H'; go_simp)
    | ((with_reducible apply lay_append_nil (n := n) (f := bt v)); (case hgd => exact rfl); (case ho => exact rfl); (case hs => exact rfl); (case hx => exact rfl); (case hS => exact (HS.out.call H.out.bel).sl); (case hn => omega); intro a9 c9 w9 hs hb _ _; have SW := Lib.hid hs; replace H := Lib.hid (H.out.call hb); clear hs hb; go_simp)
    | ((with_reducible refine (clamp_all a n c v _ (HS.out.call H.out.bel)).mono ?_); rintro e wc ⟨ve, rfl, hb⟩; replace H := Lib.hid (H.out.call hb); replace SW := Lib.hid (SW.out.call (Nat.le_refl _) hb); clear hb)
    | ((with_reducible apply own_loadg rowSc H); (case hw => exact rfl); (case ho => exact rfl); (case hx => exact rfl); (case hi => first | exact at0 | exact at1 | exact at2 | exact at3 | exact at4 | exact at5 | exact at6 | exact at7 | exact at8 | exact at9); intro _ _; go_simp)
    | ((with_reducible refine (equal_st (x := x) (y := x) _ (HT.out.below H.out.bel) rfl).mono ?_); rintro e wc ⟨rfl, hb⟩; replace H := Lib.hid (H.out.call hb); replace SW := Lib.hid (SW.out.call (Nat.le_refl _) hb); clear hb)
    | ((with_reducible refine (zero_st (x := o) _ Z0.out).mono ?_); rintro e wc ⟨rfl, hb⟩; replace H := Lib.hid (H.out.call hb); replace SW := Lib.hid (SW.out.call (Nat.le_refl _) hb); clear hb)
    | ((with_reducible refine (equal_st (x := k) (y := k) _ (HT.out.below H.out.bel) rfl).mono ?_); rintro e wc ⟨rfl, hb⟩; replace H := Lib.hid (H.out.call hb); replace SW := Lib.hid (SW.out.call (Nat.le_refl _) hb); clear hb)
    | ((with_reducible refine (same_sl a a9 n c c9 (bt v) (bt v) _ (by omega) (HS.out.call H.out.bel).sl SW.out (fun _ _ => rfl)).mono ?_); rintro e wc ⟨rfl, hb⟩; replace H := Lib.hid (H.out.call hb); clear hb)
    | ((with_reducible refine (awake6 _ (HT.out.below H.out.bel)).mono ?_); rintro e wc ⟨rfl, hb⟩; replace H := Lib.hid (H.out.call hb); clear hb))
  go_ret
  exact ⟨rfl, H.out.bel⟩
theorem same_walk (u : Nat) (a : Option Addr) (n c : Nat) (f : Nat → BitVec 8) (w : World) (hT : Tl true w) (hu : u < 2 ^ (8 * 57)) (hs : Sl w w.heap.size a n c f) : Calls Tryd.prog 8 #[RV u, .slice a n c] w fun e w' => e = .returned (.bool true) ∧ Below w.heap.size w w' := by
  obtain ⟨x, hx, hf⟩ := bytes_of f n
  have hb : Sb w w.heap.size a n c x := ⟨hs.congr fun i hi => (hf i hi).symm, hx⟩
  by_cases h : 60 < n
  · exact same_far u a n c w hT hu h
  · exact same_near u a n c x w hT hu (by omega) hb
end Go.Proofs.YtocjncflgbnglaaDoor
