/-
  The contracts of field.spell, Bytes, P, Zero, Equal.
-/
import Derived.Test.YtjjdhbmlinjhjaaDoorFdLeast
import Derived.Test.YtjjdhbmlinjhjaaDoorRf4Fits
namespace Go.Proofs.YtjjdhbmlinjhjaaDoor
open Go.RowKit

/-- A row of bytes of the call's own, as a block. -/
def BlkB (n : Nat) (f : Nat → BitVec 8) : Obj := .cells (AB n f) 5
theorem Ow.byte {w W : World} {l : List (Nat × Obj)} (h : Ow w W l) (i : Nat) {b n : Nat} {f : Nat → BitVec 8} (hi : l[i]? = some (b, BlkB n f)) (j : Nat) (v : BitVec 8) : Ow w (W.setCell ⟨b, j, none⟩ (U v)) (l.set i (b, BlkB n (upd8 f j v))) := by
  have hr : RowB W b n f := h.row i hi
  exact h.put i hi ((Below.refl b W).setCell (p := ⟨b, j, none⟩) (Nat.le_refl b) _) (fun c hc => heap_setCell_other _ _ _ _ hc) (hr.setCell j v)
section
variable {ops : Array Oper} {rest : List Oper} {o : Oper} {a : Act} {w w0 : World} {l : List (Nat × Obj)} {Q : Exit → Act → World → Prop}
theorem own_make (H : Hid (Ow w0 w l)) (hgd : o.guard = none) {x y : Operand} (ho : o.op = .makeSlice 22 x y) {c : Nat} (hx : a.eval x = .int .i64 (c : Int)) (hy : a.eval y = .int .i64 (c : Int)) (hc : c ≤ 1000000)
    (k : ∀ w' g, Hid (Ow w0 w' ((g, BlkB c fun _ => 0) :: l)) → ∀ K : Act → World → Prop, (∀ a w, wpList Tryd.prog ops Q rest a w → K a w) → K (a.put o.dst (.slice (some ⟨g, 0, none⟩) c c)) w') : wpList Tryd.prog ops Q (o :: rest) a w :=
  lay_make hgd ho hx hy (Nat.le_refl c) hc (k _ _ (Lib.hid (H.out.alloc _)))
end
theorem byte_lF (x i : Nat) : lF x (i / 7) / 2 ^ (i % 7 * 8) % 256 = x / 256 ^ i % 256 := by
  unfold lF
  rw [pow_56]
  have h1 : x / 256 ^ i = x / 256 ^ (7 * (i / 7)) / 256 ^ (i % 7) := by
    rw [Nat.div_div_eq_div_mul, ← Nat.pow_add]
    congr 2
    omega
  rw [h1]
  generalize x / 256 ^ (7 * (i / 7)) = y
  have hr : i % 7 < 7 := Nat.mod_lt _ (by omega)
  generalize i % 7 = r at *
  obtain rfl | rfl | rfl | rfl | rfl | rfl | rfl : r = 0 ∨ r = 1 ∨ r = 2 ∨ r = 3 ∨ r = 4 ∨ r = 5 ∨ r = 6 := by omega
  all_goals omega
def mix8 (i : Nat) (f g : Nat → BitVec 8) : Nat → BitVec 8 := fun k => if k < i then f k else g k
theorem mix8_zero (f g : Nat → BitVec 8) : mix8 0 f g = g := by funext k; simp [mix8]
theorem mix8_upd (i : Nat) (f g : Nat → BitVec 8) : upd8 (mix8 i f g) i (f i) = mix8 (i + 1) f g := by
  funext k
  unfold upd8 mix8
  by_cases e : k = i
  · subst e; simp
  · by_cases h : k < i
    · rw [if_neg e, if_pos h, if_pos (by omega)]
    · rw [if_neg e, if_neg h, if_neg (by omega)]
set_option maxRecDepth 8000 in
set_option maxHeartbeats 1600000 in
theorem spell_any (x : Nat) (w : World) :
    Calls Tryd.prog 43 #[.agg (AZ .u64 8 (NZ (lF x)))] w fun e w' => ∃ v, e = .returned v ∧ New w w' v 56 (bX x) ∧ Below w.heap.size w w' := by
  have H := Lib.hid (Ow.start w)
  go_enter Tryd.func43, Tryd.ntmps43
  go_wp2_with (first
    | ((fail_if_success have := g1); (with_reducible apply own_box H); (case hgd => exact rfl); (case ho => exact rfl); (case hx => exact rfl); intro w1 g1 H' _ _; replace H := H'; clear H'; go_simp)
    | ((with_reducible apply own_make H); (case hgd => exact rfl); (case ho => exact rfl); (case hx => exact (rfl : _ = Value.int .i64 ((56 : Nat) : Int))); (case hy => exact rfl); (case hc => omega); intro w2 g2 H' _ _; replace H := H'; clear H'; go_simp))
  go_loopw [8] (fun v wr => ∃ i : Nat, i ≤ 56 ∧ v = .int .i64 i ∧ Ow w wr [(g2, BlkB 56 (mix8 i (bX x) fun _ => 0)), (g1, Blk 25 .u64 8 (NZ (lF x)))]) (fun v _ => 56 - (intOf v).toNat)
  case atStart => exact ⟨0, by omega, rfl, by rw [mix8_zero]; exact H.out⟩
  case round =>
    clear H
    obtain ⟨i, hi, rfl, HR⟩ := hrel
    by_cases hlt : i < 56
    · have hid : decide ((i : Int) < 56) = true := by simp; omega
      have iN : (i : Int) < 56 := by omega
      have H1 := Lib.hid HR
      clear HR
      go_wp2_with fail
      refine wp_region_still_tail 11 (by kernel_rfl) (by kernel_rfl) ?_
      change wpStill _ _ wr.drew (fun a' => wpList _ _ _ _ a' wr.drew) _ _
      have D := Lib.hid H1.out.drew
      clear H1
      generalize wr.drew = w8 at *
      obtain ⟨q, hq⟩ : ∃ q, i / 7 = q := ⟨_, rfl⟩
      obtain ⟨s, hs⟩ : ∃ s, i % 7 * 8 = s := ⟨_, rfl⟩
      have eq1 : (i : Int) / 7 = (q : Int) := by omega
      have q8 : (q : Int) < 8 := by omega
      have f1 : IntKind.i64.wrap (q : Int) = (q : Int) := IntWalk.i64_in _ (by omega)
      have hc := D.out.cell 1 rfl q (by omega)
      have hz : w8.frozen? ⟨g2, i, none⟩ = false := (show RowB w8 g2 56 _ from D.out.row 0 rfl).thaw i
      have hc0 := (show RowB w8 g2 56 _ from D.out.row 0 rfl).cell i hlt
      have hb := byte_lF x i
      rw [hq, hs] at hb
      obtain ⟨y, hy⟩ : ∃ y, lF x q = y := ⟨_, rfl⟩
      have ny : NZ (lF x) q = (y : Int) := by rw [← hy]; rfl
      rw [ny] at hc
      rw [hy] at hb
      have HU := Lib.hid (D.out.byte 0 rfl i (bX x i))
      rw [mix8_upd] at HU
      have HB : Hid (U (bX x i) = .int .u8 ((y / 2 ^ s % 256 : Nat) : Int)) := Lib.hid (by
        show Value.int .u8 (U8 (bX x i)) = _
        rw [U8_bX, ← hb])
      rw [HB.out] at HU
      obtain ⟨z, hz'⟩ : ∃ z, y / 2 ^ s = z := ⟨_, rfl⟩
      obtain ⟨b, hb'⟩ : ∃ b, z % 256 = b := ⟨_, rfl⟩
      have e1 : (y : Int) / 2 ^ s = (z : Int) := by rw [← hz', Int.natCast_ediv, Int.natCast_pow]; rfl
      have e2 : IntKind.u8.wrap (z : Int) = (b : Int) := by rw [IntKind.wrap_u8]; omega
      have s48 : s ≤ 48 := by omega
      have sm : min s 64 = s := by omega
      have HS := Lib.hid hs
      rw [hz', hb'] at HU
      clear D HB hb hq hs hy ny hz' hb'
      simp only [List.take_succ_cons, List.take_zero, List.drop_succ_cons, List.drop_zero]
      iterate 7 still_step
      still_call (up_any i _ (by omega) s HS.out)
      iterate 3 still_step
      refine wpStill_nil ?_
      clear e1 e2 sm
      go_wp2_with fail
      go_roundw
      case rel => exact ⟨i + 1, by omega, by go_num, HU.out⟩
      case measure => simp [intOf]; omega
    · obtain rfl : i = 56 := by omega
      clear hlt hi
      rw [show ((56 : Nat) : Int) = 56 from rfl]
      have H := Lib.hid HR
      clear HR
      go_wp2_with fail
      go_ret
      have hr : RowB wr g2 56 _ := H.out.row 0 rfl
      refine ⟨_, rfl, ⟨g2, 56, rfl, H.out.ge 0 rfl, hr.sl.congr fun k hk => ?_⟩, H.out.bel⟩
      unfold mix8
      rw [if_pos hk]
theorem bytesE_any (f : Nat → Nat) (w : World) (hf : Lim f) :
    Calls Tryd.prog 21 #[EV f] w fun e w' => ∃ v, e = .returned v ∧ New w w' v 56 (bX (lv f 8 % pN)) ∧ Below w.heap.size w w' := by
  have HL := Lib.hid (fun w => least_any f w hf)
  clear hf
  have H := Lib.hid (Ow.start w)
  go_enter Tryd.func21, Tryd.ntmps21
  go_wp2_with (first
    | ((fail_if_success have := g1); (with_reducible apply own_box H); (case hgd => exact rfl); (case ho => exact rfl); (case hx => exact rfl); intro w1 g1 H' _ _; replace H := H'; clear H'; go_simp)
    | ((with_reducible apply own_load rowE H); (case hgd => exact rfl); (case ho => exact rfl); (case hx => exact rfl); (case hi => first | exact at0 | exact at1 | exact at2 | exact at3 | exact at4 | exact at5 | exact at6); intro _ _; go_simp)
    | ((with_reducible refine (HL.out _).mono ?_); rintro e wc ⟨rfl, hb⟩; replace H := Lib.hid (H.out.call hb); clear hb))
  refine (spell_any (lv f 8 % pN) _).mono ?_
  rintro e w2 ⟨v, rfl, N2, B2⟩
  have N2 := Lib.hid N2
  have B2 := Lib.hid B2
  go_wp2_with fail
  go_ret
  obtain ⟨g, c, rfl, hg, hs⟩ := N2.out
  exact ⟨_, rfl, ⟨g, c, rfl, Nat.le_trans H.out.bel.size hg, hs⟩, H.out.bel.trans (B2.out.mono H.out.bel.size)⟩
end Go.Proofs.YtjjdhbmlinjhjaaDoor
