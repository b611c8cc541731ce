/-
  The walk of KeccakXors.
-/
import Derived.Test.YtnjnmffjkcfdfaaDoorKecXmath
import Derived.Test.YtnjnmffjkcfdfaaDoorKecOwn
namespace Go.Proofs.YtnjnmffjkcfdfaaDoor
open Go.RowKit

section
variable {P : Program} {ops : Array Oper} {rest : List Oper} {o : Oper} {a : Act} {w : World} {Q : Exit → Act → World → Prop} {t : TypeId} {n : Nat}
theorem wpList_wanted (hw : Region.wanted o (yielded ops a.tmps) = true) (h : ∀ K : Act → World → Prop, (∀ a w, wpList P ops Q rest a w → K a w) → o.wp P a w K Q) : wpList P ops Q (o :: rest) a w :=
  wpList_step fun K hK => by rw [if_pos hw]; exact h K hK
theorem lay_loadg (hT : IsLanes P t n) (hw : Region.wanted o (yielded ops a.tmps) = true) {x : Operand} (ho : o.op = .load t x) {g : Nat} (hx : a.eval x = .pointer (some ⟨g, 0, none⟩)) {tb : TypeId} {f : Nat → BitVec 64}
    (hg : w.heap[g]? = some (.cells (A n f) tb)) (h : ∀ K : Act → World → Prop, (∀ a w, wpList P ops Q rest a w → K a w) → K (a.put o.dst (.agg (A n f))) w) : wpList P ops Q (o :: rest) a w :=
  wpList_wanted hw fun K hK => lanes_load hT x ho g hx hg (h K hK)
end
theorem built24 (w : World) : (Instr.build 24 #[]).run Tryd.prog w = .ok (.agg (A 25 fun _ => 0)) w := by
  rw [zero25]
  exact run_build w 24 _ _ (by kernel_rfl)
section
variable {ops : Array Oper} {rest : List Oper} {o : Oper} {a : Act} {w : World} {Q : Exit → Act → World → Prop}
theorem lay_build24 (hgd : o.guard = none) (ho : o.op = .build 24 #[])
    (h : ∀ K : Act → World → Prop, (∀ a w, wpList Tryd.prog ops Q rest a w → K a w) → K (a.put o.dst (.agg (A 25 fun _ => 0))) w) : wpList Tryd.prog ops Q (o :: rest) a w :=
  wpList_plain hgd fun K hK => by
    unfold Oper.wp execOp
    simp only [ho, Array.map_empty, Sem.run_bind, built24, Result.andThen_ok]
    exact h K hK
end

/-- A block whose first 200 cells are these bytes. -/
def Wan (wr : World) (gw : Nat) (h : Nat → BitVec 8) : Prop := ∃ cur, wr.heap[gw]? = some (.cells cur 5) ∧ ∀ j, j < 200 → cur[j]? = some (U (h j))
theorem Wan.cell {wr : World} {gw : Nat} {h : Nat → BitVec 8} (hw : Wan wr gw h) (i : Nat) (hi : i < 200) : wr.cell? ⟨gw, i, none⟩ = some (U (h i)) := by
  obtain ⟨cur, hr, hc⟩ := hw
  rw [cell_of_row _ _ _ _ _ _ hr, hc i hi]
theorem Wan.thaw {wr : World} {gw : Nat} {h : Nat → BitVec 8} (hw : Wan wr gw h) (i : Nat) : wr.frozen? ⟨gw, i, none⟩ = false := by
  obtain ⟨cur, hr, _⟩ := hw
  exact frozen_of_row _ _ _ _ _ hr
theorem Wan.set {wr : World} {gw : Nat} {h : Nat → BitVec 8} (hw : Wan wr gw h) (i : Nat) (v : BitVec 8) : Wan (wr.setCell ⟨gw, i, none⟩ (U v)) gw (upd8 h i v) := by
  obtain ⟨cur, hr, hc⟩ := hw
  refine ⟨_, heap_setCell_same _ _ _ _ _ _ hr, fun j hj => ?_⟩
  by_cases e : i = j
  · subst e
    have hlt : i < cur.size := (Array.getElem?_eq_some_iff.1 (hc i hj)).1
    simp [upd8, hlt]
  · have e' : ¬ j = i := fun h => e h.symm
    rw [Array.getElem?_setIfInBounds_ne e, hc j hj, upd8, if_neg e']
theorem Wan.congr {wr : World} {gw : Nat} {h h' : Nat → BitVec 8} (hw : Wan wr gw h) (he : ∀ j, h j = h' j) : Wan wr gw h' := by
  have : h = h' := funext he
  rw [← this]; exact hw
theorem Wan.call {w w' : World} {gw : Nat} {h : Nat → BitVec 8} (hw : Wan w gw h) (hb : Below w.heap.size w w') : Wan w' gw h := by
  obtain ⟨cur, hr, hc⟩ := hw
  exact ⟨cur, (hb.block _ (row_lt hr)).trans hr, hc⟩
theorem Wan.drew {w : World} {gw : Nat} {h : Nat → BitVec 8} (hw : Wan w gw h) : Wan w.drew gw h := hw
theorem Wan.alloc {w : World} {gw : Nat} {h : Nat → BitVec 8} (hw : Wan w gw h) (o : Obj) : Wan (w.alloc o) gw h := hw.call ((Below.refl _ _).alloc (Nat.le_refl _) o)
theorem Wan.sl {w : World} {gw c : Nat} {h : Nat → BitVec 8} (hw : Wan w gw h) (hc : 200 ≤ c) : Sl w w.heap.size (some ⟨gw, 0, none⟩) 200 c h :=
  ⟨hc, (fun e => by cases e), fun ad e _ => ⟨gw, 0, (Option.some.inj e).symm, (by obtain ⟨cur, hr, _⟩ := hw; exact row_lt hr), fun i hi => by rw [Nat.zero_add]; exact hw.cell i hi⟩⟩
theorem Wan.of_sl {w : World} {gw c : Nat} {cur : Array Value} {h : Nat → BitVec 8} (hr : w.heap[gw]? = some (.cells cur 5)) (hs : Sl w w.heap.size (some ⟨gw, 0, none⟩) 200 c h) : Wan w gw h := by
  obtain ⟨b, o, e, _, hc⟩ := hs.low _ rfl (by omega)
  injection e with e1 e2
  subst e1 e2
  exact ⟨cur, hr, fun j hj => by have := hc j hj; rwa [Nat.zero_add, cell_of_row _ _ _ _ _ _ hr] at this⟩

attribute [local go_sem] eq24 eqB_self
set_option maxHeartbeats 1600000 in
theorem xors_far (f : Nat → BitVec 64) (a : Option Addr) (n c : Nat) (w : World) (hT : Tabs w) (hn : 200 < n) (hm : n ≤ maxLen) :
    Calls Tryd.prog 5 #[.agg (A 25 f), .slice a n c] w fun e w' => e = .returned (.bool true) ∧ Below w.heap.size w w' := by
  have HT := Lib.hid hT
  clear hT
  have hgd := guard24
  unfold maxLen at hm
  by_cases h3 : 300 < n
  · have hd : (300 : Int) < (n : Int) := by omega
    go_enter Tryd.func5, Tryd.ntmps5
    go_wp2_with fail
    refine (awake_any _ (HT.out.below (by go_grown))).mono ?_
    rintro e w1 ⟨rfl, hb⟩
    have HB := Lib.hid (show Below w.heap.size w w1 from ((Below.refl _ _).alloc (Nat.le_refl _) _).trans (hb.mono (by simp)))
    clear hb
    go_wp2_with fail
    go_ret
    exact ⟨rfl, HB.out⟩
  · have hd : (n : Int) ≤ 300 := by omega
    have hd2 : (200 : Int) < (n : Int) := by omega
    have H0 := Lib.hid ((St.start w).alloc (.cells (A 25 f) 24))
    go_enter Tryd.func5, Tryd.ntmps5
    go_wp2_with ((with_reducible apply lay_load lanes24); (case hgd => exact rfl); (case ho => exact rfl); (case hx => exact rfl); (case hg => exact H0.out.get _ _ (.head _)); intro _ _; go_simp)
    refine (xor_far f a n c _ hn (by unfold maxLen; omega)).mono ?_
    rintro e w1 ⟨rfl, hb⟩
    have H1 := Lib.hid ((H0.out.call hb).alloc (.cells (A 25 fun _ => 0) 24))
    clear hb H0
    go_wp2_with (first
      | ((with_reducible apply lay_load lanes24); (case hgd => exact rfl); (case ho => exact rfl); (case hx => exact rfl); (case hg => exact H1.out.get _ _ (.head _)); intro _ _; go_simp)
      | ((with_reducible apply lay_alloc lanes24); (case hgd => exact rfl); (case ho => exact rfl); intro _ _; go_simp)
      | ((with_reducible apply lay_build24); (case hgd => exact rfl); (case ho => exact rfl); intro _ _; go_simp)
      | ((with_reducible apply lay_store lanes24); (case hgd => exact rfl); (case ho => exact rfl); (case hx => exact rfl); (case hy => exact rfl); (case hg => exact row1 _ _); intro _ _; go_simp))
    refine (awake_any _ (HT.out.below H1.out.bel)).mono ?_
    rintro e w2 ⟨rfl, hb⟩
    have H2 := Lib.hid (H1.out.call hb)
    clear hb H1
    go_wp2_with fail
    go_ret
    exact ⟨rfl, H2.out.bel⟩

set_option maxHeartbeats 3200000 in
set_option maxRecDepth 100000 in
theorem xors_near (f : Nat → BitVec 64) (a : Option Addr) (n c : Nat) (g : Nat → BitVec 8) (w : World) (hT : Tabs w) (hn : n ≤ 200) (hs : Sl w w.heap.size a n c g) :
    Calls Tryd.prog 5 #[.agg (A 25 f), .slice a n c] w fun e w' => e = .returned (.bool true) ∧ Below w.heap.size w w' := by
  have HT := Lib.hid hT
  have HS := Lib.hid hs
  clear hT hs
  have hgd := guard24
  have hd : (n : Int) ≤ 200 := by omega
  have hnd : decide ((200 : Int) < (n : Int)) = false := by simp; omega
  have hnd3 : decide ((300 : Int) < (n : Int)) = false := by simp; omega
  have hUF : eqB 25 (xorTo (xorTo f g n) g n) f = true := (eqB_iff _ _ _).2 fun j _ => xorTo_twice f g n j
  have H0 := Lib.hid ((St.start w).alloc (.cells (A 25 f) 24))
  go_enter Tryd.func5, Tryd.ntmps5
  go_wp2_with ((with_reducible apply lay_load lanes24); (case hgd => exact rfl); (case ho => exact rfl); (case hx => exact rfl); (case hg => exact H0.out.get _ _ (.head _)); intro _ _; go_simp)
  refine (xor_near f a n c g _ hn ((HS.out.below H0.out.bel).more H0.out.bel.size)).mono ?_
  rintro e w1 ⟨rfl, hb⟩
  have H1 := Lib.hid ((H0.out.call hb).alloc (.cells (A 25 (xorTo f g n)) 24))
  clear hb H0
  go_wp2_with (first
    | ((with_reducible apply lay_load lanes24); (case hgd => exact rfl); (case ho => exact rfl); (case hx => exact rfl); (case hg => exact H1.out.get _ _ (.tail _ (.head _))); intro _ _; go_simp)
    | ((with_reducible apply lay_alloc lanes24); (case hgd => exact rfl); (case ho => exact rfl); intro _ _; go_simp)
    | ((with_reducible apply lay_store lanes24); (case hgd => exact rfl); (case ho => exact rfl); (case hx => exact rfl); (case hy => exact rfl); (case hg => exact row1 _ _); intro _ _; go_simp))
  obtain ⟨W1, hW1⟩ : ∃ W, w1.alloc (.cells (A 25 (xorTo f g n)) 24) = W := ⟨_, rfl⟩
  rw [hW1] at H1 ⊢
  refine (refBytes_any f W1).mono ?_
  rintro e w2 ⟨⟨gw, cw, cur, rfl, hgw, hrow, hsl⟩, hb⟩
  have HW := Lib.hid (Wan.of_sl hrow hsl)
  have hcw := hsl.le
  have HB := Lib.hid hb
  clear hrow hsl hb hW1
  go_wp2_with fail
  go_loopw [8] (fun v wr => ∃ i : Nat, i ≤ n ∧ v = .int .i64 i ∧ Wan wr gw (wantTo f g i) ∧ Below W1.heap.size W1 wr) (fun v _ => n - (intOf v).toNat)
  case atStart => exact ⟨0, by omega, rfl, HW.out.congr (fun j => by simp [wantTo]), HB.out⟩
  case round =>
    clear HW HB
    obtain ⟨i, hi, rfl, HW, HB⟩ := hrel
    by_cases hlt : i < n
    · have hid : decide ((i : Int) < (n : Int)) = true := by simp; omega
      obtain ⟨b, o, rfl, hbB, hcell⟩ := ((HS.out.below H1.out.bel).below (HB.mono H1.out.bel.size)).get i hlt
      have HW1 := Lib.hid HW.drew
      have HB1 := Lib.hid HB.drew
      have hcb : wr.drew.cell? ⟨b, o + i, none⟩ = some (U (g i)) := hcell
      clear HW HB hcell
      go_wp2_with fail
      refine wp_region_still_tail 11 (by kernel_rfl) (by kernel_rfl) ?_
      change wpStill _ _ wr.drew (fun a' => wpList _ _ _ _ a' wr.drew) _ _
      generalize wr.drew = w3 at *
      have i200 : (i : Int) < 200 := by omega
      have hlt' : (i : Int) < (n : Int) := by omega
      have hcw2 := HW1.out.cell i (by omega)
      have hz := HW1.out.thaw i
      simp only [List.take_succ_cons, List.take_zero, List.drop_succ_cons, List.drop_zero]
      iterate 11 still_step
      refine wpStill_nil ?_
      go_wp2_with fail
      go_roundw
      case rel =>
        have h := HW1.out.set i (wantTo f g i i ^^^ g i)
        exact ⟨i + 1, by omega, by go_num, h.congr (want_step f g i), HB1.out.setCell (by show W1.heap.size ≤ gw; omega) _⟩
      case measure => simp [intOf]; omega
    · obtain rfl : i = n := by omega
      have H3 := Lib.hid (H1.out.call HB)
      have HW1 := Lib.hid HW
      clear HW HB H1 hlt hi
      go_wp2_with ((with_reducible apply lay_load lanes24); (case hgd => exact rfl); (case ho => exact rfl); (case hx => exact rfl); (case hg => exact H3.out.get _ _ (.head _)); intro _ _; go_simp)
      refine (xor_near (xorTo f g i) a i c g _ hn ((HS.out.below H3.out.bel).more H3.out.bel.size)).mono ?_
      rintro e w4 ⟨rfl, hb⟩
      have H4 := Lib.hid ((H3.out.call hb).alloc (.cells (A 25 (xorTo (xorTo f g i) g i)) 24))
      have HW4 := Lib.hid ((HW1.out.call hb).alloc (.cells (A 25 (xorTo (xorTo f g i) g i)) 24))
      clear hb H3 HW1
      go_wp2_with (first
        | ((with_reducible apply lay_load lanes24); (case hgd => exact rfl); (case ho => exact rfl); (case hx => exact rfl); (case hg => exact H4.out.get _ _ (.tail _ (.head _))); intro _ _; go_simp)
        | ((with_reducible apply lay_alloc lanes24); (case hgd => exact rfl); (case ho => exact rfl); intro _ _; go_simp)
        | ((with_reducible apply lay_store lanes24); (case hgd => exact rfl); (case ho => exact rfl); (case hx => exact rfl); (case hy => exact rfl); (case hg => exact row1 _ _); intro _ _; go_simp))
      obtain ⟨W4, hW4⟩ : ∃ W, w4.alloc (.cells (A 25 (xorTo (xorTo f g i) g i)) 24) = W := ⟨_, rfl⟩
      rw [hW4] at H4 HW4 ⊢
      refine (bytes_any (xorTo f g i) W4).mono ?_
      rintro e w5 ⟨rfl, HTw⟩
      have H5 := Lib.hid (H4.out.call HTw.bel)
      have HW5 := Lib.hid (HW4.out.call HTw.bel)
      have HC := Lib.hid (Sl.own (n := 200) (c := 200) (B := w5.heap.size) HTw.r2 (Nat.le_refl _) (Nat.le_refl _) (row_lt HTw.r2))
      clear HTw H4 HW4 hW4
      go_wp2_with fail
      refine (same_any _ _ 200 200 cw _ _ _ (by omega) HC.out (HW5.out.sl hcw) (fun j hj => bytesF_xor f g i j)).mono ?_
      rintro e w6 ⟨rfl, hb⟩
      have H6 := Lib.hid (H5.out.call hb)
      clear hb H5 HW5 HC
      go_wp2_with (((with_reducible apply lay_loadg lanes24); (case hw => exact rfl); (case ho => exact rfl); (case hx => exact rfl); (case hg => first | exact H6.out.get _ _ (.head _) | exact H6.out.get _ _ (.tail _ (.tail _ (.head _)))); intro _ _; go_simp))
      refine (awake_any _ (HT.out.below H6.out.bel)).mono ?_
      rintro e w7 ⟨rfl, hb⟩
      have H7 := Lib.hid (H6.out.call hb)
      clear hb H6
      go_wp2_with fail
      go_ret
      exact ⟨rfl, H7.out.bel⟩
end Go.Proofs.YtnjnmffjkcfdfaaDoor
