/-
  The contracts of chicoryref04's prime and less.
-/
import Derived.Test.YtjjdhbmlinjhjaaDoorChecked
import Derived.Test.YtjjdhbmlinjhjaaDoorInts
import Derived.StillTailTactics
import Derived.Deep.LoopGhost
import Derived.BigQuiet
import Derived.WalkMore
namespace Go.Proofs.YtjjdhbmlinjhjaaDoor
open Go.RowKit

theorem zeroF : AZ .i64 16 (fun _ => 0) = #[.int .i64 0, .int .i64 0, .int .i64 0, .int .i64 0, .int .i64 0, .int .i64 0, .int .i64 0, .int .i64 0, .int .i64 0, .int .i64 0, .int .i64 0, .int .i64 0, .int .i64 0, .int .i64 0, .int .i64 0, .int .i64 0] := by
  unfold AZ
  rfl
theorem intsF : IsInts Tryd.prog 36 .i64 16 :=
  ⟨⟨_, Tryd.underlying36⟩, by kernel_rfl, fun w => by rw [zeroF]; exact Tryd.zeroValue36 w⟩
/-- p's digits. -/
def pF (i : Nat) : Int := if i = 8 then 268435454 else 268435455
/-- The first i of one row, the others of another one. -/
def mixZ (i : Nat) (f g : Nat → Int) : Nat → Int := fun k => if k < i then f k else g k
theorem mixZ_zero (f g : Nat → Int) : mixZ 0 f g = g := by funext k; simp [mixZ]
theorem mixZ_at (i : Nat) (f g : Nat → Int) : mixZ i f g i = g i := by simp [mixZ]
theorem mixZ_upd (i : Nat) (f g : Nat → Int) : updZ (mixZ i f g) i (f i) = mixZ (i + 1) f g := by
  funext k
  unfold updZ mixZ
  by_cases e : k = i
  · subst e; simp
  · by_cases h : k < i
    · rw [if_neg e, if_pos h, if_pos (by omega)]
    · rw [if_neg e, if_neg h, if_neg (by omega)]
theorem mixZ_all (n : Nat) (f g : Nat → Int) (k : Nat) (h : k < n) : mixZ n f g k = f k := by simp [mixZ, h]
set_option maxHeartbeats 1000000 in
theorem prime_any (w : World) : Calls Tryd.prog 45 #[] w fun e w' => e = .returned (.agg (AZ .i64 16 pF)) ∧ Below w.heap.size w w' := by
  go_enter Tryd.func45, Tryd.ntmps45
  go_wp2_with (first
    | ((fail_if_success have := R1); (with_reducible apply lay_allocZ intsF); (case hgd => exact rfl); (case ho => exact rfl); intro w1 g1 E1 R1 B1 _ _; go_simp)
    | ((with_reducible apply lay_allocZ intsF); (case hgd => exact rfl); (case ho => exact rfl); intro w2 g2 E2 R2 B2 _ _; go_simp))
  have hg : g1 < g2 := by rw [E2.out]; exact R1.out.lt
  have hb : Below w.heap.size w w2 := by
    have h1 := B1.out
    have h2 := B2.out
    rw [E1.out] at h1
    exact h1.trans (h2.mono (by rw [E2.out]; exact h1.size))
  have hs : w.heap.size ≤ g1 := by rw [E1.out]; exact Nat.le_refl _
  have M1 := Lib.hid (R1.out.below B2.out hg)
  have MB := Lib.hid hb
  clear hb B1 B2 R1
  go_loopw [2] (fun v wr => ∃ i : Nat, i ≤ 16 ∧ v = .int .i64 i ∧ RowZ wr g2 36 .i64 16 (mixZ i (fun _ => 268435455) fun _ => 0) ∧ RowZ wr g1 36 .i64 16 (fun _ => 0) ∧ Below w.heap.size w wr) (fun v _ => 16 - (intOf v).toNat)
  case atStart => exact ⟨0, by omega, rfl, by rw [mixZ_zero]; exact R2.out, M1.out, MB.out⟩
  case round =>
    clear M1 MB R2
    obtain ⟨i, hi, rfl, HR, H0, HB⟩ := hrel
    by_cases hlt : i < 16
    · have hid : decide ((i : Int) < 16) = true := by simp; omega
      have iN : (i : Int) < 16 := by omega
      have hc := HR.cell i hlt
      have hz := HR.thaw i
      have H1 := Lib.hid HR
      have H2 := Lib.hid H0
      have H3 := Lib.hid HB
      clear HR H0 HB
      go_wp2_with fail
      go_roundw
      case rel =>
        refine ⟨i + 1, by omega, by go_num, ?_, H2.out.other _ _ _ (Nat.ne_of_lt hg), H3.out.setCell (show w.heap.size ≤ g2 by omega) _⟩
        have h := H1.out.setCell i 268435455
        rw [mixZ_upd i (fun _ => 268435455)] at h
        exact h
      case measure => simp [intOf]; omega
    · obtain rfl : i = 16 := by omega
      clear hlt hi
      rw [show ((16 : Nat) : Int) = 16 from rfl]
      have hc := HR.cell 8 (by omega)
      have hz := HR.thaw 8
      have H1 : Hid (RowZ (wr.setCell ⟨g2, 8, none⟩ (.int .i64 268435454)) g2 36 .i64 16 pF) := Lib.hid ((HR.setCell 8 268435454).congr fun k hk => by
        unfold updZ pF
        rw [mixZ_all _ _ _ _ hk])
      have H2 := Lib.hid (H0.other g2 8 (.int .i64 268435454) (Nat.ne_of_lt hg))
      have H3 := Lib.hid (HB.setCell (p := ⟨g2, 8, none⟩) (show w.heap.size ≤ g2 by omega) (.int .i64 268435454))
      clear HR H0 HB
      go_wp2_with (first
        | ((with_reducible apply lay_loadZ intsF); (case hgd => exact rfl); (case ho => exact rfl); (case hx => exact rfl); (case hg => exact H1.out); intro _ _; go_simp)
        | ((with_reducible apply lay_storeZ intsF); (case hgd => exact rfl); (case ho => exact rfl); (case hx => exact rfl); (case hy => exact rfl); (case hg => exact H2.out); intro w5 R5 B5 A5 _ _; go_simp))
      refine bodyPost_ret (ints_result intsF rfl _ _ _ rfl R5.out) rfl ⟨rfl, H3.out.trans (B5.out.mono hs)⟩
/-- Whether digits are less than p's, from the highest of K on. -/
def lessTo (f : Nat → Int) : Nat → Bool
  | 0 => false
  | K + 1 => if f K = pF K then lessTo f K else decide (f K < pF K)
set_option maxRecDepth 8000 in
set_option maxHeartbeats 1000000 in
theorem less_any (f : Nat → Int) (w : World) : Calls Tryd.prog 61 #[.agg (AZ .i64 16 f)] w fun e w' => e = .returned (.bool (lessTo f 16)) ∧ Below w.heap.size w w' := by
  go_enter Tryd.func61, Tryd.ntmps61
  go_wp2_with (first
    | ((with_reducible apply lay_boxZ); (case hgd => exact rfl); (case ho => exact rfl); (case hx => exact rfl); intro w1 g1 E1 R1 B1 _ _; go_simp)
    | ((with_reducible refine (prime_any _).mono ?_); rintro e w2 ⟨rfl, B2⟩; have B2 := Lib.hid B2)
    | ((with_reducible apply lay_allocZ intsF); (case hgd => exact rfl); (case ho => exact rfl); intro w3 g3 E3 R3 B3 _ _; go_simp)
    | ((with_reducible apply lay_storeZ intsF); (case hgd => exact rfl); (case ho => exact rfl); (case hx => exact rfl); (case hy => exact rfl); (case hg => exact R3.out); intro w4 R4 B4 A4 _ _; go_simp))
  have hs1 := B1.out.size
  have hs2 := B2.out.size
  have hl1 := R1.out.lt
  have M1 := Lib.hid (((R1.out.below B2.out R1.out.lt).below B3.out (by rw [E3.out]; omega)).below B4.out (by rw [E3.out]; omega))
  have MB : Hid (Below w.heap.size w w4) := Lib.hid (by
    have h1 := B1.out
    rw [E1.out] at h1
    exact h1.trans ((B2.out.mono (by omega)).trans ((B3.out.mono (by rw [E3.out]; omega)).trans (B4.out.mono (by rw [E3.out]; omega)))))
  clear hs1 hs2 hl1 R1 R3 B1 B2 B3 B4 A4 E1 E3
  go_loopw [4] (fun v wr => ∃ K : Nat, K ≤ 16 ∧ v = .int .i64 ((K : Int) - 1) ∧ lessTo f 16 = lessTo f K ∧ RowZ wr g1 36 .i64 16 f ∧ RowZ wr g3 36 .i64 16 pF ∧ Below w.heap.size w wr) (fun v _ => (intOf v + 1).toNat)
  case atStart => exact ⟨16, Nat.le_refl _, rfl, rfl, M1.out, R4.out, MB.out⟩
  case round =>
    clear M1 R4 MB
    obtain ⟨K, hK, rfl, hL, H1, H3, HB⟩ := hrel
    rcases Nat.eq_zero_or_pos K with h0 | h0
    · subst h0
      have He := Lib.hid hL
      have H2 := Lib.hid HB
      clear hL H1 H3 HB
      go_wp2_with fail
      go_ret
      exact ⟨by rw [He.out]; rfl, H2.out⟩
    · obtain ⟨i, rfl⟩ : ∃ i, K = i + 1 := ⟨K - 1, by omega⟩
      have e : (((i + 1 : Nat) : Int) - 1) = (i : Int) := by omega
      rw [e]
      have hi0 : (0 : Int) ≤ (i : Int) := by omega
      have i16 : (i : Int) < 16 := by omega
      have i16' : i < 16 := by omega
      have G1 := Lib.hid H1
      have G3 := Lib.hid H3
      have GB := Lib.hid HB
      rw [show lessTo f (i + 1) = (if f i = pF i then lessTo f i else decide (f i < pF i)) from rfl] at hL
      clear e h0 H1 H3 HB
      go_wp2_with fail
      refine wp_region_still_lit (by kernel_rfl) (by kernel_rfl) ?_
      change wpStill _ _ wr.drew (fun a' => Exit.then _ _ Exit.normal a' wr.drew) _ _
      have D1 := Lib.hid G1.out.drew
      have D3 := Lib.hid G3.out.drew
      have DB := Lib.hid (Below.drew GB.out)
      clear G1 G3 GB
      generalize wr.drew = w5 at *
      have hc1 := D1.out.cell i i16'
      have hc3 := D3.out.cell i i16'
      have HX := Lib.hid (fun (x y : Int) (hx : f i = x) (hy : pF i = y) => hL.trans (by rw [hx, hy]))
      obtain ⟨x, hx⟩ : ∃ x, f i = x := ⟨_, rfl⟩
      obtain ⟨y, hy⟩ : ∃ y, pF i = y := ⟨_, rfl⟩
      have HL := Lib.hid (HX.out x y hx hy)
      rw [hx] at hc1
      rw [hy] at hc3
      clear HX hL hx hy
      by_cases hxy : x = y
      · have t1 : (x != y) = false := by simpa using hxy
        have Hx := Lib.hid hxy
        clear hxy
        iterate 7 still_step
        refine wpStill_nil ?_
        go_wp2_with fail
        go_round
        case rel => exact ⟨i, by omega, by go_num, by have := HL.out; rw [if_pos Hx.out] at this; exact this, D1.out, D3.out, DB.out⟩
        case measure => (simp [intOf] <;> omega)
      · have t1 : (x != y) = true := by simpa using hxy
        have Hx := Lib.hid hxy
        clear hxy
        iterate 7 still_step
        refine wpStill_nil ?_
        go_wp2_with fail
        refine wp_region_still_lit (by kernel_rfl) (by kernel_rfl) ?_
        change wpStill _ _ w5.drew (fun a' => Exit.then _ _ Exit.normal a' w5.drew) _ _
        have hc1 : w5.drew.cell? ⟨g1, i, none⟩ = some (.int .i64 x) := hc1
        have hc3 : w5.drew.cell? ⟨g3, i, none⟩ = some (.int .i64 y) := hc3
        have DC := Lib.hid (Below.drew DB.out)
        clear D1 D3 DB
        generalize w5.drew = w6 at *
        iterate 8 still_step
        refine wpStill_nil ?_
        go_wp2_with fail
        go_ret
        exact ⟨by have := HL.out; rw [if_neg Hx.out] at this; rw [this]; rfl, DC.out⟩
end Go.Proofs.YtjjdhbmlinjhjaaDoor
