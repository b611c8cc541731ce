/-
  The contract of the reference's Permute.
-/
import Derived.Test.YtjppmeihobcenaaDoorKecRefP
import Derived.Test.YtjppmeihobcenaaDoorKecHeld
import Derived.Test.YtjppmeihobcenaaDoorKecSt
namespace Go.Proofs.YtjppmeihobcenaaDoor
open Go.RowKit

theorem pow_bound (j : Nat) (h : j < 7) : 1 ≤ 2 ^ j ∧ 2 ^ j ≤ 64 := by
  have : j = 0 ∨ j = 1 ∨ j = 2 ∨ j = 3 ∨ j = 4 ∨ j = 5 ∨ j = 6 := by omega
  rcases this with rfl | rfl | rfl | rfl | rfl | rfl | rfl <;> decide
theorem pow_u64 (j : Nat) (h : j ≤ 6) : IntKind.u64.wrap (2 ^ j) = ((2 ^ j : Nat) : Int) := by
  have hb := pow_bound j (by omega)
  have e : (2 : Int) ^ j = ((2 ^ j : Nat) : Int) := by rw [Int.natCast_pow]; rfl
  rw [e]
  exact IntWalk.u64_in _ (by omega)
theorem pow_lane (m : Nat) : IntKind.u64.wrap (2 ^ m) = L (shl 1 m) := by
  have h := u64_shl 1 m
  have e : L 1 = 1 := rfl
  rwa [e, Int.one_mul] at h

/-- What stands before the rounds: the state, the result, the offsets, the row of bits. -/
structure Base (w Wb : World) (g3 gr : Nat) (f : Nat → BitVec 64) : Prop where
  bel : Below w.heap.size w Wb
  r1 : Wb.heap[w.heap.size]? = some (.cells (A 25 f) 51)
  r2 : Wb.heap[w.heap.size + 1]? = some (.cells (A 25 fun _ => 0) 51)
  r3 : Wb.heap[g3]? = some (.cells (AI 25 offs) 59)
  rr : ∃ cur, Wb.heap[gr]? = some (.cells cur 3) ∧ ∀ i, i < 168 → cur[i]? = some (.int .i64 (rowBit i : Int))
  n3 : g3 ≠ w.heap.size
  nr : gr ≠ w.heap.size
section
variable {w Wb wr : World} {g3 gr : Nat} {f : Nat → BitVec 64}
theorem Base.off (h : Base w Wb g3 gr f) (hb : BB Wb.heap.size w.heap.size Wb wr) (i : Nat) (hi : i < 25) : wr.cell? ⟨g3, i, none⟩ = some (.int .i64 (offs i : Int)) := by
  rw [cell_of_row _ _ _ _ _ _ ((hb.block _ (row_lt h.r3) h.n3).trans h.r3), AI_get _ _ _ hi]
theorem Base.bit (h : Base w Wb g3 gr f) (hb : BB Wb.heap.size w.heap.size Wb wr) (i : Nat) (hi : i < 168) : wr.cell? ⟨gr, i, none⟩ = some (.int .i64 (rowBit i : Int)) := by
  obtain ⟨cur, hr, hc⟩ := h.rr
  rw [cell_of_row _ _ _ _ _ _ ((hb.block _ (row_lt hr) h.nr).trans hr), hc i hi]
end

set_option maxHeartbeats 6400000 in
set_option maxRecDepth 100000 in
theorem refPerm_any (f : Nat → BitVec 64) (w : World) :
    Calls Tryd.prog 23 #[.agg (A 25 f)] w fun e w' => e = .returned (.agg (A 25 (refPTo f 24))) ∧ Below w.heap.size w w' := by
  have H0 := Lib.hid (((St.start w).alloc (.cells (A 25 f) 51)).alloc (.cells (A 25 fun _ => 0) 51))
  go_enter Tryd.func23, Tryd.ntmps23
  go_wp2_with ((with_reducible apply lay_alloc lanes23); (case hgd => exact rfl); (case ho => exact rfl); intro _ _; go_simp)
  refine (offsets_any _).mono ?_
  rintro e w1 ⟨rfl, hb⟩
  have H1 := Lib.hid ((H0.out.call hb).alloc (.cells (AI 25 offs) 59))
  clear hb H0
  go_wp2_with (first
    | ((with_reducible apply ints_alloc); (case hgd => exact rfl); (case ho => exact rfl); intro _ _; go_simp)
    | ((with_reducible apply ints_store); (case hgd => exact rfl); (case ho => exact rfl); (case hx => exact rfl); (case hy => exact rfl); (case hg => exact row1 _ _); intro _ _; go_simp))
  refine (row_any _).mono ?_
  rintro e w2 ⟨⟨gr, cr, cur, rfl, hgr, hcr, hrow, hcell⟩, hb⟩
  have H2 := H1.out.call hb
  have hz := H1.out.bel.size
  have hsz1 := row_lt (H1.out.get _ _ (.tail _ (.head _)))
  have hl1 : w.heap.size + 1 < w1.heap.size := by
    have h0 := (H1.out.get _ _ (.tail _ (.head _)))
    have h1 := row_lt h0
    simp at h1
    have hne : w.heap.size + 1 ≠ w1.heap.size := fun e => by
      have h2 := H1.out.get _ _ (.head _)
      rw [← e] at h2
      simp only [World.size_alloc] at h0
      rw [h0] at h2
      injection h2 with h2
      injection h2 with _ h3
      exact absurd h3 (by decide)
    omega
  have HBs := Lib.hid (show Base w w2 w1.heap.size gr f from ⟨H2.bel, H2.get _ _ (.tail _ (.tail _ (.head _))), by have h := H2.get _ _ (.tail _ (.head _)); simpa using h, H2.get _ _ (.head _), ⟨cur, hrow, hcell⟩, by omega, by simp at hgr; omega⟩)
  clear H1 H2 hrow hcell hgr hb hz hsz1 hl1
  generalize w1.heap.size = g3 at *
  have hcr' : (168 : Int) ≤ (cr : Int) := by omega
  go_wp2_with fail
  go_loopw [5] (fun v wr => ∃ r : Nat, r ≤ 24 ∧ v = .int .i64 r ∧ BB w2.heap.size w.heap.size w2 wr ∧ wr.heap[w.heap.size]? = some (.cells (A 25 (refPTo f r)) 51)) (fun v _ => 24 - (intOf v).toNat)
  case atStart => exact ⟨0, by omega, rfl, BB.refl _ _ _, HBs.out.r1⟩
  case round =>
    obtain ⟨r, hr, rfl, HB, HA⟩ := hrel
    by_cases hlr : r < 24
    · have hrd : decide ((r : Int) < 24) = true := by simp; omega
      obtain ⟨F, hF⟩ : ∃ F, refPTo f r = F := ⟨_, rfl⟩
      have hP : refPTo f (r + 1) = refRound F r := by rw [refPTo, hF]
      rw [hF] at HA
      have HP := Lib.hid hP
      have HPC := Lib.hid (show PC w2 (wr.alloc (.cells (A 5 fun _ => 0) 62)) w.heap.size wr.heap.size F (sumsTo F 0) from ⟨HB.alloc HB.size _, row_lt HBs.out.r1, HB.size, (heap_alloc_past _ _ _ (row_lt HA)).trans HA, heap_alloc_last _ _⟩)
      clear hF hP HB HA
      go_wp2_with ((with_reducible apply lay_alloc lanes45); (case hgd => exact rfl); (case ho => exact rfl); intro _ _; go_simp)
      generalize wr.heap.size = gc at *
      go_loopw [7] (fun v wr => ∃ i : Nat, i ≤ 25 ∧ v = .int .i64 i ∧ PC w2 wr w.heap.size gc F (sumsTo F i)) (fun v _ => 25 - (intOf v).toNat)
      case atStart => exact ⟨0, by omega, rfl, HPC.out⟩
      case round =>
        clear HPC
        obtain ⟨i, hi, rfl, HR⟩ := hrel
        by_cases hlt : i < 25
        · have hid : decide ((i : Int) < 25) = true := by simp; omega
          have HD := Lib.hid HR.drew
          clear HR
          go_wp2_with fail
          refine wp_region_still_tail 10 (by kernel_rfl) (by kernel_rfl) ?_
          change wpStill _ _ wr.drew (fun a' => wpList _ _ _ _ a' wr.drew) _ _
          generalize wr.drew = w3 at *
          obtain ⟨m, hm⟩ : ∃ m, i % 5 = m := ⟨_, rfl⟩
          have m5 : m < 5 := by omega
          have m5' : (m : Int) < 5 := by omega
          have i25' : (i : Int) < 25 := by omega
          have hc := HD.out.cC m m5
          have hz := HD.out.zC m
          have ha := HD.out.cA i hlt
          have e1 : (i : Int).tmod 5 = (m : Int) := by rw [IntWalk.rem_in _ _ (by omega)]; omega
          have e2 : (i : Int) % 5 = (m : Int) := by omega
          have Hm := Lib.hid hm
          clear hm
          simp only [List.take_succ_cons, List.take_zero, List.drop_succ_cons, List.drop_zero]
          iterate 10 still_step
          refine wpStill_nil ?_
          clear e1 e2
          go_wp2_with fail
          go_roundw
          case rel =>
            refine ⟨i + 1, by omega, by go_num, ?_⟩
            have h := HD.out.setC m (sumsTo F i m ^^^ F i)
            rw [sumsTo, Hm.out]
            exact h
          case measure => simp [intOf]; omega
        · obtain rfl : i = 25 := by omega
          clear hlt hi
          rw [show ((25 : Nat) : Int) = 25 from rfl]
          have HPR := Lib.hid HR.more
          clear HR
          obtain ⟨S, hS⟩ : ∃ S, sumsTo F 25 = S := ⟨_, rfl⟩
          rw [hS] at HPR
          have HS := Lib.hid hS
          clear hS
          go_wp2_with ((with_reducible apply lay_alloc lanes23); (case hgd => exact rfl); (case ho => exact rfl); intro _ _; go_simp)
          generalize wr.heap.size = gb at *
          go_loopw [9] (fun v wr => ∃ y : Nat, y ≤ 5 ∧ v = .int .i64 y ∧ PR w2 wr w.heap.size gc gb F S (bTo F S y)) (fun v _ => 5 - (intOf v).toNat)
          case atStart => exact ⟨0, by omega, rfl, HPR.out⟩
          case round =>
            clear HPR
            obtain ⟨y, hy, rfl, HR⟩ := hrel
            by_cases hly : y < 5
            · have hyd : decide ((y : Int) < 5) = true := by simp; omega
              have HR1 := Lib.hid HR
              clear HR
              go_wp2_with fail
              go_loopw [10] (fun v wr => ∃ x : Nat, x ≤ 5 ∧ v = .int .i64 x ∧ PR w2 wr w.heap.size gc gb F S (rowR F S (bTo F S y) y x)) (fun v _ => 5 - (intOf v).toNat)
              case atStart => exact ⟨0, by omega, rfl, HR1.out⟩
              case round =>
                clear HR1
                obtain ⟨x, hx, rfl, HR⟩ := hrel
                by_cases hlx : x < 5
                · have hxd : decide ((x : Int) < 5) = true := by simp; omega
                  have HR2 := Lib.hid HR
                  clear HR
                  go_wp2_with fail
                  obtain ⟨p, hp⟩ : ∃ p, x + 5 * y = p := ⟨_, rfl⟩
                  obtain ⟨m4, hm4⟩ : ∃ m, (x + 4) % 5 = m := ⟨_, rfl⟩
                  obtain ⟨m1, hm1⟩ : ∃ m, (x + 1) % 5 = m := ⟨_, rfl⟩
                  obtain ⟨q, hq⟩ : ∃ q, y + 5 * ((2 * x + 3 * y) % 5) = q := ⟨_, rfl⟩
                  have p25 : p < 25 := by omega
                  have q25 : q < 25 := by omega
                  have m45 : m4 < 5 := by omega
                  have m15 : m1 < 5 := by omega
                  have p25' : (p : Int) < 25 := by omega
                  have m45' : (m4 : Int) < 5 := by omega
                  have m15' : (m1 : Int) < 5 := by omega
                  have e1 : IntKind.i64.wrap (5 * (y : Int)) = 5 * (y : Int) := IntWalk.i64_in _ (by omega)
                  have e2 : IntKind.i64.wrap ((x : Int) + 5 * (y : Int)) = (p : Int) := (IntWalk.i64_in _ (by omega)).trans (by omega)
                  have e3 : IntKind.i64.wrap ((x : Int) + 4) = (x : Int) + 4 := IntWalk.i64_in _ (by omega)
                  have e4 : ((x : Int) + 4).tmod 5 = (m4 : Int) := by rw [IntWalk.rem_in _ _ (by omega)]; omega
                  have e5 : IntKind.i64.wrap ((x : Int) + 1) = (x : Int) + 1 := IntWalk.i64_in _ (by omega)
                  have e6 : ((x : Int) + 1).tmod 5 = (m1 : Int) := by rw [IntWalk.rem_in _ _ (by omega)]; omega
                  have epi : (x : Int) + 5 * (y : Int) = (p : Int) := by omega
                  have eqi : (y : Int) + 5 * ((2 * (x : Int) + 3 * (y : Int)) % 5) = (q : Int) := by omega
                  have Hpi := Lib.hid epi
                  have Hqi := Lib.hid eqi
                  have Hpq := Lib.hid (And.intro hp (And.intro hm4 (And.intro hm1 hq)))
                  clear epi eqi hp hm4 hm1 hq
                  refine wp_region_noPanic ?_
                  refine wp_region_held_drew (S := fun W' => PR w2 W' w.heap.size gc gb F S (rowR F S (bTo F S y) y x)) (by kernel_rfl) HR2.out.drew (fun hH => ?_)
                  clear HR2
                  refine held_value 0 45 (.int .i64 (x : Int)) rfl rfl (by kernel_rfl) (by kernel_rfl) (by kernel_rfl) rfl hH (fun _ hw => by go_simp) ?_
                  simp only [Act.put, List.setIfInBounds_toArray, List.set_cons_zero, List.set_cons_succ]
                  refine held_value 1 46 (.int .i64 (y : Int)) rfl rfl (by kernel_rfl) (by kernel_rfl) (by kernel_rfl) rfl hH (fun _ hw => by go_simp) ?_
                  simp only [Act.put, List.setIfInBounds_toArray, List.set_cons_zero, List.set_cons_succ]
                  refine held_value 2 47 (.int .i64 (5 * (y : Int))) rfl rfl (by kernel_rfl) (by kernel_rfl) (by kernel_rfl) rfl hH (fun _ hw => by go_simp) ?_
                  simp only [Act.put, List.setIfInBounds_toArray, List.set_cons_zero, List.set_cons_succ]
                  refine held_value 3 48 (.int .i64 (p : Int)) rfl rfl (by kernel_rfl) (by kernel_rfl) (by kernel_rfl) rfl hH (fun _ hw => by go_simp) ?_
                  simp only [Act.put, List.setIfInBounds_toArray, List.set_cons_zero, List.set_cons_succ]
                  refine held_value 4 49 (.pointer (some ⟨w.heap.size, p, none⟩)) rfl rfl (by kernel_rfl) (by kernel_rfl) (by kernel_rfl) rfl hH (fun _ hw => by go_simp) ?_
                  simp only [Act.put, List.setIfInBounds_toArray, List.set_cons_zero, List.set_cons_succ]
                  refine held_value 5 50 (V (F p)) rfl rfl (by kernel_rfl) (by kernel_rfl) (by kernel_rfl) rfl hH (fun _ hw => by have h1 := PR.cA hw p p25; go_simp) ?_
                  simp only [Act.put, List.setIfInBounds_toArray, List.set_cons_zero, List.set_cons_succ]
                  refine held_value 6 51 (.int .i64 (x : Int)) rfl rfl (by kernel_rfl) (by kernel_rfl) (by kernel_rfl) rfl hH (fun _ hw => by go_simp) ?_
                  simp only [Act.put, List.setIfInBounds_toArray, List.set_cons_zero, List.set_cons_succ]
                  refine held_value 7 52 (.int .i64 ((x : Int) + 4)) rfl rfl (by kernel_rfl) (by kernel_rfl) (by kernel_rfl) rfl hH (fun _ hw => by go_simp) ?_
                  simp only [Act.put, List.setIfInBounds_toArray, List.set_cons_zero, List.set_cons_succ]
                  refine held_value 8 53 (.int .i64 (m4 : Int)) rfl rfl (by kernel_rfl) (by kernel_rfl) (by kernel_rfl) rfl hH (fun _ hw => by go_simp) ?_
                  simp only [Act.put, List.setIfInBounds_toArray, List.set_cons_zero, List.set_cons_succ]
                  refine held_value 9 54 (.pointer (some ⟨gc, m4, none⟩)) rfl rfl (by kernel_rfl) (by kernel_rfl) (by kernel_rfl) rfl hH (fun _ hw => by go_simp) ?_
                  simp only [Act.put, List.setIfInBounds_toArray, List.set_cons_zero, List.set_cons_succ]
                  refine held_value 10 55 (V (S m4)) rfl rfl (by kernel_rfl) (by kernel_rfl) (by kernel_rfl) rfl hH (fun _ hw => by have h1 := PR.cC hw m4 m45; go_simp) ?_
                  simp only [Act.put, List.setIfInBounds_toArray, List.set_cons_zero, List.set_cons_succ]
                  refine held_value 11 56 (V (F p ^^^ S m4)) rfl rfl (by kernel_rfl) (by kernel_rfl) (by kernel_rfl) rfl hH (fun _ hw => by go_simp) ?_
                  simp only [Act.put, List.setIfInBounds_toArray, List.set_cons_zero, List.set_cons_succ]
                  refine held_value 12 57 (.int .i64 (x : Int)) rfl rfl (by kernel_rfl) (by kernel_rfl) (by kernel_rfl) rfl hH (fun _ hw => by go_simp) ?_
                  simp only [Act.put, List.setIfInBounds_toArray, List.set_cons_zero, List.set_cons_succ]
                  refine held_value 13 58 (.int .i64 ((x : Int) + 1)) rfl rfl (by kernel_rfl) (by kernel_rfl) (by kernel_rfl) rfl hH (fun _ hw => by go_simp) ?_
                  simp only [Act.put, List.setIfInBounds_toArray, List.set_cons_zero, List.set_cons_succ]
                  refine held_value 14 59 (.int .i64 (m1 : Int)) rfl rfl (by kernel_rfl) (by kernel_rfl) (by kernel_rfl) rfl hH (fun _ hw => by go_simp) ?_
                  simp only [Act.put, List.setIfInBounds_toArray, List.set_cons_zero, List.set_cons_succ]
                  refine held_value 15 60 (.pointer (some ⟨gc, m1, none⟩)) rfl rfl (by kernel_rfl) (by kernel_rfl) (by kernel_rfl) rfl hH (fun _ hw => by go_simp) ?_
                  simp only [Act.put, List.setIfInBounds_toArray, List.set_cons_zero, List.set_cons_succ]
                  refine held_value 16 61 (V (S m1)) rfl rfl (by kernel_rfl) (by kernel_rfl) (by kernel_rfl) rfl hH (fun _ hw => by have h1 := PR.cC hw m1 m15; go_simp) ?_
                  simp only [Act.put, List.setIfInBounds_toArray, List.set_cons_zero, List.set_cons_succ]
                  refine wpAnyH_ready (rs := [17]) (by kernel_rfl) (by simp) ?_
                  refine AllReadyH.cons (o := _) rfl (fun K hK => ?_) AllReadyH.nil
                  go_simp
                  refine (turned_one _ _).mono ?_
                  rintro e w' ⟨rfl, hb⟩
                  refine hK.out _ _ (PR.call hH hb) (fun hN => ?_)
                  clear hK K hH hb
                  have hH := hN
                  clear hN
                  try simp only [Act.put, List.setIfInBounds_toArray, List.set_cons_zero, List.set_cons_succ]
                  refine held_value 18 63 (V (F p ^^^ S m4 ^^^ rotl (S m1) 1)) rfl rfl (by kernel_rfl) (by kernel_rfl) (by kernel_rfl) rfl hH (fun _ hw => by go_simp) ?_
                  simp only [Act.put, List.setIfInBounds_toArray, List.set_cons_zero, List.set_cons_succ]
                  refine held_value 19 11 (V (F p ^^^ S m4 ^^^ rotl (S m1) 1)) rfl rfl (by kernel_rfl) (by kernel_rfl) (by kernel_rfl) rfl hH (fun _ hw => by go_simp) ?_
                  simp only [Act.put, List.setIfInBounds_toArray, List.set_cons_zero, List.set_cons_succ]
                  refine wpAnyH_done (by kernel_rfl) ?_ _
                  refine NoPanic.normal ?_
                  clear e1 e2 e3 e4 e5 e6
                  have HH := Lib.hid hH
                  have hoff := HBs.out.off hH.bb p p25
                  have hko := offs_lt p p25
                  have epi := Hpi.out
                  have eqi := Hqi.out
                  clear hH
                  go_wp2_with fail
                  refine (turned_any _ (offs p) _ hko).mono ?_
                  rintro e w4 ⟨rfl, hb⟩
                  have HH2 := Lib.hid (HH.out.call hb)
                  clear hb HH hoff
                  have hcB := HH2.out.cB q q25
                  have hzB := HH2.out.zB q
                  go_wp2_with fail
                  go_roundw
                  case rel =>
                    refine ⟨x + 1, by omega, by go_num, ?_⟩
                    have h := HH2.out.setB q (rotl (F p ^^^ S m4 ^^^ rotl (S m1) 1) (offs p))
                    obtain ⟨h1, h2, h3, h4⟩ := Hpq.out
                    rw [rowR, lFor, h1, h2, h3, h4]
                    exact h
                  case measure => simp [intOf]; omega
                · obtain rfl : x = 5 := by omega
                  clear hlx hx
                  rw [show ((5 : Nat) : Int) = 5 from rfl]
                  have HR2 := Lib.hid HR
                  clear HR
                  go_wp2_with fail
                  go_roundw
                  case rel => exact ⟨y + 1, by omega, by go_num, HR2.out⟩
                  case measure => simp [intOf]; omega
            · obtain rfl : y = 5 := by omega
              clear hly hy
              rw [show ((5 : Nat) : Int) = 5 from rfl]
              obtain ⟨Bf, hBf⟩ : ∃ B, bTo F S 5 = B := ⟨_, rfl⟩
              rw [hBf] at HR
              have HBf := Lib.hid hBf
              have HR2 := Lib.hid HR
              clear HR hBf
              go_wp2_with fail
              go_loopw [12] (fun v wr => ∃ y : Nat, y ≤ 5 ∧ v = .int .i64 y ∧ PR w2 wr w.heap.size gc gb (aTo Bf F y) S Bf) (fun v _ => 5 - (intOf v).toNat)
              case atStart => exact ⟨0, by omega, rfl, HR2.out⟩
              case round =>
                clear HR2
                obtain ⟨y, hy, rfl, HR⟩ := hrel
                by_cases hly : y < 5
                · have hyd : decide ((y : Int) < 5) = true := by simp; omega
                  have HR1 := Lib.hid HR
                  clear HR
                  go_wp2_with fail
                  go_loopw [13] (fun v wr => ∃ x : Nat, x ≤ 5 ∧ v = .int .i64 x ∧ PR w2 wr w.heap.size gc gb (rowC Bf (aTo Bf F y) y x) S Bf) (fun v _ => 5 - (intOf v).toNat)
                  case atStart => exact ⟨0, by omega, rfl, HR1.out⟩
                  case round =>
                    clear HR1
                    obtain ⟨x, hx, rfl, HR⟩ := hrel
                    by_cases hlx : x < 5
                    · have hxd : decide ((x : Int) < 5) = true := by simp; omega
                      obtain ⟨p, hp⟩ : ∃ p, x + 5 * y = p := ⟨_, rfl⟩
                      obtain ⟨m2, hm2⟩ : ∃ m, (x + 2) % 5 = m := ⟨_, rfl⟩
                      obtain ⟨p1, hp1⟩ : ∃ m, (x + 1) % 5 + 5 * y = m := ⟨_, rfl⟩
                      obtain ⟨p2, hp2⟩ : ∃ m, m2 + 5 * y = m := ⟨_, rfl⟩
                      have p25 : p < 25 := by omega
                      have p125 : p1 < 25 := by omega
                      have p225 : p2 < 25 := by omega
                      have p25' : (p : Int) < 25 := by omega
                      have p225' : (p2 : Int) < 25 := by omega
                      have ep1 : ((x : Int) + 1) % 5 + 5 * (y : Int) = (p1 : Int) := by omega
                      have e1 : IntKind.i64.wrap (5 * (y : Int)) = 5 * (y : Int) := IntWalk.i64_in _ (by omega)
                      have e2 : IntKind.i64.wrap ((x : Int) + 5 * (y : Int)) = (p : Int) := (IntWalk.i64_in _ (by omega)).trans (by omega)
                      have e3 : IntKind.i64.wrap ((x : Int) + 2) = (x : Int) + 2 := IntWalk.i64_in _ (by omega)
                      have e4 : ((x : Int) + 2).tmod 5 = (m2 : Int) := by rw [IntWalk.rem_in _ _ (by omega)]; omega
                      have e5 : IntKind.i64.wrap ((m2 : Int) + 5 * (y : Int)) = (p2 : Int) := (IntWalk.i64_in _ (by omega)).trans (by omega)
                      have E1 := Lib.hid e1
                      have E2 := Lib.hid e2
                      have E3 := Lib.hid e3
                      have E4 := Lib.hid e4
                      have E5 := Lib.hid e5
                      have Hpq := Lib.hid (And.intro hp (And.intro hm2 (And.intro hp1 hp2)))
                      have hB1 := HR.cB p1 p125
                      have HR2 := Lib.hid HR.drew
                      clear HR e1 e2 e3 e4 e5 hp hm2 hp1 hp2
                      go_wp2_with fail
                      clear hB1 ep1
                      refine wp_region_still_tail 30 (by kernel_rfl) (by kernel_rfl) ?_
                      change wpStill _ _ wr.drew (fun a' => wpList _ _ _ _ a' wr.drew) _ _
                      generalize wr.drew = w3 at *
                      have e1 := E1.out
                      have e2 := E2.out
                      have e3 := E3.out
                      have e4 := E4.out
                      have e5 := E5.out
                      have hB := HR2.out.cB p p25
                      have hB2 := HR2.out.cB p2 p225
                      have hA := HR2.out.cA p p25
                      have hzA := HR2.out.zA p
                      simp only [List.take_succ_cons, List.take_zero, List.drop_succ_cons, List.drop_zero]
                      iterate 30 still_step
                      refine wpStill_nil ?_
                      clear e1 e2 e3 e4 e5 E1 E2 E3 E4 E5
                      go_wp2_with fail
                      go_roundw
                      case rel =>
                        refine ⟨x + 1, by omega, by go_num, ?_⟩
                        have h := HR2.out.setA p (Bf p ^^^ (Bf p2 - (Bf p2 &&& Bf p1)))
                        obtain ⟨h1, h2, h3, h4⟩ := Hpq.out
                        rw [rowC, h1, h2, h3, h4]
                        exact h
                      case measure => simp [intOf]; omega
                    · obtain rfl : x = 5 := by omega
                      clear hlx hx
                      rw [show ((5 : Nat) : Int) = 5 from rfl]
                      have HR2 := Lib.hid HR
                      clear HR
                      go_wp2_with fail
                      go_roundw
                      case rel => exact ⟨y + 1, by omega, by go_num, HR2.out⟩
                      case measure => simp [intOf]; omega
                · obtain rfl : y = 5 := by omega
                  clear hly hy
                  rw [show ((5 : Nat) : Int) = 5 from rfl]
                  obtain ⟨Af, hAf⟩ : ∃ A, aTo Bf F 5 = A := ⟨_, rfl⟩
                  rw [hAf] at HR
                  have HAf := Lib.hid hAf
                  have HR2 := Lib.hid HR
                  clear HR hAf
                  go_wp2_with fail
                  go_loopw [15] (fun v wr => ∃ j : Nat, j ≤ 7 ∧ v = .int .i64 j ∧ PR w2 wr w.heap.size gc gb (kTo Af r j) S Bf) (fun v _ => 7 - (intOf v).toNat)
                  case atStart => exact ⟨0, by omega, rfl, HR2.out⟩
                  case round =>
                    clear HR2
                    obtain ⟨j, hj, rfl, HR⟩ := hrel
                    by_cases hlj : j < 7
                    · have hjd : decide ((j : Int) < 7) = true := by simp; omega
                      obtain ⟨q, hq⟩ : ∃ q, 7 * r + j = q := ⟨_, rfl⟩
                      have q168 : q < 168 := by omega
                      have eqi : 7 * (r : Int) + (j : Int) = (q : Int) := by omega
                      have hbit := HBs.out.bit HR.bb q q168
                      have hk1 : kTo Af r (j + 1) = if rowBit q = 1 then upd (kTo Af r j) 0 (kTo Af r j 0 ^^^ shl 1 (2 ^ j - 1)) else kTo Af r j := by rw [kTo, hq]
                      have Hk := Lib.hid hk1
                      clear hk1 hq
                      by_cases hone : rowBit q = 1
                      · have hone' : ((rowBit q : Int) == 1) = true := by rw [hone]; rfl
                        have Ho := Lib.hid hone
                        have HR2 := Lib.hid HR.drew
                        clear HR hone
                        go_wp2_with fail
                        clear hbit hone'
                        refine wp_region_still_tail 7 (by kernel_rfl) (by kernel_rfl) ?_
                        change wpStill _ _ wr.drew (fun a' => wpList _ _ _ _ a' wr.drew) _ _
                        generalize wr.drew = w3 at *
                        have hA := HR2.out.cA 0 (by omega)
                        have hzA := HR2.out.zA 0
                        have j64 : (j : Int) ≤ 64 := by omega
                        obtain ⟨t, ht⟩ : ∃ t, 2 ^ j = t := ⟨_, rfl⟩
                        obtain ⟨m, hm⟩ : ∃ m, t - 1 = m := ⟨_, rfl⟩
                        have tb := pow_bound j hlj
                        rw [ht] at tb
                        have s1 : IntKind.u64.wrap (2 ^ j) = (t : Int) := by rw [← ht]; exact pow_u64 j (by omega)
                        have s1' : IntKind.u64.wrap (1 * 2 ^ j) = (t : Int) := by rw [Int.one_mul]; exact s1
                        have s2 : IntKind.u64.wrap ((t : Int) - 1) = (m : Int) := (IntWalk.u64_in _ (by omega)).trans (by omega)
                        have s3 : IntKind.u64.wrap (2 ^ m) = L (shl 1 m) := pow_lane m
                        have s3' : IntKind.u64.wrap (1 * 2 ^ m) = L (shl 1 m) := by rw [Int.one_mul]; exact s3
                        have m64 : (m : Int) ≤ 64 := by omega
                        have Ht := Lib.hid (And.intro ht hm)
                        clear ht hm tb
                        simp only [List.take_succ_cons, List.take_zero, List.drop_succ_cons, List.drop_zero]
                        iterate 7 still_step
                        refine wpStill_nil ?_
                        clear s1 s1' s2 s3 s3'
                        go_wp2_with fail
                        go_roundw
                        case rel =>
                          refine ⟨j + 1, by omega, by go_num, ?_⟩
                          have h := HR2.out.setA 0 (kTo Af r j 0 ^^^ shl 1 m)
                          obtain ⟨h1, h2⟩ := Ht.out
                          rw [Hk.out, if_pos Ho.out, h1, h2]
                          exact h
                        case measure => simp [intOf]; omega
                      · have hone' : ((rowBit q : Int) == 1) = false := by rw [beq_eq_false_iff_ne]; omega
                        have Ho := Lib.hid hone
                        have HR2 := Lib.hid HR
                        clear HR hone
                        go_wp2_with fail
                        go_roundw
                        case rel => exact ⟨j + 1, by omega, by go_num, by rw [Hk.out, if_neg Ho.out]; exact HR2.out⟩
                        case measure => simp [intOf]; omega
                    · obtain rfl : j = 7 := by omega
                      clear hlj hj
                      rw [show ((7 : Nat) : Int) = 7 from rfl]
                      have HR2 := Lib.hid HR
                      clear HR
                      go_wp2_with fail
                      go_roundw
                      case rel =>
                        refine ⟨r + 1, by omega, by go_num, HR2.out.bb, ?_⟩
                        rw [HP.out, refRound, HS.out, HBf.out, HAf.out]
                        exact HR2.out.ra
                      case measure => simp [intOf]; omega
    · obtain rfl : r = 24 := by omega
      clear hlr hr
      rw [show ((24 : Nat) : Int) = 24 from rfl]
      have hr2 : wr.heap[w.heap.size + 1]? = some (.cells (A 25 fun _ => 0) 51) := (HB.block _ (row_lt HBs.out.r2) (by omega)).trans HBs.out.r2
      have HA1 := Lib.hid HA
      have HB1 := Lib.hid (HB.below HBs.out.bel (Nat.le_refl _) HBs.out.bel.size)
      have HR2 := Lib.hid hr2
      clear HA HB hr2
      go_wp2_with (first
        | ((with_reducible apply lay_load lanes23); (case hgd => exact rfl); (case ho => exact rfl); (case hx => exact rfl); (case hg => exact HA1.out); intro _ _; go_simp)
        | ((with_reducible apply lay_store lanes23); (case hgd => exact rfl); (case ho => exact rfl); (case hx => exact rfl); (case hy => exact rfl); (case hg => exact HR2.out); intro _ _; go_simp))
      refine bodyPost_ret (lanes_result lanes23 Tryd.results23 _ _ _ rfl (setRow_heap _ _ _ _ _ _ HR2.out)) rfl ⟨rfl, ?_⟩
      exact ⟨HB1.out.os, HB1.out.tape, HB1.out.output, by simpa using HB1.out.size, fun k hk => (setRow_other _ _ _ _ (by omega)).trans (HB1.out.block k hk)⟩
end Go.Proofs.YtjppmeihobcenaaDoor
