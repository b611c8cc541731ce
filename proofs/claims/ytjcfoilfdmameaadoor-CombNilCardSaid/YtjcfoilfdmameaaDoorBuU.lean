/-
  Lemmas for the walks, several texts in one. No statement is proved here.
-/
import Derived.Test.YtjcfoilfdmameaaDoorBuI
import Derived.Test.YtjcfoilfdmameaaDoorBuT
import Derived.Test.YtjcfoilfdmameaaDoorBuJ
import Derived.Test.YtjcfoilfdmameaaDoorBuB
import Derived.Laws.BitsAllLaws
import Derived.Deep.CutRange
/-
  The contract of comb's sums. No statement is proved here: lemmas for the walks.
-/
namespace Go.Proofs.YtjcfoilfdmameaaDoor
open Go.RowKit

/-- The sum of those of the first k whose bit i has. -/
def su (P : Nat → Pt pN dK) (i : Nat) : Nat → Pt pN dK
  | 0 => pzero
  | t + 1 => if tb i t = 1 then padd edK (su P i t) (P t) else su P i t
theorem su_low {P : Nat → Pt pN dK} {i t : Nat} (h : i < 2 ^ t) : su P i (t + 1) = su P i t := by
  have e : tb i t = 0 := by
    unfold tb
    rw [Nat.div_eq_of_lt h]
  show (if tb i t = 1 then _ else _) = _
  rw [e, if_neg (by omega)]
theorem su_congr {P : Nat → Pt pN dK} {i j : Nat} : ∀ t, (∀ s, s < t → tb i s = tb j s) → su P i t = su P j t
  | 0, _ => rfl
  | t + 1, h => by
    show (if tb i t = 1 then padd edK (su P i t) (P t) else su P i t) = (if tb j t = 1 then padd edK (su P j t) (P t) else su P j t)
    rw [su_congr t fun s hs => h s (by omega), h t (by omega)]
theorem su_high {P : Nat → Pt pN dK} {i t : Nat} (h : i < 2 ^ t) : su P (2 ^ t + i) (t + 1) = padd edK (su P i t) (P t) := by
  have e : tb (2 ^ t + i) t = 1 := by
    unfold tb
    rw [Nat.add_comm, Nat.add_div_right _ (Nat.two_pow_pos t), Nat.div_eq_of_lt h]
  show (if tb (2 ^ t + i) t = 1 then _ else _) = _
  rw [e, if_pos rfl]
  congr 1
  refine su_congr t fun s hs => ?_
  have := tb_add 1 0 h s hs
  rw [Nat.one_mul, Nat.mul_zero, Nat.add_zero, Nat.add_comm] at this
  exact this
/-- Of a comb's rows. -/
theorem su_cw (m : Nat) (Q : Pt pN dK) (i : Nat) : ∀ k, su (fun t => pmul edK (2 ^ (t * m)) Q) i k = pmul edK (cw m i k) Q
  | 0 => rfl
  | k + 1 => by
    show (if tb i k = 1 then _ else _) = _
    rw [su_cw m Q i k]
    rw [show cw m i (k + 1) = cw m i k + tb i k * 2 ^ (m * k) from rfl]
    have := tb_lt i k
    rcases (by omega : tb i k = 0 ∨ tb i k = 1) with h | h
    · rw [h, if_neg (by omega), Nat.zero_mul, Nat.add_zero]
    · rw [h, if_pos rfl, Nat.one_mul, pmul_add, Nat.mul_comm]
theorem Fill.congr {F : Nat → Int} {k : Nat} {P Q : Nat → Pt pN dK} (h : Fill F k P) (he : ∀ i, i < k → P i = Q i) : Fill F k Q := fun i hi => by
  obtain ⟨v, hv, hx⟩ := h i hi
  exact ⟨v, he i hi ▸ hv, hx⟩
theorem or_high {i t : Nat} (h : i < 2 ^ t) (ht : t ≤ 7) : bits .or .i64 ((2 ^ t : Nat) : Int) (i : Int) = ((2 ^ t + i : Nat) : Int) := by
  have e := Nat.two_pow_add_eq_or_of_lt h 1
  have h7 : 2 ^ t ≤ 2 ^ 7 := Nat.pow_le_pow_right (by omega) ht
  rw [Nat.mul_one] at e
  rw [e]
  have e1 : bits .or .i64 ((2 ^ t : Nat) : Int) (i : Int) = IntKind.i64.wrap ((BitVec.ofInt 64 ((2 ^ t : Nat) : Int) ||| BitVec.ofInt 64 (i : Int)).toNat : Int) := rfl
  rw [e1, BitVec.ofInt_natCast, BitVec.ofInt_natCast, BitVec.toNat_or, BitVec.toNat_ofNat, BitVec.toNat_ofNat, Nat.mod_eq_of_lt (by omega), Nat.mod_eq_of_lt (by omega), ← e]
  exact IntWalk.i64_in _ (by omega)
set_option maxRecDepth 8000 in
set_option maxHeartbeats 3200000 in
theorem sums_k {a : Option Addr} {k c : Nat} {P : Nat → Pt pN dK} (w : World) (hT : Tp w) (hs : Pts w w.heap.size a k c P) (hk : k ≤ 7) (N : Nat) (hN : 2 ^ k = N) :
    Calls Tryd.prog 20 #[.slice a k c] w fun e w' => ∃ g F, e = .returned (.slice (some ⟨g, 0, none⟩) N N) ∧ w.heap.size ≤ g ∧ w'.heap[g]? = some (Blk 32 .u64 (N * 24) F) ∧ Fill F N (fun i => su P i k) ∧ Below w.heap.size w w' := by
  have N128 : N ≤ 128 := by rw [← hN]; exact Nat.pow_le_pow_right (by omega) hk
  have N1 : 1 ≤ N := by rw [← hN]; exact Nat.two_pow_pos k
  have HP : Hid (∀ t, t < k → ∃ b o v, a = some ⟨b, o, none⟩ ∧ PtK v (P t) ∧ ∀ W, Below w.heap.size w W → ∀ j, j < 24 → W.cell? ⟨b, o + t * 24 + j, none⟩ = some (.int .u64 (v j))) := Lib.hid fun t ht => by
    obtain ⟨b', o', v, e, hb', hv, hc⟩ := hs.get t ht
    exact ⟨b', o', v, e, hv, fun W hW j hj => (hW.cell (p := ⟨b', o' + t * 24 + j, none⟩) hb').trans (hc j hj)⟩
  have EN := Lib.hid hN
  have eN : (2 : Int) ^ k = (N : Int) := by rw [← hN, nat_pow]
  have fN : wrap64 (N : Int) = (N : Int) := by rw [← IntWalk.i64_left]; exact IntWalk.i64_in _ (by omega)
  clear hs hN
  have HT := Lib.hid hT
  clear hT
  have H := Lib.hid (Ow.start w)
  go_enter Tryd.func20, Tryd.ntmps20
  go_wp2_with (first
    | ((fail_if_success have := g10); (with_reducible apply own_makeP H); (case hgd => exact rfl); (case ho => exact rfl); (case hx => exact rfl); (case hy => exact rfl); (case hc => omega); intro w10 g10 H' _ _; replace H := H'; clear H'; go_simp))
  go_step3
  go_wp2_with (first
    | ((fail_if_success have := g10); (with_reducible apply own_makeP H); (case hgd => exact rfl); (case ho => exact rfl); (case hx => exact rfl); (case hy => exact rfl); (case hc => omega); intro w10 g10 H' _ _; replace H := H'; clear H'; go_simp)
    | ((fail_if_success have := V0); (with_reducible refine (identity_k _ (HT.out.below H.out.bel)).mono ?_); rintro e wc ⟨k0, rfl, hv, hb⟩; replace H := Lib.hid (H.out.call hb); have V0 := Lib.hid hv; clear hb hv)
    | ((with_reducible apply own_store_part rowPt H); (case hgd => exact rfl); (case ho => exact rfl); (case hx => exact rfl); (case hy => exact rfl); (case hi => first | exact at0 | exact at1 | exact at2 | exact at3 | exact at4 | exact at5 | exact at6 | exact at7 | exact at8 | exact at9); (case hj => omega); intro ws H' _ _; replace H := H'; clear H'; simp only [List.set_cons_zero] at H; go_simp))
  have VZ := V0
  go_step3
  go_wp2_with fail
  clear V0
  go_loopg [16] k (fun gk v16 wr => ∃ (t : Nat) (F : Nat → Int), t + gk = k ∧ v16 = .int .i64 (t : Int) ∧ Fill F (2 ^ t) (fun i => su P i t) ∧ Ow w wr [(g10, Blk 32 .u64 (N * 24) F)])
  case atStart => exact ⟨0, layZ (fun _ => 0) (0 * 24) 24 k0, by omega, rfl, (Fill.none _ _).put VZ.out, by rw [Nat.zero_mul]; exact H.out⟩
  case round =>
    clear H
    obtain ⟨t, F, ht, rfl, hF, HR⟩ := hrel
    have HF := Lib.hid hF
    have H := Lib.hid HR
    clear hF HR
    cases gk with
    | zero =>
      obtain rfl : t = k := by omega
      have hid : decide ((t : Int) < (t : Int)) = false := by simp
      have hid' : decide (t < t) = false := by simp
      clear ht hk eN fN
      go_wp2_with fail
      try rw [Exit.noGoto_ret]
      go_ret
      exact ⟨_, _, rfl, H.out.ge 0 rfl, H.out.row 0 rfl, EN.out ▸ HF.out, H.out.bel⟩
    | succ gk9 =>
      have hlt : t < k := by omega
      have hid : decide ((t : Int) < (k : Int)) = true := by simp; omega
      have hid' : decide (t < k) = true := by simpa using hlt
      have tk : (t : Int) < (k : Int) := by omega
      have k7 : (k : Int) ≤ 7 := by omega
      obtain ⟨b, o, v5, hab, hv5, hc5⟩ := HP.out t hlt
      have V5 := Lib.hid hv5
      have HC := Lib.hid hc5
      obtain ⟨B, hB⟩ : ∃ B, 2 ^ t = B := ⟨_, rfl⟩
      have B2 : B + B ≤ N := by
        have h2 : 2 ^ (t + 1) ≤ 2 ^ k := Nat.pow_le_pow_right (by omega) (by omega)
        rw [Nat.pow_succ, hB, EN.out] at h2
        omega
      have hB1 : 1 ≤ B := by rw [← hB]; exact Nat.two_pow_pos t
      have HOR : Hid (∀ i : Nat, i < B → bits .or .i64 (B : Int) (i : Int) = ((B + i : Nat) : Int)) := Lib.hid fun i hi => by
        rw [← hB] at hi ⊢
        exact or_high hi (by omega)
      have eB : (2 : Int) ^ t = (B : Int) := by rw [← hB, nat_pow]
      have fB : wrap64 (B : Int) = (B : Int) := by rw [← IntWalk.i64_left]; exact IntWalk.i64_in _ (by omega)
      have fB' : IntKind.i64.wrap (B : Int) = (B : Int) := IntWalk.i64_in _ (by omega)
      have EB := Lib.hid hB
      have HT1 := Lib.hid ht
      rw [hB] at HF
      have HF2 : Hid (Fill F B (fun j => su P j (t + 1))) := Lib.hid (HF.out.congr fun i hi => (su_low (by rw [EB.out]; exact hi)).symm)
      clear HF hlt ht hv5 hc5 hB hk eN fN N1
      subst hab
      go_wp2_with (first
        | ((with_reducible apply lay_one rowPt); (case hgd => exact rfl); (case ho => exact rfl); (case hx => exact rfl); (case hc => exact HC.out _ H.out.bel); intro _ _; go_simp)
        | ((fail_if_success have := g5); (with_reducible apply own_alloc nilPt H); (case hgd => exact rfl); (case ho => exact rfl); intro w5 g5 H' _ _; replace H := H'; clear H'; go_simp)
        | ((with_reducible apply own_store rowPt H); (case hgd => exact rfl); (case ho => exact rfl); (case hx => exact rfl); (case hy => exact rfl); (case hi => first | exact at0 | exact at1 | exact at2 | exact at3 | exact at4 | exact at5 | exact at6 | exact at7 | exact at8 | exact at9); intro ws H' _ _; replace H := H'; clear H'; simp only [List.set_cons_zero] at H; go_simp))
      go_loopg [23] B (fun g2 v23 wy => ∃ (i : Nat) (F' : Nat → Int), i + g2 = B ∧ v23 = .int .i64 (i : Int) ∧ Fill F' (B + i) (fun j => su P j (t + 1)) ∧ Ow w wy [(g5, Blk 32 .u64 24 v5), (g10, Blk 32 .u64 (N * 24) F')])
      case atStart => exact ⟨0, F, by omega, rfl, HF2.out, H.out⟩
      case round =>
        clear H HF2
        obtain ⟨g2, rfl⟩ : ∃ r, r = gk := ⟨_, rfl⟩
        obtain ⟨i, F', hi, rfl, hF, HR⟩ := hrel
        have HF := Lib.hid hF
        have H := Lib.hid HR
        clear hF HR
        have iN : (i : Int) < (N : Int) := by omega
        have hid2 : decide ((i : Int) < (N : Int)) = true := by simp; omega
        have hid2' : decide (i < N) = true := by simp; omega
        cases g2 with
        | zero =>
          obtain rfl : i = B := by omega
          have HPOP := Lib.hid H.out.pop
          clear H hi
          go_wp2_with fail
          go_roundg gk9
          case rel => exact ⟨t + 1, F', by have := HT1.out; omega, by go_num, by rw [Nat.pow_succ, EB.out, Nat.mul_two]; exact HF.out, HPOP.out⟩
          case measure => omega
        | succ g29 =>
          have hib : i < B := by omega
          have hne : ¬ ((i : Int) = (B : Int)) := by omega
          have hne' : ¬ (i = B) := by omega
          have dne : decide ((i : Int) = (B : Int)) = false := by (simp; omega)
          obtain ⟨E, hE⟩ : ∃ E, B + i = E := ⟨_, rfl⟩
          have eE : bits .or .i64 (B : Int) (i : Int) = (E : Int) := by rw [HOR.out i hib, hE]
          have EN2 : (E : Int) < (N : Int) := by omega
          have HI := Lib.hid hi
          obtain ⟨vx, hvx, hcx⟩ := HF.out i (by omega)
          have VX := Lib.hid hvx
          have HX0 := Lib.hid hcx
          have EE := Lib.hid hE
          have PX := Lib.hid (⟨lt_row (H.out.row 1 rfl), fun j hj => (H.out.cell 1 rfl (i * 24 + j) (by omega)).trans (by rw [HX0.out j hj])⟩ : PtAt wr wr.heap.size g10 (i * 24) vx)
          clear hvx hcx hE hi
          go_upto_region 10 with fail
          refine wp_region_noPanic ?_
          refine wp_region_held_drew (S := fun W => W.heap[g5]? = some (Blk 32 .u64 24 (v5)) ∧ (∀ j, j < 24 → W.cell? ⟨g10, i * 24 + j, none⟩ = some (.int .u64 (vx j)))) (by kernel_rfl) (⟨H.out.drew.row 0 rfl, PX.out.has⟩) (fun hH => ?_)
          replace H := Lib.hid H.out.drew
          replace PX := Lib.hid PX.out.drew
          generalize World.drew _ = w8 at *
          refine held_value 0 30 (.slice (some ⟨g10, 0, none⟩) N N) rfl rfl (by kernel_rfl) (by kernel_rfl) (by kernel_rfl) rfl hH (fun w hw => by go_simp) ?_
          try simp only [Act.put, List.setIfInBounds_toArray, List.set_cons_zero, List.set_cons_succ]
          refine held_value 1 31 (.int .i64 t) rfl rfl (by kernel_rfl) (by kernel_rfl) (by kernel_rfl) rfl hH (fun w hw => by go_simp) ?_
          try simp only [Act.put, List.setIfInBounds_toArray, List.set_cons_zero, List.set_cons_succ]
          refine held_value 2 32 (.int .i64 B) rfl rfl (by kernel_rfl) (by kernel_rfl) (by kernel_rfl) rfl hH (fun w hw => by go_simp) ?_
          try simp only [Act.put, List.setIfInBounds_toArray, List.set_cons_zero, List.set_cons_succ]
          refine held_value 3 33 (.int .i64 i) rfl rfl (by kernel_rfl) (by kernel_rfl) (by kernel_rfl) rfl hH (fun w hw => by go_simp) ?_
          try simp only [Act.put, List.setIfInBounds_toArray, List.set_cons_zero, List.set_cons_succ]
          refine held_value 4 34 (.int .i64 E) rfl rfl (by kernel_rfl) (by kernel_rfl) (by kernel_rfl) rfl hH (fun w hw => by go_simp) ?_
          try simp only [Act.put, List.setIfInBounds_toArray, List.set_cons_zero, List.set_cons_succ]
          refine held_value 5 35 (.slice (some ⟨g10, 0, none⟩) N N) rfl rfl (by kernel_rfl) (by kernel_rfl) (by kernel_rfl) rfl hH (fun w hw => by go_simp) ?_
          try simp only [Act.put, List.setIfInBounds_toArray, List.set_cons_zero, List.set_cons_succ]
          refine held_value 6 36 (.int .i64 i) rfl rfl (by kernel_rfl) (by kernel_rfl) (by kernel_rfl) rfl hH (fun w hw => by go_simp) ?_
          try simp only [Act.put, List.setIfInBounds_toArray, List.set_cons_zero, List.set_cons_succ]
          refine held_value 7 37 (.pointer (some ⟨g10, i * 24, none⟩)) rfl rfl (by kernel_rfl) (by kernel_rfl) (by kernel_rfl) rfl hH (fun w hw => by go_simp) ?_
          try simp only [Act.put, List.setIfInBounds_toArray, List.set_cons_zero, List.set_cons_succ]
          refine held_pat 8 38 rowPt rfl rfl (by kernel_rfl) (by kernel_rfl) (by kernel_rfl) rfl hH rfl rfl (fun _ h => h.2) ?_
          try simp only [Act.put, List.setIfInBounds_toArray, List.set_cons_zero, List.set_cons_succ]
          refine held_row 9 39 rowPt rfl rfl (by kernel_rfl) (by kernel_rfl) (by kernel_rfl) rfl hH rfl rfl (fun _ h => h.1) ?_
          try simp only [Act.put, List.setIfInBounds_toArray, List.set_cons_zero, List.set_cons_succ]
          refine wpAnyH_ready (rs := [10]) (by kernel_rfl) (by simp) ?_
          refine AllReadyH.cons (o := _) rfl (fun K hK => ?_) AllReadyH.nil
          go_simp
          refine (ptAdd_k _ (HT.out.below H.out.bel) VX.out V5.out).mono ?_
          rintro e wc ⟨k40, rfl, hv, hb⟩
          replace PX := Lib.hid (PX.out.call hb)
          replace H := Lib.hid (H.out.call hb)
          have HV40 := Lib.hid hv
          refine hK.out _ _ (⟨H.out.row 0 rfl, PX.out.has⟩) (fun hN => ?_)
          clear hK K hH hb hv
          have hH := hN
          clear hN
          try simp only [Act.put, List.setIfInBounds_toArray, List.set_cons_zero, List.set_cons_succ]
          refine held_value 11 41 (.pointer (some ⟨g10, E * 24, none⟩)) rfl rfl (by kernel_rfl) (by kernel_rfl) (by kernel_rfl) rfl hH (fun w hw => by go_simp) ?_
          try simp only [Act.put, List.setIfInBounds_toArray, List.set_cons_zero, List.set_cons_succ]
          refine wpAnyH_ready (rs := [12]) (by kernel_rfl) (by simp) ?_
          refine AllReadyH.cons (o := _) rfl (fun K hK => ?_) AllReadyH.nil
          refine own_st_p 1 rfl rowPt H.out rfl rfl rfl rfl (by omega) rfl ?_
          intro ws HS
          simp only [List.set_cons_zero, List.set_cons_succ] at HS
          replace H := Lib.hid HS
          replace PX := Lib.hid (⟨lt_row (H.out.row 1 rfl), fun j hj => (H.out.cell 1 rfl (i * 24 + j) (by omega)).trans (by unfold layZ; rw [if_neg (by have := EE.out; omega), HX0.out j hj])⟩ : PtAt ws ws.heap.size g10 (i * 24) vx)
          refine hK.out _ _ (⟨H.out.row 0 rfl, PX.out.has⟩) (fun hN => ?_)
          clear hK K HS hH
          have hH := hN
          clear hN
          try simp only [List.setIfInBounds_toArray]
          try simp only [Act.put]
          refine wpAnyH_done (by kernel_rfl) ?_ _
          refine NoPanic.normal ?_
          clear hH

          have VE := HV40.out.eq (Q := su P E (t + 1)) (by
            have h1 : padd edK (su P i (t + 1)) (P t) = su P E (t + 1) := by rw [← EE.out, ← EB.out, su_high (by rw [EB.out]; exact hib), su_low (by rw [EB.out]; exact hib)]
            exact h1)
          have FE : Fill (layZ F' (E * 24) 24 k40) (B + (i + 1)) (fun j => su P j (t + 1)) := by
            rw [← Nat.add_assoc, EE.out]
            rw [EE.out] at HF
            exact HF.out.put VE
          go_wp2_with fail
          go_roundg g29
          case rel => exact ⟨i + 1, _, by have := HI.out; omega, by go_num, FE, H.out⟩
          case measure => omega
end Go.Proofs.YtjcfoilfdmameaaDoor

/-
  The contracts of comb's New, of a table's Len and Look. No statement is proved here: lemmas for the walks.
-/
namespace Go.Proofs.YtjcfoilfdmameaaDoor
open Go.RowKit

theorem powers_k {v : Nat → Int} {P : Pt pN dK} (w : World) (hT : Tp w) (hp : PtK v P) (n a : Nat) (nz az : Int) (hn : nz = (n : Int)) (hz : az = (a : Int)) (h : n ≤ 64) (ha : a ≤ 512) :
    Calls Tryd.prog 19 #[PO v, .int .i64 nz, .int .i64 az] w fun e w' => ∃ ad c, e = .returned (.tuple #[.slice ad n c, .int .i64 0]) ∧ Pts w' w'.heap.size ad n c (fun i => pmul edK (2 ^ (i * a)) P) ∧ Below w.heap.size w w' :=
  (powers_f w hT hp n a nz az hn hz h ha).mono fun _ _ ⟨_, _, he, _, hr, hF, hb⟩ => ⟨_, _, he, pts_blk hr hF, hb⟩
/-- A table of this point, of so many teeth, for so many bytes. -/
structure TabK (w : World) (B g : Nat) (P : Pt pN dK) (k s : Nat) : Prop where
  k1 : 1 ≤ k
  k7 : k ≤ 7
  s1 : 1 ≤ s
  s64 : s ≤ 64
  is : ∃ gp F, g < B ∧ gp < B ∧ w.heap[g]? = some (Cs 48 #[.int .i64 (k : Int), .int .i64 (s : Int), .slice (some ⟨gp, 0, none⟩) (2 ^ k) (2 ^ k)]) ∧ w.heap[gp]? = some (Blk 32 .u64 (2 ^ k * 24) F) ∧ Fill F (2 ^ k) (fun i => pmul edK (cw ((8 * s + k - 1) / k) i k) P)
theorem TabK.below {w w' : World} {B g : Nat} {P : Pt pN dK} {k s : Nat} (h : TabK w B g P k s) (hb : Below B w w') : TabK w' B g P k s := by
  obtain ⟨gp, F, h1, h2, h3, h4, h5⟩ := h.is
  exact ⟨h.k1, h.k7, h.s1, h.s64, gp, F, h1, h2, (hb.block _ h1).trans h3, (hb.block _ h2).trans h4, h5⟩
theorem TabK.more {w : World} {B B' g : Nat} {P : Pt pN dK} {k s : Nat} (h : TabK w B g P k s) (hB : B ≤ B') : TabK w B' g P k s := by
  obtain ⟨gp, F, h1, h2, h3, h4, h5⟩ := h.is
  exact ⟨h.k1, h.k7, h.s1, h.s64, gp, F, Nat.lt_of_lt_of_le h1 hB, Nat.lt_of_lt_of_le h2 hB, h3, h4, h5⟩
theorem TabK.call {w w' : World} {g : Nat} {P : Pt pN dK} {k s : Nat} (h : TabK w w.heap.size g P k s) (hb : Below w.heap.size w w') : TabK w' w'.heap.size g P k s := (h.below hb).more hb.size
theorem NewL.of {w0 w : World} {l L : List (Nat × Obj)} (h : Ow w0 w l) (hs : L.Sublist l) : NewL w0 w L :=
  ⟨fun x hx => h.new x (hs.subset hx), h.apart.sublist hs, fun x hx => h.has x (hs.subset hx)⟩

































set_option maxRecDepth 8000 in
set_option maxHeartbeats 3200000 in
theorem cnew_k {v : Nat → Int} {P : Pt pN dK} (w : World) (hT : Tp w) (hp : PtK v P) (k s : Nat) (kz sz : Int) (hk : kz = (k : Int)) (hz : sz = (s : Int)) (hk1 : 1 ≤ k) (hk7 : k ≤ 7) (hs1 : 1 ≤ s) (hs64 : s ≤ 64) :
    Calls Tryd.prog 10 #[PO v, .int .i64 kz, .int .i64 sz] w fun e w' => ∃ g L, e = .returned (.tuple #[.pointer (some ⟨g, 0, none⟩), .int .i64 0]) ∧ NewL w w' L ∧ (∀ W : World, (∀ x ∈ L, W.heap[x.1]? = some x.2) → TabK W W.heap.size g P k s) ∧ Below w.heap.size w w' := by
  subst hk hz
  have BY1 : Hid ((decide ((k : Int) < 1) || decide (7 < (k : Int))) = false) := Lib.hid (by simp; omega)
  have BY2 : Hid ((decide ((s : Int) < 1) || decide (64 < (s : Int))) = false) := Lib.hid (by simp; omega)
  obtain ⟨p, hp8⟩ : ∃ p, 8 * s = p := ⟨_, rfl⟩
  obtain ⟨q, hq⟩ : ∃ q, p + k = q := ⟨_, rfl⟩
  obtain ⟨r, hr⟩ : ∃ r, q - 1 = r := ⟨_, rfl⟩
  obtain ⟨M, hM⟩ : ∃ M, r / k = M := ⟨_, rfl⟩
  have EM : Hid ((8 * s + k - 1) / k = M) := Lib.hid (by rw [hp8, hq, hr, hM])
  have M512 : M ≤ 512 := by
    rw [← hM]
    refine Nat.le_of_lt_succ ((Nat.div_lt_iff_lt_mul (by omega)).2 ?_)
    have := Nat.mul_le_mul (show 513 ≤ 513 by omega) hk1
    have : (k : Nat) * 1 ≤ k := by omega
    rcases (by omega : k = 1 ∨ k = 2 ∨ k = 3 ∨ k = 4 ∨ k = 5 ∨ k = 6 ∨ k = 7) with rfl | rfl | rfl | rfl | rfl | rfl | rfl <;> omega
  have e1 : 8 * (s : Int) = (p : Int) := by omega
  have e2 : (p : Int) + (k : Int) = (q : Int) := by omega
  have e3 : (q : Int) - 1 = (r : Int) := by omega
  have e4 : (r : Int) / (k : Int) = (M : Int) := by rw [← hM]; exact (Int.natCast_ediv r k).symm
  have e5 : (r : Int).tdiv (k : Int) = (M : Int) := by rw [Int.tdiv_eq_ediv_of_nonneg (by omega)]; exact e4
  have f1 : IntKind.i64.wrap (p : Int) = (p : Int) := IntWalk.i64_in _ (by omega)
  have f2 : IntKind.i64.wrap (q : Int) = (q : Int) := IntWalk.i64_in _ (by omega)
  have f3 : IntKind.i64.wrap (r : Int) = (r : Int) := IntWalk.i64_in _ (by omega)
  have f4 : IntKind.i64.wrap (M : Int) = (M : Int) := IntWalk.i64_in _ (by omega)
  have hk0 : ¬ ((k : Int) = 0) := by omega
  have hk0' : ¬ (k = 0) := by omega
  have HK := Lib.hid hk1
  have HS1 := Lib.hid hs1
  have HS64 := Lib.hid hs64
  clear hk1 hs1 hs64 hp8 hq hr hM
  have HT := Lib.hid hT
  clear hT
  have V1 := Lib.hid hp
  clear hp
  have H := Lib.hid (Ow.start w)
  go_enter Tryd.func10, Tryd.ntmps10
  go_wp2_with (first
    | ((fail_if_success have := g3); (with_reducible apply own_box H); (case hgd => exact rfl); (case ho => exact rfl); (case hx => exact rfl); intro w3 g3 H' _ _; replace H := H'; clear H'; go_simp)
    | ((fail_if_success have := by1); (with_reducible refine (beyond_k _ _ _ _ BY1.out).mono ?_); rintro e w' ⟨rfl, hww⟩; have hww' := hww.symm; subst hww'; have by1 := trivial; clear hww)
    | ((fail_if_success have := by2); (with_reducible refine (beyond_k _ _ _ _ BY2.out).mono ?_); rintro e w' ⟨rfl, hww⟩; have hww' := hww.symm; subst hww'; have by2 := trivial; clear hww)
    | ((with_reducible apply own_load rowPt H); (case hgd => exact rfl); (case ho => exact rfl); (case hx => exact rfl); (case hi => first | exact at0 | exact at1 | exact at2 | exact at3 | exact at4 | exact at5 | exact at6 | exact at7 | exact at8 | exact at9); intro _ _; go_simp)
    | ((fail_if_success have := PP); (with_reducible refine (powers_k _ (HT.out.below H.out.bel) V1.out k M (k : Int) (M : Int) rfl rfl (by omega) M512).mono ?_); rintro e wc ⟨ad, cp, rfl, hs, hb⟩; replace H := Lib.hid (H.out.call hb); have PP := Lib.hid hs; clear hb hs)
    | ((with_reducible refine (sums_k _ (HT.out.below H.out.bel) PP.out hk7 (2 ^ k) rfl).mono ?_); rintro e wc ⟨g34, F, rfl, hge, hr, hF, hb⟩; have HF := Lib.hid hF; replace H := Lib.hid (H.out.append hb (L := [(g34, Blk 32 .u64 (2 ^ k * 24) F)]) ⟨fun x hx => by (rw [List.mem_singleton.1 hx]; exact hge), List.pairwise_singleton _ _, fun x hx => by (rw [List.mem_singleton.1 hx]; exact hr)⟩); clear hb hge hr hF)
    | ((fail_if_success have := g36); (with_reducible apply own_boxC H); (case hgd => exact rfl); (case ho => exact rfl); (case hx => exact rfl); intro w36 g36 H' _ _; replace H := H'; clear H'; go_simp))
  go_ret2
  refine ⟨_, _, rfl, NewL.of H.out (List.Sublist.cons_cons _ (List.sublist_append_right [(g3, Blk 32 .u64 24 v)] _)), fun W hW => ?_, H.out.bel⟩
  have r1 := hW _ (List.mem_cons_self ..)
  have r2 := hW _ (List.mem_cons_of_mem _ (List.mem_singleton.2 rfl))
  exact ⟨HK.out, hk7, HS1.out, HS64.out, g34, F, lt_row r1, lt_row r2, r1, r2, HF.out.congr fun i _ => by rw [EM.out]; exact su_cw M P i k⟩
end Go.Proofs.YtjcfoilfdmameaaDoor

/-
  The contracts of a table's Len and Look. No statement is proved here: lemmas for the walks.
-/
namespace Go.Proofs.YtjcfoilfdmameaaDoor
open Go.RowKit

theorem cellPs : IsCell Tryd.prog 46 := ⟨fun w => by unfold isAgg; rw [Sem.run_bind, run_underlying Tryd.underlying46 w]; rfl, by kernel_rfl⟩

set_option maxRecDepth 8000 in
set_option maxHeartbeats 3200000 in
theorem tlen_nil (w : World) : Calls Tryd.prog 9 #[.pointer none] w fun e w' => e = .returned (.int .i64 0) ∧ Below w.heap.size w w' := by
  have H := Lib.hid (Ow.start w)
  go_enter Tryd.func9, Tryd.ntmps9
  go_wp2_with fail
  go_ret
  exact ⟨rfl, H.out.bel⟩
set_option maxRecDepth 8000 in
set_option maxHeartbeats 3200000 in
theorem tlen_k {g k s : Nat} {P : Pt pN dK} (w : World) (h : TabK w w.heap.size g P k s) (z : Int) (hz : ((2 ^ k : Nat) : Int) = z) : Calls Tryd.prog 9 #[.pointer (some ⟨g, 0, none⟩)] w fun e w' => e = .returned (.int .i64 z) ∧ Below w.heap.size w w' := by
  obtain ⟨gp, F, h1, h2, h3, h4, h5⟩ := h.is
  obtain ⟨N, hN⟩ : ∃ N, 2 ^ k = N := ⟨_, rfl⟩
  rw [hN] at hz h3
  have HZ := Lib.hid hz
  have HR := Lib.hid h3
  clear h h1 h2 h3 h4 h5 hz hN
  have H := Lib.hid (Ow.start w)
  go_enter Tryd.func9, Tryd.ntmps9
  go_wp2_with (first
    | ((with_reducible apply own_loadCO cellPs H); (case hgd => exact rfl); (case ho => exact rfl); (case hx => exact rfl); (case hr => exact HR.out); (case hj => exact rfl); intro _ _; go_simp))
  go_ret
  exact ⟨by rw [← HZ.out]; rfl, H.out.bel⟩
set_option maxRecDepth 8000 in
set_option maxHeartbeats 3200000 in
theorem tlook_nil (w : World) (hT : Tp w) (i : Int) : Calls Tryd.prog 7 #[.pointer none, .int .i64 i] w fun e w' => ∃ r, e = .returned (.tuple #[PO r, .int .i64 2]) ∧ Below w.heap.size w w' := by
  have HT := Lib.hid hT
  clear hT
  have H := Lib.hid (Ow.start w)
  go_enter Tryd.func7, Tryd.ntmps7
  go_wp2_with (first
    | ((fail_if_success have := g4); (with_reducible apply own_alloc nilPt H); (case hgd => exact rfl); (case ho => exact rfl); intro w4 g4 H' _ _; replace H := H'; clear H'; go_simp)
    | ((fail_if_success have := V0); (with_reducible refine (identity_k _ (HT.out.below H.out.bel)).mono ?_); rintro e wc ⟨k0, rfl, hv, hb⟩; replace H := Lib.hid (H.out.call hb); have V0 := Lib.hid hv; clear hb hv)
    | ((with_reducible apply own_store rowPt H); (case hgd => exact rfl); (case ho => exact rfl); (case hx => exact rfl); (case hy => exact rfl); (case hi => first | exact at0 | exact at1 | exact at2 | exact at3 | exact at4 | exact at5 | exact at6 | exact at7 | exact at8 | exact at9); intro ws H' _ _; replace H := H'; clear H'; simp only [List.set_cons_zero] at H; go_simp))
  exact bodyPost_ret (own_result_slot 0 rowPt rfl _ H rfl rfl rfl) rfl ⟨_, rfl, H.out.bel⟩






















set_option maxRecDepth 8000 in
set_option maxHeartbeats 3200000 in
theorem tlook_k {g k s m : Nat} {P : Pt pN dK} (w : World) (hT : Tp w) (h : TabK w w.heap.size g P k s) (hm : (8 * s + k - 1) / k = m) (i : Nat) (hi : i < 2 ^ k) (z : Int) (hz : z = (i : Int)) :
    Calls Tryd.prog 7 #[.pointer (some ⟨g, 0, none⟩), .int .i64 z] w fun e w' => ∃ r, e = .returned (.tuple #[PO r, .int .i64 0]) ∧ PtK r (pmul edK (cw m i k) P) ∧ Below w.heap.size w w' := by
  subst hz hm
  obtain ⟨gp, F, h1, h2, h3, h4, h5⟩ := h.is
  have hN128 : 2 ^ k ≤ 128 := Nat.pow_le_pow_right (by omega) h.k7
  have HPt := Lib.hid (pts_blk h4 h5)
  obtain ⟨N, hN⟩ : ∃ N, 2 ^ k = N := ⟨_, rfl⟩
  rw [hN] at hi h3 HPt hN128
  have HI := Lib.hid hi
  have HR := Lib.hid h3
  clear h h1 h2 h3 h4 h5 hi hN
  have HT := Lib.hid hT
  clear hT
  have H := Lib.hid (Ow.start w)
  go_enter Tryd.func7, Tryd.ntmps7
  go_wp2_with (first
    | ((fail_if_success have := g4); (with_reducible apply own_alloc nilPt H); (case hgd => exact rfl); (case ho => exact rfl); intro w4 g4 H' _ _; replace H := H'; clear H'; go_simp)
    | ((with_reducible apply own_loadCO cellPs H); (case hgd => exact rfl); (case ho => exact rfl); (case hx => exact rfl); (case hr => exact HR.out); (case hj => exact rfl); intro _ _; go_simp)
    | ((with_reducible refine (look_k _ (HT.out.below H.out.bel) (HPt.out.call H.out.bel) (by omega) i HI.out (i : Int) rfl).mono ?_); rintro e wc ⟨r, rfl, hv, hb⟩; replace H := Lib.hid (H.out.call hb); have V1 := Lib.hid hv; clear hb hv)
    | ((with_reducible apply own_store rowPt H); (case hgd => exact rfl); (case ho => exact rfl); (case hx => exact rfl); (case hy => exact rfl); (case hi => first | exact at0 | exact at1 | exact at2 | exact at3 | exact at4 | exact at5 | exact at6 | exact at7 | exact at8 | exact at9); intro ws H' _ _; replace H := H'; clear H'; simp only [List.set_cons_zero] at H; go_simp))
  exact bodyPost_ret (own_result_slot 0 rowPt rfl _ H rfl rfl rfl) rfl ⟨_, rfl, V1.out, H.out.bel⟩
end Go.Proofs.YtjcfoilfdmameaaDoor
