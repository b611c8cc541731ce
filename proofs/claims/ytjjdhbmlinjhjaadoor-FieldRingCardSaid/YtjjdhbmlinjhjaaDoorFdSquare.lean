/-
  The contract of field.Square.
-/
import Derived.Test.YtjjdhbmlinjhjaaDoorFdMul
namespace Go.Proofs.YtjjdhbmlinjhjaaDoor
open Go.RowKit

section
variable {P : Program} {md : Region.Mode} {ops : Array Oper} {Q : Exit → Act → World → Prop} {S : World → Prop} {fuel : Nat} {listed : Array Bool} {a : Act} {w : World} {t ty : TypeId} {k : IntKind} {n : Nat}
/-- In a region that draws its order: a cell of a row is taken first. -/
theorem held_get (i : Nat) (d : Tmp) {oi : Oper} (hT : IsOne P ty k) (hi : ops[i]? = some oi) (hd : oi.dst = some d) (hs : Region.noSelect ops = true) (hf : Region.free md ops listed i = true)
    (hr : (Region.ready md ops listed).contains i = true) (hw : Region.wanted oi (yielded ops a.tmps) = true) (hS : S w) {x : Operand} (ho : oi.op = .load ty x) {g j : Nat} (hx : a.eval x = .pointer (some ⟨g, j, none⟩))
    {f : Nat → Int} (hrow : ∀ w, S w → w.heap[g]? = some (Blk t k n f)) (hj : j < n)
    (h : wpAnyH P md ops (NoPanic Q) S fuel (listed.setIfInBounds i true) (a.put (some d) (.int k (f j))) w) : wpAnyH P md ops (NoPanic Q) S (fuel + 1) listed a w :=
  held_value i d (.int k (f j)) hi hd hs hf hr hw hS (fun w hw' => by
    unfold execOp
    simp only [ho, hx, Sem.run_bind, run_get hT (hrow w hw') hj, Result.andThen_ok]
    rfl) h
end
/-- The products of one limb with those ahead of it, twice. -/
def rowQ (f s : Nat → Nat) (i : Nat) : Nat → Nat → Nat
  | 0 => s
  | k + 1 => updN (rowQ f s i k) (i + k) (rowQ f s i k (i + k) + 2 * f i * f k)
def allQ (f : Nat → Nat) : Nat → Nat → Nat
  | 0 => fun _ => 0
  | i + 1 => rowQ f (updN (allQ f i) (2 * i) (allQ f i (2 * i) + f i * f i)) i i
theorem lv_rowQ (f s : Nat → Nat) (i : Nat) (hi : i < 8) : ∀ k, k ≤ i → lv (rowQ f s i k) 15 = lv s 15 + 2 * f i * lv f k * 72057594037927936 ^ i
  | 0, _ => by rw [show rowQ f s i 0 = s from rfl, show lv f 0 = 0 from rfl, Nat.mul_zero, Nat.zero_mul, Nat.add_zero]
  | k + 1, hk => by
    unfold rowQ
    rw [lv_upd _ _ _ _ (by omega), lv_rowQ f s i hi k (by omega), Nat.pow_add, show lv f (k + 1) = lv f k + f k * 72057594037927936 ^ k from rfl]
    exact row_gen
theorem sq_gen {l c x : Nat} : l * l + c * c * (x * x) + 2 * c * l * x = (l + c * x) * (l + c * x) := by
  rw [Nat.add_mul, Nat.mul_add, Nat.mul_add, Nat.mul_mul_mul_comm c x c x, Nat.mul_comm (c * x) l]
  have e : 2 * c * l * x = l * (c * x) + l * (c * x) := by
    rw [Nat.mul_assoc 2 c l, Nat.mul_comm c l, Nat.mul_assoc 2, Nat.mul_assoc l c x]
    omega
  omega
theorem lv_allQ (f : Nat → Nat) : ∀ i, i ≤ 8 → lv (allQ f i) 15 = lv f i * lv f i
  | 0, _ => by rw [show allQ f 0 = fun _ => 0 from rfl, show lv f 0 = 0 from rfl, lv_zero, Nat.zero_mul]
  | i + 1, hi => by
    rw [show allQ f (i + 1) = rowQ f (updN (allQ f i) (2 * i) (allQ f i (2 * i) + f i * f i)) i i from rfl, show lv f (i + 1) = lv f i + f i * 72057594037927936 ^ i from rfl, lv_rowQ _ _ _ (by omega) i (Nat.le_refl _), lv_upd _ _ _ _ (by omega), lv_allQ f i (by omega), show 2 * i = i + i by omega, Nat.pow_add]
    exact sq_gen
theorem rowQ_bd {f s : Nat → Nat} (hf : Lim f) (i : Nat) (hi : i < 8) (B : Nat) (hs : ∀ j, j < 2 * i → s j ≤ B) :
    ∀ k, k ≤ i → ∀ j, rowQ f s i k j ≤ (if j < 2 * i then B + 2 * 5192296858534828060876060556787721 else s j) ∧ (i + k ≤ j → rowQ f s i k j = s j)
  | 0, _, j => by
    rw [show rowQ f s i 0 j = s j from rfl]
    refine ⟨?_, fun _ => rfl⟩
    by_cases h : j < 2 * i
    · rw [if_pos h]; exact Nat.le_trans (hs j h) (Nat.le_add_right _ _)
    · rw [if_neg h]; exact Nat.le_refl _
  | k + 1, hk, j => by
    have ih := rowQ_bd hf i hi B hs k (by omega)
    have hp := prod_le (hf i hi) (hf k (by omega))
    rw [show rowQ f s i (k + 1) = updN (rowQ f s i k) (i + k) (rowQ f s i k (i + k) + 2 * f i * f k) from rfl]
    unfold updN
    by_cases e : j = i + k
    · have h1 := ih (i + k)
      have h2 := h1.2 (Nat.le_refl _)
      have h3 := hs (i + k) (by omega)
      rw [if_pos e, h2, if_pos (by omega), Nat.mul_assoc]
      refine ⟨?_, fun h => by omega⟩
      generalize f i * f k = z at *
      omega
    · rw [if_neg e]
      have h1 := ih j
      exact ⟨h1.1, fun h => h1.2 (by omega)⟩
theorem allQ_bd {f : Nat → Nat} (hf : Lim f) : ∀ i, i ≤ 8 → (∀ j, allQ f i j ≤ i * (2 * 5192296858534828060876060556787721)) ∧ ∀ j, 2 * i ≤ j + 1 → allQ f i j = 0
  | 0, _ => ⟨fun j => Nat.zero_le _, fun j _ => rfl⟩
  | i + 1, hi => by
    obtain ⟨h1, h2⟩ := allQ_bd hf i (by omega)
    have hp := prod_le (hf i (by omega)) (hf i (by omega))
    have hz := h2 (2 * i) (by omega)
    have hr := rowQ_bd hf i (by omega) (s := updN (allQ f i) (2 * i) (allQ f i (2 * i) + f i * f i)) (i * (2 * 5192296858534828060876060556787721)) (fun j hj => by
      unfold updN
      rw [if_neg (by omega)]
      exact h1 j) i (Nat.le_refl _)
    rw [show allQ f (i + 1) = rowQ f (updN (allQ f i) (2 * i) (allQ f i (2 * i) + f i * f i)) i i from rfl]
    refine ⟨fun j => ?_, fun j hj => ?_⟩
    · have h := (hr j).1
      by_cases hj : j < 2 * i
      · rw [if_pos hj] at h
        rw [Nat.add_mul, Nat.one_mul]
        exact h
      · rw [if_neg hj] at h
        refine Nat.le_trans h ?_
        unfold updN
        by_cases e : j = 2 * i
        · rw [if_pos e, hz]
          rw [Nat.add_mul, Nat.one_mul]
          generalize f i * f i = z at *
          omega
        · rw [if_neg e, h2 j (by omega)]
          exact Nat.zero_le _
    · rw [(hr j).2 (by omega)]
      unfold updN
      rw [if_neg (by omega)]
      exact h2 j (by omega)
set_option maxRecDepth 10000 in
set_option maxHeartbeats 3200000 in
theorem square_any (f : Nat → Nat) (w : World) (hf : Lim f) :
    Calls Tryd.prog 33 #[EV f] w fun e w' => ∃ h, e = .returned (EV h) ∧ Lim h ∧ lv h 8 % pN = lv f 8 * lv f 8 % pN ∧ Below w.heap.size w w' := by
  have hv := lv_allQ f 8 (by omega)
  have hb := allQ_bd hf
  have HB := Lib.hid hb
  have HF := Lib.hid hf
  have HO := Lib.hid (fun w => fold_any (allQ f 8) w (fun j hj => by have := (hb 8 (by omega)).1 j; omega))
  have HV := Lib.hid hv
  clear hb hf hv
  have H := Lib.hid (Ow.start w)
  go_enter Tryd.func33, Tryd.ntmps33
  go_wp2_with (first
    | ((fail_if_success have := g1); (with_reducible apply own_box H); (case hgd => exact rfl); (case ho => exact rfl); (case hx => exact rfl); intro w1 g1 H' _ _; replace H := H'; clear H'; go_simp)
    | ((fail_if_success have := g2); (with_reducible apply own_alloc nilE H); (case hgd => exact rfl); (case ho => exact rfl); intro w2 g2 H' _ _; replace H := H'; clear H'; go_simp)
    | ((fail_if_success have := g3); (with_reducible apply own_alloc nilS H); (case hgd => exact rfl); (case ho => exact rfl); intro w3 g3 H' _ _; replace H := H'; clear H'; go_simp)
    | ((with_reducible apply own_load rowL H); (case hgd => exact rfl); (case ho => exact rfl); (case hx => exact rfl); (case hi => first | exact at0 | exact at1 | exact at2 | exact at3 | exact at4 | exact at5 | exact at6); intro _ _; go_simp))
  replace H := Lib.hid (H.out.like 0 (g := pr fun _ => 0) rfl fun k _ => congrFun pr_zero k)
  simp only [List.set_cons_zero] at H
  go_loopw [9] (fun v9 wr => ∃ i : Nat, i ≤ 8 ∧ v9 = .int .i64 i ∧ Ow w wr [(g3, Blk 83 .u64 30 (pr (allQ f i))), (g2, Blk 27 .u64 8 fun _ => 0), (g1, Blk 27 .u64 8 (NZ f))]) (fun v9 _ => 8 - (intOf v9).toNat)
  case atStart => exact ⟨0, by omega, rfl, H.out⟩
  case round =>
    clear H
    obtain ⟨i, hi, rfl, HR⟩ := hrel
    by_cases hlt : i < 8
    · have hid : decide ((i : Int) < 8) = true := by simp; omega
      have i8 : (i : Int) < 8 := by omega
      have H := Lib.hid HR
      clear HR
      have bz := (HB.out i hi).2 (2 * i) (by omega)
      have bx := HF.out i hlt
      have bp := prod_le bx bx
      obtain ⟨x, hx⟩ : ∃ x, f i = x := ⟨_, rfl⟩
      have nx : NZ f i = (x : Int) := by rw [← hx]; rfl
      have HX := Lib.hid hx
      obtain ⟨d, hd⟩ : ∃ d, 2 * i = d := ⟨_, rfl⟩
      have dI : 2 * (i : Int) = (d : Int) := by omega
      have d15 : (d : Int) < 15 := by omega
      have f1 : IntKind.i64.wrap (d : Int) = (d : Int) := IntWalk.i64_in _ (by omega)
      have HD := Lib.hid hd
      rw [hd] at bz
      rw [hx] at bx bp
      have HP := Lib.hid (fun w => plus_any (allQ f i d) x x w (by omega) (by omega) (by omega))
      have BX := Lib.hid bx
      clear hx hd bx bz bp
      go_wp2_with (first
        | ((with_reducible apply own_index Tryd.underlying25 oneW); (case hgd => exact rfl); (case ho => exact rfl); (case hx => exact rfl); (case hy => exact rfl); (case hi => omega); intro _ _; go_simp)
        | ((with_reducible apply pair_load rowP H); (case hgd => exact rfl); (case ho => exact rfl); (case hx => exact rfl); (case hi => first | exact at0 | exact at1 | exact at2 | exact at3 | exact at4 | exact at5 | exact at6); (case hj => omega); intro _ _; go_simp)
        | ((with_reducible refine (HP.out _).mono ?_); rintro e wc ⟨rfl, hb⟩; replace H := Lib.hid (H.out.call hb); clear hb)
        | ((with_reducible apply pair_store rowP H); (case hgd => exact rfl); (case ho => exact rfl); (case hx => exact rfl); (case hy => exact rfl); (case hi => first | exact at0 | exact at1 | exact at2 | exact at3 | exact at4 | exact at5 | exact at6); (case hj => omega); intro ws H' _ _; replace H := H'; clear H'; simp only [List.set_cons_zero] at H; go_simp))
      clear dI d15 f1 HP
      obtain ⟨s0, hs0⟩ : ∃ s0, updN (allQ f i) d (allQ f i d + x * x) = s0 := ⟨_, rfl⟩
      rw [hs0] at H
      have HS : Hid (∀ k, k ≤ i → ∀ j, rowQ f s0 i k j ≤ 16 * 5192296858534828060876060556787721) := Lib.hid (fun k hk j => by
        have h1 := HB.out i hi
        have h := (rowQ_bd HF.out i hlt (s := s0) (i * (2 * 5192296858534828060876060556787721)) (fun j hj => by
          rw [← hs0]
          unfold updN
          rw [if_neg (by have := HD.out; omega)]
          exact h1.1 j) k hk j).1
        have hp := prod_le (HF.out i hlt) (HF.out i hlt)
        have hm : i * (2 * 5192296858534828060876060556787721) ≤ 7 * (2 * 5192296858534828060876060556787721) := Nat.mul_le_mul_right _ (by omega)
        by_cases hj : j < 2 * i
        · rw [if_pos hj] at h
          omega
        · rw [if_neg hj] at h
          refine Nat.le_trans h ?_
          rw [← hs0]
          unfold updN
          have hz1 := h1.2 d (by have := HD.out; omega)
          rw [HX.out] at hp
          by_cases e : j = d
          · rw [if_pos e, hz1]
            omega
          · rw [if_neg e, h1.2 j (by omega)]
            omega)
      have HA : Hid (allQ f (i + 1) = rowQ f s0 i i) := Lib.hid (by rw [← hs0, ← HD.out, ← HX.out]; rfl)
      have z0 : (rowQ f s0 i 0) = s0 := rfl
      rw [← z0] at H
      clear hs0 z0 HD
      have x2 : IntKind.u64.wrap (2 * (x : Int)) = ((2 * x : Nat) : Int) := by have := BX.out; rw [IntKind.wrap_u64]; omega
      obtain ⟨x2', hx2'⟩ : ∃ x2', 2 * x = x2' := ⟨_, rfl⟩
      rw [hx2'] at x2
      have HX2 := Lib.hid hx2'
      clear hx2'
      go_loopw [24] (fun v24 wr => ∃ k : Nat, k ≤ i ∧ v24 = .int .i64 k ∧ Ow w wr [(g3, Blk 83 .u64 30 (pr (rowQ f s0 i k))), (g2, Blk 27 .u64 8 fun _ => 0), (g1, Blk 27 .u64 8 (NZ f))]) (fun v24 _ => i - (intOf v24).toNat)
      case atStart => exact ⟨0, by omega, rfl, H.out⟩
      case round =>
        clear H
        obtain ⟨k, hk, rfl, HR⟩ := hrel
        by_cases hlk : k < i
        · have hkd : decide ((k : Int) < (i : Int)) = true := by simp; omega
          have ki : (k : Int) < (i : Int) := by omega
          have k8 : (k : Int) < 8 := by omega
          obtain ⟨y, hy⟩ : ∃ y, f k = y := ⟨_, rfl⟩
          have ny : NZ f k = (y : Int) := by rw [← hy]; rfl
          obtain ⟨p, hp⟩ : ∃ p, i + k = p := ⟨_, rfl⟩
          have pI : (i : Int) + (k : Int) = (p : Int) := by omega
          have p15 : (p : Int) < 15 := by omega
          have f1 : IntKind.i64.wrap (p : Int) = (p : Int) := IntWalk.i64_in _ (by omega)
          have bv := HS.out k hk p
          have by' := HF.out k (by omega)
          have bx' := HF.out i hlt
          have bp := prod_le bx' by'
          have HE : Hid (updN (rowQ f s0 i k) p (rowQ f s0 i k p + x2' * y) = rowQ f s0 i (k + 1)) := Lib.hid (by rw [← hp, ← hy, ← HX2.out, ← HX.out]; rfl)
          rw [HX.out] at bp bx'
          rw [hy] at by' bp
          have hx2 := HX2.out
          have e2 : x2' * y = 2 * (x * y) := by rw [← hx2, Nat.mul_assoc]
          have HP := Lib.hid (fun w => plus_any (rowQ f s0 i k p) x2' y w (by omega) (by omega) (by rw [e2]; omega))
          have H := Lib.hid HR
          clear HR hy hp bv bx' by' bp hx2 e2
          go_wp2_with fail
          refine wp_region_noPanic ?_
          refine wp_region_held_drew (S := fun W => ∃ f3, Ow w W [(g3, Blk 83 .u64 30 f3), (g2, Blk 27 .u64 8 fun _ => 0), (g1, Blk 27 .u64 8 (NZ f))]) (by kernel_rfl) ⟨_, H.out.drew⟩ (fun hH => ?_)
          replace H := Lib.hid H.out.drew
          generalize World.drew _ = w8 at *
          refine held_value 0 27 (.int .i64 i) rfl rfl (by kernel_rfl) (by kernel_rfl) (by kernel_rfl) rfl hH (fun w hw => by go_simp) ?_
          simp only [Act.put, List.setIfInBounds_toArray, List.set_cons_zero, List.set_cons_succ]
          refine held_value 1 28 (.int .i64 k) rfl rfl (by kernel_rfl) (by kernel_rfl) (by kernel_rfl) rfl hH (fun w hw => by go_simp) ?_
          simp only [Act.put, List.setIfInBounds_toArray, List.set_cons_zero, List.set_cons_succ]
          refine held_value 2 29 (.int .i64 p) rfl rfl (by kernel_rfl) (by kernel_rfl) (by kernel_rfl) rfl hH (fun w hw => by go_simp) ?_
          simp only [Act.put, List.setIfInBounds_toArray, List.set_cons_zero, List.set_cons_succ]
          refine held_value 3 30 (.int .i64 i) rfl rfl (by kernel_rfl) (by kernel_rfl) (by kernel_rfl) rfl hH (fun w hw => by go_simp) ?_
          simp only [Act.put, List.setIfInBounds_toArray, List.set_cons_zero, List.set_cons_succ]
          refine held_value 4 31 (.int .i64 k) rfl rfl (by kernel_rfl) (by kernel_rfl) (by kernel_rfl) rfl hH (fun w hw => by go_simp) ?_
          simp only [Act.put, List.setIfInBounds_toArray, List.set_cons_zero, List.set_cons_succ]
          refine held_value 5 32 (.int .i64 p) rfl rfl (by kernel_rfl) (by kernel_rfl) (by kernel_rfl) rfl hH (fun w hw => by go_simp) ?_
          simp only [Act.put, List.setIfInBounds_toArray, List.set_cons_zero, List.set_cons_succ]
          refine held_value 6 33 (.pointer (some ⟨g3, p * 2, none⟩)) rfl rfl (by kernel_rfl) (by kernel_rfl) (by kernel_rfl) rfl hH (fun w hw => by go_simp) ?_
          simp only [Act.put, List.setIfInBounds_toArray, List.set_cons_zero, List.set_cons_succ]
          refine held_value 8 35 (.int .u64 x) rfl rfl (by kernel_rfl) (by kernel_rfl) (by kernel_rfl) rfl hH (fun w hw => by go_simp) ?_
          simp only [Act.put, List.setIfInBounds_toArray, List.set_cons_zero, List.set_cons_succ]
          refine held_value 9 36 (.int .u64 x2') rfl rfl (by kernel_rfl) (by kernel_rfl) (by kernel_rfl) rfl hH (fun w hw => by go_simp) ?_
          simp only [Act.put, List.setIfInBounds_toArray, List.set_cons_zero, List.set_cons_succ]
          refine held_value 10 37 (.int .i64 k) rfl rfl (by kernel_rfl) (by kernel_rfl) (by kernel_rfl) rfl hH (fun w hw => by go_simp) ?_
          simp only [Act.put, List.setIfInBounds_toArray, List.set_cons_zero, List.set_cons_succ]
          refine held_value 11 38 (.pointer (some ⟨g1, 0, none⟩)) rfl rfl (by kernel_rfl) (by kernel_rfl) (by kernel_rfl) rfl hH (fun w hw => by go_simp) ?_
          simp only [Act.put, List.setIfInBounds_toArray, List.set_cons_zero, List.set_cons_succ]
          refine held_value 12 39 (.pointer (some ⟨g1, k, none⟩)) rfl rfl (by kernel_rfl) (by kernel_rfl) (by kernel_rfl) rfl hH (fun w hw => by go_simp) ?_
          simp only [Act.put, List.setIfInBounds_toArray, List.set_cons_zero, List.set_cons_succ]
          refine held_get 13 40 oneW rfl rfl (by kernel_rfl) (by kernel_rfl) (by kernel_rfl) rfl hH rfl rfl (fun w hw => by obtain ⟨f3, h⟩ := hw; exact h.row 2 rfl) (by omega) ?_
          try simp only [Act.put, List.setIfInBounds_toArray, List.set_cons_zero, List.set_cons_succ]
          rw [ny]
          refine wpAnyH_ready (rs := [7]) (by kernel_rfl) (by simp) ?_
          refine AllReadyH.cons (o := _) rfl (fun K hK => ?_) AllReadyH.nil
          refine pair_wp_load 0 34 rfl rowP H.out rfl rfl rfl (by omega) ?_
          refine hK.out _ _ hH (fun hN => ?_)
          clear hK K hN
          try simp only [Act.put, List.setIfInBounds_toArray, List.set_cons_zero, List.set_cons_succ]
          refine wpAnyH_ready (rs := [14]) (by kernel_rfl) (by simp) ?_
          refine AllReadyH.cons (o := _) rfl (fun K hK => ?_) AllReadyH.nil
          go_simp
          refine (HP.out _).mono ?_
          rintro e wc ⟨rfl, hb⟩
          replace H := Lib.hid (H.out.call hb)
          refine hK.out _ _ (by obtain ⟨f3, h⟩ := hH; exact ⟨f3, h.call hb⟩) (fun hN => ?_)
          clear hK K hH hb
          have hH := hN
          clear hN
          try simp only [Act.put, List.setIfInBounds_toArray, List.set_cons_zero, List.set_cons_succ]
          refine held_value 15 42 (.pointer (some ⟨g3, p * 2, none⟩)) rfl rfl (by kernel_rfl) (by kernel_rfl) (by kernel_rfl) rfl hH (fun w hw => by go_simp) ?_
          try simp only [Act.put, List.setIfInBounds_toArray, List.set_cons_zero, List.set_cons_succ]
          refine wpAnyH_ready (rs := [16]) (by kernel_rfl) (by simp) ?_
          refine AllReadyH.cons (o := _) rfl (fun K hK => ?_) AllReadyH.nil
          refine pair_wp_store 0 rowP H.out rfl rfl rfl rfl (by omega) ?_
          intro ws HS'
          simp only [List.set_cons_zero] at HS'
          replace H := Lib.hid HS'
          refine hK.out _ _ ⟨_, HS'⟩ (fun hN => ?_)
          clear hK K hN HS' hH
          try simp only [Act.put, List.setIfInBounds_toArray]
          refine wpAnyH_done (by kernel_rfl) ?_ _
          refine NoPanic.normal ?_
          rw [HE.out] at H
          go_wp2_with fail
          go_roundw
          case rel => exact ⟨k + 1, by omega, by go_num, H.out⟩
          case measure => simp [intOf]; omega
        · obtain rfl : k = i := by omega
          clear hlk hk
          rw [← HA.out] at HR
          have H := Lib.hid HR
          have hkd : decide ((k : Int) < (k : Int)) = false := by simp
          clear HR
          go_wp2_with fail
          go_roundw
          case rel => exact ⟨k + 1, by omega, by go_num, H.out⟩
          case measure => simp [intOf]; omega
    · obtain rfl : i = 8 := by omega
      clear hlt hi
      rw [show ((8 : Nat) : Int) = 8 from rfl]
      have H := Lib.hid HR
      clear HR
      go_wp2_with (first
        | ((with_reducible apply own_load rowS H); (case hgd => exact rfl); (case ho => exact rfl); (case hx => exact rfl); (case hi => first | exact at0 | exact at1 | exact at2 | exact at3 | exact at4 | exact at5 | exact at6); intro _ _; go_simp)
        | ((with_reducible refine (HO.out _).mono ?_); rintro e wc ⟨c, q, rfl, hq, hc, hb⟩; replace H := Lib.hid (H.out.call hb); clear hb; have HQ := Lib.hid hq; have HN := Lib.hid (fun w => narrow_any c w hc); clear hq hc)
        | ((with_reducible refine (HN.out _).mono ?_); rintro e wc ⟨h, rfl, hl, hw, hb⟩; replace H := Lib.hid (H.out.call hb); clear hb; have HL := Lib.hid (And.intro hl hw); clear hl hw)
        | ((with_reducible apply own_store rowE H); (case hgd => exact rfl); (case ho => exact rfl); (case hx => exact rfl); (case hy => exact rfl); (case hi => first | exact at0 | exact at1 | exact at2 | exact at3 | exact at4 | exact at5 | exact at6); intro ws H' _ _; replace H := H'; clear H'; simp only [List.set_cons_zero, List.set_cons_succ] at H; go_simp))
      refine bodyPost_ret (own_result 1 rowE rfl _ H rfl rfl) rfl ⟨h, rfl, HL.out.1, ?_, H.out.bel⟩
      rw [HL.out.2, ← HV.out, HQ.out, Nat.add_mul_mod_self_right]
end Go.Proofs.YtjjdhbmlinjhjaaDoor
