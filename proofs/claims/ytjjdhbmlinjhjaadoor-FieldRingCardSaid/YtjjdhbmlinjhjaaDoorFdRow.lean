/-
  Rows of pairs of words: the walk's operations on them; the contracts of field's carry and each over pairs.
-/
import Derived.Test.YtjjdhbmlinjhjaaDoorFdPair
namespace Go.Proofs.YtjjdhbmlinjhjaaDoor
open Go.RowKit

/-- A row of pairs. -/
def pr (s : Nat → Nat) : Nat → Int := fun k => pz (s (k / 2)) (k % 2)
def updN (s : Nat → Nat) (i v : Nat) : Nat → Nat := fun j => if j = i then v else s j
theorem pr_at (s : Nat → Nat) (k j : Nat) (hj : j < 2) : pr s (k * 2 + j) = pz (s k) j := by
  unfold pr
  rw [show (k * 2 + j) / 2 = k by omega, show (k * 2 + j) % 2 = j by omega]
theorem pr_upd (s : Nat → Nat) (i v : Nat) : layZ (pr s) (i * 2) 2 (pz v) = pr (updN s i v) := by
  funext k
  unfold layZ pr updN
  by_cases h : i * 2 ≤ k ∧ k < i * 2 + 2
  · rw [if_pos h, if_pos (by omega), show k - i * 2 = k % 2 by omega]
  · rw [if_neg h, if_neg (by omega)]
theorem pr_zero : (fun _ => (0 : Int)) = pr fun _ => 0 := by
  funext k
  unfold pr pz two
  split <;> simp
theorem pr_part (s : Nat → Nat) (k : Nat) : AZ .u64 2 (fun j => pr s (k * 2 + j)) = AZ .u64 2 (pz (s k)) := AZ_congr fun j hj => pr_at s k j hj
section
variable {P : Program} {ops : Array Oper} {rest : List Oper} {o : Oper} {a : Act} {w w0 : World} {l : List (Nat × Obj)} {Q : Exit → Act → World → Prop} {t ty e : TypeId} {kk : IntKind} {n z : Nat} {K : Act → World → Prop}
theorem pair_load {i : Nat} (hT : IsRow P ty 2) (H : Hid (Ow w0 w l)) (hgd : o.guard = none) {x : Operand} (ho : o.op = .load ty x) {g k : Nat} (hx : a.eval x = .pointer (some ⟨g, k * 2, none⟩)) {s : Nat → Nat}
    (hi : l[i]? = some (g, Blk t .u64 z (pr s))) (hj : k * 2 + 2 ≤ z) (h : ∀ K : Act → World → Prop, (∀ a w, wpList P ops Q rest a w → K a w) → K (a.put o.dst (.agg (AZ .u64 2 (pz (s k))))) w) : wpList P ops Q (o :: rest) a w :=
  own_load_part hT H hgd ho hx hi hj (by rw [pr_part]; exact h)
theorem pair_store {i : Nat} (hT : IsRow P ty 2) (H : Hid (Ow w0 w l)) (hgd : o.guard = none) {x y : Operand} (ho : o.op = .store ty x y) {g k : Nat} (hx : a.eval x = .pointer (some ⟨g, k * 2, none⟩)) {s : Nat → Nat} {v : Nat} (hy : a.eval y = .agg (AZ .u64 2 (pz v)))
    (hi : l[i]? = some (g, Blk t .u64 z (pr s))) (hj : k * 2 + 2 ≤ z) (h : ∀ w', Hid (Ow w0 w' (l.set i (g, Blk t .u64 z (pr (updN s k v))))) → ∀ K : Act → World → Prop, (∀ a w, wpList P ops Q rest a w → K a w) → K (a.put o.dst undef) w') : wpList P ops Q (o :: rest) a w :=
  own_store_part hT H hgd ho hx hy hi hj (by rw [pr_upd]; exact h)
theorem pair_index (hu : P.underlying t = some (.array n e)) (hE : IsRow P e 2) (hgd : o.guard = none) {x y : Operand} (ho : o.op = .index t x y) {s : Nat → Nat} (hx : a.eval x = .agg (AZ .u64 z (pr s))) {i : Nat} (hy : a.eval y = .int kk (i : Int)) (hi : i < n) (hz : i * 2 + 2 ≤ z)
    (h : ∀ K : Act → World → Prop, (∀ a w, wpList P ops Q rest a w → K a w) → K (a.put o.dst (.agg (AZ .u64 2 (pz (s i))))) w) : wpList P ops Q (o :: rest) a w :=
  own_index_row hu hE hgd ho hx hy hi hz (by rw [pr_part]; exact h)
theorem pair_wp_load (i : Nat) (dd : Tmp) (hd : o.dst = some dd) (hT : IsRow P ty 2) (H : Ow w0 w l) {x : Operand} (ho : o.op = .load ty x) {g k : Nat} (hx : a.eval x = .pointer (some ⟨g, k * 2, none⟩)) {s : Nat → Nat}
    (hi : l[i]? = some (g, Blk t .u64 z (pr s))) (hj : k * 2 + 2 ≤ z) (h : K (a.put (some dd) (.agg (AZ .u64 2 (pz (s k))))) w) : o.wp P a w K Q := by
  unfold Oper.wp execOp
  have hl := run_load_part (o := k * 2) hT (H.row i hi) hj
  rw [pr_part] at hl
  simp only [ho, hx, Sem.run_bind, hl, Result.andThen_ok]
  show K (a.put o.dst _) w
  rw [hd]
  exact h
theorem pair_wp_store (i : Nat) (hT : IsRow P ty 2) (H : Ow w0 w l) {x y : Operand} (ho : o.op = .store ty x y) {g k : Nat} (hx : a.eval x = .pointer (some ⟨g, k * 2, none⟩)) {s : Nat → Nat} {v : Nat} (hy : a.eval y = .agg (AZ .u64 2 (pz v)))
    (hi : l[i]? = some (g, Blk t .u64 z (pr s))) (hj : k * 2 + 2 ≤ z) (h : ∀ w', Ow w0 w' (l.set i (g, Blk t .u64 z (pr (updN s k v)))) → K (a.put o.dst undef) w') : o.wp P a w K Q := by
  unfold Oper.wp execOp
  have hs := run_store_part (o := k * 2) (g := pz v) hT (H.row i hi) hj
  rw [pr_upd] at hs
  simp only [ho, hx, hy, Sem.run_bind, hs, Result.andThen_ok]
  exact h _ (H.setRow i hi _)
end
def mixN (i : Nat) (f g : Nat → Nat) : Nat → Nat := fun k => if k < i then f k else g k
theorem mixN_zero (f g : Nat → Nat) : mixN 0 f g = g := by funext k; simp [mixN]
theorem mixN_upd (i : Nat) (f g : Nat → Nat) : updN (mixN i f g) i (f i) = mixN (i + 1) f g := by
  funext k
  unfold updN mixN
  by_cases e : k = i
  · subst e; simp
  · by_cases h : k < i
    · rw [if_neg e, if_pos h, if_pos (by omega)]
    · rw [if_neg e, if_neg h, if_neg (by omega)]
theorem pr_mix (f g : Nat → Nat) (n k : Nat) (h : k < 2 * n) : pr (mixN n f g) k = pr f k := by
  unfold pr mixN
  rw [if_pos (by omega)]
set_option maxRecDepth 8000 in
set_option maxHeartbeats 1000000 in
theorem eachP_any (fn : FuncId) (cap : Array Value) (f g : Nat → Nat) (w : World) (hF : ∀ args w, (callFunc fn args).run Tryd.prog w = .ok (.enter fn args) w)
    (HC : ∀ i W, i < 8 → Below w.heap.size w W → Calls Tryd.prog fn (#[.int .i64 (i : Int), .int .u64 (NZ f i)] ++ cap) W fun e W' => e = .returned (.agg (AZ .u64 2 (pz (g i)))) ∧ Below W.heap.size W W') :
    Calls Tryd.prog 58 #[.agg (AZ .u64 8 (NZ f)), .func (.func fn) #[] cap] w fun e w' => e = .returned (.agg (AZ .u64 16 (pr g))) ∧ Below w.heap.size w w' := by
  replace HC := Lib.hid HC
  have H := Lib.hid (Ow.start w)
  go_enter Tryd.func58, Tryd.ntmps58
  go_wp2_with (first
    | ((fail_if_success have := g1); (with_reducible apply own_box H); (case hgd => exact rfl); (case ho => exact rfl); (case hx => exact rfl); intro w1 g1 H' _ _; replace H := H'; clear H'; go_simp)
    | ((fail_if_success have := g2); (with_reducible apply own_alloc nilR H); (case hgd => exact rfl); (case ho => exact rfl); intro w2 g2 H' _ _; replace H := H'; clear H'; go_simp)
    | ((with_reducible apply own_load rowL H); (case hgd => exact rfl); (case ho => exact rfl); (case hx => exact rfl); (case hi => first | exact at0 | exact at1 | exact at2 | exact at3 | exact at4 | exact at5 | exact at6); intro _ _; go_simp))
  rw [pr_zero] at H
  go_loopw [8] (fun v wr => ∃ i : Nat, i ≤ 8 ∧ v = .int .i64 i ∧ Ow w wr [(g2, Blk 86 .u64 16 (pr (mixN i g fun _ => 0))), (g1, Blk 25 .u64 8 (NZ f))]) (fun v _ => 8 - (intOf v).toNat)
  case atStart => exact ⟨0, by omega, rfl, by rw [mixN_zero]; exact H.out⟩
  case round =>
    clear H
    obtain ⟨i, hi, rfl, HR⟩ := hrel
    by_cases hlt : i < 8
    · have hid : decide ((i : Int) < 8) = true := by simp; omega
      have iN : (i : Int) < 8 := by omega
      have H := Lib.hid HR
      clear HR
      go_wp2_with (first
        | ((with_reducible apply own_index Tryd.underlying25 oneW); (case hgd => exact rfl); (case ho => exact rfl); (case hx => exact rfl); (case hy => exact rfl); (case hi => omega); intro _ _; go_simp)
        | ((with_reducible refine (HC.out i _ hlt H.out.bel).mono ?_); rintro e wc ⟨rfl, hb⟩; replace H := Lib.hid (H.out.call hb); clear hb)
        | ((with_reducible apply pair_store rowP H); (case hgd => exact rfl); (case ho => exact rfl); (case hx => exact rfl); (case hy => exact rfl); (case hi => first | exact at0 | exact at1 | exact at2 | exact at3 | exact at4 | exact at5 | exact at6); (case hj => omega); intro ws H' _ _; replace H := H'; clear H'; simp only [List.set_cons_zero] at H; go_simp))
      rw [mixN_upd] at H
      go_roundw
      case rel => exact ⟨i + 1, by omega, by go_num, H.out⟩
      case measure => simp [intOf]; omega
    · obtain rfl : i = 8 := by omega
      clear hlt hi
      rw [show ((8 : Nat) : Int) = 8 from rfl]
      have H := Lib.hid (HR.like 0 (g := pr g) rfl fun k hk => pr_mix _ _ _ _ (by omega))
      simp only [List.set_cons_zero] at H
      clear HR
      go_wp2_with (first
        | ((with_reducible apply own_load rowR H); (case hgd => exact rfl); (case ho => exact rfl); (case hx => exact rfl); (case hi => first | exact at0 | exact at1 | exact at2 | exact at3 | exact at4 | exact at5 | exact at6); intro _ _; go_simp)
        | ((with_reducible apply own_store rowR H); (case hgd => exact rfl); (case ho => exact rfl); (case hx => exact rfl); (case hy => exact rfl); (case hi => first | exact at0 | exact at1 | exact at2 | exact at3 | exact at4 | exact at5 | exact at6); intro ws H' _ _; replace H := H'; clear H'; simp only [List.set_cons_zero] at H; go_simp))
      exact bodyPost_ret (own_result 0 rowR rfl _ H rfl rfl) rfl ⟨rfl, H.out.bel⟩
/-- What goes over of sums of products. -/
theorem ovC_sum {s : Nat → Nat} (h : ∀ i, i < 8 → s i < 664613997892467381184869269430599680) : ∀ i, i ≤ 8 → ovC s 0 i ≤ 9223372036854907100
  | 0, _ => by simp [ovC]
  | i + 1, hi => by
    have ih := ovC_sum h i (by omega)
    have hf := h i (by omega)
    show (s i + ovC s 0 i) / 72057594037927936 + (if i = 3 then 0 else 0) ≤ 9223372036854907100
    rw [show (if i = 3 then 0 else 0) = 0 by split <;> rfl]
    omega
set_option maxRecDepth 8000 in
set_option maxHeartbeats 1000000 in
theorem carryP_any (s : Nat → Nat) (w : World) (hs : ∀ i, i < 8 → s i < 664613997892467381184869269430599680) :
    Calls Tryd.prog 64 #[.agg (AZ .u64 16 (pr s)), .int .u64 0, .func (.func 65) #[] #[]] w fun e w' => e = .returned (.tuple #[.agg (AZ .u64 8 (NZ (dgC s 0))), .int .u64 (ovC s 0 8 : Int)]) ∧ Below w.heap.size w w' := by
  have HS := Lib.hid hs
  have HO := Lib.hid (ovC_sum hs)
  clear hs
  have H := Lib.hid (Ow.start w)
  go_enter Tryd.func64, Tryd.ntmps64
  go_wp2_with (first
    | ((fail_if_success have := g1); (with_reducible apply own_box H); (case hgd => exact rfl); (case ho => exact rfl); (case hx => exact rfl); intro w1 g1 H' _ _; replace H := H'; clear H'; go_simp)
    | ((fail_if_success have := g2); (with_reducible apply own_alloc nilL H); (case hgd => exact rfl); (case ho => exact rfl); intro w2 g2 H' _ _; replace H := H'; clear H'; go_simp))
  go_step3
  go_wp2_with fail
  go_step3
  go_wp2_with (first
    | ((with_reducible apply own_load rowR H); (case hgd => exact rfl); (case ho => exact rfl); (case hx => exact rfl); (case hi => first | exact at0 | exact at1 | exact at2 | exact at3 | exact at4 | exact at5 | exact at6); intro _ _; go_simp))
  go_loopg [7, 9, 12] 8 (fun gk v7 _ v12 wr => ∃ i : Nat, i + gk = 8 ∧ v12 = .int .i64 i ∧ v7 = .int .u64 (ovC s 0 i : Int) ∧ Ow w wr [(g2, Blk 25 .u64 8 (mixZ i (NZ (dgC s 0)) fun _ => 0)), (g1, Blk 86 .u64 16 (pr s))])
  case atStart => exact ⟨0, by omega, rfl, rfl, by rw [mixZ_zero]; exact H.out⟩
  case round =>
    clear H
    obtain ⟨i, hig, rfl, rfl, HR⟩ := hrel
    cases gk with
    | zero =>
      obtain rfl : i = 8 := by omega
      clear hig
      rw [show ((8 : Nat) : Int) = 8 from rfl]
      have H := Lib.hid (HR.like 0 (g := NZ (dgC s 0)) rfl fun k hk => mixZ_all _ _ _ _ hk)
      simp only [List.set_cons_zero] at H
      obtain ⟨v, hv⟩ : ∃ v, ovC s 0 8 = v := ⟨_, rfl⟩
      rw [hv]
      have HW := Lib.hid hv
      clear HR hv
      go_wp2_with (first
        | ((with_reducible apply own_load rowL H); (case hgd => exact rfl); (case ho => exact rfl); (case hx => exact rfl); (case hi => first | exact at0 | exact at1 | exact at2 | exact at3 | exact at4 | exact at5 | exact at6); intro _ _; go_simp)
        | ((with_reducible apply own_store rowL H); (case hgd => exact rfl); (case ho => exact rfl); (case hx => exact rfl); (case hy => exact rfl); (case hi => first | exact at0 | exact at1 | exact at2 | exact at3 | exact at4 | exact at5 | exact at6); intro ws H' _ _; replace H := H'; clear H'; simp only [List.set_cons_zero] at H; go_simp))
      rw [Exit.noGoto_ret]
      exact bodyPost_ret (own_result_slot 0 rowL rfl _ H rfl rfl rfl) rfl ⟨by rw [HW.out]; rfl, H.out.bel⟩
    | succ go =>
      have hlt : i < 8 := by omega
      have hid : decide ((i : Int) < 8) = true := by simp; omega
      have iN : (i : Int) < 8 := by omega
      have hx8 := HS.out i hlt
      have ho8 := HO.out i (by omega)
      have ho9 := HO.out (i + 1) (by omega)
      have hdg : NZ (dgC s 0) i = (((s i + ovC s 0 i) % 72057594037927936 : Nat) : Int) := rfl
      have hov : ovC s 0 (i + 1) = (s i + ovC s 0 i) / 72057594037927936 := by
        show (s i + ovC s 0 i) / 72057594037927936 + (if i = 3 then 0 else 0) = _
        rw [show (if i = 3 then 0 else 0) = 0 by split <;> rfl]
        rfl
      obtain ⟨o, ho⟩ : ∃ o, ovC s 0 i = o := ⟨_, rfl⟩
      have HP := Lib.hid (fun w => ppart_any (s i) o w (by omega) (by omega))
      rw [ho] at hdg hov ho8
      rw [ho]
      obtain ⟨r, hr⟩ : ∃ r, (s i + o) % 72057594037927936 = r := ⟨_, rfl⟩
      obtain ⟨q, hq⟩ : ∃ q, (s i + o) / 72057594037927936 = q := ⟨_, rfl⟩
      rw [hr, hq] at HP
      rw [hr] at hdg
      rw [hq] at hov
      rw [hov] at ho9
      have HDG := Lib.hid hdg
      have HOV := Lib.hid hov
      have H := Lib.hid HR
      have HQ := Lib.hid ho9
      clear HR ho hr hq hdg hov hx8 ho8 ho9
      by_cases h3 : i = 3
      · have d3 : ((i : Int) != 3) = false := by subst h3; rfl
        have e2 : IntKind.u64.wrap (q : Int) = (q : Int) := by have := HQ.out; rw [IntKind.wrap_u64]; omega
        clear h3
        go_wp2_with (first
          | ((with_reducible apply pair_index Tryd.underlying86 rowP); (case hgd => exact rfl); (case ho => exact rfl); (case hx => exact rfl); (case hy => exact rfl); (case hi => omega); (case hz => omega); intro _ _; go_simp)
          | ((fail_if_success have := g3); (with_reducible apply own_alloc nilP H); (case hgd => exact rfl); (case ho => exact rfl); intro w3 g3 H' _ _; replace H := H'; clear H'; go_simp)
          | ((with_reducible apply own_store rowP H); (case hgd => exact rfl); (case ho => exact rfl); (case hx => exact rfl); (case hy => exact rfl); (case hi => first | exact at0 | exact at1 | exact at2 | exact at3 | exact at4 | exact at5 | exact at6); intro ws H' _ _; replace H := H'; clear H'; simp only [List.set_cons_zero] at H; go_simp)
          | ((with_reducible apply own_load rowP H); (case hgd => exact rfl); (case ho => exact rfl); (case hx => exact rfl); (case hi => first | exact at0 | exact at1 | exact at2 | exact at3 | exact at4 | exact at5 | exact at6); intro _ _; go_simp)
          | ((with_reducible refine (HP.out _).mono ?_); rintro e wc ⟨rfl, hb⟩; replace H := Lib.hid (H.out.call hb); clear hb)
          | ((with_reducible apply own_put oneW H); (case hgd => exact rfl); (case ho => exact rfl); (case hx => exact rfl); (case hy => exact rfl); (case hi => first | exact at0 | exact at1 | exact at2 | exact at3 | exact at4 | exact at5 | exact at6); (case hj => omega); intro ws H' _ _; replace H := H'; clear H'; simp only [List.set_cons_zero, List.set_cons_succ] at H; go_simp))
        rw [← HDG.out, mixZ_upd] at H
        go_roundg go
        case rel => exact ⟨i + 1, by omega, by go_num, by rw [HOV.out], H.out.pop⟩
        case measure => omega
      · have d3 : ((i : Int) != 3) = true := by rw [bne_iff_ne]; omega
        clear h3
        go_wp2_with (first
          | ((with_reducible apply pair_index Tryd.underlying86 rowP); (case hgd => exact rfl); (case ho => exact rfl); (case hx => exact rfl); (case hy => exact rfl); (case hi => omega); (case hz => omega); intro _ _; go_simp)
          | ((fail_if_success have := g3); (with_reducible apply own_alloc nilP H); (case hgd => exact rfl); (case ho => exact rfl); intro w3 g3 H' _ _; replace H := H'; clear H'; go_simp)
          | ((with_reducible apply own_store rowP H); (case hgd => exact rfl); (case ho => exact rfl); (case hx => exact rfl); (case hy => exact rfl); (case hi => first | exact at0 | exact at1 | exact at2 | exact at3 | exact at4 | exact at5 | exact at6); intro ws H' _ _; replace H := H'; clear H'; simp only [List.set_cons_zero] at H; go_simp)
          | ((with_reducible apply own_load rowP H); (case hgd => exact rfl); (case ho => exact rfl); (case hx => exact rfl); (case hi => first | exact at0 | exact at1 | exact at2 | exact at3 | exact at4 | exact at5 | exact at6); intro _ _; go_simp)
          | ((with_reducible refine (HP.out _).mono ?_); rintro e wc ⟨rfl, hb⟩; replace H := Lib.hid (H.out.call hb); clear hb)
          | ((with_reducible apply own_put oneW H); (case hgd => exact rfl); (case ho => exact rfl); (case hx => exact rfl); (case hy => exact rfl); (case hi => first | exact at0 | exact at1 | exact at2 | exact at3 | exact at4 | exact at5 | exact at6); (case hj => omega); intro ws H' _ _; replace H := H'; clear H'; simp only [List.set_cons_zero, List.set_cons_succ] at H; go_simp))
        rw [← HDG.out, mixZ_upd] at H
        go_roundg go
        case rel => exact ⟨i + 1, by omega, by go_num, by rw [HOV.out], H.out.pop⟩
        case measure => omega
end Go.Proofs.YtjjdhbmlinjhjaaDoor
