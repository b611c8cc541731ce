/-
  The contract of field.fold.
-/
import Derived.Test.YtjjdhbmlinjhjaaDoorFdRow
import Derived.Laws.Cover3
namespace Go.Proofs.YtjjdhbmlinjhjaaDoor
open Go.RowKit

theorem two_cells {f : Nat → Int} {c k : Nat} (h0 : f (k * 2) = pz c 0) (h1 : f (k * 2 + 1) = pz c 1) : ∀ i, i < 2 → f (k * 2 + i) = pz c i := by
  intro i hi
  rcases (by omega : i = 0 ∨ i = 1) with rfl | rfl
  · exact h0
  · exact h1
section
variable {P : Program} {md : Region.Mode} {ops : Array Oper} {Q : Exit → Act → World → Prop} {S : World → Prop} {fuel : Nat} {listed : Array Bool} {a : Act} {w : World} {t ty : TypeId} {z : Nat}
/-- In a region that draws its order: a pair that no store of the region turns is taken first. -/
theorem held_pair (i : Nat) (d : Tmp) {oi : Oper} (hT : IsRow P ty 2) (hi : ops[i]? = some oi) (hd : oi.dst = some d) (hs : Region.noSelect ops = true) (hf : Region.free md ops listed i = true)
    (hr : (Region.ready md ops listed).contains i = true) (hw : Region.wanted oi (yielded ops a.tmps) = true) (hS : S w) {x : Operand} (ho : oi.op = .load ty x) {g k c : Nat} (hx : a.eval x = .pointer (some ⟨g, k * 2, none⟩))
    (hrow : ∀ w, S w → ∃ f, w.heap[g]? = some (Blk t .u64 z f) ∧ f (k * 2) = pz c 0 ∧ f (k * 2 + 1) = pz c 1) (hj : k * 2 + 2 ≤ z)
    (h : wpAnyH P md ops (NoPanic Q) S fuel (listed.setIfInBounds i true) (a.put (some d) (.agg (AZ .u64 2 (pz c)))) w) : wpAnyH P md ops (NoPanic Q) S (fuel + 1) listed a w :=
  held_value i d (.agg (AZ .u64 2 (pz c))) hi hd hs hf hr hw hS (fun w hw' => by
    obtain ⟨f, hb, h0, h1⟩ := hrow w hw'
    have hl := run_load_part (P := P) (ty := ty) (o := k * 2) hT hb hj
    rw [AZ_congr (g := pz c) (two_cells h0 h1)] at hl
    unfold execOp
    simp only [ho, hx, Sem.run_bind, hl, Result.andThen_ok]
    rfl) h
end
theorem lv_upd (f : Nat → Nat) (i v : Nat) : ∀ n, i < n → lv (updN f i (f i + v)) n = lv f n + v * 72057594037927936 ^ i
  | 0, h => by omega
  | n + 1, h => by
    unfold lv
    by_cases e : i = n
    · subst e
      rw [lv_congr (g := f) i fun k hk => by unfold updN; rw [if_neg (by omega)], show updN f i (f i + v) i = f i + v by simp [updN], Nat.add_mul]
      omega
    · rw [lv_upd f i v n (by omega), show updN f i (f i + v) n = f n by unfold updN; rw [if_neg (by omega)]]
      omega
/-- One of the sums beyond the limbs comes in again. -/
def foldN (c : Nat → Nat) (k : Nat) : Nat → Nat := updN (updN c (k - 4) (c (k - 4) + c k)) (k - 8) (c (k - 8) + c k)
theorem foldN_alt (c : Nat → Nat) (k : Nat) (hk : 8 ≤ k) : foldN c k = updN (updN c (k - 4) (c (k - 4) + c k)) (k - 8) (updN c (k - 4) (c (k - 4) + c k) (k - 8) + c k) := by
  unfold foldN
  rw [show updN c (k - 4) (c (k - 4) + c k) (k - 8) = c (k - 8) by unfold updN; rw [if_neg (by omega)]]
theorem fold_gen {a d z x y p v : Nat} (hp : p + 1 + y = x) (hv : v = a + d * (z * y) + d * z) : a + d * (z * x) = v + d * z * p := by
  rw [hv, ← hp, Nat.mul_add, Nat.mul_add, Nat.mul_add, Nat.mul_add, Nat.mul_one, Nat.mul_assoc]
  omega
theorem lv_foldN (c : Nat → Nat) (k : Nat) (hk : 8 ≤ k) : lv c (k + 1) = lv (foldN c k) k + c k * 72057594037927936 ^ (k - 8) * pN := by
  obtain ⟨j, rfl⟩ : ∃ j, k = j + 8 := ⟨k - 8, by omega⟩
  rw [foldN_alt _ _ hk, lv_upd _ _ _ _ (by omega), lv_upd _ _ _ _ (by omega)]
  rw [show lv c (j + 8 + 1) = lv c (j + 8) + c (j + 8) * 72057594037927936 ^ (j + 8) from rfl, show j + 8 - 8 = j by omega, show j + 8 - 4 = j + 4 by omega, Nat.pow_add, Nat.pow_add]
  exact fold_gen pN_limbs rfl
def bdN (K j : Nat) : Nat := if 12 ≤ j then 1 else if 8 ≤ j then (if K ≤ j + 4 then 2 else 1) else if 4 ≤ j then (if K ≤ j + 4 then 4 else if K ≤ j + 8 then 2 else 1) else (if K ≤ j + 8 then 3 else 1)
theorem bdN_step : ∀ i, i < 15 → 8 ≤ i → ∀ j, j < 15 → (if j = i - 8 then bdN (i + 1) (i - 8) + bdN (i + 1) i else if j = i - 4 then bdN (i + 1) (i - 4) + bdN (i + 1) i else bdN (i + 1) j) ≤ bdN i j := by decide +kernel
theorem bdN_start : ∀ j, j < 15 → 1 ≤ bdN 15 j := by decide +kernel
theorem bdN_le (K j : Nat) : bdN K j ≤ 4 := by unfold bdN; repeat (first | split | omega)
theorem foldN_bd {c : Nat → Nat} {i : Nat} (hi : 8 ≤ i) (h15 : i < 15) (h : ∀ j, j < 15 → c j ≤ 83076749736557248974016968908603536 * bdN (i + 1) j) : ∀ j, j < 15 → foldN c i j ≤ 83076749736557248974016968908603536 * bdN i j := by
  intro j hj
  have hs := bdN_step i h15 hi j hj
  have h1 := h (i - 8) (by omega)
  have h2 := h (i - 4) (by omega)
  have h3 := h i h15
  have h4 := h j hj
  unfold foldN updN
  by_cases e1 : j = i - 8
  · rw [if_pos e1] at hs ⊢
    omega
  · rw [if_neg e1] at hs ⊢
    by_cases e2 : j = i - 4
    · rw [if_pos e2] at hs ⊢
      omega
    · rw [if_neg e2] at hs ⊢
      omega
set_option maxRecDepth 10000 in
set_option maxHeartbeats 3200000 in
theorem fold_any (c0 : Nat → Nat) (w : World) (hc : ∀ j, j < 15 → c0 j ≤ 83076749736557248974016968908603536) :
    Calls Tryd.prog 57 #[.agg (AZ .u64 30 (pr c0))] w fun e w' => ∃ c q, e = .returned (.agg (AZ .u64 16 (pr c))) ∧ lv c0 15 = lv c 8 + q * pN ∧ (∀ i, i < 8 → c i < 664613997892467381184869269430599680) ∧ Below w.heap.size w w' := by
  have HC := Lib.hid hc
  clear hc
  have H := Lib.hid (Ow.start w)
  go_enter Tryd.func57, Tryd.ntmps57
  go_wp2_with (first
    | ((fail_if_success have := g1); (with_reducible apply own_box H); (case hgd => exact rfl); (case ho => exact rfl); (case hx => exact rfl); intro w1 g1 H' _ _; replace H := H'; clear H'; go_simp)
    | ((fail_if_success have := g2); (with_reducible apply own_alloc nilR H); (case hgd => exact rfl); (case ho => exact rfl); intro w2 g2 H' _ _; replace H := H'; clear H'; go_simp))
  go_loopw [3] (fun v3 wr => ∃ (K : Nat) (c : Nat → Nat) (q : Nat), 8 ≤ K ∧ K ≤ 15 ∧ v3 = .int .i64 ((K : Int) - 1) ∧ lv c0 15 = lv c K + q * pN ∧ (∀ j, j < 15 → c j ≤ 83076749736557248974016968908603536 * bdN K j) ∧ Ow w wr [(g2, Blk 86 .u64 16 fun _ => 0), (g1, Blk 83 .u64 30 (pr c))]) (fun v3 _ => (intOf v3 + 1).toNat)
  case atStart => exact ⟨15, c0, 0, by omega, by omega, rfl, by rw [Nat.zero_mul, Nat.add_zero], fun j hj => by have := HC.out j hj; have := bdN_start j hj; omega, H.out⟩
  case round =>
    clear H
    obtain ⟨K, c, q, hK1, hK2, rfl, hq, hb, HR⟩ := hrel
    by_cases hlt : 8 < K
    · obtain ⟨k, rfl⟩ : ∃ k, K = k + 1 := ⟨K - 1, by omega⟩
      have e : (((k + 1 : Nat) : Int) - 1) = (k : Int) := by omega
      rw [e]
      have k8 : 8 ≤ k := by omega
      have k15 : k < 15 := by omega
      have hid : decide ((8 : Int) ≤ (k : Int)) = true := by simp; omega
      obtain ⟨m, hm⟩ : ∃ m, k - 4 = m := ⟨_, rfl⟩
      obtain ⟨j, hj⟩ : ∃ j, k - 8 = j := ⟨_, rfl⟩
      have em : (k : Int) - 4 = (m : Int) := by omega
      have ej : (k : Int) - 8 = (j : Int) := by omega
      have kI : (k : Int) < 15 := by omega
      have mI : (m : Int) < 15 := by omega
      have jI : (j : Int) < 15 := by omega
      have f1 : IntKind.i64.wrap (m : Int) = (m : Int) := IntWalk.i64_in _ (by omega)
      have f2 : IntKind.i64.wrap (j : Int) = (j : Int) := IntWalk.i64_in _ (by omega)
      have HQ := Lib.hid hq
      have HFB := Lib.hid (foldN_bd k8 k15 hb)
      have HFV := Lib.hid (lv_foldN c k k8)
      have HFE := Lib.hid (foldN_alt c k k8)
      rw [hm, hj] at HFE
      have b1 := hb k k15
      have b2 := hb m (by omega)
      have b3 := hb j (by omega)
      have l1 := bdN_le (k + 1) k
      have l2 := bdN_le (k + 1) m
      have l3 := bdN_le (k + 1) j
      have hm' : updN c m (c m + c k) j = c j := by unfold updN; rw [if_neg (by omega)]
      have hmk : updN c m (c m + c k) k = c k := by unfold updN; rw [if_neg (by omega)]
      have hmj : updN (updN c m (c m + c k)) j (updN c m (c m + c k) j + c k) k = c k := by
        show (if k = j then _ else updN c m (c m + c k) k) = c k
        rw [if_neg (by omega), hmk]
      obtain ⟨ck, hck⟩ : ∃ x, c k = x := ⟨_, rfl⟩
      have HP1 := Lib.hid (fun w => padd_any (c m) ck w (by omega))
      have HP2 := Lib.hid (fun w => padd_any (updN c m (c m + ck) j) ck w (by rw [← hck, hm']; omega))
      have HCK := Lib.hid hck
      rw [hck] at hmk hmj HFE
      have HK1 := Lib.hid hmk
      have HK2 := Lib.hid hmj
      have m15 : m < 15 := by omega
      have j15 : j < 15 := by omega
      have H := Lib.hid HR
      have HE := Lib.hid e
      clear HR hq hb b1 b2 b3 l1 l2 l3 hm' hmk hmj hck hlt hK1 hK2 hm hj e
      go_wp2_with fail
      have HPA := HP1
      refine wp_region_noPanic ?_
      refine wp_region_held_drew (S := fun W => ∃ f3, Ow w W [(g2, Blk 86 .u64 16 fun _ => 0), (g1, Blk 83 .u64 30 f3)] ∧ f3 (k * 2) = pz ck 0 ∧ f3 (k * 2 + 1) = pz ck 1) (by kernel_rfl) ⟨_, H.out.drew, (pr_at _ k 0 (by omega)).trans (congrArg (fun x => pz x 0) HCK.out), (pr_at _ k 1 (by omega)).trans (congrArg (fun x => pz x 1) HCK.out)⟩ (fun hH => ?_)
      replace H := Lib.hid H.out.drew
      generalize World.drew _ = w8 at *
      refine held_value 0 8 (.int .i64 k) rfl rfl (by kernel_rfl) (by kernel_rfl) (by kernel_rfl) rfl hH (fun w hw => by go_simp) ?_
      simp only [Act.put, List.setIfInBounds_toArray, List.set_cons_zero, List.set_cons_succ]
      refine held_value 1 9 (.int .i64 m) rfl rfl (by kernel_rfl) (by kernel_rfl) (by kernel_rfl) rfl hH (fun w hw => by go_simp) ?_
      simp only [Act.put, List.setIfInBounds_toArray, List.set_cons_zero, List.set_cons_succ]
      refine held_value 2 10 (.int .i64 k) rfl rfl (by kernel_rfl) (by kernel_rfl) (by kernel_rfl) rfl hH (fun w hw => by go_simp) ?_
      simp only [Act.put, List.setIfInBounds_toArray, List.set_cons_zero, List.set_cons_succ]
      refine held_value 3 11 (.int .i64 m) rfl rfl (by kernel_rfl) (by kernel_rfl) (by kernel_rfl) rfl hH (fun w hw => by go_simp) ?_
      simp only [Act.put, List.setIfInBounds_toArray, List.set_cons_zero, List.set_cons_succ]
      refine held_value 4 12 (.pointer (some ⟨g1, m * 2, none⟩)) rfl rfl (by kernel_rfl) (by kernel_rfl) (by kernel_rfl) rfl hH (fun w hw => by go_simp) ?_
      simp only [Act.put, List.setIfInBounds_toArray, List.set_cons_zero, List.set_cons_succ]
      refine held_value 6 14 (.int .i64 k) rfl rfl (by kernel_rfl) (by kernel_rfl) (by kernel_rfl) rfl hH (fun w hw => by go_simp) ?_
      simp only [Act.put, List.setIfInBounds_toArray, List.set_cons_zero, List.set_cons_succ]
      refine held_value 7 15 (.pointer (some ⟨g1, k * 2, none⟩)) rfl rfl (by kernel_rfl) (by kernel_rfl) (by kernel_rfl) rfl hH (fun w hw => by go_simp) ?_
      simp only [Act.put, List.setIfInBounds_toArray, List.set_cons_zero, List.set_cons_succ]
      refine held_pair 8 16 rowP rfl rfl (by kernel_rfl) (by kernel_rfl) (by kernel_rfl) rfl hH rfl rfl (fun w hw => by obtain ⟨f3, h, h01⟩ := hw; exact ⟨f3, h.row 1 rfl, h01⟩) (by omega) ?_
      try simp only [Act.put, List.setIfInBounds_toArray, List.set_cons_zero, List.set_cons_succ]
      refine wpAnyH_ready (rs := [5]) (by kernel_rfl) (by simp) ?_
      refine AllReadyH.cons (o := _) rfl (fun K hK => ?_) AllReadyH.nil
      refine pair_wp_load 1 13 rfl rowP H.out rfl rfl rfl (by omega) ?_
      refine hK.out _ _ hH (fun hN => ?_)
      clear hK K hN
      try simp only [Act.put, List.setIfInBounds_toArray, List.set_cons_zero, List.set_cons_succ]
      refine wpAnyH_ready (rs := [9]) (by kernel_rfl) (by simp) ?_
      refine AllReadyH.cons (o := _) rfl (fun K hK => ?_) AllReadyH.nil
      go_simp
      refine (HPA.out _).mono ?_
      rintro e wc ⟨rfl, hb⟩
      replace H := Lib.hid (H.out.call hb)
      refine hK.out _ _ (by obtain ⟨f3, h, h01⟩ := hH; exact ⟨f3, h.call hb, h01⟩) (fun hN => ?_)
      clear hK K hH hb
      have hH := hN
      clear hN
      try simp only [Act.put, List.setIfInBounds_toArray, List.set_cons_zero, List.set_cons_succ]
      refine held_value 10 18 (.pointer (some ⟨g1, m * 2, none⟩)) rfl rfl (by kernel_rfl) (by kernel_rfl) (by kernel_rfl) rfl hH (fun w hw => by go_simp) ?_
      try simp only [Act.put, List.setIfInBounds_toArray, List.set_cons_zero, List.set_cons_succ]
      refine wpAnyH_ready (rs := [11]) (by kernel_rfl) (by simp) ?_
      refine AllReadyH.cons (o := _) rfl (fun K hK => ?_) AllReadyH.nil
      refine pair_wp_store 1 rowP H.out rfl rfl rfl rfl (by omega) ?_
      intro ws HS
      simp only [List.set_cons_zero, List.set_cons_succ] at HS
      replace H := Lib.hid HS
      refine hK.out _ _ ⟨_, HS, (pr_at _ k 0 (by omega)).trans (congrArg (fun x => pz x 0) HK1.out), (pr_at _ k 1 (by omega)).trans (congrArg (fun x => pz x 1) HK1.out)⟩ (fun hN => ?_)
      clear hK K hN HS hH
      try simp only [Act.put, List.setIfInBounds_toArray]
      refine wpAnyH_done (by kernel_rfl) ?_ _
      refine NoPanic.normal ?_
      clear HPA HP1
      have HCK := HK1
      have HPA := HP2
      go_wp2_with fail
      refine wp_region_noPanic ?_
      refine wp_region_held_drew (S := fun W => ∃ f3, Ow w W [(g2, Blk 86 .u64 16 fun _ => 0), (g1, Blk 83 .u64 30 f3)] ∧ f3 (k * 2) = pz ck 0 ∧ f3 (k * 2 + 1) = pz ck 1) (by kernel_rfl) ⟨_, H.out.drew, (pr_at _ k 0 (by omega)).trans (congrArg (fun x => pz x 0) HCK.out), (pr_at _ k 1 (by omega)).trans (congrArg (fun x => pz x 1) HCK.out)⟩ (fun hH => ?_)
      replace H := Lib.hid H.out.drew
      generalize World.drew _ = w8 at *
      refine held_value 0 19 (.int .i64 k) rfl rfl (by kernel_rfl) (by kernel_rfl) (by kernel_rfl) rfl hH (fun w hw => by go_simp) ?_
      simp only [Act.put, List.setIfInBounds_toArray, List.set_cons_zero, List.set_cons_succ]
      refine held_value 1 20 (.int .i64 j) rfl rfl (by kernel_rfl) (by kernel_rfl) (by kernel_rfl) rfl hH (fun w hw => by go_simp) ?_
      simp only [Act.put, List.setIfInBounds_toArray, List.set_cons_zero, List.set_cons_succ]
      refine held_value 2 21 (.int .i64 k) rfl rfl (by kernel_rfl) (by kernel_rfl) (by kernel_rfl) rfl hH (fun w hw => by go_simp) ?_
      simp only [Act.put, List.setIfInBounds_toArray, List.set_cons_zero, List.set_cons_succ]
      refine held_value 3 22 (.int .i64 j) rfl rfl (by kernel_rfl) (by kernel_rfl) (by kernel_rfl) rfl hH (fun w hw => by go_simp) ?_
      simp only [Act.put, List.setIfInBounds_toArray, List.set_cons_zero, List.set_cons_succ]
      refine held_value 4 23 (.pointer (some ⟨g1, j * 2, none⟩)) rfl rfl (by kernel_rfl) (by kernel_rfl) (by kernel_rfl) rfl hH (fun w hw => by go_simp) ?_
      simp only [Act.put, List.setIfInBounds_toArray, List.set_cons_zero, List.set_cons_succ]
      refine held_value 6 25 (.int .i64 k) rfl rfl (by kernel_rfl) (by kernel_rfl) (by kernel_rfl) rfl hH (fun w hw => by go_simp) ?_
      simp only [Act.put, List.setIfInBounds_toArray, List.set_cons_zero, List.set_cons_succ]
      refine held_value 7 26 (.pointer (some ⟨g1, k * 2, none⟩)) rfl rfl (by kernel_rfl) (by kernel_rfl) (by kernel_rfl) rfl hH (fun w hw => by go_simp) ?_
      simp only [Act.put, List.setIfInBounds_toArray, List.set_cons_zero, List.set_cons_succ]
      refine held_pair 8 27 rowP rfl rfl (by kernel_rfl) (by kernel_rfl) (by kernel_rfl) rfl hH rfl rfl (fun w hw => by obtain ⟨f3, h, h01⟩ := hw; exact ⟨f3, h.row 1 rfl, h01⟩) (by omega) ?_
      try simp only [Act.put, List.setIfInBounds_toArray, List.set_cons_zero, List.set_cons_succ]
      refine wpAnyH_ready (rs := [5]) (by kernel_rfl) (by simp) ?_
      refine AllReadyH.cons (o := _) rfl (fun K hK => ?_) AllReadyH.nil
      refine pair_wp_load 1 24 rfl rowP H.out rfl rfl rfl (by omega) ?_
      refine hK.out _ _ hH (fun hN => ?_)
      clear hK K hN
      try simp only [Act.put, List.setIfInBounds_toArray, List.set_cons_zero, List.set_cons_succ]
      refine wpAnyH_ready (rs := [9]) (by kernel_rfl) (by simp) ?_
      refine AllReadyH.cons (o := _) rfl (fun K hK => ?_) AllReadyH.nil
      go_simp
      refine (HPA.out _).mono ?_
      rintro e wc ⟨rfl, hb⟩
      replace H := Lib.hid (H.out.call hb)
      refine hK.out _ _ (by obtain ⟨f3, h, h01⟩ := hH; exact ⟨f3, h.call hb, h01⟩) (fun hN => ?_)
      clear hK K hH hb
      have hH := hN
      clear hN
      try simp only [Act.put, List.setIfInBounds_toArray, List.set_cons_zero, List.set_cons_succ]
      refine held_value 10 29 (.pointer (some ⟨g1, j * 2, none⟩)) rfl rfl (by kernel_rfl) (by kernel_rfl) (by kernel_rfl) rfl hH (fun w hw => by go_simp) ?_
      try simp only [Act.put, List.setIfInBounds_toArray, List.set_cons_zero, List.set_cons_succ]
      refine wpAnyH_ready (rs := [11]) (by kernel_rfl) (by simp) ?_
      refine AllReadyH.cons (o := _) rfl (fun K hK => ?_) AllReadyH.nil
      refine pair_wp_store 1 rowP H.out rfl rfl rfl rfl (by omega) ?_
      intro ws HS
      simp only [List.set_cons_zero, List.set_cons_succ] at HS
      replace H := Lib.hid HS
      refine hK.out _ _ ⟨_, HS, (pr_at _ k 0 (by omega)).trans (congrArg (fun x => pz x 0) HK2.out), (pr_at _ k 1 (by omega)).trans (congrArg (fun x => pz x 1) HK2.out)⟩ (fun hN => ?_)
      clear hK K hN HS hH
      try simp only [Act.put, List.setIfInBounds_toArray]
      refine wpAnyH_done (by kernel_rfl) ?_ _
      refine NoPanic.normal ?_
      clear HPA HP2
      rw [← HFE.out] at H
      go_wp2_with fail
      go_roundw
      case rel => exact ⟨k, foldN c k, q + c k * 72057594037927936 ^ (k - 8), k8, by omega, by go_num, by rw [HQ.out, HFV.out, Nat.add_mul]; omega, HFB.out, H.out⟩
      case measure => (simp [intOf] <;> omega)
    · obtain rfl : K = 8 := by omega
      have e : (((8 : Nat) : Int) - 1) = 7 := rfl
      rw [e]
      have hd : decide ((8 : Int) ≤ 7) = false := rfl
      have hat : ∀ w, (Instr.arrayAt 86 (.slice (some ⟨g1, 0, none⟩) 8 15)).run Tryd.prog w = .ok (.pointer (some ⟨g1, 0, none⟩)) w := fun w => run_arrayAt w _ _ 8 _ 8 15 Tryd.underlying86 (by omega)
      have HQ := Lib.hid hq
      have HB : Hid (∀ i, i < 8 → c i < 664613997892467381184869269430599680) := Lib.hid (fun i hi => by have h1 := hb i (by omega); have h2 := bdN_le 8 i; omega)
      have H := Lib.hid HR
      clear HR hq hb e hlt hK1 hK2
      go_wp2_with (first
        | ((with_reducible apply own_load_part rowR H); (case hgd => exact rfl); (case ho => exact rfl); (case hx => exact rfl); (case hi => first | exact at0 | exact at1 | exact at2 | exact at3 | exact at4 | exact at5 | exact at6); (case hj => omega); intro _ _; go_simp)
        | ((with_reducible apply own_store rowR H); (case hgd => exact rfl); (case ho => exact rfl); (case hx => exact rfl); (case hy => exact rfl); (case hi => first | exact at0 | exact at1 | exact at2 | exact at3 | exact at4 | exact at5 | exact at6); intro ws H' _ _; replace H := H'; clear H'; simp only [List.set_cons_zero] at H; go_simp))
      exact bodyPost_ret (own_result 0 rowR rfl _ H rfl rfl) rfl ⟨c, q, rfl, HQ.out, HB.out, H.out.bel⟩
end Go.Proofs.YtjjdhbmlinjhjaaDoor
