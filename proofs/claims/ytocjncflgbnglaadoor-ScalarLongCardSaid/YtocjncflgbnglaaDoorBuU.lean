/-
  Lemmas for the walks, several texts in one. No statement is proved here.
-/
import Derived.Test.YtocjncflgbnglaaDoorBuT
import Derived.Test.YtocjncflgbnglaaDoorBuS
import Derived.Test.YtocjncflgbnglaaDoorBuN
import Derived.Test.YtocjncflgbnglaaDoorBuR
/-
  The contracts of scalar.sized, read, L, Bytes, Reduce, Decode. No statement is proved here: lemmas for the walks.
-/
namespace Go.Proofs.YtocjncflgbnglaaDoor
open Go.RowKit

/-- What sized answers: the function that asks, and what it holds. -/
def Asks (w : World) (v : Value) (f g : Int) : Prop := ∃ gf gg, v = .func (.func 64) #[] #[.pointer (some ⟨gf, 0, none⟩), .pointer (some ⟨gg, 0, none⟩)] ∧ w.cell? ⟨gf, 0, none⟩ = some (.int .i64 f) ∧ w.cell? ⟨gg, 0, none⟩ = some (.int .i64 g)
theorem sized_v (f g : Int) (w : World) :
    Calls Tryd.prog 42 #[.int .i64 f, .int .i64 g] w fun e w' => ∃ v, e = .returned v ∧ Asks w' v f g ∧ Below w.heap.size w w' := by
  go_enter Tryd.func42, Tryd.ntmps42
  go_wp2
  go_ret
  exact ⟨_, rfl, ⟨_, _, rfl, by simp, by simp⟩, ((Below.refl _ _).alloc (Nat.le_refl _) _).alloc (by simp) _⟩
/-- Whether so many bytes are right. -/
def szE (n : Nat) (f g : Int) : Int := if (n : Int) < f ∨ g < (n : Int) then 11 else 0
theorem ask_v (n c : Nat) (a : Option Addr) (gf gg : Nat) (f g : Int) (w : World) (hf : w.cell? ⟨gf, 0, none⟩ = some (.int .i64 f)) (hg : w.cell? ⟨gg, 0, none⟩ = some (.int .i64 g)) :
    Calls Tryd.prog 64 #[.slice a n c, .pointer (some ⟨gf, 0, none⟩), .pointer (some ⟨gg, 0, none⟩)] w fun e w' => e = .returned (.int .i64 (szE n f g)) ∧ w' = w := by
  by_cases h1 : (n : Int) < f
  · have d1 : decide ((n : Int) < f) = true := by simpa using h1
    have HE : Hid (szE n f g = 11) := Lib.hid (by unfold szE; rw [if_pos (.inl h1)])
    clear h1
    go_enter Tryd.func64, Tryd.ntmps64
    go_wp2
    go_ret
    exact ⟨by rw [HE.out]; rfl, rfl⟩
  · have d1 : decide ((n : Int) < f) = false := by simpa using h1
    by_cases h2 : g < (n : Int)
    · have d2 : decide (g < (n : Int)) = true := by simpa using h2
      have HE : Hid (szE n f g = 11) := Lib.hid (by unfold szE; rw [if_pos (.inr h2)])
      clear h1 h2
      go_enter Tryd.func64, Tryd.ntmps64
      go_wp2
      go_ret
      exact ⟨by rw [HE.out]; rfl, rfl⟩
    · have d2 : decide (g < (n : Int)) = false := by simpa using h2
      have HE : Hid (szE n f g = 0) := Lib.hid (by unfold szE; rw [if_neg (by omega)])
      clear h1 h2
      go_enter Tryd.func64, Tryd.ntmps64
      go_wp2
      go_ret
      exact ⟨by rw [HE.out]; rfl, rfl⟩
end Go.Proofs.YtocjncflgbnglaaDoor

/-
  The contracts of scalar.read, L, Bytes. No statement is proved here: lemmas for the walks.
-/
namespace Go.Proofs.YtocjncflgbnglaaDoor
open Go.RowKit

/-- A number with a stop behind it. -/
def stp (b n x : Nat) : Nat := 2 ^ (b * n) * 1 + x
theorem stp_word {n x i : Nat} (hi : i < n) : wd (stp 64 n x) i = wd x i := wd_low x 1 n i hi
theorem stp_bytes {n x : Nat} (hx : x < 2 ^ (8 * n)) (j : Nat) : upd8 (bt x) n 1 j = bt (stp 8 n x) j := by
  unfold upd8 stp
  by_cases h : j = n
  · subst h
    rw [if_pos rfl]
    have := dg_shift x 1 j 0 hx
    rw [Nat.add_zero] at this
    rw [this]
    rfl
  · rw [if_neg h]
    by_cases h1 : j < n
    · exact (bt_low x 1 n j h1).symm
    · have e : 2 ^ (8 * n) * 1 + x < 2 ^ (8 * (n + 1)) := by rw [pow8]; omega
      rw [bt_over hx (by omega), bt_over e (by omega)]
theorem stp_fits8 {n x : Nat} (hx : x < 2 ^ (8 * n)) : stp 8 n x < 2 ^ (8 * (n + 1)) := by unfold stp; rw [pow8]; omega
theorem stp_fits64 {n x : Nat} (hx : x < 2 ^ (64 * n)) : stp 64 n x < 2 ^ (64 * (n + 1)) := by unfold stp; rw [pow64]; omega
theorem stp_fit {n m x : Nat} (hx : x < 2 ^ (8 * n)) (h : n + 1 = m) : stp 8 n x < 2 ^ (8 * m) := by rw [← h]; exact stp_fits8 hx
theorem stp_fitw {n m x : Nat} (hx : x < 2 ^ (64 * n)) (h : n + 1 = m) : stp 64 n x < 2 ^ (64 * m) := by rw [← h]; exact stp_fits64 hx
theorem stp_eq (b n b' n' x : Nat) (h : b * n = b' * n') : stp b n x = stp b' n' x := by unfold stp; rw [h]
theorem stp_both (x : Nat) : stp 8 136 x = stp 64 17 x := stp_eq _ _ _ _ _ rfl
theorem pow_both (n m : Nat) (h : 8 * n = 64 * m) {x : Nat} : x < 2 ^ (8 * n) ↔ x < 2 ^ (64 * m) := by rw [h]
theorem stp_dl {n x : Nat} (hx : x < 2 ^ (64 * n)) : dl 64 (stp 64 n x) = n + 1 := by
  refine dl_eq (by omega) (stp_fits64 hx) (.inr ?_)
  unfold stp
  rw [Nat.add_sub_cancel, Nat.mul_one]
  exact Nat.le_add_right _ _
theorem stp_len {x : Nat} (hx : x < 2 ^ (8 * 136)) : dl 64 (stp 8 136 x) = 18 := by
  rw [stp_both]
  exact stp_dl ((pow_both 136 17 rfl).1 hx)
set_option maxRecDepth 8000 in
set_option maxHeartbeats 3200000 in
theorem read_v (a : Option Addr) (n c x : Nat) (w : World) (hn : n ≤ 128) (hs : Sb w w.heap.size a n c x) :
    Calls Tryd.prog 43 #[.slice a n c] w fun e w' => e = .returned (W17 x) ∧ Below w.heap.size w w' := by
  have hle := hs.sl.le
  have h136 : n ≤ 136 := by omega
  obtain ⟨m, hm⟩ : ∃ m, n + m = 137 := ⟨137 - n, by omega⟩
  have m0 : 0 < m := by omega
  have n128 : (n : Int) ≤ 128 := by omega
  have e1 : 137 - (n : Int) = (m : Int) := by omega
  have HM := Lib.hid hm
  have hcn : n < 137 := by omega
  have hx : x < 2 ^ (8 * 136) := fits_more (b := 8) (n := n) (m := 136) hs.fits h136
  have HS := Lib.hid hs
  have HX : Hid (∀ j, n ≤ j → bt x j = 0) := Lib.hid fun j hj => bt_over hs.fits hj
  have HB := Lib.hid (fun j => stp_bytes hx j)
  have HF : Hid (stp 8 136 x < 2 ^ (8 * 137)) := Lib.hid (@stp_fit 136 137 x hx rfl)
  have HD := Lib.hid (stp_len hx)
  have HW : Hid (∀ j, j < 17 → wd (stp 8 136 x) j = wd x j) := Lib.hid fun j hj => by rw [stp_both]; exact stp_word hj
  clear hs hx hm h136
  have H := Lib.hid (Ow.start w)
  go_enter Tryd.func43, Tryd.ntmps43
  go_wp2_with (first
    | ((fail_if_success have := g2); (with_reducible apply own_alloc nil17 H); (case hgd => exact rfl); (case ho => exact rfl); intro w2 g2 H' _ _; replace H := H'; clear H'; have HC : Hid (Sl w2 w2.heap.size a n n (bt x)) := Lib.hid (let h := (HS.out.call H.out.bel).sl; ⟨Nat.le_refl _, fun e => by have h1 := h.nil e; have h2 := h.le; omega, h.low⟩); go_simp)
    | ((with_reducible apply own_zeros (f := bt x) (n := n) (m := m) (N := 137) H); (case hgd => exact rfl); (case ho => exact rfl); (case hs => exact rfl); (case hx => exact rfl); (case hS => exact HC.out); (case h0 => exact HX.out); (case hm => exact m0); (case hN => exact HM.out); (case hg => exact hcn); (case hl => omega); intro wz gz cap HCap H' _ _; replace H := H'; clear H'; go_simp)
    | ((with_reducible apply own_putb (v := 1) H); (case hgd => exact rfl); (case ho => exact rfl); (case hx => exact rfl); (case hy => exact rfl); (case hi => first | exact at0 | exact at1 | exact at2 | exact at3 | exact at4 | exact at5 | exact at6 | exact at7 | exact at8 | exact at9); (case hj => have := HCap.out; omega); intro ws H' _ _; replace H := H'; clear H'; simp only [List.set_cons_zero] at H; go_simp))
  replace H := Lib.hid (H.out.like 0 (g := UB (bt (stp 8 136 x))) rfl fun j _ => congrArg U8 (HB.out j))
  simp only [List.set_cons_zero] at H
  rw [LZ_zero] at H
  clear HC
  refine wp_region_noPanic ?_
  refine wp_region_held_drew (S := fun _ => True) (by kernel_rfl) trivial (fun hH => ?_)
  replace H := Lib.hid H.out.drew
  generalize World.drew _ = w8 at *
  refine held_value 0 18 (.slice (some ⟨g2, 0, none⟩) 17 17) rfl rfl (by kernel_rfl) (by kernel_rfl) (by kernel_rfl) rfl hH (fun w hw => by go_simp) ?_
  try simp only [Act.put, List.setIfInBounds_toArray, List.set_cons_zero, List.set_cons_succ]
  refine held_value 1 19 (.slice (some ⟨gz, 0, none⟩) 137 cap) rfl rfl (by kernel_rfl) (by kernel_rfl) (by kernel_rfl) rfl hH (fun w hw => by go_simp) ?_
  try simp only [Act.put, List.setIfInBounds_toArray, List.set_cons_zero, List.set_cons_succ]
  refine wpAnyH_ready (rs := [2]) (by kernel_rfl) (by simp) ?_
  refine AllReadyH.cons (o := _) rfl (fun K hK => ?_) AllReadyH.nil
  go_simp
  refine (nof_any (some ⟨gz, 0, none⟩) 137 cap (stp 8 136 x) _ (by omega) ⟨H.out.slb 0 rfl HCap.out HCap.out, HF.out⟩).mono ?_
  rintro e wc ⟨v, rfl, hv⟩
  obtain ⟨gq, NQ, rfl, hgq, hrq, hnq, hb⟩ := hv
  rw [HD.out] at hnq
  rw [HD.out]
  replace H := Lib.hid (H.out.add hb hgq (rowW_blk hrq))
  have HNQ := Lib.hid hnq
  clear hgq hrq hnq hb
  refine hK.out _ _ trivial (fun _ => ?_)
  clear hK K
  try simp only [Act.put, List.setIfInBounds_toArray, List.set_cons_zero, List.set_cons_succ]
  refine wpAnyH_ready (rs := [3]) (by kernel_rfl) (by simp) ?_
  refine AllReadyH.cons (o := _) rfl (fun K hK => ?_) AllReadyH.nil
  refine own_wp_copy (m := 17) (f := wd x) 2 H.out rfl rfl rfl rfl rfl (by omega) (fun j hj => by rw [Nat.zero_add, ← HW.out j hj]; exact H.out.cell 0 rfl j (by have := HNQ.out; omega)) ?_
  intro ws HS2
  simp only [List.set_cons_zero, List.set_cons_succ] at HS2
  replace H := Lib.hid HS2
  refine hK.out _ _ trivial (fun _ => ?_)
  clear hK K HS2 hH
  try simp only [Act.put, List.setIfInBounds_toArray]
  try simp only [Act.put]
  refine wpAnyH_done (by kernel_rfl) ?_ _
  refine NoPanic.normal ?_
  go_wp2_with (first
    | ((with_reducible apply own_load row17 H); (case hgd => exact rfl); (case ho => exact rfl); (case hx => exact rfl); (case hi => first | exact at0 | exact at1 | exact at2 | exact at3 | exact at4 | exact at5 | exact at6 | exact at7 | exact at8 | exact at9); intro _ _; go_simp)
    | ((with_reducible apply own_store row17 H); (case hgd => exact rfl); (case ho => exact rfl); (case hx => exact rfl); (case hy => exact rfl); (case hi => first | exact at0 | exact at1 | exact at2 | exact at3 | exact at4 | exact at5 | exact at6 | exact at7 | exact at8 | exact at9); intro ws H' _ _; replace H := H'; clear H'; simp only [List.set_cons_zero, List.set_cons_succ] at H; go_simp))
  replace H := Lib.hid (H.out.like 2 (g := LZ (wd x)) rfl fun k hk => by show L (mix 17 _ _ k) = _; rw [mix_all _ _ _ k hk])
  simp only [List.set_cons_zero, List.set_cons_succ] at H
  exact bodyPost_ret (own_result 2 row17 rfl _ H rfl rfl) rfl ⟨rfl, H.out.bel⟩
/-- number.Bytes, said of a row that lies in a new block. -/
theorem nbytes_g (a : Option Addr) (n c x s : Nat) (w : World) (hn : n ≤ 1000000) (hs : s ≤ 65536) (h : Sw w w.heap.size a n c x) (hx : x < 2 ^ (8 * s)) :
    Calls Tryd.prog 47 #[.slice a n c, .int .i64 s] w fun e w' => ∃ g, e = .returned (.tuple #[.slice (some ⟨g, 0, none⟩) s s, .int .i64 0]) ∧ w.heap.size ≤ g ∧ w'.heap[g]? = some (YB s (bt x)) ∧ Below w.heap.size w w' :=
  (nbytes_any a n c x s w hn hs h hx).mono fun _ _ ⟨he, hr, hb⟩ => ⟨_, he, Nat.le_refl _, rowB_blk hr, hb⟩
theorem nbytes_57 (a : Option Addr) (n c x : Nat) (w : World) (hn : n ≤ 1000000) (h : Sw w w.heap.size a n c x) (hx : x < 2 ^ (8 * 57)) :
    Calls Tryd.prog 47 #[.slice a n c, .int .i64 57] w fun e w' => ∃ g, e = .returned (.tuple #[.slice (some ⟨g, 0, none⟩) 57 57, .int .i64 0]) ∧ w.heap.size ≤ g ∧ w'.heap[g]? = some (YB 57 (bt x)) ∧ Below w.heap.size w w' :=
  nbytes_g a n c x 57 w hn (by decide) h hx
theorem lN_fits7 : lN < 2 ^ (64 * 7) := by rw [tN_words 7 rfl]; exact lN_lt_t
theorem fits57 {x : Nat} (h : x < tN) : x < 2 ^ (8 * 57) := by
  have h1 : x < 2 ^ (8 * 56) := by rw [pow_both 56 7 rfl, tN_words 7 rfl]; exact h
  exact fits_more (b := 8) (n := 56) (m := 57) h1 (by decide)
set_option maxRecDepth 8000 in
set_option maxHeartbeats 3200000 in
theorem L_v (w : World) {r : Bool} (hT : Tl r w) :
    Calls Tryd.prog 14 #[] w fun e w' => ∃ a c, e = .returned (.slice a 57 c) ∧ Sb w' w'.heap.size a 57 c lN ∧ Below w.heap.size w w' := by
  have HT := Lib.hid hT
  have HL := Lib.hid lN_fits7
  have HF := Lib.hid (fits57 lN_lt_t)
  clear hT
  have H := Lib.hid (Ow.start w)
  go_enter Tryd.func14, Tryd.ntmps14
  go_wp2_with (first
    | ((with_reducible apply lay_load_ord (Lib.hid (HT.out.below H.out.bel))); (case hgd => exact rfl); (case ho => exact rfl); (case hx => exact rfl); intro _ _; go_simp)
    | ((fail_if_success have := g1); (with_reducible apply own_alloc nil7 H); (case hgd => exact rfl); (case ho => exact rfl); intro w1 g1 H' _ _; replace H := H'; clear H'; go_simp)
    | ((with_reducible apply own_store row7 H); (case hgd => exact rfl); (case ho => exact rfl); (case hx => exact rfl); (case hy => exact rfl); (case hi => first | exact at0 | exact at1 | exact at2 | exact at3 | exact at4 | exact at5 | exact at6 | exact at7 | exact at8 | exact at9); intro ws H' _ _; replace H := H'; clear H'; simp only [List.set_cons_zero] at H; go_simp)
    | ((with_reducible refine (nbytes_57 (some ⟨g1, 0, none⟩) 7 7 (lN) _ (by omega) (H.out.sw 0 rfl (by first | omega | exact HCap.out) (by first | omega | exact HCap.out) HL.out) HF.out).mono ?_); rintro e wc ⟨gy, rfl, hgy, hry, hb⟩; replace H := Lib.hid (H.out.add hb hgy hry); clear hb hgy hry))
  go_ret
  exact ⟨_, _, rfl, ⟨H.out.slb 0 rfl (Nat.le_refl _) (Nat.le_refl _), HF.out⟩, H.out.bel⟩
theorem one_bytes (x : Nat) (hx : x < 2 ^ (8 * 56)) : ∀ j, j < 57 → upd8 (bt (stp 8 56 x)) 56 0 j = bt x j := fun j hj => by
  unfold upd8
  by_cases h : j = 56
  · rw [if_pos h, bt_over hx (Nat.le_of_eq h.symm)]
  · rw [if_neg h, ← stp_bytes hx j]
    unfold upd8
    rw [if_neg h]
theorem LZ_over {x n j : Nat} (h : x < 2 ^ (64 * n)) (hj : n ≤ j) : LZ (wd x) j = 0 := by
  show L (wd x j) = 0
  rw [wd_over h hj]
  rfl
theorem stp_seven (x : Nat) : stp 64 7 x = stp 8 56 x := stp_eq _ _ _ _ _ rfl
theorem stp_top (n x : Nat) (hx : x < 2 ^ (64 * n)) : wd (stp 64 n x) n = 1 := by
  have := wd_shift x 1 n 0 hx
  rw [Nat.add_zero] at this
  exact this
set_option maxRecDepth 8000 in
set_option maxHeartbeats 3200000 in
theorem bytes_g (x : KL) (w : World) :
    Calls Tryd.prog 41 #[W7 x.val] w fun e w' => ∃ g, e = .returned (.slice (some ⟨g, 0, none⟩) 57 57) ∧ w.heap.size ≤ g ∧ w'.heap[g]? = some (YB 57 (bt x.val)) ∧ Below w.heap.size w w' := by
  have h7 := fits7 x
  have h56 : x.val < 2 ^ (8 * 56) := (pow_both 56 7 rfl).2 h7
  have HL : Hid (stp 64 7 x.val < 2 ^ (64 * 8)) := Lib.hid (@stp_fitw 7 8 x.val h7 rfl)
  have HF : Hid (stp 64 7 x.val < 2 ^ (8 * 57)) := Lib.hid (by rw [stp_seven]; exact @stp_fit 56 57 x.val h56 rfl)
  have HB : Hid (∀ j, j < 57 → upd8 (bt (stp 64 7 x.val)) 56 0 j = bt x.val j) := Lib.hid (by rw [stp_seven]; exact one_bytes _ h56)
  have HO : Hid (∀ j, 7 + 1 ≤ j → LZ (wd (stp 64 7 x.val)) j = 0) := Lib.hid fun j hj => LZ_over (stp_fits64 h7) hj
  have HN1 : Hid (∀ (W : World) (g : Nat), W.heap[g]? = some (WB 27 7 (wd (x).val)) → ∀ j, j < 7 → W.cell? ⟨g, 0 + j, none⟩ = some (.int .u64 (LZ (wd (stp 64 7 x.val)) j))) := Lib.hid fun W g h j hj => by
    have hr : W.heap[g]? = some (.cells (AZ .u64 7 (LZ (wd x.val))) 27) := h
    rw [Nat.zero_add, cell_of_row _ _ _ _ _ _ hr, AZ_get _ _ _ _ hj]
    show _ = some (Value.int .u64 (L (wd (stp 64 7 x.val) j)))
    rw [stp_word hj]
  have HN2 : Hid (∀ (W : World) (g : Nat), W.heap[g]? = some (WB 24 1 (wd 1)) → ∀ j, j < 1 → W.cell? ⟨g, 0 + j, none⟩ = some (.int .u64 (LZ (wd (stp 64 7 x.val)) (7 + j)))) := Lib.hid fun W g h j hj => by
    have hr : W.heap[g]? = some (.cells (AZ .u64 1 (LZ (wd 1))) 24) := h
    obtain rfl : j = 0 := Nat.lt_one_iff.1 hj
    rw [Nat.zero_add, cell_of_row _ _ _ _ _ _ hr, AZ_get _ _ _ _ hj]
    show some (Value.int .u64 (L (wd 1 0))) = some (Value.int .u64 (L (wd (stp 64 7 x.val) 7)))
    rw [stp_top 7 x.val h7]
    rfl
  clear h7 h56
  have H := Lib.hid (Ow.start w)
  go_enter Tryd.func41, Tryd.ntmps41
  go_wp2_with (first
    | ((fail_if_success have := g1); (with_reducible apply own_box H); (case hgd => exact rfl); (case ho => exact rfl); (case hx => exact rfl); intro w1 g1 H' _ _; replace H := H'; clear H'; go_simp)
    | ((fail_if_success have := gb); (with_reducible apply own_buildW (v := 1) Tryd.underlying69 (by decide) H); (case hgd => exact rfl); (case ho => exact rfl); intro wb gb H' _ _; replace H := H'; clear H'; go_simp)
    | ((with_reducible apply own_grown (f := LZ (wd (stp 64 7 x.val))) (n := 7) (N := 8) Tryd.underlying69); (case hN => exact rfl); (case H => exact H); (case hgd => exact rfl); (case ho => exact rfl); (case hs => exact rfl); (case hx => exact rfl); (case hn => exact HN1.out _ _ (H.out.row 1 rfl)); (case hm => exact HN2.out _ _ (H.out.row 0 rfl)); (case h0 => exact HO.out); (case hl => omega); intro wz gz cap HCap H' _ _; replace H := H'; clear H'; go_simp)
    | ((with_reducible refine (nbytes_57 (some ⟨gz, 0, none⟩) 8 cap (stp 64 7 x.val) _ (by omega) (H.out.sw 0 rfl (by first | omega | exact HCap.out) (by first | omega | exact HCap.out) HL.out) HF.out).mono ?_); rintro e wc ⟨gy, rfl, hgy, hry, hb⟩; replace H := Lib.hid (H.out.add hb hgy hry); clear hb hgy hry)
    | ((with_reducible apply own_putb (v := 0) H); (case hgd => exact rfl); (case ho => exact rfl); (case hx => exact rfl); (case hy => exact rfl); (case hi => first | exact at0 | exact at1 | exact at2 | exact at3 | exact at4 | exact at5 | exact at6 | exact at7 | exact at8 | exact at9); (case hj => omega); intro ws H' _ _; replace H := H'; clear H'; simp only [List.set_cons_zero] at H; go_simp))
  go_ret
  replace H := Lib.hid (H.out.like 0 (g := UB (bt x.val)) rfl fun j hj => congrArg U8 (HB.out j hj))
  simp only [List.set_cons_zero] at H
  exact ⟨_, rfl, H.out.ge 0 rfl, H.out.row 0 rfl, H.out.bel⟩
theorem row_sb {w : World} {g n x : Nat} (h : w.heap[g]? = some (YB n (bt x))) (hx : x < 2 ^ (8 * n)) : Sb w w.heap.size (some ⟨g, 0, none⟩) n n x :=
  ⟨(blk_rowB h).sl, hx⟩
theorem bytes_s (x : KL) (w : World) :
    Calls Tryd.prog 41 #[W7 x.val] w fun e w' => ∃ a c, e = .returned (.slice a 57 c) ∧ Sb w' w'.heap.size a 57 c x.val ∧ Below w.heap.size w w' :=
  (bytes_g x w).mono fun _ _ ⟨_, he, _, hr, hb⟩ => ⟨_, _, he, row_sb hr (fits57 (kl_lt x)), hb⟩
section
variable {ops : Array Oper} {rest : List Oper} {o : Oper} {a : Act} {w w0 : World} {l : List (Nat × Obj)} {Q : Exit → Act → World → Prop}
/-- A guarded load of a byte that is wanted. -/
theorem own_getbg {i : Nat} (H : Hid (Ow w0 w l)) (hw : Region.wanted o (yielded ops a.tmps) = true) {x : Operand} (ho : o.op = .load 5 x) {g j n : Nat} (hx : a.eval x = .pointer (some ⟨g, j, none⟩)) {f : Nat → BitVec 8}
    (hi : l[i]? = some (g, YB n f)) (hj : j < n) (h : ∀ K : Act → World → Prop, (∀ a w, wpList Tryd.prog ops Q rest a w → K a w) → K (a.put o.dst (U (f j))) w) : wpList Tryd.prog ops Q (o :: rest) a w :=
  list_wanted hw fun K hK => by
    unfold Oper.wp execOp
    simp only [ho, hx, Sem.run_bind, run_get oneB (H.out.row i hi) hj, Result.andThen_ok]
    exact h K hK
end
end Go.Proofs.YtocjncflgbnglaaDoor

/-
  The contracts of scalar.Reduce and Decode. No statement is proved here: lemmas for the walks.
-/
namespace Go.Proofs.YtocjncflgbnglaaDoor
open Go.RowKit

theorem szE_bad {n : Nat} {f g : Int} (h : (n : Int) < f ∨ g < (n : Int)) : szE n f g = 11 := by unfold szE; rw [if_pos h]
theorem szE_ok {n : Nat} {f g : Int} (h1 : f ≤ (n : Int)) (h2 : (n : Int) ≤ g) : szE n f g = 0 := by unfold szE; rw [if_neg (by omega)]
set_option maxRecDepth 8000 in
set_option maxHeartbeats 3200000 in
theorem reduce_bad (a : Option Addr) (n c : Nat) (w : World) (hn : 128 < n) :
    Calls Tryd.prog 12 #[.slice a n c] w fun e w' => e = .returned (.tuple #[W7 0, .int .i64 11]) ∧ Below w.heap.size w w' := by
  have HE : Hid (szE n 0 128 = 11) := Lib.hid (szE_bad (.inr (by omega)))
  clear hn
  have H := Lib.hid (Ow.start w)
  go_enter Tryd.func12, Tryd.ntmps12
  go_wp2_with (first
    | ((fail_if_success have := g2); (with_reducible apply own_alloc nilSc H); (case hgd => exact rfl); (case ho => exact rfl); intro w2 g2 H' _ _; replace H := H'; clear H'; go_simp)
    | ((with_reducible refine (sized_v 0 128 _).mono ?_); rintro e wc ⟨v, rfl, hq, hb⟩; obtain ⟨gf, gg, rfl, hf, hg⟩ := hq; have HQ1 := Lib.hid hf; have HQ2 := Lib.hid hg; replace H := Lib.hid (H.out.call hb); clear hb hf hg)
    | ((with_reducible refine (ask_v n c a gf gg 0 128 _ HQ1.out HQ2.out).mono ?_); rintro e wc ⟨rfl, rfl⟩; rw [HE.out])
    | ((with_reducible apply lay_build_S0); (case hgd => exact rfl); (case ho => exact rfl); intro _ _; go_simp)
    | ((with_reducible apply own_store rowSc H); (case hgd => exact rfl); (case ho => exact rfl); (case hx => exact rfl); (case hy => exact rfl); (case hi => first | exact at0 | exact at1 | exact at2 | exact at3 | exact at4 | exact at5 | exact at6 | exact at7 | exact at8 | exact at9); intro ws H' _ _; replace H := H'; clear H'; simp only [List.set_cons_zero] at H; go_simp))
  exact bodyPost_ret (own_result_slot 0 rowSc rfl _ H rfl rfl rfl) rfl ⟨rfl, H.out.bel⟩
theorem bd_128 {n x : Nat} (hn : n ≤ 128) (h : x < 2 ^ (8 * n)) : Bd 3 x := by
  unfold Bd
  rw [if_neg (by decide)]
  rw [show 64 * (7 + 3 * 3) = 64 * 16 from rfl]
  exact (pow_both 128 16 rfl).1 (fits_more (b := 8) (n := n) (m := 128) h hn)
set_option maxRecDepth 8000 in
set_option maxHeartbeats 3200000 in
theorem reduce_ok (a : Option Addr) (n c x : Nat) (w : World) (hT : Tl true w) (hn : n ≤ 128) (hs : Sb w w.heap.size a n c x) :
    Calls Tryd.prog 12 #[.slice a n c] w fun e w' => e = .returned (.tuple #[W7 (x % lN), .int .i64 0]) ∧ Below w.heap.size w w' := by
  have HE : Hid (szE n 0 128 = 0) := Lib.hid (szE_ok (by omega) (by omega))
  have HN := Lib.hid hn
  have HX := Lib.hid (bd_128 hn hs.fits)
  have HS := Lib.hid hs
  have HT := Lib.hid hT
  clear hn hs hT
  have H := Lib.hid (Ow.start w)
  go_enter Tryd.func12, Tryd.ntmps12
  go_wp2_with (first
    | ((fail_if_success have := g2); (with_reducible apply own_alloc nilSc H); (case hgd => exact rfl); (case ho => exact rfl); intro w2 g2 H' _ _; replace H := H'; clear H'; go_simp)
    | ((with_reducible refine (sized_v 0 128 _).mono ?_); rintro e wc ⟨v, rfl, hq, hb⟩; obtain ⟨gf, gg, rfl, hf, hg⟩ := hq; have HQ1 := Lib.hid hf; have HQ2 := Lib.hid hg; replace H := Lib.hid (H.out.call hb); clear hb hf hg)
    | ((with_reducible refine (ask_v n c a gf gg 0 128 _ HQ1.out HQ2.out).mono ?_); rintro e wc ⟨rfl, rfl⟩; rw [HE.out])
    | ((with_reducible refine (read_v a n c x _ HN.out (HS.out.call H.out.bel)).mono ?_); rintro e wc ⟨rfl, hb⟩; replace H := Lib.hid (H.out.call hb); clear hb)
    | ((with_reducible refine (reduce_v x _ (HT.out.below H.out.bel) HX.out).mono ?_); rintro e wc ⟨rfl, hb⟩; replace H := Lib.hid (H.out.call hb); clear hb)
    | ((with_reducible apply own_store rowSc H); (case hgd => exact rfl); (case ho => exact rfl); (case hx => exact rfl); (case hy => exact rfl); (case hi => first | exact at0 | exact at1 | exact at2 | exact at3 | exact at4 | exact at5 | exact at6 | exact at7 | exact at8 | exact at9); intro ws H' _ _; replace H := H'; clear H'; simp only [List.set_cons_zero] at H; go_simp))
  exact bodyPost_ret (own_result_slot 0 rowSc rfl _ H rfl rfl rfl) rfl ⟨rfl, H.out.bel⟩
set_option maxRecDepth 8000 in
set_option maxHeartbeats 3200000 in
theorem decode_bad (a : Option Addr) (n c : Nat) (w : World) (hn : n ≠ 56) (hn2 : n ≠ 57) :
    Calls Tryd.prog 11 #[.slice a n c] w fun e w' => e = .returned (.tuple #[W7 0, .int .i64 11]) ∧ Below w.heap.size w w' := by
  have HE : Hid (szE n 56 57 = 11) := Lib.hid (szE_bad (by omega))
  clear hn hn2
  have H := Lib.hid (Ow.start w)
  go_enter Tryd.func11, Tryd.ntmps11
  go_wp2_with (first
    | ((fail_if_success have := g2); (with_reducible apply own_alloc nilSc H); (case hgd => exact rfl); (case ho => exact rfl); intro w2 g2 H' _ _; replace H := H'; clear H'; go_simp)
    | ((with_reducible refine (sized_v 56 57 _).mono ?_); rintro e wc ⟨v, rfl, hq, hb⟩; obtain ⟨gf, gg, rfl, hf, hg⟩ := hq; have HQ1 := Lib.hid hf; have HQ2 := Lib.hid hg; replace H := Lib.hid (H.out.call hb); clear hb hf hg)
    | ((with_reducible refine (ask_v n c a gf gg 56 57 _ HQ1.out HQ2.out).mono ?_); rintro e wc ⟨rfl, rfl⟩; rw [HE.out])
    | ((with_reducible apply lay_build_S0); (case hgd => exact rfl); (case ho => exact rfl); intro _ _; go_simp)
    | ((with_reducible apply own_store rowSc H); (case hgd => exact rfl); (case ho => exact rfl); (case hx => exact rfl); (case hy => exact rfl); (case hi => first | exact at0 | exact at1 | exact at2 | exact at3 | exact at4 | exact at5 | exact at6 | exact at7 | exact at8 | exact at9); intro ws H' _ _; replace H := H'; clear H'; simp only [List.set_cons_zero] at H; go_simp))
  exact bodyPost_ret (own_result_slot 0 rowSc rfl _ H rfl rfl rfl) rfl ⟨rfl, H.out.bel⟩
section
variable {P : Program} {ops : Array Oper} {rest : List Oper} {o : Oper} {a : Act} {w w0 : World} {l : List (Nat × Obj)} {Q : Exit → Act → World → Prop} {t ty : TypeId} {n : Nat}
/-- A guarded load of a word that is wanted. -/
theorem own_wordg {i : Nat} (hT : IsOne P ty .u64) (H : Hid (Ow w0 w l)) (hw : Region.wanted o (yielded ops a.tmps) = true) {x : Operand} (ho : o.op = .load ty x) {g j : Nat} (hx : a.eval x = .pointer (some ⟨g, j, none⟩)) {f : Nat → BitVec 64}
    (hi : l[i]? = some (g, WB t n f)) (hj : j < n) (h : ∀ K : Act → World → Prop, (∀ a w, wpList P ops Q rest a w → K a w) → K (a.put o.dst (V (f j))) w) : wpList P ops Q (o :: rest) a w :=
  list_wanted hw fun K hK => by
    unfold Oper.wp execOp
    simp only [ho, hx, Sem.run_bind, run_get hT (H.out.row i hi) hj, Result.andThen_ok]
    exact h K hK
end
theorem W7_mod (x : Nat) : W7 x = W7 (x % tN) := W7_congr fun i hi => by
  obtain ⟨e, he⟩ : ∃ e, e = 448 := ⟨_, rfl⟩
  rw [← tN_pow e he, wd_mod x e i (by omega)]
theorem top_gen {x n m : Nat} (h : x < 2 ^ (64 * m)) (e : m = n + 1) : wd x n = 0 ↔ x < 2 ^ (64 * n) := by
  subst e
  exact wd_top h
theorem top_seven {x : Nat} (hx : x < 2 ^ (8 * 57)) : wd x 7 = 0 ↔ x < tN := by
  have h8 := (pow_both 64 8 rfl).1 (fits_more (b := 8) (n := 57) (m := 64) hx (by decide))
  rw [top_gen (n := 7) h8 rfl, tN_words 7 rfl]
set_option maxRecDepth 8000 in
set_option maxHeartbeats 3200000 in
theorem decode_ok (a : Option Addr) (n c x : Nat) (w : World) {r : Bool} (hT : Tl r w) (hn : n = 56 ∨ n = 57) (hs : Sb w w.heap.size a n c x) (hx : x < lN) :
    Calls Tryd.prog 11 #[.slice a n c] w fun e w' => e = .returned (.tuple #[W7 x, .int .i64 0]) ∧ Below w.heap.size w w' := by
  have HE : Hid (szE n 56 57 = 0) := Lib.hid (szE_ok (by omega) (by omega))
  have HN : Hid (n ≤ 128) := Lib.hid (by omega)
  have hn7 : n ≤ 57 := by omega
  have h57 := fits_more (b := 8) (n := n) (m := 57) hs.fits hn7
  have ht : x < tN := Nat.lt_trans hx lN_lt_t
  have HU : Hid (V (cy (und (x % tN) lN)) = .int .u64 1) := Lib.hid (by rw [Nat.mod_eq_of_lt ht]; unfold und; rw [if_pos hx]; rfl)
  have HR : Hid (W7 (x % tN) = W7 x) := Lib.hid (by rw [Nat.mod_eq_of_lt ht])
  have h7 := L_eq0 _ ((top_seven h57).2 ht)
  clear h57 ht hx
  have HZ : Hid (x % tN < tN) := Lib.hid (Nat.mod_lt _ (by decide +kernel))
  have HW := Lib.hid (W7_mod x)
  have HS := Lib.hid hs
  have HT := Lib.hid hT
  clear hn hn7 hs hT
  have H := Lib.hid (Ow.start w)
  go_enter Tryd.func11, Tryd.ntmps11
  go_wp2_with (first
    | ((fail_if_success have := g2); (with_reducible apply own_alloc nilSc H); (case hgd => exact rfl); (case ho => exact rfl); intro w2 g2 H' _ _; replace H := H'; clear H'; go_simp)
    | ((with_reducible refine (sized_v 56 57 _).mono ?_); rintro e wc ⟨v, rfl, hq, hb⟩; obtain ⟨gf, gg, rfl, hf, hg⟩ := hq; have HQ1 := Lib.hid hf; have HQ2 := Lib.hid hg; replace H := Lib.hid (H.out.call hb); clear hb hf hg)
    | ((with_reducible refine (ask_v n c a gf gg 56 57 _ HQ1.out HQ2.out).mono ?_); rintro e wc ⟨rfl, rfl⟩; rw [HE.out])
    | ((with_reducible refine (read_v a n c x _ HN.out (HS.out.call H.out.bel)).mono ?_); rintro e wc ⟨rfl, hb⟩; replace H := Lib.hid (H.out.call hb); clear hb)
    | ((fail_if_success have := g5); (with_reducible apply own_alloc nil17 H); (case hgd => exact rfl); (case ho => exact rfl); intro w5 g5 H' _ _; replace H := H'; clear H'; go_simp)
    | ((with_reducible apply own_store row17 H); (case hgd => exact rfl); (case ho => exact rfl); (case hx => exact rfl); (case hy => exact rfl); (case hi => first | exact at0 | exact at1 | exact at2 | exact at3 | exact at4 | exact at5 | exact at6 | exact at7 | exact at8 | exact at9); intro ws H' _ _; replace H := H'; clear H'; simp only [List.set_cons_zero] at H; go_simp)
    | ((with_reducible apply own_load row17 H); (case hgd => exact rfl); (case ho => exact rfl); (case hx => exact rfl); (case hi => first | exact at0 | exact at1 | exact at2 | exact at3 | exact at4 | exact at5 | exact at6 | exact at7 | exact at8 | exact at9); intro _ _; go_simp)
    | ((with_reducible refine (first_v x _).mono ?_); rintro e wc ⟨rfl, hb⟩; replace H := Lib.hid (H.out.call hb); clear hb; rw [HW.out])
    | ((fail_if_success have := g6); (with_reducible apply own_alloc nil7 H); (case hgd => exact rfl); (case ho => exact rfl); intro w6 g6 H' _ _; replace H := H'; clear H'; go_simp)
    | ((with_reducible apply own_store row7 H); (case hgd => exact rfl); (case ho => exact rfl); (case hx => exact rfl); (case hy => exact rfl); (case hi => first | exact at0 | exact at1 | exact at2 | exact at3 | exact at4 | exact at5 | exact at6 | exact at7 | exact at8 | exact at9); intro ws H' _ _; replace H := H'; clear H'; simp only [List.set_cons_zero] at H; go_simp)
    | ((with_reducible apply own_load row7 H); (case hgd => exact rfl); (case ho => exact rfl); (case hx => exact rfl); (case hi => first | exact at0 | exact at1 | exact at2 | exact at3 | exact at4 | exact at5 | exact at6 | exact at7 | exact at8 | exact at9); intro _ _; go_simp)
    | ((with_reducible apply lay_load_ord (Lib.hid (HT.out.below H.out.bel))); (case hgd => exact rfl); (case ho => exact rfl); (case hx => exact rfl); intro _ _; go_simp)
    | ((with_reducible refine (slessen_v (x % tN) lN _ HZ.out lN_lt_t).mono ?_); rintro e wc ⟨rfl, hb⟩; replace H := Lib.hid (H.out.call hb); clear hb; rw [HU.out])
    | ((fail_if_success have := g7); (with_reducible apply own_alloc nil7 H); (case hgd => exact rfl); (case ho => exact rfl); intro w7 g7 H' _ _; replace H := H'; clear H'; go_simp)
    | ((with_reducible apply own_wordg oneU H); (case hw => exact rfl); (case ho => exact rfl); (case hx => exact rfl); (case hi => first | exact at0 | exact at1 | exact at2 | exact at3 | exact at4 | exact at5 | exact at6 | exact at7 | exact at8 | exact at9); (case hj => omega); intro _ _; go_simp)
    | ((with_reducible apply lay_build_S0); (case hgd => exact rfl); (case ho => exact rfl); intro _ _; go_simp)
    | ((with_reducible apply lay_build_S); (case hgd => exact rfl); (case ho => exact rfl); (case hx => exact rfl); intro _ _; go_simp)
    | ((with_reducible apply own_store rowSc H); (case hgd => exact rfl); (case ho => exact rfl); (case hx => exact rfl); (case hy => exact rfl); (case hi => first | exact at0 | exact at1 | exact at2 | exact at3 | exact at4 | exact at5 | exact at6 | exact at7 | exact at8 | exact at9); intro ws H' _ _; replace H := H'; clear H'; simp only [List.set_cons_zero, List.set_cons_succ] at H; go_simp))
  exact bodyPost_ret (own_result_slot (v := .int .i64 0) 3 rowSc rfl _ H rfl rfl rfl) rfl ⟨congrArg (fun v => Ending.returned (.tuple #[v, .int .i64 0])) HR.out, H.out.bel⟩
set_option maxRecDepth 8000 in
set_option maxHeartbeats 3200000 in
theorem decode_far (a : Option Addr) (n c x : Nat) (w : World) {r : Bool} (hT : Tl r w) (hn : n = 56 ∨ n = 57) (hs : Sb w w.heap.size a n c x) (hx : lN ≤ x) (hz : x % tN < lN) :
    Calls Tryd.prog 11 #[.slice a n c] w fun e w' => e = .returned (.tuple #[W7 0, .int .i64 14]) ∧ Below w.heap.size w w' := by
  have HE : Hid (szE n 56 57 = 0) := Lib.hid (szE_ok (by omega) (by omega))
  have HN : Hid (n ≤ 128) := Lib.hid (by omega)
  have hn7 : n ≤ 57 := by omega
  have h57 := fits_more (b := 8) (n := n) (m := 57) hs.fits hn7
  have HU : Hid (V (cy (und (x % tN) lN)) = .int .u64 1) := Lib.hid (by unfold und; rw [if_pos hz]; rfl)
  have h7 := L_ne0 _ (fun h => absurd ((top_seven h57).1 h) (fun ht => by rw [Nat.mod_eq_of_lt ht] at hz; omega))
  clear h57 hx hz
  have HZ : Hid (x % tN < tN) := Lib.hid (Nat.mod_lt _ (by decide +kernel))
  have HW := Lib.hid (W7_mod x)
  have HS := Lib.hid hs
  have HT := Lib.hid hT
  clear hn hn7 hs hT
  have H := Lib.hid (Ow.start w)
  go_enter Tryd.func11, Tryd.ntmps11
  go_wp2_with (first
    | ((fail_if_success have := g2); (with_reducible apply own_alloc nilSc H); (case hgd => exact rfl); (case ho => exact rfl); intro w2 g2 H' _ _; replace H := H'; clear H'; go_simp)
    | ((with_reducible refine (sized_v 56 57 _).mono ?_); rintro e wc ⟨v, rfl, hq, hb⟩; obtain ⟨gf, gg, rfl, hf, hg⟩ := hq; have HQ1 := Lib.hid hf; have HQ2 := Lib.hid hg; replace H := Lib.hid (H.out.call hb); clear hb hf hg)
    | ((with_reducible refine (ask_v n c a gf gg 56 57 _ HQ1.out HQ2.out).mono ?_); rintro e wc ⟨rfl, rfl⟩; rw [HE.out])
    | ((with_reducible refine (read_v a n c x _ HN.out (HS.out.call H.out.bel)).mono ?_); rintro e wc ⟨rfl, hb⟩; replace H := Lib.hid (H.out.call hb); clear hb)
    | ((fail_if_success have := g5); (with_reducible apply own_alloc nil17 H); (case hgd => exact rfl); (case ho => exact rfl); intro w5 g5 H' _ _; replace H := H'; clear H'; go_simp)
    | ((with_reducible apply own_store row17 H); (case hgd => exact rfl); (case ho => exact rfl); (case hx => exact rfl); (case hy => exact rfl); (case hi => first | exact at0 | exact at1 | exact at2 | exact at3 | exact at4 | exact at5 | exact at6 | exact at7 | exact at8 | exact at9); intro ws H' _ _; replace H := H'; clear H'; simp only [List.set_cons_zero] at H; go_simp)
    | ((with_reducible apply own_load row17 H); (case hgd => exact rfl); (case ho => exact rfl); (case hx => exact rfl); (case hi => first | exact at0 | exact at1 | exact at2 | exact at3 | exact at4 | exact at5 | exact at6 | exact at7 | exact at8 | exact at9); intro _ _; go_simp)
    | ((with_reducible refine (first_v x _).mono ?_); rintro e wc ⟨rfl, hb⟩; replace H := Lib.hid (H.out.call hb); clear hb; rw [HW.out])
    | ((fail_if_success have := g6); (with_reducible apply own_alloc nil7 H); (case hgd => exact rfl); (case ho => exact rfl); intro w6 g6 H' _ _; replace H := H'; clear H'; go_simp)
    | ((with_reducible apply own_store row7 H); (case hgd => exact rfl); (case ho => exact rfl); (case hx => exact rfl); (case hy => exact rfl); (case hi => first | exact at0 | exact at1 | exact at2 | exact at3 | exact at4 | exact at5 | exact at6 | exact at7 | exact at8 | exact at9); intro ws H' _ _; replace H := H'; clear H'; simp only [List.set_cons_zero] at H; go_simp)
    | ((with_reducible apply own_load row7 H); (case hgd => exact rfl); (case ho => exact rfl); (case hx => exact rfl); (case hi => first | exact at0 | exact at1 | exact at2 | exact at3 | exact at4 | exact at5 | exact at6 | exact at7 | exact at8 | exact at9); intro _ _; go_simp)
    | ((with_reducible apply lay_load_ord (Lib.hid (HT.out.below H.out.bel))); (case hgd => exact rfl); (case ho => exact rfl); (case hx => exact rfl); intro _ _; go_simp)
    | ((with_reducible refine (slessen_v (x % tN) lN _ HZ.out lN_lt_t).mono ?_); rintro e wc ⟨rfl, hb⟩; replace H := Lib.hid (H.out.call hb); clear hb; rw [HU.out])
    | ((fail_if_success have := g7); (with_reducible apply own_alloc nil7 H); (case hgd => exact rfl); (case ho => exact rfl); intro w7 g7 H' _ _; replace H := H'; clear H'; go_simp)
    | ((with_reducible apply own_wordg oneU H); (case hw => exact rfl); (case ho => exact rfl); (case hx => exact rfl); (case hi => first | exact at0 | exact at1 | exact at2 | exact at3 | exact at4 | exact at5 | exact at6 | exact at7 | exact at8 | exact at9); (case hj => omega); intro _ _; go_simp)
    | ((with_reducible apply lay_build_S0); (case hgd => exact rfl); (case ho => exact rfl); intro _ _; go_simp)
    | ((with_reducible apply lay_build_S); (case hgd => exact rfl); (case ho => exact rfl); (case hx => exact rfl); intro _ _; go_simp)
    | ((with_reducible apply own_store rowSc H); (case hgd => exact rfl); (case ho => exact rfl); (case hx => exact rfl); (case hy => exact rfl); (case hi => first | exact at0 | exact at1 | exact at2 | exact at3 | exact at4 | exact at5 | exact at6 | exact at7 | exact at8 | exact at9); intro ws H' _ _; replace H := H'; clear H'; simp only [List.set_cons_zero, List.set_cons_succ] at H; go_simp))
  exact bodyPost_ret (own_result_slot 3 rowSc rfl _ H rfl rfl rfl) rfl ⟨rfl, H.out.bel⟩
set_option maxRecDepth 8000 in
set_option maxHeartbeats 3200000 in
theorem decode_over (a : Option Addr) (n c x : Nat) (w : World) {r : Bool} (hT : Tl r w) (hn : n = 56 ∨ n = 57) (hs : Sb w w.heap.size a n c x) (hz : lN ≤ x % tN) :
    Calls Tryd.prog 11 #[.slice a n c] w fun e w' => e = .returned (.tuple #[W7 0, .int .i64 14]) ∧ Below w.heap.size w w' := by
  have HE : Hid (szE n 56 57 = 0) := Lib.hid (szE_ok (by omega) (by omega))
  have HN : Hid (n ≤ 128) := Lib.hid (by omega)
  have hn7 : n ≤ 57 := by omega
  have HU : Hid (V (cy (und (x % tN) lN)) = .int .u64 0) := Lib.hid (by unfold und; rw [if_neg (by omega)]; rfl)
  clear hz
  have HZ : Hid (x % tN < tN) := Lib.hid (Nat.mod_lt _ (by decide +kernel))
  have HW := Lib.hid (W7_mod x)
  have HS := Lib.hid hs
  have HT := Lib.hid hT
  clear hn hn7 hs hT
  have H := Lib.hid (Ow.start w)
  go_enter Tryd.func11, Tryd.ntmps11
  go_wp2_with (first
    | ((fail_if_success have := g2); (with_reducible apply own_alloc nilSc H); (case hgd => exact rfl); (case ho => exact rfl); intro w2 g2 H' _ _; replace H := H'; clear H'; go_simp)
    | ((with_reducible refine (sized_v 56 57 _).mono ?_); rintro e wc ⟨v, rfl, hq, hb⟩; obtain ⟨gf, gg, rfl, hf, hg⟩ := hq; have HQ1 := Lib.hid hf; have HQ2 := Lib.hid hg; replace H := Lib.hid (H.out.call hb); clear hb hf hg)
    | ((with_reducible refine (ask_v n c a gf gg 56 57 _ HQ1.out HQ2.out).mono ?_); rintro e wc ⟨rfl, rfl⟩; rw [HE.out])
    | ((with_reducible refine (read_v a n c x _ HN.out (HS.out.call H.out.bel)).mono ?_); rintro e wc ⟨rfl, hb⟩; replace H := Lib.hid (H.out.call hb); clear hb)
    | ((fail_if_success have := g5); (with_reducible apply own_alloc nil17 H); (case hgd => exact rfl); (case ho => exact rfl); intro w5 g5 H' _ _; replace H := H'; clear H'; go_simp)
    | ((with_reducible apply own_store row17 H); (case hgd => exact rfl); (case ho => exact rfl); (case hx => exact rfl); (case hy => exact rfl); (case hi => first | exact at0 | exact at1 | exact at2 | exact at3 | exact at4 | exact at5 | exact at6 | exact at7 | exact at8 | exact at9); intro ws H' _ _; replace H := H'; clear H'; simp only [List.set_cons_zero] at H; go_simp)
    | ((with_reducible apply own_load row17 H); (case hgd => exact rfl); (case ho => exact rfl); (case hx => exact rfl); (case hi => first | exact at0 | exact at1 | exact at2 | exact at3 | exact at4 | exact at5 | exact at6 | exact at7 | exact at8 | exact at9); intro _ _; go_simp)
    | ((with_reducible refine (first_v x _).mono ?_); rintro e wc ⟨rfl, hb⟩; replace H := Lib.hid (H.out.call hb); clear hb; rw [HW.out])
    | ((fail_if_success have := g6); (with_reducible apply own_alloc nil7 H); (case hgd => exact rfl); (case ho => exact rfl); intro w6 g6 H' _ _; replace H := H'; clear H'; go_simp)
    | ((with_reducible apply own_store row7 H); (case hgd => exact rfl); (case ho => exact rfl); (case hx => exact rfl); (case hy => exact rfl); (case hi => first | exact at0 | exact at1 | exact at2 | exact at3 | exact at4 | exact at5 | exact at6 | exact at7 | exact at8 | exact at9); intro ws H' _ _; replace H := H'; clear H'; simp only [List.set_cons_zero] at H; go_simp)
    | ((with_reducible apply own_load row7 H); (case hgd => exact rfl); (case ho => exact rfl); (case hx => exact rfl); (case hi => first | exact at0 | exact at1 | exact at2 | exact at3 | exact at4 | exact at5 | exact at6 | exact at7 | exact at8 | exact at9); intro _ _; go_simp)
    | ((with_reducible apply lay_load_ord (Lib.hid (HT.out.below H.out.bel))); (case hgd => exact rfl); (case ho => exact rfl); (case hx => exact rfl); intro _ _; go_simp)
    | ((with_reducible refine (slessen_v (x % tN) lN _ HZ.out lN_lt_t).mono ?_); rintro e wc ⟨rfl, hb⟩; replace H := Lib.hid (H.out.call hb); clear hb; rw [HU.out])
    | ((fail_if_success have := g7); (with_reducible apply own_alloc nil7 H); (case hgd => exact rfl); (case ho => exact rfl); intro w7 g7 H' _ _; replace H := H'; clear H'; go_simp)
    | ((with_reducible apply own_wordg oneU H); (case hw => exact rfl); (case ho => exact rfl); (case hx => exact rfl); (case hi => first | exact at0 | exact at1 | exact at2 | exact at3 | exact at4 | exact at5 | exact at6 | exact at7 | exact at8 | exact at9); (case hj => omega); intro _ _; go_simp)
    | ((with_reducible apply lay_build_S0); (case hgd => exact rfl); (case ho => exact rfl); intro _ _; go_simp)
    | ((with_reducible apply lay_build_S); (case hgd => exact rfl); (case ho => exact rfl); (case hx => exact rfl); intro _ _; go_simp)
    | ((with_reducible apply own_store rowSc H); (case hgd => exact rfl); (case ho => exact rfl); (case hx => exact rfl); (case hy => exact rfl); (case hi => first | exact at0 | exact at1 | exact at2 | exact at3 | exact at4 | exact at5 | exact at6 | exact at7 | exact at8 | exact at9); intro ws H' _ _; replace H := H'; clear H'; simp only [List.set_cons_zero, List.set_cons_succ] at H; go_simp))
  exact bodyPost_ret (own_result_slot 3 rowSc rfl _ H rfl rfl rfl) rfl ⟨rfl, H.out.bel⟩
theorem decode_none (a : Option Addr) (n c x : Nat) (w : World) {r : Bool} (hT : Tl r w) (hn : n = 56 ∨ n = 57) (hs : Sb w w.heap.size a n c x) (hx : lN ≤ x) :
    Calls Tryd.prog 11 #[.slice a n c] w fun e w' => e = .returned (.tuple #[W7 0, .int .i64 14]) ∧ Below w.heap.size w w' := by
  by_cases hz : x % tN < lN
  · exact decode_far a n c x w hT hn hs hx hz
  · exact decode_over a n c x w hT hn hs (by omega)
end Go.Proofs.YtocjncflgbnglaaDoor

/-
  The contract of scalar.Clamp. No statement is proved here: lemmas for the walks.
-/
namespace Go.Proofs.YtocjncflgbnglaaDoor
open Go.RowKit

/-- What Clamp makes of bytes. -/
def clF (f : Nat → BitVec 8) : Nat → BitVec 8 := upd8 (fun i => if i < 55 then f i else if i = 55 then f 55 ||| 128 else 0) 0 (f 0 &&& ~~~3)
theorem clF_over (f : Nat → BitVec 8) (j : Nat) (h : 56 ≤ j) : clF f j = 0 := by
  unfold clF upd8
  rw [if_neg (by omega)]
  show (if j < 55 then f j else if j = 55 then f 55 ||| 128 else 0) = 0
  rw [if_neg (by omega), if_neg (by omega)]
@[go_sem] theorem u8_andNot3 (a : BitVec 8) : bits .andNot .u8 (U8 a) 3 = U8 (a &&& ~~~3) := by
  revert a
  decide +kernel
@[go_sem] theorem u8_or128 (a : BitVec 8) : bits .or .u8 (U8 a) 128 = U8 (a ||| 128) := by
  revert a
  decide +kernel
section
variable {w w0 : World} {l : List (Nat × Obj)}
/-- Noughts are appended to a row that has nothing but noughts behind. -/
theorem own_more {g n m cap N : Nat} {f : Nat → BitVec 8} (H : Ow w0 w l) (i : Nat) (hi : l[i]? = some (g, YB N f)) (hn : n ≤ N) (hc : N = cap) (h0 : ∀ j, n ≤ j → f j = 0) (hl : n + m ≤ 1000000) (hm : m ≤ 1) (ty : TypeId) :
    ∃ a' c' w', (Builtin.append_ #[22, 3] ty #[.slice (some ⟨g, 0, none⟩) n cap, .int .i64 (m : Int)]).run Tryd.prog w = .ok (.slice a' (n + m) c') w' ∧ Sl w' w'.heap.size a' (n + m) c' f ∧ Below w0.heap.size w0 w' := by
  subst hc
  by_cases hr : n + m ≤ N
  · obtain ⟨ie, hie, hz, hs1, hb⟩ := info_u8
    rcases (by omega : m = 0 ∨ m = 1) with rfl | rfl
    · refine ⟨some ⟨g, 0, none⟩, N, w, ?_, H.slb i hi hr hr, H.bel⟩
      have hw : IntKind.i64.wrap 0 = 0 := by rw [IntKind.wrap_i64]; rfl
      simp [Builtin.append_, run_underlying Tryd.underlying22, run_underlying Tryd.underlying3, sizeOf, typeInfo, hie, hb, asInt, asIntOf, hw, hn, storeCells]
    · have hrow : w.heap[g]? = some (.cells (AZ .u8 N (UB f)) 5) := H.row i hi
      have hst := run_storeCells_at Tryd.prog g n 5 [.int .u8 0] 0 (AZ .u8 N (UB f)) w hrow (by rw [AZ_size]; simp; omega) (fun v hv => by simp at hv; subst hv; rfl)
      have e : ((AZ .u8 N (UB f)).toList.take (n + 0) ++ [Value.int .u8 0] ++ (AZ .u8 N (UB f)).toList.drop (n + 0 + 1)).toArray = AZ .u8 N (UB f) := by
        have h1 := AZ_mid .u8 N (UB f) (fun _ => 0) n 1 (by omega)
        rw [AZ_single, layZ_one] at h1
        rw [Nat.add_zero, h1]
        refine AZ_congr fun j _ => ?_
        unfold updZ
        by_cases hj : j = n
        · rw [if_pos hj]; subst hj; unfold UB; rw [h0 _ (Nat.le_refl _)]; rfl
        · rw [if_neg hj]
      rw [show ([Value.int .u8 0] : List Value).length = 1 from rfl, e] at hst
      have hO := H.setRow i hi (UB f)
      have hw : IntKind.i64.wrap 1 = 1 := by rw [IntKind.wrap_i64]; rfl
      refine ⟨some ⟨g, 0, none⟩, N, w.setRow g (AZ .u8 N (UB f)), ?_, hO.slb i (set_at hi) hr hr, hO.bel⟩
      have hz1 : Builtin.zeroCells (Value.int .u8 0).cells 1 = #[.int .u8 0] := by
        apply Array.ext_getElem?
        intro j
        rw [zeros_at _ rfl]
        rcases j with _ | j <;> simp
      simp [Builtin.append_, run_underlying Tryd.underlying22, run_underlying Tryd.underlying3, sizeOf, typeInfo, zeroValue, hie, hz, hs1, hb, asInt, asIntOf, hw, hr, hz1, Addr.add_mid, hst]
  · obtain ⟨cap', hcap, hrun⟩ := run_zeros (H.slb i hi hn (by omega)) h0 (by omega) (by omega) hl ty (m := m)
    exact ⟨_, _, _, hrun, (H.grew _).slb 0 rfl hcap hcap, (H.grew _).bel⟩
end
section
variable {ops : Array Oper} {rest : List Oper} {o : Oper} {a : Act} {w w0 : World} {l : List (Nat × Obj)} {Q : Exit → Act → World → Prop}
theorem lay_more {i : Nat} (H : Hid (Ow w0 w l)) (hgd : o.guard = none) {s x : Operand} (ho : o.op = .call { callee := .builtin .append, args := #[s, x], argTypes := #[22, 3] }) {g n m N : Nat} (hs : a.eval s = .slice (some ⟨g, 0, none⟩) n N) (hx : a.eval x = .int .i64 (m : Int))
    {f : Nat → BitVec 8} (hi : l[i]? = some (g, YB N f)) (hn : n ≤ N) (h0 : ∀ j, n ≤ j → f j = 0) {M : Nat} (hM : n + m = M) (hl : M ≤ 1000000) (hm : m ≤ 1)
    (h : ∀ w' a' c', Hid (Sl w' w'.heap.size a' M c' f) → Hid (Below w0.heap.size w0 w') → ∀ K : Act → World → Prop, (∀ a w, wpList Tryd.prog ops Q rest a w → K a w) → K (a.put o.dst (.slice a' M c')) w') : wpList Tryd.prog ops Q (o :: rest) a w :=
  wpList_plain hgd fun K hK => by
    subst hM
    obtain ⟨a', c', w', hr, h1, h2⟩ := own_more H.out i hi hn rfl h0 hl hm o.type
    exact Lib.wp_append_run w s x _ _ ho _ _ hs hx _ _ hr (h _ _ _ (Lib.hid h1) (Lib.hid h2) K hK)
end
section
variable {o : Oper} {a : Act} {w w0 : World} {l : List (Nat × Obj)} {K : Act → World → Prop} {Q : Exit → Act → World → Prop}
/-- A slice of one byte is made; a row grows by it. -/
theorem own_wp_byteU (dd : Tmp) (hd : o.dst = some dd) {v : BitVec 8} (H : Ow w0 w l) {x : Operand} (ho : o.op = .buildSlice 22 1 #[(0, x)]) (hx : a.eval x = U v)
    (h : ∀ w' g, Ow w0 w' ((g, YB 1 fun _ => v) :: l) → Below w.heap.size w w' → K (a.put (some dd) (.slice (some ⟨g, 0, none⟩) 1 1)) w') : o.wp Tryd.prog a w K Q := by
  obtain ⟨i, hi, hz, hs, _⟩ := info_u8
  refine Go.wp_buildSlice 22 5 1 _ ho #[U v] i _ Tryd.underlying22 hi hz (by rw [hs]; decide) (by rw [hs]; decide) (by rw [hs]; simp [Instr.fill, hx, Array.range, Value.cells]; exact Array.ext (by simp) (fun j h1 h2 => by obtain rfl : j = 0 := (by simpa using h2); simp)) ?_
  rw [hd]
  have e : (#[U v] : Array Value) = AZ .u8 1 (UB fun _ => v) := by
    apply Array.ext_getElem?
    intro j
    rcases j with _ | j
    · rw [AZ_get _ _ _ _ (by omega)]; rfl
    · rw [Array.getElem?_eq_none (by simp), Array.getElem?_eq_none (by rw [AZ_size]; omega)]
  rw [e]
  exact h _ _ (H.alloc _) (below_alloc _ _)
theorem own_wp_grew (dd : Tmp) (hd : o.dst = some dd) {f : Nat → BitVec 8} {n N : Nat} (hN : n + 1 = N) (H : Ow w0 w l) {s x : Operand} (ho : o.op = .call { callee := .builtin .append, args := #[s, x], argTypes := #[22, 22] }) {b ob b' c' : Nat} (hs : a.eval s = .slice (some ⟨b, ob, none⟩) n n) (hx : a.eval x = .slice (some ⟨b', 0, none⟩) 1 c')
    (hn : ∀ j, j < n → w.cell? ⟨b, ob + j, none⟩ = some (.int .u8 (UB f j))) (hm : ∀ j, j < 1 → w.cell? ⟨b', 0 + j, none⟩ = some (.int .u8 (UB f (n + j)))) (h0 : ∀ j, n + 1 ≤ j → f j = 0) (hl : N ≤ 1000000)
    (h : ∀ w' g cap, N ≤ cap → Ow w0 w' ((g, YB cap f) :: l) → Below w.heap.size w w' → K (a.put (some dd) (.slice (some ⟨g, 0, none⟩) N cap)) w') : o.wp Tryd.prog a w K Q := by
  subst hN
  obtain ⟨cap, hcap, hr⟩ := run_grown (w := w) Tryd.underlying22 info_b hn hm (fun j hj => by show U8 (f j) = 0; rw [h0 j hj]; rfl) (Nat.lt_succ_self n) hl o.type
  rw [← hd] at h
  exact Lib.wp_append_run w s x _ _ ho _ _ hs hx _ _ hr (h _ _ cap hcap (H.grew _) ((Below.drew (Below.refl _ _)).alloc (Nat.le_refl _) _))
end
set_option maxRecDepth 8000 in
set_option maxHeartbeats 3200000 in
theorem clamp_bad (a : Option Addr) (n c : Nat) (w : World) (hn : n ≠ 56) (hn2 : n ≠ 57) :
    Calls Tryd.prog 36 #[.slice a n c] w fun e w' => e = .returned (.tuple #[.slice none 0 0, .int .i64 11]) ∧ Below w.heap.size w w' := by
  have HE : Hid (szE n 56 57 = 11) := Lib.hid (szE_bad (by omega))
  clear hn hn2
  have H := Lib.hid (Ow.start w)
  go_enter Tryd.func36, Tryd.ntmps36
  go_wp2_with (first
    | ((with_reducible refine (sized_v 56 57 _).mono ?_); rintro e wc ⟨v, rfl, hq, hb⟩; obtain ⟨gf, gg, rfl, hf, hg⟩ := hq; have HQ1 := Lib.hid hf; have HQ2 := Lib.hid hg; replace H := Lib.hid (H.out.call hb); clear hb hf hg)
    | ((with_reducible refine (ask_v n c a gf gg 56 57 _ HQ1.out HQ2.out).mono ?_); rintro e wc ⟨rfl, rfl⟩; rw [HE.out]))
  go_ret2
  exact ⟨rfl, H.out.bel⟩
set_option maxRecDepth 8000 in
set_option maxHeartbeats 3200000 in
theorem clamp_ok (a : Option Addr) (n c : Nat) (f : Nat → BitVec 8) (w : World) (hn : n = 56 ∨ n = 57) (hs : Sl w w.heap.size a n c f) :
    Calls Tryd.prog 36 #[.slice a n c] w fun e w' => ∃ a' c', e = .returned (.tuple #[.slice a' n c', .int .i64 0]) ∧ Sl w' w'.heap.size a' n c' (clF f) ∧ Below w.heap.size w w' := by
  have HE : Hid (szE n 56 57 = 0) := Lib.hid (szE_ok (by omega) (by omega))
  obtain ⟨b, o, rfl, hb, hc⟩ : ∃ b o, a = some ⟨b, o, none⟩ ∧ b < w.heap.size ∧ ∀ j, j < n → w.cell? ⟨b, o + j, none⟩ = some (U (f j)) := by
    obtain ⟨b, o, e, hb, _⟩ := hs.get 0 (by omega)
    refine ⟨b, o, e, hb, fun j hj => ?_⟩
    obtain ⟨b', o', e', _, h⟩ := hs.get j hj
    rw [e] at e'
    cases e'
    exact h
  have hle := hs.le
  have Hb := Lib.hid hb
  have HC := Lib.hid hc
  have n55 : (55 : Int) < (n : Int) := by omega
  have n55' : (55 : Int) ≤ (n : Int) := by omega
  have c55 : (55 : Int) ≤ (c : Int) := by omega
  obtain ⟨m, hm⟩ : ∃ m, 56 + m = n := ⟨n - 56, by omega⟩
  have e1 : (n : Int) - 56 = (m : Int) := by omega
  have k55 : 55 < n := by omega
  have k0 : ∀ j, j < 55 → j < n := fun j hj => by omega
  have hm1 : m ≤ 1 := by omega
  have HM := Lib.hid hm
  have hl : n ≤ 1000000 := by omega
  clear hb hc hs hle hn hm
  have H := Lib.hid (Ow.start w)
  go_enter Tryd.func36, Tryd.ntmps36
  go_wp2_with (first
    | ((with_reducible refine (sized_v 56 57 _).mono ?_); rintro e wc ⟨v, rfl, hq, hb⟩; obtain ⟨gf, gg, rfl, hf, hg⟩ := hq; have HQ1 := Lib.hid hf; have HQ2 := Lib.hid hg; replace H := Lib.hid (H.out.call hb); clear hb hf hg)
    | ((with_reducible refine (ask_v n c _ gf gg 56 57 _ HQ1.out HQ2.out).mono ?_); rintro e wc ⟨rfl, rfl⟩; rw [HE.out]))
  refine wp_region_noPanic ?_
  refine wp_region_held_drew (S := fun W => W.cell? ⟨b, o + 55, none⟩ = some (U (f 55))) (by kernel_rfl) ((H.out.drew.bel.cell (p := ⟨b, o + 55, none⟩) Hb.out).trans (HC.out 55 k55)) (fun hH => ?_)
  replace H := Lib.hid H.out.drew
  generalize World.drew _ = w8 at *
  refine held_value 0 12 (.slice (some ⟨b, o, none⟩) n c) rfl rfl (by kernel_rfl) (by kernel_rfl) (by kernel_rfl) rfl hH (fun w hw => by go_simp) ?_
  try simp only [Act.put, List.setIfInBounds_toArray, List.set_cons_zero, List.set_cons_succ]
  refine held_value 1 13 (.slice (some ⟨b, o, none⟩) 55 55) rfl rfl (by kernel_rfl) (by kernel_rfl) (by kernel_rfl) rfl hH (fun w hw => by go_simp) ?_
  try simp only [Act.put, List.setIfInBounds_toArray, List.set_cons_zero, List.set_cons_succ]
  refine held_value 2 14 (.slice (some ⟨b, o, none⟩) n c) rfl rfl (by kernel_rfl) (by kernel_rfl) (by kernel_rfl) rfl hH (fun w hw => by go_simp) ?_
  try simp only [Act.put, List.setIfInBounds_toArray, List.set_cons_zero, List.set_cons_succ]
  refine held_value 3 15 (.pointer (some ⟨b, o + 55, none⟩)) rfl rfl (by kernel_rfl) (by kernel_rfl) (by kernel_rfl) rfl hH (fun w hw => by go_simp) ?_
  try simp only [Act.put, List.setIfInBounds_toArray, List.set_cons_zero, List.set_cons_succ]
  refine held_value 4 16 (U (f 55)) rfl rfl (by kernel_rfl) (by kernel_rfl) (by kernel_rfl) rfl hH (fun w hw => by go_simp) ?_
  try simp only [Act.put, List.setIfInBounds_toArray, List.set_cons_zero, List.set_cons_succ]
  refine held_value 5 17 (U (f 55 ||| 128)) rfl rfl (by kernel_rfl) (by kernel_rfl) (by kernel_rfl) rfl hH (fun w hw => by go_simp) ?_
  try simp only [Act.put, List.setIfInBounds_toArray, List.set_cons_zero, List.set_cons_succ]
  refine wpAnyH_ready (rs := [6]) (by kernel_rfl) (by simp) ?_
  refine AllReadyH.cons (o := _) rfl (fun K hK => ?_) AllReadyH.nil
  refine own_wp_byteU 18 rfl (v := f 55 ||| 128) H.out rfl rfl ?_
  intro wb gb H3 hb
  have hN := (hb.cell (p := ⟨b, o + 55, none⟩) (block_lt_of_cell hH)).trans hH
  replace H := Lib.hid H3
  refine hK.out _ _ hN (fun hN => ?_)
  clear hK K hH H3 hb
  have hH := hN
  clear hN
  try simp only [Act.put, List.setIfInBounds_toArray, List.set_cons_zero, List.set_cons_succ]
  refine wpAnyH_ready (rs := [7]) (by kernel_rfl) (by simp) ?_
  refine AllReadyH.cons (o := _) rfl (fun K hK => ?_) AllReadyH.nil
  refine own_wp_grew 19 rfl (f := fun i => if i < 55 then f i else if i = 55 then f 55 ||| 128 else 0) (n := 55) (N := 56) rfl H.out rfl rfl rfl (fun j hj => ?_) (fun j hj => ?_) (fun j hj => ?_) (by omega) ?_
  · refine ((H.out.bel.cell (p := ⟨b, o + j, none⟩) Hb.out).trans (HC.out j (k0 j hj))).trans ?_
    show some (Value.int .u8 (U8 (f j))) = some (Value.int .u8 (U8 (if j < 55 then f j else _)))
    rw [if_pos hj]
  · obtain rfl : j = 0 := Nat.lt_one_iff.1 hj
    rw [Nat.zero_add]
    exact H.out.cell 0 rfl 0 (by omega)
  · show (if j < 55 then f j else if j = 55 then f 55 ||| 128 else 0) = 0
    rw [if_neg (by omega), if_neg (by omega)]
  intro wz gz cap hcap H3 hb
  have hN := (hb.cell (p := ⟨b, o + 55, none⟩) (block_lt_of_cell hH)).trans hH
  replace H := Lib.hid H3
  have HCap := Lib.hid hcap
  refine hK.out _ _ hN (fun hN => ?_)
  clear hK K hH H3 hb hcap
  have hH := hN
  clear hN
  try simp only [Act.put, List.setIfInBounds_toArray, List.set_cons_zero, List.set_cons_succ]
  refine held_value 8 5 (.slice (some ⟨gz, 0, none⟩) 56 cap) rfl rfl (by kernel_rfl) (by kernel_rfl) (by kernel_rfl) rfl hH (fun w hw => by go_simp) ?_
  try simp only [Act.put, List.setIfInBounds_toArray, List.set_cons_zero, List.set_cons_succ]
  try simp only [Act.put]
  refine wpAnyH_done (by kernel_rfl) ?_ _
  refine NoPanic.normal ?_
  clear hH
  go_wp2_with (first
    | ((with_reducible apply own_getb H); (case hgd => exact rfl); (case ho => exact rfl); (case hx => exact rfl); (case hi => first | exact at0 | exact at1 | exact at2 | exact at3 | exact at4 | exact at5 | exact at6 | exact at7 | exact at8 | exact at9); (case hj => have := HCap.out; omega); intro _ _; go_simp)
    | ((with_reducible apply own_putb (v := f 0 &&& ~~~3) H); (case hgd => exact rfl); (case ho => exact rfl); (case hx => exact rfl); (case hy => exact rfl); (case hi => first | exact at0 | exact at1 | exact at2 | exact at3 | exact at4 | exact at5 | exact at6 | exact at7 | exact at8 | exact at9); (case hj => have := HCap.out; omega); intro ws H' _ _; replace H := H'; clear H'; simp only [List.set_cons_zero] at H; go_simp)
    | ((with_reducible apply lay_more (f := clF f) (n := 56) (m := m) (M := n) H); (case hgd => exact rfl); (case ho => exact rfl); (case hs => exact rfl); (case hx => exact rfl); (case hi => exact at0); (case hn => exact HCap.out); (case h0 => exact clF_over f); (case hM => exact HM.out); (case hl => exact hl); (case hm => exact hm1); intro wm am cm HS2 HB2 _ _; go_simp))
  go_ret2
  exact ⟨_, _, rfl, HS2.out, HB2.out⟩
end Go.Proofs.YtocjncflgbnglaaDoor
