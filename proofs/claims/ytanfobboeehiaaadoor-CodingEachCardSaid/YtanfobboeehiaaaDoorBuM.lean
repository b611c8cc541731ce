/-
  Lemmas for the walks, several texts in one. No statement is proved here.
-/
import Derived.Test.YtanfobboeehiaaaDoorZClAwake
import Derived.Test.YtanfobboeehiaaaDoorBuC
import Derived.Deep.CutRange
/-
  A byte appended to a row of bytes, whether there is room or not: what was there is there still. No statement is proved here: lemmas for the walks.
-/
namespace Go.Proofs.YtanfobboeehiaaaDoor
open Go.RowKit

theorem jn_at {n x j : Nat} {v : BitVec 8} (hx : x < 2 ^ (8 * n)) (hj : j < n + 1) : bt (jn n v x) j = if j < n then bt x j else v := by
  split
  · exact jn_low (by assumption)
  · obtain rfl : j = n := by omega
    exact jn_top hx
theorem set_self {α : Type} {l : List α} {i : Nat} {x : α} (h : l[i]? = some x) : l.set i x = l := by
  apply List.ext_getElem?
  intro j
  rw [List.getElem?_set]
  by_cases e : i = j
  · subst e
    have hlt := (List.getElem?_eq_some_iff.1 h).1
    rw [if_pos rfl, if_pos hlt, h]
  · rw [if_neg e]
section
variable {w w0 : World} {l : List (Nat × Obj)}
theorem run_put1 {g n cap x i : Nat} {f : Nat → BitVec 8} {v : BitVec 8} {c' : Nat} (H : Ow w0 w l) (hi : l[i]? = some (g, YB cap f)) (hf : ∀ j, j < n → f j = bt x j) (hc : n ≤ cap) (hx : x < 2 ^ (8 * n)) (hn : n ≤ 1000) (ty : TypeId) :
    ∃ a' k w' f', (Builtin.append_ #[34, 34] ty #[.slice (some ⟨g, 0, none⟩) n cap, .slice (some ⟨w.heap.size, 0, none⟩) 1 c']).run Tryd.prog (w.alloc (.cells #[U v] 5)) = .ok (.slice a' (n + 1) k) w' ∧
      (∀ j, j < n → f' j = bt x j) ∧ Ow w0 w' (l.set i (g, YB cap f')) ∧ Sb w' w'.heap.size a' (n + 1) k (jn n v x) := by
  have HA := H.alloc (.cells #[U v] 5)
  have hi' : ((w.heap.size, Obj.cells #[U v] 5) :: l)[i + 1]? = some (g, YB cap f) := hi
  have hjx : jn n v x < 2 ^ (8 * (n + 1)) := jn_lt hx rfl
  have hnew : ∀ j u, [U v][j]? = some u → (w.alloc (.cells #[U v] 5)).cell? ((⟨w.heap.size, 0, none⟩ : Addr).add j) = some u := fun j u hu => by
    obtain rfl : j = 0 := by
      rcases j with _ | j
      · rfl
      · simp at hu
    simp at hu
    subst hu
    rw [Addr.add_mid]
    simp
  have h1 : ∀ u ∈ [U v], u.oneCell' = true := fun u hu => by
    obtain rfl := List.mem_singleton.1 hu
    rfl
  obtain ⟨ie, hie, hz, hs1, hb⟩ := info_u8
  by_cases hr : n + 1 ≤ cap
  · have hrow : (w.alloc (.cells #[U v] 5)).heap[g]? = some (.cells (AZ .u8 cap (UB f)) 5) := HA.row _ hi'
    have hrun := run_append_room (P := Tryd.prog) (w := w.alloc (.cells #[U v] 5)) 34 ty 5 ie Tryd.underlying34 hie g n cap _ hrow ⟨w.heap.size, 0, none⟩ 1 c' [U v] (by rw [hs1]; rfl) hnew h1 hr (by rw [hs1, AZ_size]; simpa using hr)
    have e : ((AZ .u8 cap (UB f)).toList.take (n * ie.size) ++ [U v] ++ (AZ .u8 cap (UB f)).toList.drop (n * ie.size + [U v].length)).toArray = AZ .u8 cap (UB (upd8 f n v)) := by
      have h2 := AZ_mid .u8 cap (UB f) (fun _ => U8 v) n 1 (by omega)
      rw [AZ_single, layZ_one, UB_upd] at h2
      rw [hs1, Nat.mul_one]
      exact h2
    rw [e] at hrun
    have hO := HA.setRow (i + 1) hi' (UB (upd8 f n v))
    refine ⟨_, _, _, upd8 f n v, hrun, fun j hj => ?_, hO.pop, ⟨(hO.slb (i + 1) (set_at hi') hr hr).congr fun j hj => ?_, hjx⟩⟩
    · unfold upd8
      rw [if_neg (by omega)]
      exact hf j hj
    · rw [jn_at hx hj]
      unfold upd8
      by_cases e2 : j = n
      · rw [if_pos e2, if_neg (by omega)]
      · rw [if_neg e2, if_pos (by omega)]
        exact hf j (by omega)
  · have hcn : ∀ j, j < n → (w.alloc (.cells #[U v] 5)).cell? ⟨g, 0 + j, none⟩ = some (.int .u8 (UB (bt (jn n v x)) j)) := fun j hj => by
      rw [Nat.zero_add]
      have h2 := HA.cell _ hi' j (by omega)
      rw [h2]
      unfold UB
      rw [hf j hj, jn_low hj]
    have hcm : ∀ j, j < 1 → (w.alloc (.cells #[U v] 5)).cell? ⟨w.heap.size, 0 + j, none⟩ = some (.int .u8 (UB (bt (jn n v x)) (n + j))) := fun j hj => by
      obtain rfl : j = 0 := by omega
      unfold UB
      rw [show n + 0 = n from rfl, jn_top hx]
      simp
    obtain ⟨k, hk, hrun⟩ := run_grown (w := w.alloc (.cells #[U v] 5)) (f := UB (bt (jn n v x))) (m := 1) (c := cap) (c' := c') Tryd.underlying34 info_b hcn hcm (fun j hj => by show U8 (bt (jn n v x) j) = 0; rw [bt_over hjx hj]; rfl) (by omega) (by omega) ty
    have hO := HA.grew (YB k (bt (jn n v x)))
    refine ⟨_, _, _, f, hrun, hf, ?_, ⟨hO.slb 0 rfl hk hk, hjx⟩⟩
    rw [set_self hi]
    exact hO.pop.pop
end
section
variable {ops : Array Oper} {rest : List Oper} {o : Oper} {a : Act} {w w0 : World} {l : List (Nat × Obj)} {Q : Exit → Act → World → Prop}
/-- A byte is appended, out of a literal of one. -/
theorem own_put1 {i : Nat} {x N M : Nat} {z : Int} (v : BitVec 8) (H : Hid (Ow w0 w l)) (hgd : o.guard = none) {s y : Operand} (ho : o.op = .call { callee := .builtin .append, args := #[s, y], argTypes := #[34, 34] })
    {g n cap c' : Nat} (hs : a.eval s = .slice (some ⟨g, 0, none⟩) n cap) (hy : a.eval y = .slice (some ⟨w.heap.size, 0, none⟩) 1 c') {f : Nat → BitVec 8} (hi : l[i]? = some (g, YB cap f)) (hz : U v = .int .u8 z) (hf : ∀ j, j < n → f j = bt x j) (hc : n ≤ cap) (hx : x < 2 ^ (8 * n)) (hn : n ≤ 1000) (hM : n + 1 = M) (hN : jn n v x = N)
    (h : ∀ w' f' a' k, Hid (∀ j, j < n → f' j = bt x j) → Hid (Ow w0 w' (l.set i (g, YB cap f'))) → Hid (Sb w' w'.heap.size a' M k N) → ∀ K : Act → World → Prop, (∀ a w, wpList Tryd.prog ops Q rest a w → K a w) → K (a.put o.dst (.slice a' M k)) w') :
    wpList Tryd.prog ops Q (o :: rest) a (w.alloc (.cells #[.int .u8 z] 5)) :=
  wpList_plain hgd fun K hK => by
    subst hN hM
    rw [← hz]
    obtain ⟨a', k, w', f', hr, h1, h2, h3⟩ := run_put1 (v := v) (c' := c') H.out hi hf hc hx hn o.type
    exact Lib.wp_append_run _ s y _ _ ho _ _ hs hy _ _ hr (h _ _ _ _ (Lib.hid h1) (Lib.hid h2) (Lib.hid h3) K hK)
/-- Onto nil is appended: the new row, to the last cell. -/
theorem own_new (H : Hid (Ow w0 w l)) (hgd : o.guard = none) {s x : Operand} (ho : o.op = .call { callee := .builtin .append, args := #[s, x], argTypes := #[34, 34] }) (hs : a.eval s = .slice none 0 0) {ad : Option Addr} {n c : Nat} (hx : a.eval x = .slice ad n c)
    {f : Nat → BitVec 8} (hS : Sl w w.heap.size ad n c f) (h0 : ∀ j, n ≤ j → f j = 0) (hn : 0 < n) (hl : n ≤ 1000000)
    (h : ∀ w' g cap, Hid (n ≤ cap) → Hid (Ow w0 w' ((g, YB cap f) :: l)) → ∀ K : Act → World → Prop, (∀ a w, wpList Tryd.prog ops Q rest a w → K a w) → K (a.put o.dst (.slice (some ⟨g, 0, none⟩) n cap)) w') : wpList Tryd.prog ops Q (o :: rest) a w :=
  wpList_plain hgd fun K hK => by
    obtain ⟨i, hi, hz, hs1, hb⟩ := info_u8
    obtain ⟨b, off, rfl, _, _⟩ := hS.get 0 hn
    have hg2 := grownCap_ge w n 0 5
    have hcell : ∀ j, j < n → w.cell? ⟨b, off + j, none⟩ = some (.int .u8 (UB f j)) := fun j hj => by
      obtain ⟨b1, o1, e1, _, hc⟩ := hS.get j hj
      cases e1
      exact hc
    have hr := run_append_nil (P := Tryd.prog) w 34 o.type 5 i (.int .u8 0) Tryd.underlying34 hi hz ⟨b, off, none⟩ n c (AZ .u8 n (UB f)).toList (by rw [hs1, Nat.mul_one]; exact (AZ_list _ _ _).1) (list_cell hcell) hn (by omega) (by rw [hb]; omega)
    have e := AZ_grown (k := .u8) (f := UB f) (n := 0) (m := n) (cap := grownCap w n 0 5) (z := .int .u8 0) rfl rfl [] (AZ .u8 n (UB f)).toList rfl (AZ_list _ _ _).1 (fun j hj => absurd hj (by omega)) (fun j hj => by rw [Nat.zero_add]; exact (AZ_list _ n _).2 j hj) (fun j hj => by unfold UB; rw [h0 j (by omega)]; rfl) (by omega)
    rw [Nat.zero_add, show ([] : List Value).toArray = #[] from rfl, Array.empty_append] at e
    rw [e] at hr
    exact Lib.wp_append_run w s x _ _ ho _ _ hs hx _ _ hr (h _ _ _ (Lib.hid hg2) (Lib.hid (H.out.grew _)) K hK)
end
end Go.Proofs.YtanfobboeehiaaaDoor

/-
  The walk of CodingEach: what is known of its bytes. No statement is proved here: lemmas for the walks.
-/
namespace Go.Proofs.YtanfobboeehiaaaDoor
open Go.RowKit

section
variable {x : Nat} {v : BitVec 8} {y : K}
theorem each_high (hx : x < 2 ^ (8 * 56)) (h : pN ≤ x) (P : Pt pN dK) : jn 56 v x ≠ cdN P := fun e => by
  have h1 := (@jn_eq 56 x v _ _ hx (k_fits P.y) e).2
  rw [h1] at h
  exact absurd P.y.isLt (Nat.not_lt.2 h)
theorem each_none (hx : x < 2 ^ (8 * 56)) (hy : y.val = x) (h : cdIs y = false) (P : Pt pN dK) : jn 56 v x ≠ cdN P := fun e => by
  have h1 := (@jn_eq 56 x v _ _ hx (k_fits P.y) e).2
  have h2 : y = P.y := Fin.ext (hy.trans h1)
  rw [h2, cdIs_on] at h
  cases h
theorem each_last (hx : x < 2 ^ (8 * 56)) (h0 : v ≠ 0) (h1 : v ≠ 128) (P : Pt pN dK) : jn 56 v x ≠ cdN P := fun e => by
  have h2 := (@jn_eq 56 x v _ _ hx (k_fits P.y) e).1
  rcases sg_or P.x with ⟨_, h3⟩ | ⟨_, h3⟩ <;> rw [h3] at h2
  · exact h1 h2
  · exact h0 h2
theorem cdX_zero (y : K) : cdX y 0 = ab (cdQ y) := by
  unfold cdX
  rw [if_pos (by decide)]
theorem pE_on (h : cdIs y = true) : ab (cdQ y) * ab (cdQ y) + y * y = 1 + dK * (ab (cdQ y) * ab (cdQ y) * (y * y)) := by
  have h1 := cdX_curve h 0
  rw [cdX_zero] at h1
  exact h1
/-- The point of a y that has one. -/
def pE (h : cdIs y = true) : Pt pN dK := ⟨ab (cdQ y), y, pE_on h⟩
theorem pE_x (h : cdIs y = true) : (pE h).x = ab (cdQ y) := by simp only [pE]
theorem pE_y (h : cdIs y = true) : (pE h).y = y := by simp only [pE]
theorem pneg_x (P : Pt pN dK) : (pneg P).x = -P.x := rfl
theorem pneg_y (P : Pt pN dK) : (pneg P).y = P.y := rfl
theorem cdN_def (P : Pt pN dK) : cdN P = jn 56 (sg P.x) P.y.val := rfl
theorem each_on (hy : y.val = x) (h : cdIs y = true) : jn 56 0 x = cdN (pE h) := by
  rw [cdN_def, pE_x, pE_y, sg_even (ab_even pN_odd _), hy]
theorem each_neg (hy : y.val = x) (h : cdIs y = true) (h0 : ab (cdQ y) ≠ 0) : jn 56 128 x = cdN (pneg (pE h)) := by
  rw [cdN_def, pneg_x, pneg_y, pE_x, pE_y, sg_odd ((neg_odd pN_odd h0).2 (ab_even pN_odd _)), hy]
theorem each_zero (hx : x < 2 ^ (8 * 56)) (hy : y.val = x) (h : cdIs y = true) (h0 : ab (cdQ y) = 0) (P : Pt pN dK) : jn 56 128 x ≠ cdN P := fun e => by
  obtain ⟨h1, h2⟩ := @jn_eq 56 x 128 _ _ hx (k_fits P.y) e
  have h3 : P.y = (pE h).y := by
    rw [pE_y]
    exact Fin.ext (h2.symm.trans hy.symm)
  have h4 : P.x = 0 := by
    rcases cd_two P (pE h) h3 with e1 | e1
    · rw [e1, pE_x, h0]
    · rw [e1, pneg_x, pE_x, h0]
      decide +kernel
  rw [h4] at h1
  exact absurd h1 (by decide +kernel)
end
theorem half_sl {w : World} {g c x : Nat} {f : Nat → BitVec 8} (h : w.heap[g]? = some (YB c f)) (hc : 56 ≤ c) (hf : ∀ j, j < 56 → f j = bt x j) : Sl w w.heap.size (some ⟨g, 0, none⟩) 56 c (bt x) :=
  ⟨hc, (fun e => by cases e), fun ad e _ => ⟨g, 0, (Option.some.inj e).symm, lt_row h, fun i hi => by rw [Nat.zero_add, ← hf i hi]; exact (blk_rowB h).cell i (by omega)⟩⟩
theorem ratio_d {f g : Nat → Nat} {y : K} {b : Bool} (w : World) (hT : Tp w) (hf : EK f (cdU y)) (hg : EK g (cdV y)) (h : cdIs y = b) :
    Calls Tryd.prog 23 #[EV f, EV g] w fun e w' => ∃ h, e = .returned (.tuple #[EV h, .bool b]) ∧ EK h (ab (cdQ y)) ∧ Below w.heap.size w w' := h ▸ ratio_k w hT hf hg
theorem zero_ke {f : Nat → Nat} {a : K} {b : Bool} (w : World) (hf : EK f a) (h : decide (a = 0) = b) :
    Calls Tryd.prog 20 #[EV f] w fun e w' => e = .returned (.bool b) ∧ Below w.heap.size w w' := h ▸ zero_k w hf
theorem fdec_far {x : Nat} (hx : x < 2 ^ (8 * 56)) (h : pN ≤ x) : ∃ y : K, ∀ (w : World) (a : Option Addr) (c : Nat), Sl w w.heap.size a 56 c (bt x) →
    Calls Tryd.prog 21 #[.slice a 56 c] w fun e w' => ∃ g, e = .returned (.tuple #[EV g, .int .i64 12]) ∧ EK g y ∧ Below w.heap.size w w' := by
  obtain ⟨y, Er, h1, h2⟩ := fdec_k x
  rw [Nat.mod_eq_of_lt hx] at h1
  rcases h1 with ⟨_, h3⟩ | ⟨rfl, _⟩
  · have := y.isLt
    omega
  · exact ⟨y, h2⟩
theorem fdec_near {x : Nat} (hx : x < 2 ^ (8 * 56)) (h : x < pN) : ∃ y : K, y.val = x ∧ ∀ (w : World) (a : Option Addr) (c : Nat), Sl w w.heap.size a 56 c (bt x) →
    Calls Tryd.prog 21 #[.slice a 56 c] w fun e w' => ∃ g, e = .returned (.tuple #[EV g, .int .i64 0]) ∧ EK g y ∧ Below w.heap.size w w' := by
  obtain ⟨y, Er, h1, h2⟩ := fdec_k x
  rw [Nat.mod_eq_of_lt hx] at h1
  rcases h1 with ⟨rfl, h3⟩ | ⟨_, h3⟩
  · exact ⟨y, h3, h2⟩
  · omega
end Go.Proofs.YtanfobboeehiaaaDoor

/-
  The walk of CodingEach, in one case. No statement is proved here: lemmas for the walks.
-/
namespace Go.Proofs.YtanfobboeehiaaaDoor
open Go.RowKit

set_option maxRecDepth 20000 in
set_option maxHeartbeats 12800000 in
theorem each_walk_far {x n0 n64 n128 n129 : Nat} {y : K} (w : World) (hT : Tp w) (hx : x < 2 ^ (8 * 56)) (e0 : jn 56 0 x = n0) (e128 : jn 56 128 x = n128) (e64 : jn 56 64 x = n64) (e129 : jn 56 129 x = n129) (x0 : ∀ P, n0 ≠ cdN P) (x128 : ∀ P, n128 ≠ cdN P) (x64 : ∀ P, n64 ≠ cdN P) (x129 : ∀ P, n129 ≠ cdN P)
    (hD : ∀ (w : World) (a : Option Addr) (c : Nat), Sl w w.heap.size a 56 c (bt x) → Calls Tryd.prog 21 #[.slice a 56 c] w fun e w' => ∃ g, e = .returned (.tuple #[EV g, .int .i64 12]) ∧ EK g y ∧ Below w.heap.size w w') :
    Calls Tryd.prog 7 #[.agg (AZ .u8 56 (UB (bt x)))] w fun e w' => e = .returned (.bool true) ∧ Below w.heap.size w w' := by
  have H0 : Hid (∀ j, 56 ≤ j → bt x j = 0) := Lib.hid fun j hj => bt_over hx hj
  have HX := Lib.hid hx
  have N0 := Lib.hid e0
  have N128 := Lib.hid e128
  have N64 := Lib.hid e64
  have N129 := Lib.hid e129
  have X0 := Lib.hid x0
  have X128 := Lib.hid x128
  have X64 := Lib.hid x64
  have X129 := Lib.hid x129
  have HD := Lib.hid hD
  clear hx e0 e128 e64 e129 x0 x128 x64 x129 hD
  have HT := Lib.hid hT
  clear hT
  have H := Lib.hid (Ow.start w)
  go_enter Tryd.func7, Tryd.ntmps7
  go_wp2_with (first
    | ((fail_if_success have := g1); (with_reducible apply own_box H); (case hgd => exact rfl); (case ho => exact rfl); (case hx => exact rfl); intro w1 g1 H' _ _; replace H := H'; clear H'; go_simp)
    | ((fail_if_success have := g3); (with_reducible apply own_new H); (case hgd => exact rfl); (case ho => exact rfl); (case hs => exact rfl); (case hx => exact rfl); (case hS => exact rawSl (H.out.row 0 rfl)); (case h0 => exact H0.out); (case hn => omega); (case hl => omega); intro w3 g3 c3 LC H' _ _; replace H := H'; clear H'; have F := Lib.hid (fun j (_ : j < 56) => (rfl : bt x j = bt x j)); go_simp)
    | ((fail_if_success have := D0); (with_reducible apply own_put1 (M := 57) 0#8 H); (case hgd => exact rfl); (case ho => exact rfl); (case hs => exact rfl); (case hy => exact rfl); (case hi => first | exact at0 | exact at1 | exact at2 | exact at3 | exact at4 | exact at5 | exact at6 | exact at7 | exact at8 | exact at9); (case hz => exact rfl); (case hf => exact F.out); (case hc => exact LC.out); (case hx => exact HX.out); (case hn => omega); (case hM => exact rfl); (case hN => exact N0.out); intro wp fr ar kr hf2 H' hs2 _ _; replace F := hf2; replace H := H'; clear H' hf2; have D0 := trivial; have SB := hs2; clear hs2; simp only [List.set_cons_zero] at H; go_simp)
    | ((fail_if_success have := D128); (with_reducible apply own_put1 (M := 57) 128#8 H); (case hgd => exact rfl); (case ho => exact rfl); (case hs => exact rfl); (case hy => exact rfl); (case hi => first | exact at0 | exact at1 | exact at2 | exact at3 | exact at4 | exact at5 | exact at6 | exact at7 | exact at8 | exact at9); (case hz => exact rfl); (case hf => exact F.out); (case hc => exact LC.out); (case hx => exact HX.out); (case hn => omega); (case hM => exact rfl); (case hN => exact N128.out); intro wp fr ar kr hf2 H' hs2 _ _; replace F := hf2; replace H := H'; clear H' hf2; have D128 := trivial; have SB := hs2; clear hs2; simp only [List.set_cons_zero, List.set_cons_succ] at H; go_simp)
    | ((fail_if_success have := D64); (with_reducible apply own_put1 (M := 57) 64#8 H); (case hgd => exact rfl); (case ho => exact rfl); (case hs => exact rfl); (case hy => exact rfl); (case hi => first | exact at0 | exact at1 | exact at2 | exact at3 | exact at4 | exact at5 | exact at6 | exact at7 | exact at8 | exact at9); (case hz => exact rfl); (case hf => exact F.out); (case hc => exact LC.out); (case hx => exact HX.out); (case hn => omega); (case hM => exact rfl); (case hN => exact N64.out); intro wp fr ar kr hf2 H' hs2 _ _; replace F := hf2; replace H := H'; clear H' hf2; have D64 := trivial; have SB := hs2; clear hs2; simp only [List.set_cons_zero, List.set_cons_succ] at H; go_simp)
    | ((fail_if_success have := D129); (with_reducible apply own_put1 (M := 57) 129#8 H); (case hgd => exact rfl); (case ho => exact rfl); (case hs => exact rfl); (case hy => exact rfl); (case hi => first | exact at0 | exact at1 | exact at2 | exact at3 | exact at4 | exact at5 | exact at6 | exact at7 | exact at8 | exact at9); (case hz => exact rfl); (case hf => exact F.out); (case hc => exact LC.out); (case hx => exact HX.out); (case hn => omega); (case hM => exact rfl); (case hN => exact N129.out); intro wp fr ar kr hf2 H' hs2 _ _; replace F := hf2; replace H := H'; clear H' hf2; have D129 := trivial; have SB := hs2; clear hs2; simp only [List.set_cons_zero, List.set_cons_succ] at H; go_simp)
    | ((with_reducible refine (decode_off _ (HT.out.below H.out.bel) SB.out X0.out).mono ?_); rintro e wc ⟨rfl, hb⟩; replace H := Lib.hid (H.out.call hb); clear hb SB)
    | ((with_reducible refine (decode_off _ (HT.out.below H.out.bel) SB.out X128.out).mono ?_); rintro e wc ⟨rfl, hb⟩; replace H := Lib.hid (H.out.call hb); clear hb SB)
    | ((with_reducible refine (decode_off _ (HT.out.below H.out.bel) SB.out X64.out).mono ?_); rintro e wc ⟨rfl, hb⟩; replace H := Lib.hid (H.out.call hb); clear hb SB)
    | ((with_reducible refine (decode_off _ (HT.out.below H.out.bel) SB.out X129.out).mono ?_); rintro e wc ⟨rfl, hb⟩; replace H := Lib.hid (H.out.call hb); clear hb SB)
    | ((fail_if_success have := g4); (fail_if_success have := g4); (with_reducible apply own_alloc nilPt H); (case hgd => exact rfl); (case ho => exact rfl); intro w4 g4 H' _ _; replace H := H'; clear H'; go_simp)
    | ((fail_if_success have := g6); (fail_if_success have := g6); (with_reducible apply own_alloc nilPt H); (case hgd => exact rfl); (case ho => exact rfl); intro w6 g6 H' _ _; replace H := H'; clear H'; go_simp)
    | ((fail_if_success have := g8); (fail_if_success have := g8); (with_reducible apply own_alloc nilPt H); (case hgd => exact rfl); (case ho => exact rfl); intro w8 g8 H' _ _; replace H := H'; clear H'; go_simp)
    | ((fail_if_success have := g10); (fail_if_success have := g10); (with_reducible apply own_alloc nilPt H); (case hgd => exact rfl); (case ho => exact rfl); intro w10 g10 H' _ _; replace H := H'; clear H'; go_simp)
    | ((with_reducible apply own_store rowPt H); (case hgd => exact rfl); (case ho => exact rfl); (case hx => exact rfl); (case hy => exact rfl); (case hi => first | exact at0 | exact at1 | exact at2 | exact at3 | exact at4 | exact at5 | exact at6 | exact at7 | exact at8 | exact at9); intro ws H' _ _; replace H := H'; clear H'; simp only [List.set_cons_zero] at H; go_simp)
    | ((fail_if_success have := VY); (with_reducible refine (HD.out _ _ _ (half_sl (H.out.row 4 rfl) LC.out F.out)).mono ?_); rintro e wc ⟨fy, rfl, hv, hb⟩; replace H := Lib.hid (H.out.call hb); have VY := Lib.hid hv; clear hb hv)
    | ((fail_if_success have := g12); (fail_if_success have := g12); (with_reducible apply own_alloc nilE H); (case hgd => exact rfl); (case ho => exact rfl); intro w12 g12 H' _ _; replace H := H'; clear H'; go_simp)
    | ((with_reducible apply own_store rowE H); (case hgd => exact rfl); (case ho => exact rfl); (case hx => exact rfl); (case hy => exact rfl); (case hi => first | exact at0 | exact at1 | exact at2 | exact at3 | exact at4 | exact at5 | exact at6 | exact at7 | exact at8 | exact at9); intro ws H' _ _; replace H := H'; clear H'; simp only [List.set_cons_zero] at H; go_simp)
    | ((with_reducible refine (awake9_k _ (HT.out.below H.out.bel)).mono ?_); rintro e wc ⟨rfl, hb⟩; replace H := Lib.hid (H.out.call hb); clear hb))
  go_ret
  exact ⟨rfl, H.out.bel⟩
end Go.Proofs.YtanfobboeehiaaaDoor
