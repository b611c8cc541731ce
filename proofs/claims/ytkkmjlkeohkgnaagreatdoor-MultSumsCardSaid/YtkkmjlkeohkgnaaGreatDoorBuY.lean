/-
  Lemmas for the walks, several texts in one. No statement is proved here.
-/
import Derived.Test.YtkkmjlkeohkgnaaGreatDoorBuU
import Derived.Test.YtkkmjlkeohkgnaaGreatDoorBuW
import Derived.Deep.CutRange
import Derived.Test.YtkkmjlkeohkgnaaGreatDoorBuM
import Derived.Test.YtkkmjlkeohkgnaaGreatDoorZPutZ
/-
  The contracts of mult's Sum and Mult. No statement is proved here: lemmas for the walks.
-/
namespace Go.Proofs.YtkkmjlkeohkgnaaGreatDoor
open Go.RowKit

set_option maxRecDepth 8000 in
set_option maxHeartbeats 3200000 in
theorem sum_bad {a : Option Addr} {n c : Nat} {A : Nat → Option Addr} {N C : Nat → Nat} {V : Nat → Nat → Int} (w : World) (hT : Tp w) (h : Grid w w.heap.size a n c 25 (fun i => sci (.slice (A i) (N i) (C i)) (V i))) (hn : n ≤ 1000) (hb : ¬ (n ≤ 16 ∧ ∀ i, i < n → 1 ≤ N i ∧ N i ≤ 64)) :
    Calls Tryz.prog 22 #[.slice a n c] w fun e w' => ∃ r, e = .returned (.tuple #[PO r, .int .i64 11]) ∧ Below w.heap.size w w' := by
  have HF : Hid ((false = true) ↔ n ≤ 16 ∧ ∀ i, i < n → 1 ≤ N i ∧ N i ≤ 64) := Lib.hid ⟨(fun h => by cases h), fun h => absurd h hb⟩
  have HG := Lib.hid h
  have HN := Lib.hid hn
  clear h hb hn
  have HT := Lib.hid hT
  clear hT
  have H := Lib.hid (Ow.start w)
  go_enter Tryz.func22, Tryz.ntmps22
  go_wp2_with (first
    | ((fail_if_success have := g2); (fail_if_success have := g2); (with_reducible apply own_alloc nilPt H); (case hgd => exact rfl); (case ho => exact rfl); intro w2 g2 H' _ _; replace H := H'; clear H'; go_simp)
    | ((fail_if_success have := mkf); (with_reducible refine (fit_k _ (HG.out.call H.out.bel) HN.out HF.out).mono ?_); rintro e wc ⟨rfl, hb⟩; replace H := Lib.hid (H.out.call hb); have mkf := trivial; clear hb)
    | ((fail_if_success have := V0); (with_reducible refine (identity_k _ (HT.out.below H.out.bel)).mono ?_); rintro e wc ⟨k0, rfl, hv, hb⟩; replace H := Lib.hid (H.out.call hb); have V0 := Lib.hid hv; clear hb hv)
    | ((with_reducible apply own_store rowPt H); (case hgd => exact rfl); (case ho => exact rfl); (case hx => exact rfl); (case hy => exact rfl); (case hi => first | exact at0 | exact at1 | exact at2 | exact at3 | exact at4 | exact at5 | exact at6 | exact at7 | exact at8 | exact at9); intro ws H' _ _; replace H := H'; clear H'; simp only [List.set_cons_zero] at H; go_simp))
  exact bodyPost_ret (own_result_slot 0 rowPt rfl _ H rfl rfl rfl) rfl ⟨_, rfl, H.out.bel⟩
set_option maxRecDepth 8000 in
set_option maxHeartbeats 3200000 in
theorem sum_k {a : Option Addr} {n c : Nat} {A : Nat → Option Addr} {N C : Nat → Nat} {V : Nat → Nat → Int} {X : Nat → Nat} {P : Nat → Pt pN dK} (w : World) (hT : Tp w) (h : Grid w w.heap.size a n c 25 (fun i => sci (.slice (A i) (N i) (C i)) (V i))) (hn : n ≤ 16) (h1 : ∀ i, i < n → 1 ≤ N i ∧ N i ≤ 64) (hs : ∀ i, i < n → Sb w w.heap.size (A i) (N i) (C i) (X i)) (hp : ∀ i, i < n → PtK (V i) (P i)) :
    Calls Tryz.prog 22 #[.slice a n c] w fun e w' => ∃ r, e = .returned (.tuple #[PO r, .int .i64 0]) ∧ PtK r (tot (fun k => ((X k : Nat) : Int)) P n) ∧ Below w.heap.size w w' := by
  have HF : Hid ((true = true) ↔ n ≤ 16 ∧ ∀ i, i < n → 1 ≤ N i ∧ N i ≤ 64) := Lib.hid ⟨(fun _ => ⟨hn, h1⟩), fun _ => rfl⟩
  have HG := Lib.hid h
  have HN := Lib.hid hn
  have H1 := Lib.hid h1
  have HS := Lib.hid hs
  have HP := Lib.hid hp
  clear h h1 hs hp
  have HT := Lib.hid hT
  clear hT
  have H := Lib.hid (Ow.start w)
  go_enter Tryz.func22, Tryz.ntmps22
  go_wp2_with (first
    | ((fail_if_success have := g2); (fail_if_success have := g2); (with_reducible apply own_alloc nilPt H); (case hgd => exact rfl); (case ho => exact rfl); intro w2 g2 H' _ _; replace H := H'; clear H'; go_simp)
    | ((fail_if_success have := mkf); (with_reducible refine (fit_k _ (HG.out.call H.out.bel) (Nat.le_trans HN.out (by omega)) HF.out).mono ?_); rintro e wc ⟨rfl, hb⟩; replace H := Lib.hid (H.out.call hb); have mkf := trivial; clear hb)
    | ((fail_if_success have := g13); (with_reducible apply own_makeRw H); (case hgd => exact rfl); (case ho => exact rfl); (case hx => exact rfl); (case hy => exact rfl); (case hc => omega); intro w13 g13 H' _ _; replace H := H'; clear H'; go_simp))
  clear mkf
  go_loopw [16] (fun v16 wr => ∃ (k : Nat) (S : Nat → Nat → Value), k ≤ n ∧ v16 = .int .i64 (k : Int) ∧ Ow w wr [(g13, Cs 86 (AV (n * 409) (grd 409 S))), (g2, Blk 30 .u64 24 fun _ => 0)] ∧
    ∀ i, i < k → ∃ g F, S i = sci (.slice (some ⟨g, 0, none⟩) (dgn (N i)) (dgn (N i))) F ∧ g ≠ g13 ∧ wr.heap[g]? = some (Blk 3 .i64 (dgn (N i)) (sdg (X i) 5)) ∧ Fill F 17 fun j => pmul edK j (P i)) (fun v16 _ => (n - (intOf v16).toNat))
  case atStart => exact ⟨0, _, Nat.zero_le _, rfl, H.out, fun i hi => by omega⟩
  case round =>
    clear H
    obtain ⟨k, S, hk, rfl, HH, hD⟩ := hrel
    have H := Lib.hid HH
    have HDG := Lib.hid hD
    clear HH hD
    by_cases hlt : k < n
    · have hid : decide ((k : Int) < (n : Int)) = true := by simp; omega
      have hid' : decide (k < n) = true := by simpa using hlt
      have kn : (k : Int) < (n : Int) := by omega
      have n16 : (n : Int) ≤ 16 := by omega
      obtain ⟨gb, go, rfl, hgb, hgc⟩ := HG.out.get (by omega)
      have HC : Hid (∀ W, Below w.heap.size w W → ∀ j, j < 25 → W.cell? ⟨gb, go + k * 25 + j, none⟩ = some (sci (.slice (A k) (N k) (C k)) (V k) j)) := Lib.hid fun W hW j hj => (hW.cell (p := ⟨gb, go + k * 25 + j, none⟩) hgb).trans (hgc k hlt j hj)
      have HSL : Hid (∀ i, (sci (.slice (A k) (N k) (C k)) (V k) i).oneCell' = true) := Lib.hid fun i => sci_one rfl _ i
      have HSK := Lib.hid (HS.out k hlt)
      have HPK := Lib.hid (HP.out k hlt)
      have HNK := Lib.hid (H1.out k hlt).2
      have HL := Lib.hid hlt
      obtain ⟨wq, hwq⟩ : ∃ wq, wq = wr := ⟨_, rfl⟩
      have TX := Lib.hid (hwq ▸ Turn.refl (fun j => j = g13 ∨ wq.heap.size ≤ j) wr : Turn (fun j => j = g13 ∨ wq.heap.size ≤ j) wq wr)
      rw [← hwq] at HDG
      clear hlt hk hgb hgc HG hn hwq
      go_wp2_with (first
        | ((with_reducible apply lay_gen rowTm); (case hgd => exact rfl); (case ho => exact rfl); (case hx => exact rfl); (case hc => exact HC.out _ H.out.bel); intro _ _; go_simp)
        | ((fail_if_success have := g6); (with_reducible apply own_allocVB nilTm H); (case hgd => exact rfl); (case ho => exact rfl); intro w6 g6 H' hb hg _ _; have HG6 := Lib.hid (Nat.le_trans TX.out.size hg.out); replace TX := Lib.hid (TX.out.callq hb.out); replace H := H'; clear H' hb hg; go_simp)
        | ((fail_if_success have := mka); (with_reducible apply own_stV (v := .agg (AV 25 (sci (.slice (A k) (N k) (C k)) (V k)))) rowTm.size H); (case hgd => exact rfl); (case ho => exact rfl); (case hx => exact rfl); (case hy => exact rfl); (case hi => first | exact at0 | exact at1 | exact at2 | exact at3 | exact at4 | exact at5 | exact at6 | exact at7 | exact at8 | exact at9); (case hp => omega); (case hv => exact rfl); (case h1 => exact fun j _ => HSL.out j); (case hF => exact lay_whole _ _); intro ws H' ht _ _; replace H := H'; replace TX := Lib.hid (TX.out.trans (ht.out.mono fun j _ e => .inr (e ▸ HG6.out))); clear H' ht; have mka := trivial; simp only [List.set_cons_zero] at H; go_simp)
        | ((with_reducible apply own_ldV rowTm H); (case hgd => exact rfl); (case ho => exact rfl); (case hx => exact rfl); (case hi => first | exact at0 | exact at1 | exact at2 | exact at3 | exact at4 | exact at5 | exact at6 | exact at7 | exact at8 | exact at9); (case hp => omega); (case hC => exact AV_congr fun j _ => by rw [Nat.zero_add]); intro _ _; go_simp)
        | ((fail_if_success have := gs); (with_reducible refine (rowOf_k _ (HT.out.below H.out.bel) ((HSK.out.below H.out.bel).more H.out.bel.size) HPK.out HNK.out rfl).mono ?_); rintro e wc ⟨gs, F, rfl, hge, hr, hF, hb⟩; have HGS := Lib.hid (show gs ≠ g13 by have := lt_row (H.out.row 1 rfl); omega); replace TX := Lib.hid (TX.out.callq hb); replace H := Lib.hid ((H.out.call hb).more hr (Nat.le_trans H.out.bel.size hge) fun x hx => by (have := lt_row (H.out.has x hx); omega)); have HFL := Lib.hid hF; clear hb hge hr hF)
        | ((fail_if_success have := mkb); (with_reducible apply own_stV (v := .agg (AV 409 (sci (.slice (some ⟨gs, 0, none⟩) (dgn (N k)) (dgn (N k))) F))) rowRw.size H); (case hgd => exact rfl); (case ho => exact rfl); (case hx => exact rfl); (case hy => exact rfl); (case hi => first | exact at0 | exact at1 | exact at2 | exact at3 | exact at4 | exact at5 | exact at6 | exact at7 | exact at8 | exact at9); (case hp => have := HL.out; omega); (case hv => exact rfl); (case h1 => exact fun j _ => sci_one rfl _ j); (case hF => exact grd_lay (by omega) _ k _); intro ws H' ht _ _; replace H := H'; replace TX := Lib.hid (TX.out.trans (ht.out.mono fun j _ e => .inl e)); clear H' ht; have mkb := trivial; simp only [List.set_cons_zero, List.set_cons_succ] at H; go_simp))
      go_roundw
      case rel =>
        refine ⟨k + 1, _, by have := HL.out; omega, by go_num, H.out.pop.pop, fun i hi => ?_⟩
        rcases (by omega : i < k ∨ i = k) with h | rfl
        · obtain ⟨g, F', hS, hne, hrow, hF⟩ := HDG.out i h
          exact ⟨g, F', (if_neg (by omega)).trans hS, hne, TX.out.row hrow (fun h => by
            have := lt_row hrow
            rcases h with h | h
            · exact hne h
            · omega), hF⟩
        · exact ⟨gs, F, if_pos rfl, HGS.out, H.out.row 0 rfl, HFL.out⟩
      case measure => (have := HL.out; simp [intOf] <;> omega)
    · obtain rfl : n = k := by omega
      have hid : decide ((n : Int) < (n : Int)) = false := by simp
      have hid' : decide (n < n) = false := by simp
      have HRA : Hid (∀ i, i < n → RowAt wr wr.heap.size g13 (i * 409) (dgn (N i)) (X i) (P i)) := Lib.hid fun i hi => by
        obtain ⟨g, F, hS, _, hrow, hF⟩ := HDG.out i hi
        exact row_at (H.out.row 0 rfl) (by have := Nat.mul_le_mul_right 409 (show i + 1 ≤ n by omega); rw [Nat.add_mul, Nat.one_mul] at this; exact this) (fun j hj => by rw [grd_at S i j hj, hS]) hrow hF
      clear hlt hk hn
      go_wp2_with (first
        | ((fail_if_success have := V1); (with_reducible refine (together_k _ (HT.out.below H.out.bel) HRA.out HN.out (fun i hi => Nat.le_trans (dgn_le (H1.out i hi).2) (by omega)) (fun i hi m hm => dgx_all (HS.out i hi).fits hm)).mono ?_); rintro e wc ⟨k1, rfl, hv, hb⟩; replace H := Lib.hid (H.out.call hb); have V1 := Lib.hid hv; clear hb hv)
        | ((with_reducible apply own_store rowPt H); (case hgd => exact rfl); (case ho => exact rfl); (case hx => exact rfl); (case hy => exact rfl); (case hi => first | exact at0 | exact at1 | exact at2 | exact at3 | exact at4 | exact at5 | exact at6 | exact at7 | exact at8 | exact at9); intro ws H' _ _; replace H := H'; clear H'; simp only [List.set_cons_zero, List.set_cons_succ] at H; go_simp))
      exact bodyPost_ret (own_result_slot 1 rowPt rfl _ H rfl rfl rfl) rfl ⟨_, rfl, V1.out, H.out.bel⟩
/-- One of them, as a slice. -/
theorem grid_one {w : World} {g m : Nat} {t : TypeId} {f : Nat → Value} (hr : w.heap[g]? = some (Cs t (AV m f))) : Grid w w.heap.size (some ⟨g, 0, none⟩) 1 1 m fun _ => f := grid_blk (t := t) (by rw [grd_one]; exact hr)
set_option maxRecDepth 8000 in
set_option maxHeartbeats 3200000 in
theorem mult_bad {v : Nat → Int} {P : Pt pN dK} {a : Option Addr} {n c : Nat} (w : World) (hT : Tp w) (_hp : PtK v P) (h : n < 1 ∨ 64 < n) :
    Calls Tryz.prog 11 #[.slice a n c, PO v] w fun e w' => ∃ r, e = .returned (.tuple #[PO r, .int .i64 11]) ∧ Below w.heap.size w w' := by
  have HB : Hid (¬ (1 ≤ 16 ∧ ∀ i, i < 1 → 1 ≤ (fun _ : Nat => n) i ∧ (fun _ : Nat => n) i ≤ 64)) := Lib.hid fun e => by have e2 : 1 ≤ n ∧ n ≤ 64 := e.2 0 (by omega); omega
  clear h
  have HT := Lib.hid hT
  clear hT
  have H := Lib.hid (Ow.start w)
  go_enter Tryz.func11, Tryz.ntmps11
  go_wp2_with (first
    | ((fail_if_success have := g3); (with_reducible apply own_box H); (case hgd => exact rfl); (case ho => exact rfl); (case hx => exact rfl); intro w3 g3 H' _ _; replace H := H'; clear H'; go_simp)
    | ((fail_if_success have := g4); (with_reducible apply own_alloc nilPt H); (case hgd => exact rfl); (case ho => exact rfl); intro w4 g4 H' _ _; replace H := H'; clear H'; go_simp)
    | ((with_reducible apply own_load rowPt H); (case hgd => exact rfl); (case ho => exact rfl); (case hx => exact rfl); (case hi => first | exact at0 | exact at1 | exact at2 | exact at3 | exact at4 | exact at5 | exact at6 | exact at7 | exact at8 | exact at9); intro _ _; go_simp)
    | ((with_reducible apply lay_build_tm); (case hgd => exact rfl); (case ho => exact rfl); (case hx => exact rfl); (case hy => exact rfl); intro _ _; go_simp)
    | ((fail_if_success have := g9); (with_reducible apply own_build1G Tryz.underlying55 infoTm (by omega) (by omega) H); (case hgd => exact rfl); (case ho => exact rfl); (case hx => exact rfl); intro w9 g9 H' _ _; replace H := H'; clear H'; go_simp)
    | ((fail_if_success have := k0); (with_reducible refine (sum_bad (A := fun _ => a) (N := fun _ => n) (C := fun _ => c) (V := fun _ => v) _ (HT.out.below H.out.bel) (grid_one (H.out.row 0 rfl)) (by omega) HB.out).mono ?_); rintro e wc ⟨k0, rfl, hb⟩; replace H := Lib.hid (H.out.call hb); clear hb)
    | ((with_reducible apply own_store rowPt H); (case hgd => exact rfl); (case ho => exact rfl); (case hx => exact rfl); (case hy => exact rfl); (case hi => first | exact at0 | exact at1 | exact at2 | exact at3 | exact at4 | exact at5 | exact at6 | exact at7 | exact at8 | exact at9); intro ws H' _ _; replace H := H'; clear H'; simp only [List.set_cons_zero, List.set_cons_succ] at H; go_simp))
  exact bodyPost_ret (own_result_slot 1 rowPt rfl _ H rfl rfl rfl) rfl ⟨_, rfl, H.out.bel⟩
set_option maxRecDepth 8000 in
set_option maxHeartbeats 3200000 in
theorem mult_k {v : Nat → Int} {P : Pt pN dK} {a : Option Addr} {n c x : Nat} (w : World) (hT : Tp w) (hs : Sb w w.heap.size a n c x) (hp : PtK v P) (h1 : 1 ≤ n) (h64 : n ≤ 64) :
    Calls Tryz.prog 11 #[.slice a n c, PO v] w fun e w' => ∃ r, e = .returned (.tuple #[PO r, .int .i64 0]) ∧ PtK r (pmul edK x P) ∧ Below w.heap.size w w' := by
  have HN := Lib.hid (show 1 ≤ n ∧ n ≤ 64 from ⟨h1, h64⟩)
  clear h1 h64
  have HS := Lib.hid hs
  have V1 := Lib.hid hp
  clear hs hp
  have HT := Lib.hid hT
  clear hT
  have H := Lib.hid (Ow.start w)
  go_enter Tryz.func11, Tryz.ntmps11
  go_wp2_with (first
    | ((fail_if_success have := g3); (with_reducible apply own_box H); (case hgd => exact rfl); (case ho => exact rfl); (case hx => exact rfl); intro w3 g3 H' _ _; replace H := H'; clear H'; go_simp)
    | ((fail_if_success have := g4); (with_reducible apply own_alloc nilPt H); (case hgd => exact rfl); (case ho => exact rfl); intro w4 g4 H' _ _; replace H := H'; clear H'; go_simp)
    | ((with_reducible apply own_load rowPt H); (case hgd => exact rfl); (case ho => exact rfl); (case hx => exact rfl); (case hi => first | exact at0 | exact at1 | exact at2 | exact at3 | exact at4 | exact at5 | exact at6 | exact at7 | exact at8 | exact at9); intro _ _; go_simp)
    | ((with_reducible apply lay_build_tm); (case hgd => exact rfl); (case ho => exact rfl); (case hx => exact rfl); (case hy => exact rfl); intro _ _; go_simp)
    | ((fail_if_success have := g9); (with_reducible apply own_build1G Tryz.underlying55 infoTm (by omega) (by omega) H); (case hgd => exact rfl); (case ho => exact rfl); (case hx => exact rfl); intro w9 g9 H' _ _; replace H := H'; clear H'; go_simp)
    | ((fail_if_success have := V0); (with_reducible refine (sum_k (A := fun _ => a) (N := fun _ => n) (C := fun _ => c) (V := fun _ => v) (X := fun _ => x) (P := fun _ => P) _ (HT.out.below H.out.bel) (grid_one (H.out.row 0 rfl)) (by omega) (fun _ _ => HN.out) (fun _ _ => (HS.out.below H.out.bel).more H.out.bel.size) (fun _ _ => V1.out)).mono ?_); rintro e wc ⟨k0, rfl, hv, hb⟩; replace H := Lib.hid (H.out.call hb); have V0 := Lib.hid hv; clear hb hv)
    | ((with_reducible apply own_store rowPt H); (case hgd => exact rfl); (case ho => exact rfl); (case hx => exact rfl); (case hy => exact rfl); (case hi => first | exact at0 | exact at1 | exact at2 | exact at3 | exact at4 | exact at5 | exact at6 | exact at7 | exact at8 | exact at9); intro ws H' _ _; replace H := H'; clear H'; simp only [List.set_cons_zero, List.set_cons_succ] at H; go_simp))
  exact bodyPost_ret (own_result_slot 1 rowPt rfl _ H rfl rfl rfl) rfl ⟨_, rfl, V0.out.eq (tot_one x _), H.out.bel⟩
end Go.Proofs.YtkkmjlkeohkgnaaGreatDoor

/-
  The contracts of mult's Both. No statement is proved here: lemmas for the walks.
-/
namespace Go.Proofs.YtkkmjlkeohkgnaaGreatDoor
open Go.RowKit

theorem want12 {c : Prop} [Decidable c] {p q : Prop} (hc : c) (h : p) : if c then p else q := by rw [if_pos hc]; exact h
theorem agg_cells (C : Array Value) : (Value.agg C).cells = C := rfl
set_option maxRecDepth 8000 in
set_option maxHeartbeats 3200000 in
theorem both_bad {v u : Nat → Int} {P Q : Pt pN dK} {a b : Option Addr} {n c m d : Nat} (w : World) (hT : Tp w) (_hp : PtK v P) (_hq : PtK u Q) (h : (n < 1 ∨ 64 < n) ∨ (m < 1 ∨ 64 < m)) :
    Calls Tryz.prog 18 #[.slice a n c, PO v, .slice b m d, PO u] w fun e w' => ∃ r, e = .returned (.tuple #[PO r, .int .i64 11]) ∧ Below w.heap.size w w' := by
  have HF : Hid (¬ (2 ≤ 16 ∧ ∀ i, i < 2 → 1 ≤ prt n m i ∧ prt n m i ≤ 64)) := Lib.hid fun e => by
    have e0 : 1 ≤ n ∧ n ≤ 64 := e.2 0 (by omega)
    have e1 : 1 ≤ m ∧ m ≤ 64 := e.2 1 (by omega)
    omega
  clear h
  have HT := Lib.hid hT
  clear hT
  have H := Lib.hid (Ow.start w)
  go_enter Tryz.func18, Tryz.ntmps18
  go_wp2_with (first
    | ((fail_if_success have := g5); (fail_if_success have := g5); (with_reducible apply own_box H); (case hgd => exact rfl); (case ho => exact rfl); (case hx => exact rfl); intro w5 g5 H' _ _; replace H := H'; clear H'; go_simp)
    | ((fail_if_success have := g7); (fail_if_success have := g7); (with_reducible apply own_box H); (case hgd => exact rfl); (case ho => exact rfl); (case hx => exact rfl); intro w7 g7 H' _ _; replace H := H'; clear H'; go_simp)
    | ((fail_if_success have := g8); (fail_if_success have := g8); (with_reducible apply own_alloc nilPt H); (case hgd => exact rfl); (case ho => exact rfl); intro w8 g8 H' _ _; replace H := H'; clear H'; go_simp)
    | ((with_reducible apply own_load rowPt H); (case hgd => exact rfl); (case ho => exact rfl); (case hx => exact rfl); (case hi => first | exact at0 | exact at1 | exact at2 | exact at3 | exact at4 | exact at5 | exact at6 | exact at7 | exact at8 | exact at9); intro _ _; go_simp)
    | ((with_reducible apply lay_build_tm); (case hgd => exact rfl); (case ho => exact rfl); (case hx => exact rfl); (case hy => exact rfl); intro _ _; go_simp)
    | ((with_reducible apply lay_build_tms); (case hgd => exact rfl); (case ho => exact rfl); (case hx => exact rfl); (case hy => exact rfl); intro _ _; go_simp)
    | ((fail_if_success have := g10); (with_reducible apply own_allocV nilTms H); (case hgd => exact rfl); (case ho => exact rfl); intro w10 g10 H' _ _; replace H := H'; clear H'; go_simp)
    | ((fail_if_success have := mka); (with_reducible apply own_stV (v := .agg (AV 50 (grd 25 (duo (sci (.slice a n c) v) (sci (.slice b m d) u))))) rowTms.size H); (case hgd => exact rfl); (case ho => exact rfl); (case hx => exact rfl); (case hy => exact rfl); (case hi => first | exact at0 | exact at1 | exact at2 | exact at3 | exact at4 | exact at5 | exact at6 | exact at7 | exact at8 | exact at9); (case hp => omega); (case hv => exact rfl); (case h1 => exact fun j _ => duo_one (fun j => sci_one rfl _ j) (fun j => sci_one rfl _ j) 25 j); (case hF => exact lay_whole _ _); intro ws H' ht _ _; replace H := H'; clear H' ht; have mka := trivial; simp only [List.set_cons_zero] at H; go_simp)
    | ((fail_if_success have := mkf); (with_reducible refine (fit_no _ (grid_two (H.out.row 0 rfl)) (by omega) HF.out).mono ?_); rintro e wc ⟨rfl, hb⟩; replace H := Lib.hid (H.out.call hb); have mkf := trivial; clear hb)
    | ((fail_if_success have := V0); (with_reducible refine (identity_k _ (HT.out.below H.out.bel)).mono ?_); rintro e wc ⟨k0, rfl, hv, hb⟩; replace H := Lib.hid (H.out.call hb); have V0 := Lib.hid hv; clear hb hv)
    | ((with_reducible apply own_store rowPt H); (case hgd => exact rfl); (case ho => exact rfl); (case hx => exact rfl); (case hy => exact rfl); (case hi => first | exact at0 | exact at1 | exact at2 | exact at3 | exact at4 | exact at5 | exact at6 | exact at7 | exact at8 | exact at9); intro ws H' _ _; replace H := H'; clear H'; simp only [List.set_cons_zero, List.set_cons_succ] at H; go_simp))
  exact bodyPost_ret (own_result_slot 1 rowPt rfl _ H rfl rfl rfl) rfl ⟨_, rfl, H.out.bel⟩
set_option maxRecDepth 8000 in
set_option maxHeartbeats 3200000 in
theorem both_k {v u : Nat → Int} {P Q : Pt pN dK} {a b : Option Addr} {n c m d x y : Nat} (w : World) (hT : Tp w) (hs : Sb w w.heap.size a n c x) (hp : PtK v P) (hr : Sb w w.heap.size b m d y) (hq : PtK u Q) (h1 : 1 ≤ n) (h64 : n ≤ 64) (g1 : 1 ≤ m) (g64 : m ≤ 64) :
    Calls Tryz.prog 18 #[.slice a n c, PO v, .slice b m d, PO u] w fun e w' => ∃ r, e = .returned (.tuple #[PO r, .int .i64 0]) ∧ PtK r (padd edK (pmul edK x P) (pmul edK y Q)) ∧ Below w.heap.size w w' := by
  have HF : Hid (∀ i, i < 2 → 1 ≤ prt n m i ∧ prt n m i ≤ 64) := Lib.hid fun i hi => by
    rcases (by omega : i = 0 ∨ i = 1) with rfl | rfl
    · exact ⟨h1, h64⟩
    · exact ⟨g1, g64⟩
  have HN := Lib.hid (show 1 ≤ n ∧ n ≤ 64 from ⟨h1, h64⟩)
  have HM := Lib.hid (show 1 ≤ m ∧ m ≤ 64 from ⟨g1, g64⟩)
  clear h1 h64 g1 g64
  have HS := Lib.hid hs
  have HR := Lib.hid hr
  have V1 := Lib.hid hp
  have V2 := Lib.hid hq
  clear hs hr hp hq
  have HT := Lib.hid hT
  clear hT
  have H := Lib.hid (Ow.start w)
  go_enter Tryz.func18, Tryz.ntmps18
  go_wp2_with (first
    | ((fail_if_success have := g5); (fail_if_success have := g5); (with_reducible apply own_box H); (case hgd => exact rfl); (case ho => exact rfl); (case hx => exact rfl); intro w5 g5 H' _ _; replace H := H'; clear H'; go_simp)
    | ((fail_if_success have := g7); (fail_if_success have := g7); (with_reducible apply own_box H); (case hgd => exact rfl); (case ho => exact rfl); (case hx => exact rfl); intro w7 g7 H' _ _; replace H := H'; clear H'; go_simp)
    | ((fail_if_success have := g8); (fail_if_success have := g8); (with_reducible apply own_alloc nilPt H); (case hgd => exact rfl); (case ho => exact rfl); intro w8 g8 H' _ _; replace H := H'; clear H'; go_simp)
    | ((with_reducible apply own_load rowPt H); (case hgd => exact rfl); (case ho => exact rfl); (case hx => exact rfl); (case hi => first | exact at0 | exact at1 | exact at2 | exact at3 | exact at4 | exact at5 | exact at6 | exact at7 | exact at8 | exact at9); intro _ _; go_simp)
    | ((with_reducible apply lay_build_tm); (case hgd => exact rfl); (case ho => exact rfl); (case hx => exact rfl); (case hy => exact rfl); intro _ _; go_simp)
    | ((with_reducible apply lay_build_tms); (case hgd => exact rfl); (case ho => exact rfl); (case hx => exact rfl); (case hy => exact rfl); intro _ _; go_simp)
    | ((fail_if_success have := g10); (with_reducible apply own_allocV nilTms H); (case hgd => exact rfl); (case ho => exact rfl); intro w10 g10 H' _ _; replace H := H'; clear H'; go_simp)
    | ((fail_if_success have := mka); (with_reducible apply own_stV (v := .agg (AV 50 (grd 25 (duo (sci (.slice a n c) v) (sci (.slice b m d) u))))) rowTms.size H); (case hgd => exact rfl); (case ho => exact rfl); (case hx => exact rfl); (case hy => exact rfl); (case hi => first | exact at0 | exact at1 | exact at2 | exact at3 | exact at4 | exact at5 | exact at6 | exact at7 | exact at8 | exact at9); (case hp => omega); (case hv => exact rfl); (case h1 => exact fun j _ => duo_one (fun j => sci_one rfl _ j) (fun j => sci_one rfl _ j) 25 j); (case hF => exact lay_whole _ _); intro ws H' ht _ _; replace H := H'; clear H' ht; have mka := trivial; simp only [List.set_cons_zero] at H; go_simp))
  with_reducible refine (fit_yes _ (grid_two (H.out.row 0 rfl)) (by omega) HF.out).mono ?_
  rintro e wc ⟨rfl, hb⟩
  replace H := Lib.hid (H.out.call hb)
  clear hb
  go_upto_region 4 with fail
  clear mka
  refine wp_region_noPanic ?_
  refine wp_region_held_drew (S := fun W => (∀ j, j < 25 → W.cell? ⟨g10, 0 + j, none⟩ = some ((sci (.slice a n c) v) j)) ∧ (∀ j, j < 25 → W.cell? ⟨g10, 25 + j, none⟩ = some ((sci (.slice b m d) u) j))) (by kernel_rfl) (duo_cells (H.out.drew.row 0 rfl) rfl) (fun hH => ?_)
  replace H := Lib.hid H.out.drew
  generalize World.drew _ = w8 at *
  refine held_value 0 23 (.pointer (some ⟨g10, 0, none⟩)) rfl rfl (by kernel_rfl) (by kernel_rfl) (by kernel_rfl) rfl hH (fun w hw => by go_simp) ?_
  try simp only [Act.put, List.setIfInBounds_toArray, List.set_cons_zero, List.set_cons_succ]
  refine held_gen 1 24 rowTm rfl rfl (by kernel_rfl) (by kernel_rfl) (by kernel_rfl) rfl hH rfl rfl (fun _ h => h.1) ?_
  try simp only [Act.put, List.setIfInBounds_toArray, List.set_cons_zero, List.set_cons_succ]
  refine held_value 3 26 (.pointer (some ⟨g10, 25, none⟩)) rfl rfl (by kernel_rfl) (by kernel_rfl) (by kernel_rfl) rfl hH (fun w hw => by go_simp) ?_
  try simp only [Act.put, List.setIfInBounds_toArray, List.set_cons_zero, List.set_cons_succ]
  refine held_gen 4 27 rowTm rfl rfl (by kernel_rfl) (by kernel_rfl) (by kernel_rfl) rfl hH rfl rfl (fun _ h => h.2) ?_
  try simp only [Act.put, List.setIfInBounds_toArray, List.set_cons_zero, List.set_cons_succ]
  refine wpAnyH_ready (rs := [2, 7]) (by kernel_rfl) (by simp) ?_
  refine AllReadyH.cons (o := _) rfl (fun K hK => ?_) (AllReadyH.cons (o := _) rfl (fun K hK => ?_) AllReadyH.nil)
  · skip
    go_simp
    refine (rowOf_k _ (HT.out.below H.out.bel) ((HS.out.below H.out.bel).more H.out.bel.size) V1.out HN.out.2 rfl).mono ?_
    rintro e wc ⟨gs25, F25, rfl, hge, hrw, hF, hb⟩
    replace H := Lib.hid ((H.out.call hb).more hrw (Nat.le_trans H.out.bel.size hge) fun x hx => by (have := lt_row (H.out.has x hx); omega))
    have FL25 := Lib.hid hF
    refine hK.out _ _ (duo_cells (H.out.row 1 rfl) rfl) (fun hN => ?_)
    clear hK K hH hb hge hrw hF
    have hH := hN
    clear hN
    try simp only [Act.put, List.setIfInBounds_toArray, List.set_cons_zero, List.set_cons_succ]
    refine wpAnyH_ready (rs := [5, 7]) (by kernel_rfl) (by simp) ?_
    refine AllReadyH.cons (o := _) rfl (fun K hK => ?_) (AllReadyH.cons (o := _) rfl (fun K hK => ?_) AllReadyH.nil)
    · skip
      go_simp
      refine (rowOf_k _ (HT.out.below H.out.bel) ((HR.out.below H.out.bel).more H.out.bel.size) V2.out HM.out.2 rfl).mono ?_
      rintro e wc ⟨gs28, F28, rfl, hge, hrw, hF, hb⟩
      replace H := Lib.hid ((H.out.call hb).more hrw (Nat.le_trans H.out.bel.size hge) fun x hx => by (have := lt_row (H.out.has x hx); omega))
      have FL28 := Lib.hid hF
      refine hK.out _ _ (duo_cells (H.out.row 2 rfl) rfl) (fun hN => ?_)
      clear hK K hH hb hge hrw hF
      have hH := hN
      clear hN
      try simp only [Act.put, List.setIfInBounds_toArray, List.set_cons_zero, List.set_cons_succ]
      refine held_rws 6 29 rfl rfl (by kernel_rfl) (by kernel_rfl) (by kernel_rfl) rfl hH rfl rfl rfl ?_
      try simp only [Act.put, List.setIfInBounds_toArray, List.set_cons_zero, List.set_cons_succ]
      refine wpAnyH_ready (rs := [7]) (by kernel_rfl) (by simp) ?_
      refine AllReadyH.cons (o := _) rfl (fun K hK => ?_) AllReadyH.nil
      refine own_wp_allocV 11 rfl nilRws H.out rfl ?_
      intro w11 g11 H3 _
      replace H := Lib.hid H3
      refine hK.out _ _ (duo_cells (H.out.row 3 rfl) rfl) (fun hN => ?_)
      clear hK K hH H3
      have hH := hN
      clear hN
      try simp only [Act.put, List.setIfInBounds_toArray, List.set_cons_zero, List.set_cons_succ]
      refine wpAnyH_ready (rs := [8]) (by kernel_rfl) (by simp) ?_
      refine AllReadyH.cons (o := _) rfl (fun K hK => ?_) AllReadyH.nil
      with_reducible refine want12 rfl ?_
      with_reducible refine own_wp_stV (x := .tmp 11) (y := .tmp 29) (ty := 88) (t := 88) (b := g11) (p := 0) (m := 818) (n := 818) (v := .agg (AV 818 (grd 409 (duo (sci (.slice (some ⟨gs25, 0, none⟩) (dgn n) (dgn n)) F25) (sci (.slice (some ⟨gs28, 0, none⟩) (dgn m) (dgn m)) F28))))) (f := grd 409 fun _ => sci (.slice none 0 0) fun _ => 0) (g := grd 409 (duo (sci (.slice (some ⟨gs25, 0, none⟩) (dgn n) (dgn n)) F25) (sci (.slice (some ⟨gs28, 0, none⟩) (dgn m) (dgn m)) F28))) (F := grd 409 (duo (sci (.slice (some ⟨gs25, 0, none⟩) (dgn n) (dgn n)) F25) (sci (.slice (some ⟨gs28, 0, none⟩) (dgn m) (dgn m)) F28))) 0 ?_ rowRws.size H.out ?_ ?_ ?_ ?_ ?_ (agg_cells _) ?_ (lay_whole _ _) ?_
      · rfl
      · rfl
      · rfl
      · rfl
      · exact at0
      · omega
      · exact fun j _ => duo_one (fun j => sci_one rfl _ j) (fun j => sci_one rfl _ j) 409 j
      intro ws HS2 _
      simp only [List.set_cons_zero] at HS2
      replace H := Lib.hid HS2
      refine hK.out _ _ (duo_cells (H.out.row 3 rfl) rfl) (fun hN => ?_)
      clear hK K hH HS2
      have hH := hN
      clear hN
      try simp only [Act.put, List.setIfInBounds_toArray, List.set_cons_zero, List.set_cons_succ]
      try simp only [List.setIfInBounds_toArray]
      try simp only [Act.put]
      refine wpAnyH_done (by kernel_rfl) ?_ _
      refine NoPanic.normal ?_
      clear hH
      have HRA : Hid (∀ i, i < 2 → RowAt ws ws.heap.size g11 (i * 409) (prt (dgn n) (dgn m) i) (prt x y i) (prt P Q i)) := Lib.hid fun i hi => by
        rcases (by omega : i = 0 ∨ i = 1) with rfl | rfl
        · exact row_at (H.out.row 0 rfl) (by omega) (fun j hj => (grd_at (duo (sci (.slice (some ⟨gs25, 0, none⟩) (dgn n) (dgn n)) F25) (sci (.slice (some ⟨gs28, 0, none⟩) (dgn m) (dgn m)) F28)) 0 j hj).trans rfl) (H.out.row 2 rfl) FL25.out
        · exact row_at (H.out.row 0 rfl) (by omega) (fun j hj => (grd_at (duo (sci (.slice (some ⟨gs25, 0, none⟩) (dgn n) (dgn n)) F25) (sci (.slice (some ⟨gs28, 0, none⟩) (dgn m) (dgn m)) F28)) 1 j hj).trans rfl) (H.out.row 1 rfl) FL28.out
      have HML : Hid (∀ i, i < 2 → prt (dgn n) (dgn m) i ≤ 200) := Lib.hid fun i hi => by
        rcases (by omega : i = 0 ∨ i = 1) with rfl | rfl
        · exact Nat.le_trans (dgn_le HN.out.2) (by omega)
        · exact Nat.le_trans (dgn_le HM.out.2) (by omega)
      have HXL : Hid (∀ i, i < 2 → ∀ k, prt (dgn n) (dgn m) i ≤ k → hor (dgx (prt x y i) (prt (dgn n) (dgn m) i)) k k = ((prt x y i : Nat) : Int)) := Lib.hid fun i hi k hk => by
        rcases (by omega : i = 0 ∨ i = 1) with rfl | rfl
        · exact dgx_all HS.out.fits hk
        · exact dgx_all HR.out.fits hk
      go_wp2_with (first
        | ((fail_if_success have := V3); (with_reducible refine (together_k _ (HT.out.below H.out.bel) HRA.out (by omega) HML.out HXL.out).mono ?_); rintro e wc ⟨k3, rfl, hv, hb⟩; replace H := Lib.hid (H.out.call hb); have V3 := Lib.hid hv; clear hb hv)
        | ((with_reducible apply own_store rowPt H); (case hgd => exact rfl); (case ho => exact rfl); (case hx => exact rfl); (case hy => exact rfl); (case hi => first | exact at0 | exact at1 | exact at2 | exact at3 | exact at4 | exact at5 | exact at6 | exact at7 | exact at8 | exact at9); intro ws H' _ _; replace H := H'; clear H'; simp only [List.set_cons_zero, List.set_cons_succ] at H; go_simp))
      exact bodyPost_ret (own_result_slot 4 rowPt rfl _ H rfl rfl rfl) rfl ⟨_, rfl, V3.out.eq (tot_two (prt x y) (prt P Q)), H.out.bel⟩
    · skip
      refine own_wp_allocV 11 rfl nilRws H.out rfl ?_
      intro w11 g11 H3 _
      replace H := Lib.hid H3
      refine hK.out _ _ (duo_cells (H.out.row 2 rfl) rfl) (fun hN => ?_)
      clear hK K hH H3
      have hH := hN
      clear hN
      try simp only [Act.put, List.setIfInBounds_toArray, List.set_cons_zero, List.set_cons_succ]
      refine wpAnyH_ready (rs := [5]) (by kernel_rfl) (by simp) ?_
      refine AllReadyH.cons (o := _) rfl (fun K hK => ?_) AllReadyH.nil
      go_simp
      refine (rowOf_k _ (HT.out.below H.out.bel) ((HR.out.below H.out.bel).more H.out.bel.size) V2.out HM.out.2 rfl).mono ?_
      rintro e wc ⟨gs28, F28, rfl, hge, hrw, hF, hb⟩
      replace H := Lib.hid ((H.out.call hb).more hrw (Nat.le_trans H.out.bel.size hge) fun x hx => by (have := lt_row (H.out.has x hx); omega))
      have FL28 := Lib.hid hF
      refine hK.out _ _ (duo_cells (H.out.row 3 rfl) rfl) (fun hN => ?_)
      clear hK K hH hb hge hrw hF
      have hH := hN
      clear hN
      try simp only [Act.put, List.setIfInBounds_toArray, List.set_cons_zero, List.set_cons_succ]
      refine held_rws 6 29 rfl rfl (by kernel_rfl) (by kernel_rfl) (by kernel_rfl) rfl hH rfl rfl rfl ?_
      try simp only [Act.put, List.setIfInBounds_toArray, List.set_cons_zero, List.set_cons_succ]
      refine wpAnyH_ready (rs := [8]) (by kernel_rfl) (by simp) ?_
      refine AllReadyH.cons (o := _) rfl (fun K hK => ?_) AllReadyH.nil
      with_reducible refine want12 rfl ?_
      with_reducible refine own_wp_stV (x := .tmp 11) (y := .tmp 29) (ty := 88) (t := 88) (b := g11) (p := 0) (m := 818) (n := 818) (v := .agg (AV 818 (grd 409 (duo (sci (.slice (some ⟨gs25, 0, none⟩) (dgn n) (dgn n)) F25) (sci (.slice (some ⟨gs28, 0, none⟩) (dgn m) (dgn m)) F28))))) (f := grd 409 fun _ => sci (.slice none 0 0) fun _ => 0) (g := grd 409 (duo (sci (.slice (some ⟨gs25, 0, none⟩) (dgn n) (dgn n)) F25) (sci (.slice (some ⟨gs28, 0, none⟩) (dgn m) (dgn m)) F28))) (F := grd 409 (duo (sci (.slice (some ⟨gs25, 0, none⟩) (dgn n) (dgn n)) F25) (sci (.slice (some ⟨gs28, 0, none⟩) (dgn m) (dgn m)) F28))) 1 ?_ rowRws.size H.out ?_ ?_ ?_ ?_ ?_ (agg_cells _) ?_ (lay_whole _ _) ?_
      · rfl
      · rfl
      · rfl
      · rfl
      · exact at1
      · omega
      · exact fun j _ => duo_one (fun j => sci_one rfl _ j) (fun j => sci_one rfl _ j) 409 j
      intro ws HS2 _
      simp only [List.set_cons_zero, List.set_cons_succ] at HS2
      replace H := Lib.hid HS2
      refine hK.out _ _ (duo_cells (H.out.row 3 rfl) rfl) (fun hN => ?_)
      clear hK K hH HS2
      have hH := hN
      clear hN
      try simp only [Act.put, List.setIfInBounds_toArray, List.set_cons_zero, List.set_cons_succ]
      try simp only [List.setIfInBounds_toArray]
      try simp only [Act.put]
      refine wpAnyH_done (by kernel_rfl) ?_ _
      refine NoPanic.normal ?_
      clear hH
      have HRA : Hid (∀ i, i < 2 → RowAt ws ws.heap.size g11 (i * 409) (prt (dgn n) (dgn m) i) (prt x y i) (prt P Q i)) := Lib.hid fun i hi => by
        rcases (by omega : i = 0 ∨ i = 1) with rfl | rfl
        · exact row_at (H.out.row 1 rfl) (by omega) (fun j hj => (grd_at (duo (sci (.slice (some ⟨gs25, 0, none⟩) (dgn n) (dgn n)) F25) (sci (.slice (some ⟨gs28, 0, none⟩) (dgn m) (dgn m)) F28)) 0 j hj).trans rfl) (H.out.row 2 rfl) FL25.out
        · exact row_at (H.out.row 1 rfl) (by omega) (fun j hj => (grd_at (duo (sci (.slice (some ⟨gs25, 0, none⟩) (dgn n) (dgn n)) F25) (sci (.slice (some ⟨gs28, 0, none⟩) (dgn m) (dgn m)) F28)) 1 j hj).trans rfl) (H.out.row 0 rfl) FL28.out
      have HML : Hid (∀ i, i < 2 → prt (dgn n) (dgn m) i ≤ 200) := Lib.hid fun i hi => by
        rcases (by omega : i = 0 ∨ i = 1) with rfl | rfl
        · exact Nat.le_trans (dgn_le HN.out.2) (by omega)
        · exact Nat.le_trans (dgn_le HM.out.2) (by omega)
      have HXL : Hid (∀ i, i < 2 → ∀ k, prt (dgn n) (dgn m) i ≤ k → hor (dgx (prt x y i) (prt (dgn n) (dgn m) i)) k k = ((prt x y i : Nat) : Int)) := Lib.hid fun i hi k hk => by
        rcases (by omega : i = 0 ∨ i = 1) with rfl | rfl
        · exact dgx_all HS.out.fits hk
        · exact dgx_all HR.out.fits hk
      go_wp2_with (first
        | ((fail_if_success have := V3); (with_reducible refine (together_k _ (HT.out.below H.out.bel) HRA.out (by omega) HML.out HXL.out).mono ?_); rintro e wc ⟨k3, rfl, hv, hb⟩; replace H := Lib.hid (H.out.call hb); have V3 := Lib.hid hv; clear hb hv)
        | ((with_reducible apply own_store rowPt H); (case hgd => exact rfl); (case ho => exact rfl); (case hx => exact rfl); (case hy => exact rfl); (case hi => first | exact at0 | exact at1 | exact at2 | exact at3 | exact at4 | exact at5 | exact at6 | exact at7 | exact at8 | exact at9); intro ws H' _ _; replace H := H'; clear H'; simp only [List.set_cons_zero, List.set_cons_succ] at H; go_simp))
      exact bodyPost_ret (own_result_slot 4 rowPt rfl _ H rfl rfl rfl) rfl ⟨_, rfl, V3.out.eq (tot_two (prt x y) (prt P Q)), H.out.bel⟩
  · skip
    refine own_wp_allocV 11 rfl nilRws H.out rfl ?_
    intro w11 g11 H3 _
    replace H := Lib.hid H3
    refine hK.out _ _ (duo_cells (H.out.row 1 rfl) rfl) (fun hN => ?_)
    clear hK K hH H3
    have hH := hN
    clear hN
    try simp only [Act.put, List.setIfInBounds_toArray, List.set_cons_zero, List.set_cons_succ]
    refine wpAnyH_ready (rs := [2]) (by kernel_rfl) (by simp) ?_
    refine AllReadyH.cons (o := _) rfl (fun K hK => ?_) AllReadyH.nil
    go_simp
    refine (rowOf_k _ (HT.out.below H.out.bel) ((HS.out.below H.out.bel).more H.out.bel.size) V1.out HN.out.2 rfl).mono ?_
    rintro e wc ⟨gs25, F25, rfl, hge, hrw, hF, hb⟩
    replace H := Lib.hid ((H.out.call hb).more hrw (Nat.le_trans H.out.bel.size hge) fun x hx => by (have := lt_row (H.out.has x hx); omega))
    have FL25 := Lib.hid hF
    refine hK.out _ _ (duo_cells (H.out.row 2 rfl) rfl) (fun hN => ?_)
    clear hK K hH hb hge hrw hF
    have hH := hN
    clear hN
    try simp only [Act.put, List.setIfInBounds_toArray, List.set_cons_zero, List.set_cons_succ]
    refine wpAnyH_ready (rs := [5]) (by kernel_rfl) (by simp) ?_
    refine AllReadyH.cons (o := _) rfl (fun K hK => ?_) AllReadyH.nil
    go_simp
    refine (rowOf_k _ (HT.out.below H.out.bel) ((HR.out.below H.out.bel).more H.out.bel.size) V2.out HM.out.2 rfl).mono ?_
    rintro e wc ⟨gs28, F28, rfl, hge, hrw, hF, hb⟩
    replace H := Lib.hid ((H.out.call hb).more hrw (Nat.le_trans H.out.bel.size hge) fun x hx => by (have := lt_row (H.out.has x hx); omega))
    have FL28 := Lib.hid hF
    refine hK.out _ _ (duo_cells (H.out.row 3 rfl) rfl) (fun hN => ?_)
    clear hK K hH hb hge hrw hF
    have hH := hN
    clear hN
    try simp only [Act.put, List.setIfInBounds_toArray, List.set_cons_zero, List.set_cons_succ]
    refine held_rws 6 29 rfl rfl (by kernel_rfl) (by kernel_rfl) (by kernel_rfl) rfl hH rfl rfl rfl ?_
    try simp only [Act.put, List.setIfInBounds_toArray, List.set_cons_zero, List.set_cons_succ]
    refine wpAnyH_ready (rs := [8]) (by kernel_rfl) (by simp) ?_
    refine AllReadyH.cons (o := _) rfl (fun K hK => ?_) AllReadyH.nil
    with_reducible refine want12 rfl ?_
    with_reducible refine own_wp_stV (x := .tmp 11) (y := .tmp 29) (ty := 88) (t := 88) (b := g11) (p := 0) (m := 818) (n := 818) (v := .agg (AV 818 (grd 409 (duo (sci (.slice (some ⟨gs25, 0, none⟩) (dgn n) (dgn n)) F25) (sci (.slice (some ⟨gs28, 0, none⟩) (dgn m) (dgn m)) F28))))) (f := grd 409 fun _ => sci (.slice none 0 0) fun _ => 0) (g := grd 409 (duo (sci (.slice (some ⟨gs25, 0, none⟩) (dgn n) (dgn n)) F25) (sci (.slice (some ⟨gs28, 0, none⟩) (dgn m) (dgn m)) F28))) (F := grd 409 (duo (sci (.slice (some ⟨gs25, 0, none⟩) (dgn n) (dgn n)) F25) (sci (.slice (some ⟨gs28, 0, none⟩) (dgn m) (dgn m)) F28))) 2 ?_ rowRws.size H.out ?_ ?_ ?_ ?_ ?_ (agg_cells _) ?_ (lay_whole _ _) ?_
    · rfl
    · rfl
    · rfl
    · rfl
    · exact at2
    · omega
    · exact fun j _ => duo_one (fun j => sci_one rfl _ j) (fun j => sci_one rfl _ j) 409 j
    intro ws HS2 _
    simp only [List.set_cons_zero, List.set_cons_succ] at HS2
    replace H := Lib.hid HS2
    refine hK.out _ _ (duo_cells (H.out.row 3 rfl) rfl) (fun hN => ?_)
    clear hK K hH HS2
    have hH := hN
    clear hN
    try simp only [Act.put, List.setIfInBounds_toArray, List.set_cons_zero, List.set_cons_succ]
    try simp only [List.setIfInBounds_toArray]
    try simp only [Act.put]
    refine wpAnyH_done (by kernel_rfl) ?_ _
    refine NoPanic.normal ?_
    clear hH
    have HRA : Hid (∀ i, i < 2 → RowAt ws ws.heap.size g11 (i * 409) (prt (dgn n) (dgn m) i) (prt x y i) (prt P Q i)) := Lib.hid fun i hi => by
      rcases (by omega : i = 0 ∨ i = 1) with rfl | rfl
      · exact row_at (H.out.row 2 rfl) (by omega) (fun j hj => (grd_at (duo (sci (.slice (some ⟨gs25, 0, none⟩) (dgn n) (dgn n)) F25) (sci (.slice (some ⟨gs28, 0, none⟩) (dgn m) (dgn m)) F28)) 0 j hj).trans rfl) (H.out.row 1 rfl) FL25.out
      · exact row_at (H.out.row 2 rfl) (by omega) (fun j hj => (grd_at (duo (sci (.slice (some ⟨gs25, 0, none⟩) (dgn n) (dgn n)) F25) (sci (.slice (some ⟨gs28, 0, none⟩) (dgn m) (dgn m)) F28)) 1 j hj).trans rfl) (H.out.row 0 rfl) FL28.out
    have HML : Hid (∀ i, i < 2 → prt (dgn n) (dgn m) i ≤ 200) := Lib.hid fun i hi => by
      rcases (by omega : i = 0 ∨ i = 1) with rfl | rfl
      · exact Nat.le_trans (dgn_le HN.out.2) (by omega)
      · exact Nat.le_trans (dgn_le HM.out.2) (by omega)
    have HXL : Hid (∀ i, i < 2 → ∀ k, prt (dgn n) (dgn m) i ≤ k → hor (dgx (prt x y i) (prt (dgn n) (dgn m) i)) k k = ((prt x y i : Nat) : Int)) := Lib.hid fun i hi k hk => by
      rcases (by omega : i = 0 ∨ i = 1) with rfl | rfl
      · exact dgx_all HS.out.fits hk
      · exact dgx_all HR.out.fits hk
    go_wp2_with (first
      | ((fail_if_success have := V3); (with_reducible refine (together_k _ (HT.out.below H.out.bel) HRA.out (by omega) HML.out HXL.out).mono ?_); rintro e wc ⟨k3, rfl, hv, hb⟩; replace H := Lib.hid (H.out.call hb); have V3 := Lib.hid hv; clear hb hv)
      | ((with_reducible apply own_store rowPt H); (case hgd => exact rfl); (case ho => exact rfl); (case hx => exact rfl); (case hy => exact rfl); (case hi => first | exact at0 | exact at1 | exact at2 | exact at3 | exact at4 | exact at5 | exact at6 | exact at7 | exact at8 | exact at9); intro ws H' _ _; replace H := H'; clear H'; simp only [List.set_cons_zero, List.set_cons_succ] at H; go_simp))
    exact bodyPost_ret (own_result_slot 4 rowPt rfl _ H rfl rfl rfl) rfl ⟨_, rfl, V3.out.eq (tot_two (prt x y) (prt P Q)), H.out.bel⟩
end Go.Proofs.YtkkmjlkeohkgnaaGreatDoor

/-
  The contracts of mult's Small. No statement is proved here: lemmas for the walks.
-/
namespace Go.Proofs.YtkkmjlkeohkgnaaGreatDoor
open Go.RowKit

theorem byte_0 {m : Nat} : IntKind.u8.wrap (m : Int) = U8 (bt m 0) := by
  unfold U8
  rw [bt_nat, IntKind.wrap_u8, Nat.mul_zero, Nat.pow_zero, Nat.div_one]
  omega
theorem byte_1 {m : Nat} : IntKind.u8.wrap ((m : Int) / 256) = U8 (bt m 1) := by
  unfold U8
  rw [bt_nat, IntKind.wrap_u8, show 2 ^ (8 * 1) = 256 from rfl]
  omega
theorem byte_2 {m : Nat} : IntKind.u8.wrap ((m : Int) / 65536) = U8 (bt m 2) := by
  unfold U8
  rw [bt_nat, IntKind.wrap_u8, show 2 ^ (8 * 2) = 65536 from rfl]
  omega
theorem yb_3 {w : World} {g x : Nat} (h : w.heap[g]? = some (YB 3 (bt x))) (hx : x < 2 ^ (8 * 3)) : Sb w w.heap.size (some ⟨g, 0, none⟩) 3 3 x :=
  ⟨⟨Nat.le_refl _, (fun e => by cases e), fun ad e _ => ⟨g, 0, (Option.some.inj e).symm, lt_row h, fun i hi => by rw [Nat.zero_add]; exact (blk_rowB h).cell i hi⟩⟩, hx⟩
set_option maxRecDepth 8000 in
set_option maxHeartbeats 3200000 in
theorem small_low {v : Nat → Int} {P : Pt pN dK} (n : Int) (w : World) (hT : Tp w) (_hp : PtK v P) (h : n < -65536) :
    Calls Tryz.prog 15 #[.int .i64 n, PO v] w fun e w' => ∃ r, e = .returned (.tuple #[PO r, .int .i64 10]) ∧ Below w.heap.size w w' := by
  have d0 : decide (n < -65536) = true := by first | (simp; done) | (simp; omega)
  clear h
  have HT := Lib.hid hT
  clear hT
  have H := Lib.hid (Ow.start w)
  go_enter Tryz.func15, Tryz.ntmps15
  go_wp2_with (first
    | ((fail_if_success have := g3); (with_reducible apply own_box H); (case hgd => exact rfl); (case ho => exact rfl); (case hx => exact rfl); intro w3 g3 H' _ _; replace H := H'; clear H'; go_simp)
    | ((fail_if_success have := g4); (with_reducible apply own_alloc nilPt H); (case hgd => exact rfl); (case ho => exact rfl); intro w4 g4 H' _ _; replace H := H'; clear H'; go_simp)
    | ((with_reducible refine cd_skip ?hw ?h); (case hw => exact rfl); intro _ _; go_simp)
    | ((fail_if_success have := V0); (with_reducible refine (identity_k _ (HT.out.below H.out.bel)).mono ?_); rintro e wc ⟨k0, rfl, hv, hb⟩; replace H := Lib.hid (H.out.call hb); have V0 := Lib.hid hv; clear hb hv)
    | ((with_reducible apply own_store rowPt H); (case hgd => exact rfl); (case ho => exact rfl); (case hx => exact rfl); (case hy => exact rfl); (case hi => first | exact at0 | exact at1 | exact at2 | exact at3 | exact at4 | exact at5 | exact at6 | exact at7 | exact at8 | exact at9); intro ws H' _ _; replace H := H'; clear H'; simp only [List.set_cons_zero] at H; go_simp))
  exact bodyPost_ret (own_result_slot 0 rowPt rfl _ H rfl rfl rfl) rfl ⟨_, rfl, H.out.bel⟩
set_option maxRecDepth 8000 in
set_option maxHeartbeats 3200000 in
theorem small_high {v : Nat → Int} {P : Pt pN dK} (n : Int) (w : World) (hT : Tp w) (_hp : PtK v P) (h1 : -65536 ≤ n) (h : 65536 < n) :
    Calls Tryz.prog 15 #[.int .i64 n, PO v] w fun e w' => ∃ r, e = .returned (.tuple #[PO r, .int .i64 10]) ∧ Below w.heap.size w w' := by
  have d0 : decide (n < -65536) = false := by first | (simp; done) | (simp; omega)
  have d1 : decide (65536 < n) = true := by first | (simp; done) | (simp; omega)
  clear h1 h
  have HT := Lib.hid hT
  clear hT
  have H := Lib.hid (Ow.start w)
  go_enter Tryz.func15, Tryz.ntmps15
  go_wp2_with (first
    | ((fail_if_success have := g3); (with_reducible apply own_box H); (case hgd => exact rfl); (case ho => exact rfl); (case hx => exact rfl); intro w3 g3 H' _ _; replace H := H'; clear H'; go_simp)
    | ((fail_if_success have := g4); (with_reducible apply own_alloc nilPt H); (case hgd => exact rfl); (case ho => exact rfl); intro w4 g4 H' _ _; replace H := H'; clear H'; go_simp)
    | ((with_reducible refine cd_skip ?hw ?h); (case hw => exact rfl); intro _ _; go_simp)
    | ((fail_if_success have := V0); (with_reducible refine (identity_k _ (HT.out.below H.out.bel)).mono ?_); rintro e wc ⟨k0, rfl, hv, hb⟩; replace H := Lib.hid (H.out.call hb); have V0 := Lib.hid hv; clear hb hv)
    | ((with_reducible apply own_store rowPt H); (case hgd => exact rfl); (case ho => exact rfl); (case hx => exact rfl); (case hy => exact rfl); (case hi => first | exact at0 | exact at1 | exact at2 | exact at3 | exact at4 | exact at5 | exact at6 | exact at7 | exact at8 | exact at9); intro ws H' _ _; replace H := H'; clear H'; simp only [List.set_cons_zero] at H; go_simp))
  exact bodyPost_ret (own_result_slot 0 rowPt rfl _ H rfl rfl rfl) rfl ⟨_, rfl, H.out.bel⟩
set_option maxRecDepth 8000 in
set_option maxHeartbeats 3200000 in
theorem small_k {v : Nat → Int} {P : Pt pN dK} (n : Int) (w : World) (hT : Tp w) (hp : PtK v P) (h1 : -65536 ≤ n) (h2 : n ≤ 65536) :
    Calls Tryz.prog 15 #[.int .i64 n, PO v] w fun e w' => ∃ r, e = .returned (.tuple #[PO r, .int .i64 0]) ∧ PtK r (zml n P) ∧ Below w.heap.size w w' := by
  have d0 : decide (n < -65536) = false := by first | (simp; done) | (simp; omega)
  have d1 : decide (65536 < n) = false := by first | (simp; done) | (simp; omega)
  obtain ⟨m, hm⟩ : ∃ m, n.natAbs = m := ⟨_, rfl⟩
  obtain ⟨s, hs⟩ : ∃ s, sgn n = s := ⟨_, rfl⟩
  have HM := Lib.hid hm
  have HSG := Lib.hid hs
  have HB := Lib.hid (show -65536 ≤ n ∧ n ≤ 65536 from ⟨h1, h2⟩)
  have HFT : Hid (m < 2 ^ (8 * 3)) := Lib.hid (by rw [show 2 ^ (8 * 3) = 16777216 from rfl]; omega)
  have HR : Hid ((if s % 2 = 0 then pmul edK m P else pneg (pmul edK m P)) = zml n P) := Lib.hid (by rw [← hm]; exact zml_turn n P hs.symm)
  have E0 : IntKind.u8.wrap (m : Int) = U8 (bt m 0) := byte_0
  have E1 : IntKind.u8.wrap ((m : Int) / 256) = U8 (bt m 1) := byte_1
  have E2 : IntKind.u8.wrap ((m : Int) / 65536) = U8 (bt m 2) := byte_2
  clear h1 h2 hm hs
  have V1 := Lib.hid hp
  clear hp
  have HT := Lib.hid hT
  clear hT
  have H := Lib.hid (Ow.start w)
  go_enter Tryz.func15, Tryz.ntmps15
  go_wp2_with (first
    | ((fail_if_success have := g3); (fail_if_success have := g3); (with_reducible apply own_box H); (case hgd => exact rfl); (case ho => exact rfl); (case hx => exact rfl); intro w3 g3 H' _ _; replace H := H'; clear H'; go_simp)
    | ((fail_if_success have := g4); (fail_if_success have := g4); (with_reducible apply own_alloc nilPt H); (case hgd => exact rfl); (case ho => exact rfl); intro w4 g4 H' _ _; replace H := H'; clear H'; go_simp)
    | ((fail_if_success have := mk1); (with_reducible refine (parted_k n _ (by have := HB.out; omega) (by have := HB.out; omega) HM.out HSG.out).mono ?_); rintro e wc ⟨rfl, hb⟩; replace H := Lib.hid (H.out.call hb); have mk1 := trivial; clear hb)
    | ((fail_if_success have := gb); (with_reducible apply lay_b3 (x := m) H); (case hgd => exact rfl); (case ho => exact rfl); (case h0 => exact rfl); (case h1 => exact rfl); (case h2 => exact rfl); intro wb gb H' _ _; replace H := H'; clear H'; go_simp)
    | ((with_reducible apply own_load rowPt H); (case hgd => exact rfl); (case ho => exact rfl); (case hx => exact rfl); (case hi => first | exact at0 | exact at1 | exact at2 | exact at3 | exact at4 | exact at5 | exact at6 | exact at7 | exact at8 | exact at9); intro _ _; go_simp)
    | ((fail_if_success have := V2); (with_reducible refine (mult_k _ (HT.out.below H.out.bel) (yb_3 (H.out.row 0 rfl) HFT.out) V1.out (by omega) (by omega)).mono ?_); rintro e wc ⟨k2, rfl, hv, hb⟩; replace H := Lib.hid (H.out.call hb); have V2 := Lib.hid hv; clear hb hv)
    | ((fail_if_success have := g8); (fail_if_success have := g8); (with_reducible apply own_alloc nilPt H); (case hgd => exact rfl); (case ho => exact rfl); intro w8 g8 H' _ _; replace H := H'; clear H'; go_simp)
    | ((with_reducible apply own_store rowPt H); (case hgd => exact rfl); (case ho => exact rfl); (case hx => exact rfl); (case hy => exact rfl); (case hi => first | exact at0 | exact at1 | exact at2 | exact at3 | exact at4 | exact at5 | exact at6 | exact at7 | exact at8 | exact at9); intro ws H' _ _; replace H := H'; clear H'; simp only [List.set_cons_zero, List.set_cons_succ] at H; go_simp)
    | ((fail_if_success have := V3); (with_reducible refine (turned_k s _ (HT.out.below H.out.bel) V2.out HR.out).mono ?_); rintro e wc ⟨k3, rfl, hv, hb⟩; replace H := Lib.hid (H.out.call hb); have V3 := Lib.hid hv; clear hb hv))
  exact bodyPost_ret (own_result_slot 2 rowPt rfl _ H rfl rfl rfl) rfl ⟨_, rfl, V3.out, H.out.bel⟩
theorem small_bad {v : Nat → Int} {P : Pt pN dK} (n : Int) (w : World) (hT : Tp w) (hp : PtK v P) (h : n < -65536 ∨ 65536 < n) :
    Calls Tryz.prog 15 #[.int .i64 n, PO v] w fun e w' => ∃ r, e = .returned (.tuple #[PO r, .int .i64 10]) ∧ Below w.heap.size w w' := by
  by_cases h1 : n < -65536
  · exact small_low n w hT hp h1
  · exact small_high n w hT hp (by omega) (by omega)
end Go.Proofs.YtkkmjlkeohkgnaaGreatDoor

/-
  The program's mult, all its contracts. No statement is proved here: lemmas for the walks.
-/
