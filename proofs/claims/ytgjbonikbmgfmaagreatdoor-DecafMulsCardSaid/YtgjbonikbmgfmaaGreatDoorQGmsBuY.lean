/- Lemmas; no statement is proved here. -/
import Derived.Test.YtgjbonikbmgfmaaGreatDoorQGmsBuW
set_option maxRecDepth 8000
set_option maxHeartbeats 3200000
namespace Go.Proofs.YtgjbonikbmgfmaaGreatDoor
open Go.RowKit
theorem sum_k {a : Option Addr} {n c : Nat} {A : Nat → Option Addr} {N C : Nat → Nat} {V : Nat → Nat → Int} {X : Nat → Nat} {P : Nat → Pt pN dK} (w : World) (hT : Tp w) (h : Grid w w.heap.size a n c 25 (fun i => zO (.slice (A i) (N i) (C i)) (V i))) (hn : n ≤ 16) (h1 : ∀ i, i < n → 1 ≤ N i ∧ N i ≤ 64) (hs : ∀ i, i < n → Sb w w.heap.size (A i) (N i) (C i) (X i)) (hp : ∀ i, i < n → PtK (V i) (P i)) :
  Calls Tryz.prog 155 #[.slice a n c] w fun e w' => ∃ r, e = .returned (.tuple #[PO r, .int .i64 0]) ∧ PtK r (tot (fun k => ((X k : Nat) : Int)) P n) ∧ Below w.heap.size w w' := by
 have HF : Hid ((true = true) ↔ n ≤ 16 ∧ ∀ i, i < n → 1 ≤ N i ∧ N i ≤ 64) := za ⟨(fun _ => ⟨hn, h1⟩), fun _ => rfl⟩
 have HG := za h
 have HN := za hn
 have H1 := za h1
 have HS := za hs
 have HP := za hp
 clear h h1 hs hp
 have HT := za hT
 clear hT
 have H := za (Ow.start w)
 go_enter Tryz.func155, Tryz.ntmps155
 go_wp2_with (first
  | ((fail_if_success have := g2); (with_reducible apply ze z1d H); (case hgd | ho => exact rfl); clear H; intro w2 g2 H _ _; go_simp)
  | ((fail_if_success have := mkf); (with_reducible refine (fit_k _ (HG.out.call H.out.bel) (Nat.le_trans HN.out (by omega)) HF.out).mono ?_); rintro e wc ⟨rfl, hb⟩; replace H := zd H hb; have mkf := trivial; clear hb)
  | ((fail_if_success have := g13); (with_reducible apply own_makeRw H); (case hgd | ho | hx | hy => exact rfl); (case hc => omega); clear H; intro w13 g13 H _ _; go_simp))
 clear mkf
 go_loopw [16] (fun v16 wr => ∃ (k : Nat) (S : Nat → Nat → Value), k ≤ n ∧ v16 = .int .i64 (k : Int) ∧ Ow w wr [(g13, Cs 201 (AV (n * 409) (grd 409 S))), (g2, zv 32 .u64 24 fun _ => 0)] ∧
  ∀ i, i < k → ∃ g F, S i = zO (.slice (some ⟨g, 0, none⟩) (zM (N i)) (zM (N i))) F ∧ g ≠ g13 ∧ wr.heap[g]? = some (zv 3 .i64 (zM (N i)) (sdg (X i) 5)) ∧ Fill F 17 fun j => zF zB j (P i)) (fun v16 _ => (n - (intOf v16).toNat))
 case atStart => exact ⟨0, _, Nat.zero_le _, rfl, H.out, fun i hi => by omega⟩
 case round =>
  clear H
  obtain ⟨k, S, hk, rfl, HH, hD⟩ := hrel
  have H := za HH
  have HDG := za hD
  clear HH hD
  by_cases hlt : k < n
  ·have hid : decide ((k : Int) < (n : Int)) = true := by simp; omega
   have hid' : decide (k < n) = true := by simpa using hlt
   have kn : (k : Int) < (n : Int) := by omega
   have n16 : (n : Int) ≤ 16 := by omega
   obtain ⟨gb, go, rfl, hgb, hgc⟩ := HG.out.get (by omega)
   have HC : Hid (∀ W, Below w.heap.size w W → ∀ j, j < 25 → W.cell? ⟨gb, go + k * 25 + j, none⟩ = some (zO (.slice (A k) (N k) (C k)) (V k) j)) := za fun W hW j hj => (hW.cell (p := ⟨gb, go + k * 25 + j, none⟩) hgb).trans (hgc k hlt j hj)
   have HSL : Hid (∀ i, (zO (.slice (A k) (N k) (C k)) (V k) i).oneCell' = true) := za fun i => z3l rfl _ i
   have HSK := za (HS.out k hlt)
   have HPK := za (HP.out k hlt)
   have HNK := za (H1.out k hlt).2
   have HL := za hlt
   obtain ⟨wq, hwq⟩ : ∃ wq, wq = wr := ⟨_, rfl⟩
   have TX := za (hwq ▸ Turn.refl (fun j => j = g13 ∨ wq.heap.size ≤ j) wr : Turn (fun j => j = g13 ∨ wq.heap.size ≤ j) wq wr)
   rw [← hwq] at HDG
   clear hlt hk hgb hgc HG hn hwq
   go_wp2_with (first
    | ((with_reducible apply z61 z7z); (case hgd | ho | hx => exact rfl); (case hc => exact HC.out _ H.out.bel); intro _ _; go_simp)
    | ((fail_if_success have := g6); (with_reducible apply own_allocVB y8k H); (case hgd | ho => exact rfl); intro w6 g6 H' hb hg _ _; have HG6 := za (Nat.le_trans TX.out.size hg.out); replace TX := za (TX.out.callq hb.out); replace H := H'; clear H' hb hg; go_simp)
    | ((fail_if_success have := mka); (with_reducible apply z4b (v := .agg (AV 25 (zO (.slice (A k) (N k) (C k)) (V k)))) z7z.size H); (case hgd | ho | hx | hy => exact rfl); (case hi => repeat first|exact z5|apply z8); (case hp => omega); (case hv => exact rfl); (case h1 => exact fun j _ => HSL.out j); (case hF => exact z13 _ _); intro ws H' ht _ _; replace H := H'; replace TX := za (TX.out.trans (ht.out.mono fun j _ e => .inr (e ▸ HG6.out))); clear H' ht; have mka := trivial; simp only [qb] at H; go_simp)
    | ((with_reducible apply y39 z7z H); (case hgd | ho | hx => exact rfl); (case hi => repeat first|exact z5|apply z8); (case hp => omega); (case hC => exact z6n fun j _ => by rw [Nat.zero_add]); intro _ _; go_simp)
    | ((fail_if_success have := gs); (with_reducible refine (z70 _ (HT.out.below H.out.bel) ((HSK.out.below H.out.bel).more H.out.bel.size) HPK.out HNK.out rfl).mono ?_); rintro e wc ⟨gs, F, rfl, hge, hr, hF, hb⟩; have HGS := za (show gs ≠ g13 by have := z01 (H.out.row 1 rfl); omega); replace TX := za (TX.out.callq hb); replace H := za ((H.out.call hb).more hr (Nat.le_trans H.out.bel.size hge) fun x hx => by (have := z01 (H.out.has x hx); omega)); have HFL := za hF; clear hb hge hr hF)
    | ((fail_if_success have := mkb); (with_reducible apply z4b (v := .agg (AV 409 (zO (.slice (some ⟨gs, 0, none⟩) (zM (N k)) (zM (N k))) F))) rowRw.size H); (case hgd | ho | hx | hy => exact rfl); (case hi => repeat first|exact z5|apply z8); (case hp => have := HL.out; omega); (case hv => exact rfl); (case h1 => exact fun j _ => z3l rfl _ j); (case hF => exact grd_lay (by omega) _ k _); intro ws H' ht _ _; replace H := H'; replace TX := za (TX.out.trans (ht.out.mono fun j _ e => .inl e)); clear H' ht; have mkb := trivial; simp only [qb, qc] at H; go_simp))
   go_roundw
   case rel =>
    refine ⟨k + 1, _, by have := HL.out; omega, by go_num, H.out.pop.pop, fun i hi => ?_⟩
    rcases (by omega : i < k ∨ i = k) with h | rfl
    ·obtain ⟨g, F', hS, hne, hrow, hF⟩ := HDG.out i h
     exact ⟨g, F', (if_neg (by omega)).trans hS, hne, TX.out.row hrow (fun h => by
      have := z01 hrow
      rcases h with h | h
      ·exact hne h
      ·omega), hF⟩
    ·exact ⟨gs, F, if_pos rfl, HGS.out, H.out.row 0 rfl, HFL.out⟩
   case measure => (have := HL.out; simp [intOf] <;> omega)
  ·obtain rfl : n = k := by omega
   have hid : decide ((n : Int) < (n : Int)) = false := by simp
   have hid' : decide (n < n) = false := by simp
   have HRA : Hid (∀ i, i < n → RowAt wr wr.heap.size g13 (i * 409) (zM (N i)) (X i) (P i)) := za fun i hi => by
    obtain ⟨g, F, hS, _, hrow, hF⟩ := HDG.out i hi
    exact z9q (H.out.row 0 rfl) (by have := Nat.mul_le_mul_right 409 (show i + 1 ≤ n by omega); rw [Nat.add_mul, Nat.one_mul] at this; exact this) (fun j hj => by rw [z6t S i j hj, hS]) hrow hF
   clear hlt hk hn
   go_wp2_with (first
    | ((fail_if_success have := V1); (with_reducible refine (z55 _ (HT.out.below H.out.bel) HRA.out HN.out (fun i hi => Nat.le_trans (z98 (H1.out i hi).2) (by omega)) (fun i hi m hm => z68 (HS.out i hi).fits hm)).mono ?_); rintro e wc ⟨k1, rfl, hv, hb⟩; replace H := zd H hb; have V1 := za hv; clear hb hv)
    | ((with_reducible apply zj zH H); (case hgd | ho | hx | hy => exact rfl); (case hi => repeat first|exact z5|apply z8); clear H; intro ws H _ _; simp only [qb, qc] at H; go_simp))
   exact bodyPost_ret (z0c 1 zH rfl _ H rfl rfl rfl) rfl ⟨_, rfl, V1.out, H.out.bel⟩
theorem grid_one {w : World} {g m : Nat} {t : TypeId} {f : Nat → Value} (hr : w.heap[g]? = some (Cs t (AV m f))) : Grid w w.heap.size (some ⟨g, 0, none⟩) 1 1 m fun _ => f := y11 (t := t) (by rw [y84]; exact hr)
theorem y5p {v : Nat → Int} {P : Pt pN dK} {a : Option Addr} {n c x : Nat} (w : World) (hT : Tp w) (hs : Sb w w.heap.size a n c x) (hp : PtK v P) (h1 : 1 ≤ n) (h64 : n ≤ 64) :
  Calls Tryz.prog 101 #[.slice a n c, PO v] w fun e w' => ∃ r, e = .returned (.tuple #[PO r, .int .i64 0]) ∧ PtK r (zF zB x P) ∧ Below w.heap.size w w' := by
 have HN := za (show 1 ≤ n ∧ n ≤ 64 from ⟨h1, h64⟩)
 clear h1 h64
 have HS := za hs
 have V1 := za hp
 clear hs hp
 have HT := za hT
 clear hT
 have H := za (Ow.start w)
 go_enter Tryz.func101, Tryz.ntmps101
 go_wp2_with (first
  | ((with_reducible apply zw H); (case hgd | ho | hx => exact rfl); clear H; intro _ _ H _ _; go_simp)
  | ((with_reducible apply ze z1d H); (case hgd | ho => exact rfl); clear H; intro _ _ H _ _; go_simp)
  | ((with_reducible apply zr zH H); (case hgd | ho | hx => exact rfl); (case hi => repeat first|exact z5|apply z8); intro _ _; go_simp)
  | ((with_reducible apply z8p); (case hgd | ho | hx | hy => exact rfl); intro _ _; go_simp)
  | ((with_reducible apply own_build1G Tryz.underlying198 infoTm (by omega) (by omega) H); (case hgd | ho | hx => exact rfl); clear H; intro _ _ H _ _; go_simp)
  | ((fail_if_success have := V0); (with_reducible refine (sum_k (A := fun _ => a) (N := fun _ => n) (C := fun _ => c) (V := fun _ => v) (X := fun _ => x) (P := fun _ => P) _ (HT.out.below H.out.bel) (grid_one (H.out.row 0 rfl)) (by omega) (fun _ _ => HN.out) (fun _ _ => (HS.out.below H.out.bel).more H.out.bel.size) (fun _ _ => V1.out)).mono ?_); rintro e wc ⟨k0, rfl, hv, hb⟩; replace H := zd H hb; have V0 := za hv; clear hb hv)
  | ((with_reducible apply zj zH H); (case hgd | ho | hx | hy => exact rfl); (case hi => repeat first|exact z5|apply z8); clear H; intro ws H _ _; simp only [qb, qc] at H; go_simp))
 exact bodyPost_ret (z0c 1 zH rfl _ H rfl rfl rfl) rfl ⟨_, rfl, V0.out.eq (tot_one x _), H.out.bel⟩
end Go.Proofs.YtgjbonikbmgfmaaGreatDoor
