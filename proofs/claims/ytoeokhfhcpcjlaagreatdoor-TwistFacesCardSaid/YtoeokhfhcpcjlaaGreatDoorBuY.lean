/-
 Lemmas for the walks, several texts in one. No statement is proved here.
-/
import Derived.Test.YtoeokhfhcpcjlaaGreatDoorBuU
import Derived.Test.YtoeokhfhcpcjlaaGreatDoorBuW
import Derived.Deep.CutRange
import Derived.Test.YtoeokhfhcpcjlaaGreatDoorBuM
set_option maxRecDepth 8000
set_option maxHeartbeats 3200000
namespace Go.Proofs.YtoeokhfhcpcjlaaGreatDoor
open Go.RowKit
theorem sum_k {a : Option Addr} {n c : Nat} {A : Nat → Option Addr} {N C : Nat → Nat} {V : Nat → Nat → Int} {X : Nat → Nat} {P : Nat → Pt pN dK} (w : World) (hT : Tp w) (h : Grid w w.heap.size a n c 25 (fun i => sci (.slice (A i) (N i) (C i)) (V i))) (hn : n ≤ 16) (h1 : ∀ i, i < n → 1 ≤ N i ∧ N i ≤ 64) (hs : ∀ i, i < n → Sb w w.heap.size (A i) (N i) (C i) (X i)) (hp : ∀ i, i < n → PtK (V i) (P i)) :
  Calls Tryz.prog 110 #[.slice a n c] w fun e w' => ∃ r, e = .returned (.tuple #[PO r, .int .i64 0]) ∧ PtK r (tot (fun k => ((X k : Nat) : Int)) P n) ∧ Below w.heap.size w w' := by
 have HF : Hid ((true = true) ↔ n ≤ 16 ∧ ∀ i, i < n → 1 ≤ N i ∧ N i ≤ 64) := Lib.hid ⟨(fun _ => ⟨hn, h1⟩), fun _ => rfl⟩
 have HG := Lib.hid h
 have HN := Lib.hid hn
 have H1 := Lib.hid h1
 have HS := Lib.hid hs
 have HP := Lib.hid hp
 clear h h1 hs hp
 have HT := Lib.hid hT
 clear hT
 have H := Lib.hid (Ow.start w)
 go_enter Tryz.func110, Tryz.ntmps110
 go_wp2_with (first
  | ((fail_if_success have := g2); (fail_if_success have := g2); (with_reducible apply z0b nilPt H); (case hgd | ho => exact rfl); clear H; intro w2 g2 H _ _; go_simp)
  | ((fail_if_success have := mkf); (with_reducible refine (fit_k _ (HG.out.call H.out.bel) (Nat.le_trans HN.out (by omega)) HF.out).mono ?_); rintro e wc ⟨rfl, hb⟩; replace H := hcall H hb; have mkf := trivial; clear hb)
  | ((fail_if_success have := g13); (with_reducible apply own_makeRw H); (case hgd | ho | hx | hy => exact rfl); (case hc => omega); clear H; intro w13 g13 H _ _; go_simp))
 clear mkf
 go_loopw [16] (fun v16 wr => ∃ (k : Nat) (S : Nat → Nat → Value), k ≤ n ∧ v16 = .int .i64 (k : Int) ∧ Ow w wr [(g13, Cs 169 (AV (n * 409) (grd 409 S))), (g2, Blk 38 .u64 24 fun _ => 0)] ∧
  ∀ i, i < k → ∃ g F, S i = sci (.slice (some ⟨g, 0, none⟩) (dgn (N i)) (dgn (N i))) F ∧ g ≠ g13 ∧ wr.heap[g]? = some (Blk 3 .i64 (dgn (N i)) (sdg (X i) 5)) ∧ Fill F 17 fun j => pmul edK j (P i)) (fun v16 _ => (n - (intOf v16).toNat))
 case atStart => exact ⟨0, _, Nat.zero_le _, rfl, H.out, fun i hi => by omega⟩
 case round =>
  clear H
  obtain ⟨k, S, hk, rfl, HH, hD⟩ := hrel
  have H := Lib.hid HH
  have HDG := Lib.hid hD
  clear HH hD
  by_cases hlt : k < n
  ·have hid : decide ((k : Int) < (n : Int)) = true := by simp; omega
   have hid' : decide (k < n) = true := by simpa using hlt
   have kn : (k : Int) < (n : Int) := by omega
   have n16 : (n : Int) ≤ 16 := by omega
   obtain ⟨gb, go, rfl, hgb, hgc⟩ := HG.out.get (by omega)
   have HC : Hid (∀ W, Below w.heap.size w W → ∀ j, j < 25 → W.cell? ⟨gb, go + k * 25 + j, none⟩ = some (sci (.slice (A k) (N k) (C k)) (V k) j)) := Lib.hid fun W hW j hj => (hW.cell (p := ⟨gb, go + k * 25 + j, none⟩) hgb).trans (hgc k hlt j hj)
   have HSL : Hid (∀ i, (sci (.slice (A k) (N k) (C k)) (V k) i).oneCell' = true) := Lib.hid fun i => z6n rfl _ i
   have HSK := Lib.hid (HS.out k hlt)
   have HPK := Lib.hid (HP.out k hlt)
   have HNK := Lib.hid (H1.out k hlt).2
   have HL := Lib.hid hlt
   obtain ⟨wq, hwq⟩ : ∃ wq, wq = wr := ⟨_, rfl⟩
   have TX := Lib.hid (hwq ▸ Turn.refl (fun j => j = g13 ∨ wq.heap.size ≤ j) wr : Turn (fun j => j = g13 ∨ wq.heap.size ≤ j) wq wr)
   rw [← hwq] at HDG
   clear hlt hk hgb hgc HG hn hwq
   go_wp2_with (first
    | ((with_reducible apply z5o rowTm); (case hgd | ho | hx => exact rfl); (case hc => exact HC.out _ H.out.bel); intro _ _; go_simp)
    | ((fail_if_success have := g6); (with_reducible apply own_allocVB nilTm H); (case hgd | ho => exact rfl); intro w6 g6 H' hb hg _ _; have HG6 := Lib.hid (Nat.le_trans TX.out.size hg.out); replace TX := Lib.hid (TX.out.callq hb.out); replace H := H'; clear H' hb hg; go_simp)
    | ((fail_if_success have := mka); (with_reducible apply z2l (v := .agg (AV 25 (sci (.slice (A k) (N k) (C k)) (V k)))) rowTm.size H); (case hgd | ho | hx | hy => exact rfl); (case hi => repeat first|exact at0|apply atS); (case hp => omega); (case hv => exact rfl); (case h1 => exact fun j _ => HSL.out j); (case hF => exact z2c _ _); intro ws H' ht _ _; replace H := H'; replace TX := Lib.hid (TX.out.trans (ht.out.mono fun j _ e => .inr (e ▸ HG6.out))); clear H' ht; have mka := trivial; simp only [qb] at H; go_simp)
    | ((with_reducible apply y0p rowTm H); (case hgd | ho | hx => exact rfl); (case hi => repeat first|exact at0|apply atS); (case hp => omega); (case hC => exact z4d fun j _ => by rw [Nat.zero_add]); intro _ _; go_simp)
    | ((fail_if_success have := gs); (with_reducible refine (rowOf_k _ (HT.out.below H.out.bel) ((HSK.out.below H.out.bel).more H.out.bel.size) HPK.out HNK.out rfl).mono ?_); rintro e wc ⟨gs, F, rfl, hge, hr, hF, hb⟩; have HGS := Lib.hid (show gs ≠ g13 by have := z0w (H.out.row 1 rfl); omega); replace TX := Lib.hid (TX.out.callq hb); replace H := Lib.hid ((H.out.call hb).more hr (Nat.le_trans H.out.bel.size hge) fun x hx => by (have := z0w (H.out.has x hx); omega)); have HFL := Lib.hid hF; clear hb hge hr hF)
    | ((fail_if_success have := mkb); (with_reducible apply z2l (v := .agg (AV 409 (sci (.slice (some ⟨gs, 0, none⟩) (dgn (N k)) (dgn (N k))) F))) rowRw.size H); (case hgd | ho | hx | hy => exact rfl); (case hi => repeat first|exact at0|apply atS); (case hp => have := HL.out; omega); (case hv => exact rfl); (case h1 => exact fun j _ => z6n rfl _ j); (case hF => exact grd_lay (by omega) _ k _); intro ws H' ht _ _; replace H := H'; replace TX := Lib.hid (TX.out.trans (ht.out.mono fun j _ e => .inl e)); clear H' ht; have mkb := trivial; simp only [qb, qc] at H; go_simp))
   go_roundw
   case rel =>
    refine ⟨k + 1, _, by have := HL.out; omega, by go_num, H.out.pop.pop, fun i hi => ?_⟩
    rcases (by omega : i < k ∨ i = k) with h | rfl
    ·obtain ⟨g, F', hS, hne, hrow, hF⟩ := HDG.out i h
     exact ⟨g, F', (if_neg (by omega)).trans hS, hne, TX.out.row hrow (fun h => by
      have := z0w hrow
      rcases h with h | h
      ·exact hne h
      ·omega), hF⟩
    ·exact ⟨gs, F, if_pos rfl, HGS.out, H.out.row 0 rfl, HFL.out⟩
   case measure => (have := HL.out; simp [intOf] <;> omega)
  ·obtain rfl : n = k := by omega
   have hid : decide ((n : Int) < (n : Int)) = false := by simp
   have hid' : decide (n < n) = false := by simp
   have HRA : Hid (∀ i, i < n → RowAt wr wr.heap.size g13 (i * 409) (dgn (N i)) (X i) (P i)) := Lib.hid fun i hi => by
    obtain ⟨g, F, hS, _, hrow, hF⟩ := HDG.out i hi
    exact row_at (H.out.row 0 rfl) (by have := Nat.mul_le_mul_right 409 (show i + 1 ≤ n by omega); rw [Nat.add_mul, Nat.one_mul] at this; exact this) (fun j hj => by rw [grd_at S i j hj, hS]) hrow hF
   clear hlt hk hn
   go_wp2_with (first
    | ((fail_if_success have := V1); (with_reducible refine (together_k _ (HT.out.below H.out.bel) HRA.out HN.out (fun i hi => Nat.le_trans (dgn_le (H1.out i hi).2) (by omega)) (fun i hi m hm => dgx_all (HS.out i hi).fits hm)).mono ?_); rintro e wc ⟨k1, rfl, hv, hb⟩; replace H := hcall H hb; have V1 := Lib.hid hv; clear hb hv)
    | ((with_reducible apply z0e rowPt H); (case hgd | ho | hx | hy => exact rfl); (case hi => repeat first|exact at0|apply atS); clear H; intro ws H _ _; simp only [qb, qc] at H; go_simp))
   exact bodyPost_ret (z0n 1 rowPt rfl _ H rfl rfl rfl) rfl ⟨_, rfl, V1.out, H.out.bel⟩
theorem grid_one {w : World} {g m : Nat} {t : TypeId} {f : Nat → Value} (hr : w.heap[g]? = some (Cs t (AV m f))) : Grid w w.heap.size (some ⟨g, 0, none⟩) 1 1 m fun _ => f := grid_blk (t := t) (by rw [y05]; exact hr)
theorem mult_k {v : Nat → Int} {P : Pt pN dK} {a : Option Addr} {n c x : Nat} (w : World) (hT : Tp w) (hs : Sb w w.heap.size a n c x) (hp : PtK v P) (h1 : 1 ≤ n) (h64 : n ≤ 64) :
  Calls Tryz.prog 79 #[.slice a n c, PO v] w fun e w' => ∃ r, e = .returned (.tuple #[PO r, .int .i64 0]) ∧ PtK r (pmul edK x P) ∧ Below w.heap.size w w' := by
 have HN := Lib.hid (show 1 ≤ n ∧ n ≤ 64 from ⟨h1, h64⟩)
 clear h1 h64
 have HS := Lib.hid hs
 have V1 := Lib.hid hp
 clear hs hp
 have HT := Lib.hid hT
 clear hT
 have H := Lib.hid (Ow.start w)
 go_enter Tryz.func79, Tryz.ntmps79
 go_wp2_with (first
  | ((fail_if_success have := g3); (with_reducible apply z0h H); (case hgd | ho | hx => exact rfl); clear H; intro w3 g3 H _ _; go_simp)
  | ((fail_if_success have := g4); (with_reducible apply z0b nilPt H); (case hgd | ho => exact rfl); clear H; intro w4 g4 H _ _; go_simp)
  | ((with_reducible apply z0g rowPt H); (case hgd | ho | hx => exact rfl); (case hi => repeat first|exact at0|apply atS); intro _ _; go_simp)
  | ((with_reducible apply lay_build_tm); (case hgd | ho | hx | hy => exact rfl); intro _ _; go_simp)
  | ((fail_if_success have := g9); (with_reducible apply own_build1G Tryz.underlying164 infoTm (by omega) (by omega) H); (case hgd | ho | hx => exact rfl); clear H; intro w9 g9 H _ _; go_simp)
  | ((fail_if_success have := V0); (with_reducible refine (sum_k (A := fun _ => a) (N := fun _ => n) (C := fun _ => c) (V := fun _ => v) (X := fun _ => x) (P := fun _ => P) _ (HT.out.below H.out.bel) (grid_one (H.out.row 0 rfl)) (by omega) (fun _ _ => HN.out) (fun _ _ => (HS.out.below H.out.bel).more H.out.bel.size) (fun _ _ => V1.out)).mono ?_); rintro e wc ⟨k0, rfl, hv, hb⟩; replace H := hcall H hb; have V0 := Lib.hid hv; clear hb hv)
  | ((with_reducible apply z0e rowPt H); (case hgd | ho | hx | hy => exact rfl); (case hi => repeat first|exact at0|apply atS); clear H; intro ws H _ _; simp only [qb, qc] at H; go_simp))
 exact bodyPost_ret (z0n 1 rowPt rfl _ H rfl rfl rfl) rfl ⟨_, rfl, V0.out.eq (tot_one x _), H.out.bel⟩
theorem byte_0 {m : Nat} : IntKind.u8.wrap (m : Int) = U8 (bt m 0) := by
 unfold U8
 rw [z41, IntKind.wrap_u8, Nat.mul_zero, Nat.pow_zero, Nat.div_one]
 omega
theorem byte_1 {m : Nat} : IntKind.u8.wrap ((m : Int) / 256) = U8 (bt m 1) := by
 unfold U8
 rw [z41, IntKind.wrap_u8, show 2 ^ (8 * 1) = 256 from rfl]
 omega
theorem byte_2 {m : Nat} : IntKind.u8.wrap ((m : Int) / 65536) = U8 (bt m 2) := by
 unfold U8
 rw [z41, IntKind.wrap_u8, show 2 ^ (8 * 2) = 65536 from rfl]
 omega
theorem yb_3 {w : World} {g x : Nat} (h : w.heap[g]? = some (YB 3 (bt x))) (hx : x < 2 ^ (8 * 3)) : Sb w w.heap.size (some ⟨g, 0, none⟩) 3 3 x :=
 ⟨⟨Nat.le_refl _, (fun e => by cases e), fun ad e _ => ⟨g, 0, (Option.some.inj e).symm, z0w h, fun i hi => by rw [Nat.zero_add]; exact (blk_rowB h).cell i hi⟩⟩, hx⟩
theorem small_k {v : Nat → Int} {P : Pt pN dK} (n : Int) (w : World) (hT : Tp w) (hp : PtK v P) (h1 : -65536 ≤ n) (h2 : n ≤ 65536) :
  Calls Tryz.prog 34 #[.int .i64 n, PO v] w fun e w' => ∃ r, e = .returned (.tuple #[PO r, .int .i64 0]) ∧ PtK r (zml n P) ∧ Below w.heap.size w w' := by
 have d0 : decide (n < -65536) = false := by first | (simp; done) | (simp; omega)
 have d1 : decide (65536 < n) = false := by first | (simp; done) | (simp; omega)
 obtain ⟨m, hm⟩ : ∃ m, n.natAbs = m := ⟨_, rfl⟩
 obtain ⟨s, hs⟩ : ∃ s, sgn n = s := ⟨_, rfl⟩
 have HM := Lib.hid hm
 have HSG := Lib.hid hs
 have HB := Lib.hid (show -65536 ≤ n ∧ n ≤ 65536 from ⟨h1, h2⟩)
 have HFT : Hid (m < 2 ^ (8 * 3)) := Lib.hid (by rw [show 2 ^ (8 * 3) = 16777216 from rfl]; omega)
 have HR : Hid ((if s % 2 = 0 then pmul edK m P else pneg (pmul edK m P)) = zml n P) := Lib.hid (by rw [← hm]; exact z8j n P hs.symm)
 have E0 : IntKind.u8.wrap (m : Int) = U8 (bt m 0) := byte_0
 have E1 : IntKind.u8.wrap ((m : Int) / 256) = U8 (bt m 1) := byte_1
 have E2 : IntKind.u8.wrap ((m : Int) / 65536) = U8 (bt m 2) := byte_2
 clear h1 h2 hm hs
 have V1 := Lib.hid hp
 clear hp
 have HT := Lib.hid hT
 clear hT
 have H := Lib.hid (Ow.start w)
 go_enter Tryz.func34, Tryz.ntmps34
 go_wp2_with (first
  | ((fail_if_success have := g3); (fail_if_success have := g3); (with_reducible apply z0h H); (case hgd | ho | hx => exact rfl); clear H; intro w3 g3 H _ _; go_simp)
  | ((fail_if_success have := g4); (fail_if_success have := g4); (with_reducible apply z0b nilPt H); (case hgd | ho => exact rfl); clear H; intro w4 g4 H _ _; go_simp)
  | ((fail_if_success have := mk1); (with_reducible refine (z84 n _ (by have := HB.out; omega) (by have := HB.out; omega) HM.out HSG.out).mono ?_); rintro e wc ⟨rfl, hb⟩; replace H := hcall H hb; have mk1 := trivial; clear hb)
  | ((fail_if_success have := gb); (with_reducible apply lay_b3 (x := m) H); (case hgd | ho | h0 | h1 | h2 => exact rfl); clear H; intro wb gb H _ _; go_simp)
  | ((with_reducible apply z0g rowPt H); (case hgd | ho | hx => exact rfl); (case hi => repeat first|exact at0|apply atS); intro _ _; go_simp)
  | ((fail_if_success have := V2); (with_reducible refine (mult_k _ (HT.out.below H.out.bel) (yb_3 (H.out.row 0 rfl) HFT.out) V1.out (by omega) (by omega)).mono ?_); rintro e wc ⟨k2, rfl, hv, hb⟩; replace H := hcall H hb; have V2 := Lib.hid hv; clear hb hv)
  | ((fail_if_success have := g8); (fail_if_success have := g8); (with_reducible apply z0b nilPt H); (case hgd | ho => exact rfl); clear H; intro w8 g8 H _ _; go_simp)
  | ((with_reducible apply z0e rowPt H); (case hgd | ho | hx | hy => exact rfl); (case hi => repeat first|exact at0|apply atS); clear H; intro ws H _ _; simp only [qb, qc] at H; go_simp)
  | ((fail_if_success have := V3); (with_reducible refine (z8u s _ (HT.out.below H.out.bel) V2.out HR.out).mono ?_); rintro e wc ⟨k3, rfl, hv, hb⟩; replace H := hcall H hb; have V3 := Lib.hid hv; clear hb hv))
 exact bodyPost_ret (z0n 2 rowPt rfl _ H rfl rfl rfl) rfl ⟨_, rfl, V3.out, H.out.bel⟩
end Go.Proofs.YtoeokhfhcpcjlaaGreatDoor
