/- Lemmas; no statement is proved here. -/
import Derived.Test.YtgjbonikbmgfmaaGreatDoorQGmsBuV
import Derived.Sort.LoopGhostIn
import Derived.LoopIn
set_option maxRecDepth 8000
set_option maxHeartbeats 3200000
namespace Go.Proofs.YtgjbonikbmgfmaaGreatDoor
open Go.RowKit
theorem y7x {n : Nat} {s : Value} {F v : Nat → Int} {o : Nat} {w : World} {b : Nat} {t : TypeId} (hr : w.heap[b]? = some (Cs t (AV n (zO s F)))) (ho : 1 + o + 24 ≤ n) (hv : ∀ j, j < 24 → F (o + j) = v j) : PtAt w w.heap.size b (1 + o) v :=
 ⟨z01 hr, fun j hj => by rw [z69 hr (by omega), Nat.add_assoc, y1k, hv j hj]⟩
theorem y7w {n : Nat} {s : Value} {v : Nat → Int} {w : World} {b : Nat} {t : TypeId} (hr : w.heap[b]? = some (Cs t (AV n (zO s v)))) (ho : 25 ≤ n) : PtAt w w.heap.size b 1 v := y7x (o := 0) hr (by omega) fun j _ => by rw [Nat.zero_add]
theorem y02 (r : Nat → Int) (m : Nat) : (Value.agg (AZ .u64 m r)).cells = AV m fun i => .int .u64 (r i) := AV_int .u64 m r
theorem signed5 (a : Option Addr) (n c x m : Nat) (w : World) (hn : n ≤ 64) (hm : (8 * n + 5 - 1) / 5 = m) (hs : Sb w w.heap.size a n c x) :
  Calls Tryz.prog 184 #[.slice a n c, .int .i64 5] w fun e w' => ∃ g, e = .returned (.tuple #[.slice (some ⟨g, 0, none⟩) (m + 1) (m + 1), .int .i64 0]) ∧ w.heap.size ≤ g ∧ w'.heap[g]? = some (zv 3 .i64 (m + 1) (sdg x 5)) ∧ Below w.heap.size w w' := signed_v a n c x 5 m w hn (by omega) (by omega) hm hs
theorem z70 {a : Option Addr} {N c x M : Nat} {v : Nat → Int} {P : Pt pN dK} (w : World) (hT : Tp w) (hs : Sb w w.heap.size a N c x) (hp : PtK v P) (h64 : N ≤ 64) (hM : zM N = M) :
  Calls Tryz.prog 158 #[.agg (AV 25 (zO (.slice a N c) v))] w fun e w' => ∃ g F, e = .returned (.agg (AV 409 (zO (.slice (some ⟨g, 0, none⟩) M M) F))) ∧ w.heap.size ≤ g ∧ w'.heap[g]? = some (zv 3 .i64 M (sdg x 5)) ∧ Fill F 17 (fun i => zF zB i P) ∧ Below w.heap.size w w' := by
 obtain ⟨m, hm⟩ : ∃ m, (8 * N + 5 - 1) / 5 = m := ⟨_, rfl⟩
 have hM' : m + 1 = M := by rw [← hM, ← hm]; rfl
 subst hM'
 have HM := za hm
 have HS := za hs
 have V1 := za hp
 have N64 := za h64
 clear hm hs hp h64 hM
 have HT := za hT
 clear hT
 have H := za (Ow.start w)
 go_enter Tryz.func158, Tryz.ntmps158
 go_wp2_with (first
  | ((fail_if_success have := g1); (with_reducible apply z0g H); (case hgd | ho | hx => exact rfl); clear H; intro w1 g1 H _ _; go_simp)
  | ((fail_if_success have := g2); (with_reducible apply z0b nilRw H); (case hgd | ho => exact rfl); clear H; intro w2 g2 H _ _; go_simp)
  | ((fail_if_success have := g3); (with_reducible apply z0b nilRw H); (case hgd | ho => exact rfl); clear H; intro w3 g3 H _ _; go_simp)
  | ((with_reducible apply z0m z27 H); (case hgd | ho | hx => exact rfl); (case hi => repeat first|exact z5|apply z8); (case hj => exact z7t _ _ (by omega)); intro _ _; go_simp)
  | ((fail_if_success have := gs); (with_reducible refine (signed5 a N c x m _ N64.out HM.out ((HS.out.below H.out.bel).more H.out.bel.size)).mono ?_); rintro e wc ⟨gs, rfl, hge, hr, hb⟩; replace H := za ((H.out.call hb).more hr (Nat.le_trans H.out.bel.size hge) fun x hx => by (have := z01 (H.out.has x hx); omega)); clear hb hge hr)
  | ((fail_if_success have := mka); (with_reducible apply z4b (v := .slice (some ⟨gs, 0, none⟩) (m + 1) (m + 1)) z7r.size H); (case hgd | ho | hx | hy => exact rfl); (case hi => repeat first|exact z5|apply z8); (case hp => omega); (case hv => exact av_one (y2w _ _ _)); (case h1 => exact fun _ _ => rfl); (case hF => exact sci_slot _ _ _); intro ws H' ht _ _; replace H := H'; clear H' ht; have mka := trivial; simp only [qb, qc] at H; go_simp)
  | ((fail_if_success have := V0); (with_reducible refine (z2k _ (HT.out.below H.out.bel)).mono ?_); rintro e wc ⟨k0, rfl, hv, hb⟩; replace H := zd H hb; have V0 := za hv; clear hb hv)
  | ((fail_if_success have := mkb); (with_reducible apply z4b (v := PO k0) zH.size H); (case hgd | ho | hx | hy => exact rfl); (case hi => repeat first|exact z5|apply z8); (case hp => omega); (case hv => exact y02 _ _); (case h1 => exact fun _ _ => rfl); (case hF => exact y7y _ _ _ 0 24); intro ws H' ht _ _; replace H := H'; clear H' ht; have mkb := trivial; simp only [qb, qc] at H; go_simp))
 clear mka mkb
 go_loopw [15] (fun v15 wr => ∃ (k : Nat) (F : Nat → Int), k ≤ 16 ∧ v15 = .int .i64 (k : Int) ∧ Fill F (k + 1) (fun i => zF zB i P) ∧ Ow w wr [(gs, zv 3 .i64 (m + 1) (sdg x 5)), (g3, Cs 201 (AV 409 (zO (.slice (some ⟨gs, 0, none⟩) (m + 1) (m + 1)) F))), (g2, Cs 201 (AV 409 (zO (.slice none 0 0) fun _ => 0))), (g1, Cs 193 (AV 25 (zO (.slice a N c) v)))]) (fun v15 _ => (16 - (intOf v15).toNat))
 case atStart => exact ⟨0, _, Nat.zero_le _, rfl, (Fill.none _ _).put V0.out, H.out⟩
 case round =>
  clear H V0
  obtain ⟨k, F, hk, rfl, hF, HR⟩ := hrel
  have HF := za hF
  have H := za HR
  clear hF HR
  by_cases hlt : k < 16
  ·have hid : decide ((k : Int) < 16) = true := by simp; omega
   have HL := za hlt
   have k16 : (k : Int) < 16 := by omega
   obtain ⟨vk, hvk, hck⟩ := HF.out k (by omega)
   have VK := za hvk
   have HX0 := za hck
   obtain ⟨k2, hk2⟩ : ∃ k2, k + 1 = k2 := ⟨_, rfl⟩
   have ek2 : (k : Int) + 1 = (k2 : Int) := by omega
   have k217 : (k2 : Int) < 17 := by omega
   have k17 : (k : Int) < 17 := by omega
   have EK2 := za hk2
   have f2 : IntKind.i64.wrap (k2 : Int) = (k2 : Int) := IntWalk.i64_in _ (by omega)
   have PX := za (y7x (H.out.row 1 rfl) (by omega) hck)
   have PY := za (y7w (H.out.row 3 rfl) (by omega))
   rw [hk2] at HF
   clear hlt hk hvk hck hk2
   go_upto_region 7 with fail
   refine wp_region_noPanic ?_
   refine wp_region_held_drew (S := fun W => (∀ j, j < 24 → W.cell? ⟨g3, 1 + k * 24 + j, none⟩ = some (.int .u64 (vk j))) ∧ (∀ j, j < 24 → W.cell? ⟨g1, 1 + j, none⟩ = some (.int .u64 (v j)))) (by kernel_rfl) (⟨PX.out.drew.has, PY.out.drew.has⟩) (fun hH => ?_)
   replace H := za H.out.drew
   replace PX := za PX.out.drew
   replace PY := za PY.out.drew
   generalize World.drew _ = w8 at *
   refine zh 0 18 (.int .i64 (k : Int)) hH ?_
   refine zh 1 19 (.int .i64 (k2 : Int)) hH ?_
   refine zh 2 20 (.int .i64 (k : Int)) hH ?_
   refine zh 3 21 (.pointer (some ⟨g3, 1, none⟩)) hH ?_
   refine zh 4 22 (.pointer (some ⟨g3, 1 + k * 24, none⟩)) hH ?_
   refine y56 5 23 zH rfl rfl rfl hH rfl rfl (fun _ h => h.1) ?_
   refine zh 6 24 (.pointer (some ⟨g1, 1, none⟩)) hH ?_
   refine y56 7 25 zH rfl rfl rfl hH rfl rfl (fun _ h => h.2) ?_
   refine zh 9 27 (.pointer (some ⟨g3, 1, none⟩)) hH ?_
   refine zn 8 rfl fun K hK => ?_
   go_simp
   refine (z6w _ (HT.out.below H.out.bel) VK.out V1.out).mono ?_
   rintro e wc ⟨k26, rfl, hv, hb⟩
   replace PX := za (PX.out.call hb)
   replace PY := za (PY.out.call hb)
   replace H := zd H hb
   have HV26 := za hv
   refine zc hK ⟨PX.out.has, PY.out.has⟩ fun hH => ?_
   refine zh 10 28 (.pointer (some ⟨g3, 1 + k2 * 24, none⟩)) hH ?_
   refine zn 11 rfl fun K hK => ?_
   refine z4s 1 rfl zH.size H.out rfl rfl rfl rfl (by have := HL.out; have := EK2.out; omega) (y02 _ _) (fun _ _ => rfl) (y7y _ _ _ (k2 * 24) 24) ?_
   intro ws HS _
   simp only [qb, qc] at HS
   replace H := za HS
   replace PX := za (y7x (v := vk) (o := k * 24) (H.out.row 1 rfl) (by have := HL.out; omega) (fun j hj => by unfold layZ; rw [if_neg (by have := EK2.out; omega), HX0.out j hj]))
   replace PY := za (y7w (H.out.row 3 rfl) (by omega))
   refine zc hK ⟨PX.out.has, PY.out.has⟩ fun hH => ?_
   try simp only [Act.put, qa, qb, qc]
   try simp only [qa]
   refine zm ?_
   have VE := HV26.out.eq (Q := zF zB k2 P) (by rw [← EK2.out]; rfl)
   have FE := HF.out.put (P := fun i => zF zB i P) VE
   go_wp2_with fail
   go_roundw
   case rel => exact ⟨k2, _, by have := HL.out; have := EK2.out; omega, by go_num, FE, H.out⟩
   case measure => (have := HL.out; have := EK2.out; simp [intOf] <;> omega)
  ·obtain rfl : k = 16 := by omega
   have hid : decide (((16 : Nat) : Int) < 16) = false := by decide
   clear hlt hk
   go_wp2_with (first
    | ((with_reducible apply y39 rowRw H); (case hgd | ho | hx => exact rfl); (case hi => repeat first|exact z5|apply z8); (case hp => omega); (case hC => exact z6n fun j _ => by rw [Nat.zero_add]); intro _ _; go_simp)
    | ((fail_if_success have := mkc); (with_reducible apply z4b (v := .agg (AV 409 (zO (.slice (some ⟨gs, 0, none⟩) (m + 1) (m + 1)) F))) rowRw.size H); (case hgd | ho | hx | hy => exact rfl); (case hi => repeat first|exact z5|apply z8); (case hp => omega); (case hv => exact rfl); (case h1 => exact fun j _ => z3l (s := .slice (some ⟨gs, 0, none⟩) (m + 1) (m + 1)) rfl F j); (case hF => exact z13 _ _); intro ws H' ht _ _; replace H := H'; clear H' ht; have mkc := trivial; simp only [qb, qc] at H; go_simp))
   exact bodyPost_ret (z0z 2 rowRw (z1l _ _) rfl _ H rfl rfl) rfl ⟨_, _, rfl, H.out.ge 0 rfl, H.out.row 0 rfl, HF.out, H.out.bel⟩
theorem fit_k {a : Option Addr} {n c : Nat} {A : Nat → Option Addr} {N C : Nat → Nat} {V : Nat → Nat → Int} (w : World) (h : Grid w w.heap.size a n c 25 (fun i => zO (.slice (A i) (N i) (C i)) (V i))) (hn : n ≤ 1000) {b : Bool} (hb : b = true ↔ n ≤ 16 ∧ ∀ i, i < n → 1 ≤ N i ∧ N i ≤ 64) :
  Calls Tryz.prog 157 #[.slice a n c] w fun e w' => e = .returned (.bool b) ∧ Below w.heap.size w w' := by
 have HG := za h
 have HB := za hb
 obtain ⟨f, hf⟩ : ∃ f, decide ((n : Int) ≤ 16) = f := ⟨_, rfl⟩
 have HF := za hf
 clear h hb
 have H := za (Ow.start w)
 go_enter Tryz.func157, Tryz.ntmps157
 go_wp2_with fail
 go_step3
 go_wp2_with fail
 go_step3
 go_wp2_with fail
 clear hf
 go_loopg [12, 3] n (fun gk v12 v3 wr => ∃ k : Nat, k + gk = n ∧ v12 = .int .i64 (k : Int) ∧ v3 = .bool f ∧ (∀ i, i < k → 1 ≤ N i ∧ N i ≤ 64) ∧ (k = 0 ∨ f = true) ∧ Ow w wr [])
 case atStart => exact ⟨0, by omega, rfl, rfl, (fun i hi => by omega), .inl rfl, H.out⟩
 case round =>
  clear H
  obtain ⟨k, hk, rfl, rfl, hg, h0, HR⟩ := hrel
  have HGD := za hg
  have H0 := za h0
  have H := za HR
  clear hg h0 HR
  cases gk with
  | zero =>
   obtain rfl : k = n := by omega
   have hid : decide ((k : Int) < (k : Int)) = false := by simp
   have hid' : decide (k < k) = false := by simp
   have EB : Hid (f = b) := za (by
    have h1 : (k : Int) ≤ 16 := by
     rcases H0.out with h | h
     ·omega
     ·rw [h] at HF
      exact of_decide_eq_true HF.out
    rw [← HF.out, decide_eq_true h1, HB.out.2 ⟨by omega, HGD.out⟩])
   clear hk hn
   go_wp2_with fail
   try rw [Exit.noGoto_ret]
   go_ret
   exact ⟨by rw [← EB.out]; rfl, H.out.bel⟩
  | succ gk9 =>
   have hlt : k < n := by omega
   have hid : decide ((k : Int) < (n : Int)) = true := by simp; omega
   have hid' : decide (k < n) = true := by simpa using hlt
   have kn : (k : Int) < (n : Int) := by omega
   have n1000 : (n : Int) ≤ 1000 := by omega
   obtain ⟨gb, go, rfl, hgb, hgc⟩ := HG.out.get (by omega)
   have HC : Hid (∀ W, Below w.heap.size w W → ∀ j, j < 25 → W.cell? ⟨gb, go + k * 25 + j, none⟩ = some (zO (.slice (A k) (N k) (C k)) (V k) j)) := za fun W hW j hj => (hW.cell (p := ⟨gb, go + k * 25 + j, none⟩) hgb).trans (hgc k hlt j hj)
   have HK := za hk
   have HLT := za hlt
   have HSL : Hid (∀ i, (zO (.slice (A k) (N k) (C k)) (V k) i).oneCell' = true) := za fun i => z3l rfl _ i
   have HBD : Hid (¬ (1 ≤ N k ∧ N k ≤ 64) → b = false) := za fun h => by
    rw [Bool.eq_false_iff]
    intro hb
    exact h ((HB.out.1 hb).2 k hlt)
   have HFB : Hid (f = false → b = false) := za fun h => by
    rw [Bool.eq_false_iff]
    intro hb
    have h2 := (HB.out.1 hb).1
    rw [h] at HF
    have := of_decide_eq_false HF.out
    omega
   obtain ⟨q, hq⟩ : ∃ q, N k = q := ⟨_, rfl⟩
   obtain ⟨sl, hsl⟩ : ∃ sl, sl = Value.slice (A k) q (C k) := ⟨_, rfl⟩
   have HS := za hsl
   have HQ := za hq
   rw [hq] at HC HSL HBD
   clear hk hlt hgb hgc hq hsl HG hn
   cases f with
   | false =>
    have EB : Hid (false = b) := za (HFB.out rfl).symm
    go_wp2_with (first
     | ((with_reducible apply z61 z7z); (case hgd | ho | hx => exact rfl); (case hc => exact HC.out _ H.out.bel); intro _ _; go_simp)
     | ((with_reducible apply z0b y8k H); (case hgd | ho => exact rfl); clear H; intro _ _ H _ _; go_simp)
     | ((fail_if_success have := mka); (with_reducible apply z4b (v := .agg (AV 25 (zO (.slice (A k) q (C k)) (V k)))) z7z.size H); (case hgd | ho | hx | hy => exact rfl); (case hi => repeat first|exact z5|apply z8); (case hp => omega); (case hv => exact rfl); (case h1 => exact fun j _ => HSL.out j); (case hF => exact z13 _ _); intro ws H' ht _ _; replace H := H'; clear H' ht; have mka := trivial; simp only [qb] at H; go_simp)
     | ((with_reducible apply z0m z27 H); (case hgd | ho | hx => exact rfl); (case hi => repeat first|exact z5|apply z8); (case hj => exact z7t _ _ (by omega)); intro _ _; go_simp))
    try rw [Exit.noGoto_ret]
    go_ret
    exact ⟨by rw [← EB.out]; rfl, H.out.bel⟩
   | true =>
    by_cases c1 : q = 0
    ·have e1 : decide ((q : Int) = 0) = true := by (simp; omega)
     have e2 : (q : Int) = 0 := by omega
     have EB : Hid (false = b) := za (HBD.out (by omega)).symm
     clear c1
     go_wp2_with (first
      | ((with_reducible apply z61 z7z); (case hgd | ho | hx => exact rfl); (case hc => exact HC.out _ H.out.bel); intro _ _; go_simp)
      | ((with_reducible apply z0b y8k H); (case hgd | ho => exact rfl); clear H; intro _ _ H _ _; go_simp)
      | ((fail_if_success have := mka); (with_reducible apply z4b (v := .agg (AV 25 (zO (.slice (A k) q (C k)) (V k)))) z7z.size H); (case hgd | ho | hx | hy => exact rfl); (case hi => repeat first|exact z5|apply z8); (case hp => omega); (case hv => exact rfl); (case h1 => exact fun j _ => HSL.out j); (case hF => exact z13 _ _); intro ws H' ht _ _; replace H := H'; clear H' ht; have mka := trivial; simp only [qb] at H; go_simp)
      | ((with_reducible apply z0m z27 H); (case hgd | ho | hx => exact rfl); (case hi => repeat first|exact z5|apply z8); (case hj => exact z7t _ _ (by omega)); intro _ _; go_simp))
     try rw [Exit.noGoto_ret]
     go_ret
     exact ⟨by rw [← EB.out]; rfl, H.out.bel⟩
    by_cases c2 : 64 < q
    ·have e1 : decide ((q : Int) = 0) = false := by (simp; omega)
     have e2 : ¬ (q : Int) = 0 := by omega
     have e3 : decide ((64 : Int) < (q : Int)) = true := by (simp; omega)
     have EB : Hid (false = b) := za (HBD.out (by omega)).symm
     clear c1 c2
     go_wp2_with (first
      | ((with_reducible apply z61 z7z); (case hgd | ho | hx => exact rfl); (case hc => exact HC.out _ H.out.bel); intro _ _; go_simp)
      | ((with_reducible apply z0b y8k H); (case hgd | ho => exact rfl); clear H; intro _ _ H _ _; go_simp)
      | ((fail_if_success have := mka); (with_reducible apply z4b (v := .agg (AV 25 (zO (.slice (A k) q (C k)) (V k)))) z7z.size H); (case hgd | ho | hx | hy => exact rfl); (case hi => repeat first|exact z5|apply z8); (case hp => omega); (case hv => exact rfl); (case h1 => exact fun j _ => HSL.out j); (case hF => exact z13 _ _); intro ws H' ht _ _; replace H := H'; clear H' ht; have mka := trivial; simp only [qb] at H; go_simp)
      | ((with_reducible apply z0m z27 H); (case hgd | ho | hx => exact rfl); (case hi => repeat first|exact z5|apply z8); (case hj => exact z7t _ _ (by omega)); intro _ _; go_simp))
     try rw [Exit.noGoto_ret]
     go_ret
     exact ⟨by rw [← EB.out]; rfl, H.out.bel⟩
    ·have e1 : decide ((q : Int) = 0) = false := by (simp; omega)
     have e2 : ¬ (q : Int) = 0 := by omega
     have e3 : decide ((64 : Int) < (q : Int)) = false := by (simp; omega)
     have HGN : Hid (1 ≤ q ∧ q ≤ 64) := za ⟨by omega, by omega⟩
     clear c1 c2
     go_wp2_with (first
      | ((with_reducible apply z61 z7z); (case hgd | ho | hx => exact rfl); (case hc => exact HC.out _ H.out.bel); intro _ _; go_simp)
      | ((with_reducible apply z0b y8k H); (case hgd | ho => exact rfl); clear H; intro _ _ H _ _; go_simp)
      | ((fail_if_success have := mka); (with_reducible apply z4b (v := .agg (AV 25 (zO (.slice (A k) q (C k)) (V k)))) z7z.size H); (case hgd | ho | hx | hy => exact rfl); (case hi => repeat first|exact z5|apply z8); (case hp => omega); (case hv => exact rfl); (case h1 => exact fun j _ => HSL.out j); (case hF => exact z13 _ _); intro ws H' ht _ _; replace H := H'; clear H' ht; have mka := trivial; simp only [qb] at H; go_simp)
      | ((with_reducible apply z0m z27 H); (case hgd | ho | hx => exact rfl); (case hi => repeat first|exact z5|apply z8); (case hj => exact z7t _ _ (by omega)); intro _ _; go_simp))
     go_roundg gk9
     case rel => exact ⟨k + 1, by have := HK.out; omega, by go_num, rfl, (fun i hi => by
      rcases (by omega : i < k ∨ i = k) with h | rfl
      ·exact HGD.out i h
      ·rw [HQ.out]; exact HGN.out), .inr trivial, H.out.pop⟩
     case measure => omega
theorem enters12 {P : Program} {f : FuncId} {fn : Func} {c : Code} (hf : P.funcs[f]? = some fn) (hn : (fn.name == "runtime.NumGoroutine") = false) (hb : fn.body = some c) (args : Array Value) (w : World) : (callFunc f args).run P w = .ok (.enter f args) w := by
 have h1 : fn.name ≠ "runtime.NumGoroutine" := by simpa using hn
 simp [callFunc, hf, h1, hb, mark]
theorem z55 {b n : Nat} {M X : Nat → Nat} {P : Nat → Pt pN dK} (w : World) (hT : Tp w) (hR : ∀ k, k < n → RowAt w w.heap.size b (k * 409) (M k) (X k) (P k)) (hn : n ≤ 16) (hM : ∀ k, k < n → M k ≤ 200) (hX : ∀ k, k < n → ∀ m, M k ≤ m → hor (dgx (X k) (M k)) m m = ((X k : Nat) : Int)) :
  Calls Tryz.prog 159 #[.slice (some ⟨b, 0, none⟩) n n] w fun e w' => ∃ r, e = .returned (PO r) ∧ PtK r (tot (fun k => ((X k : Nat) : Int)) P n) ∧ Below w.heap.size w w' := by
 obtain ⟨m, hm⟩ : ∃ m, mxn M n = m := ⟨_, rfl⟩
 have m200 : m ≤ 200 := by rw [← hm]; exact y8o n hM
 have HMX : Hid (∀ k, k < n → M k ≤ m) := za fun k hk => by rw [← hm]; exact le_mxn M n k hk
 have HXA : Hid (tot (fun k => hor (dgx (X k) (M k)) m m) P n = tot (fun k => ((X k : Nat) : Int)) P n) := za (z5p P n fun k hk => hX k hk m (HMX.out k hk))
 have EM := za hm
 have HR := za hR
 have HML := za hM
 have HN16 := za hn
 clear hR hM hX hm hn
 have HT := za hT
 clear hT
 have H := za (Ow.start w)
 refine calls_marks Tryz.func159 rfl ?_
 simp only [Tryz.ntmps159, List.size_toArray, List.length_cons, List.length_nil, Nat.reduceAdd, Nat.reduceSub, Array.replicate_succ, Array.replicate_zero, List.push_toArray, List.append_toArray, List.nil_append, List.cons_append]
 go_wp2_with (first
  | ((fail_if_success have := g1); (with_reducible apply y5j (y2w _ _ _) H); (case hgd | ho | hx => exact rfl); clear H; intro w1 g1 H _ _; go_simp)
  | ((fail_if_success have := g2); (with_reducible apply ze z1d H); (case hgd | ho => exact rfl); clear H; intro w2 g2 H _ _; go_simp)
  | ((fail_if_success have := g3); (with_reducible apply ze z1d H); (case hgd | ho => exact rfl); clear H; intro w3 g3 H _ _; go_simp)
  | ((fail_if_success have := V0); (with_reducible refine (z2k _ (HT.out.below H.out.bel)).mono ?_); rintro e wc ⟨k0, rfl, hv, hb⟩; replace H := zd H hb; have V0 := za hv; clear hb hv)
  | ((with_reducible apply z4u y0d H); (case hgd | ho | hx => exact rfl); (case hi => repeat first|exact z5|apply z8); intro _ _; go_simp)
  | ((with_reducible refine (places_k _ (fun k hk => ((HR.out k hk).below H.out.bel).more H.out.bel.size) (Nat.le_trans HN16.out (by omega)) HML.out).mono ?_); rintro e wc ⟨gp, rfl, hge, hrp, hb⟩; have HWP : Hid (∃ wp : World, Below wp.heap.size wp wc ∧ Below w.heap.size w wp ∧ (g3 < wp.heap.size ∧ g2 < wp.heap.size ∧ g1 < wp.heap.size) ∧ wp.heap.size ≤ gp) := za ⟨_, hb, H.out.bel, ⟨z01 (H.out.row 0 rfl), z01 (H.out.row 1 rfl), z01 (H.out.row 2 rfl)⟩, hge⟩; have RP := za hrp; replace H := zd H hb; clear hb hge hrp)
  | ((with_reducible apply zr zH H); (case hgd | ho | hx => exact rfl); (case hi => repeat first|exact z5|apply z8); intro _ _; go_simp)
  | ((with_reducible apply zj zH H); (case hgd | ho | hx | hy => exact rfl); (case hi => repeat first|exact z5|apply z8); clear H; intro ws H _ _; simp only [qb] at H; go_simp))
 obtain ⟨wp, hb1, hb2, ⟨h3, h2, h1⟩, hgp⟩ := HWP.out
 have s1 := hb1.size
 have s2 := hb2.size
 have g3w := H.out.ge 0 rfl
 have g2w := H.out.ge 1 rfl
 have g1w := H.out.ge 2 rfl
 have HO := za H.out
 rw [EM.out] at RP
 clear HWP H
 obtain ⟨wL, hwL⟩ : ∃ wL, wL = wc := ⟨_, rfl⟩
 subst hwL
 refine range_all rfl (fun args w => enters12 Tryz.func196 (by kernel_rfl) rfl args w) (places_iter (X := fun j => w.heap.size ≤ j ∧ j < wp.heap.size) RP.out (by omega) (fun h => by omega)) (Turn.refl _ _)
  (fun i args h => by rw [h]; rfl) (fun i A => ∃ r, PtK r (tot (fun k => hor (dgx (X k) (M k)) m i) P n) ∧ Ow w A [(g3, zv 32 .u64 24 r), (g2, zv 32 .u64 24 fun _ => 0), (g1, Oc 205 (.slice (some ⟨b, 0, none⟩) n n))]) ?_ ?_ ?_ ?_
 ·rintro i A B ⟨r, hr, hO⟩ _ hAB
  exact ⟨r, hr, hO.turn hAB (fun j h1 h2 => by omega) fun x hx => by (simp at hx; rcases hx with rfl | rfl | rfl <;> omega)⟩
 ·exact ⟨k0, V0.out.eq (((z5p (Y := fun _ => 0) P n fun _ _ => rfl).trans (y1g P n)).symm), HO.out⟩
 ·rintro l' i args A ⟨r, hr, hO⟩ hi hV hl1 hl2
  have hV' : args = #[.int .i64 ((m - 1 - i : Nat) : Int)] := hV
  subst hV'
  have VR := za hr
  have HA := za hO
  have HI := za hi
  obtain ⟨j, hj⟩ : ∃ j, m - 1 - i = j := ⟨_, rfl⟩
  have j200 : (j : Int) ≤ 200 := by omega
  rw [hj]
  have EJ := za hj
  clear hr hO hi hj hV
  refine z05 (.inr ⟨l', rfl⟩) rfl (fun a w h => h) ?_
  go_wp2_with fail
  refine ⟨Below.refl _ _, fun w₂ ht => ?_⟩
  have H := za (HA.out.turn ht (fun j h1 h2 => by omega) (fun x hx => by (simp at hx; rcases hx with rfl | rfl | rfl <;> omega)))
  have TX := za (Turn.refl (fun j => j = g3) w₂)
  clear HA ht hl2
  obtain ⟨R0, hR0⟩ : ∃ R0, tot (fun k => hor (dgx (X k) (M k)) m i) P n = R0 := ⟨_, rfl⟩
  have ER0 := za hR0
  rw [hR0] at VR
  clear hR0
  refine wpIn_block (wpIn_seq (wpIn_seq (z05 (.inr ⟨l', rfl⟩) rfl (fun a w h => h) ?_)))
  go_wp2_with fail
  refine wpIn_block ?_
  gi_loopg [10] 5 (fun gk v10 wr => ∃ (t : Nat) (q : Nat → Int), t + gk = 5 ∧ v10 = .int .i64 (t : Int) ∧ PtK q (zF zB (2 ^ t) R0) ∧ Ow w wr [(g3, zv 32 .u64 24 q), (g2, zv 32 .u64 24 fun _ => 0), (g1, Oc 205 (.slice (some ⟨b, 0, none⟩) n n))] ∧ Turn (fun j => j = g3) w₂ wr)
  case atStart => exact ⟨0, r, rfl, rfl, by rw [Nat.pow_zero, z3s]; exact VR.out, H.out, TX.out⟩
  case round =>
   clear H TX VR
   obtain ⟨t, q, ht5, rfl, hq, HH, hTX⟩ := hrel
   have VQ := za hq
   have H := za HH
   have TX := za hTX
   clear hq HH hTX
   cases gk with
   | succ gk9 =>
    have hid : decide ((t : Int) < 5) = true := by simp; omega
    have HT5 := za ht5
    have t5 : (t : Int) < 5 := by omega
    clear ht5
    refine wpIn_seq (z05 (.inr ⟨l', rfl⟩) rfl (fun a w h => h) ?_)
    go_wp2_with fail
    refine wpIn_seq (wpIn_cond_true rfl (wpIn_skip ?_))
    refine wpIn_seq (wpIn_block (z05 (.inr ⟨l', rfl⟩) rfl (fun a w h => h) ?_))
    go_wp2_with (first
     | ((with_reducible apply zr zH H); (case hgd | ho | hx => exact rfl); (case hi => repeat first|exact z5|apply z8); intro _ _; go_simp)
     | ((fail_if_success have := V2); (with_reducible refine (z31 _ (HT.out.below H.out.bel) VQ.out).mono ?_); rintro e wd ⟨k2, rfl, hv, hb⟩; replace H := zd H hb; replace TX := za (TX.out.callq hb); have V2 := za hv; clear hb hv)
     | ((with_reducible apply own_storeT zH H); (case hgd | ho | hx | hy => exact rfl); (case hi => repeat first|exact z5|apply z8); intro ws H' ht _ _; replace H := H'; replace TX := za (TX.out.trans ht.out); clear H' ht; simp only [qb] at H; go_simp))
    refine z05 (.inr ⟨l', rfl⟩) rfl (fun a w h => h) ?_
    go_wp2_with fail
    gi_roundg gk9
    case rel => exact ⟨t + 1, k2, by have := HT5.out; omega, by go_num, by rw [Nat.pow_succ, Nat.mul_comm, z2x]; exact V2.out, H.out, TX.out⟩
    case measure => omega
   | zero =>
    obtain rfl : t = 5 := by omega
    have hid : decide (((5 : Nat) : Int) < 5) = false := by decide
    refine wpIn_seq (z05 (.inr ⟨l', rfl⟩) rfl (fun a w h => h) ?_)
    go_wp2_with fail
    refine wpIn_seq (wpIn_cond_false rfl (wpIn_exit ?_))
    simp only [Exit.then, Exit.inBlock, ↓reduceIte]
    clear hid ht5
    obtain ⟨R5, hR5⟩ : ∃ R5, zF zB (2 ^ 5) R0 = R5 := ⟨_, rfl⟩
    have ER5 := za hR5
    rw [hR5] at VQ
    clear hR5
    refine wpIn_seq (z05 (.inr ⟨l', rfl⟩) rfl (fun a w h => h) ?_)
    go_wp2_with (first
     | ((with_reducible apply z4u y0d H); (case hgd | ho | hx => exact rfl); (case hi => repeat first|exact z5|apply z8); intro _ _; go_simp))
    refine wpIn_block ?_
    gi_loopg [17] n (fun gk2 v17 wr => ∃ (k : Nat) (q : Nat → Int), k + gk2 = n ∧ v17 = .int .i64 (k : Int) ∧ PtK q (z6 zB R5 (tot (fun k => dgx (X k) (M k) j) P k)) ∧ Ow w wr [(g3, zv 32 .u64 24 q), (g2, zv 32 .u64 24 fun _ => 0), (g1, Oc 205 (.slice (some ⟨b, 0, none⟩) n n))] ∧ Turn (fun j => j = g3) w₂ wr)
    case atStart => exact ⟨0, q, by omega, rfl, VQ.out.eq (z0n zB R5).symm, H.out, TX.out⟩
    case round =>
     clear H TX VQ
     obtain ⟨k, q, hk, rfl, hq, HH, hTX⟩ := hrel
     have VQ := za hq
     have H := za HH
     have TX := za hTX
     clear hq HH hTX
     cases gk with
     | zero =>
      obtain rfl : k = n := by omega
      have hid : decide ((k : Int) < (k : Int)) = false := by simp
      have hid' : decide (k < k) = false := by simp
      refine wpIn_seq (z05 (.inr ⟨l', rfl⟩) rfl (fun a w h => h) ?_)
      go_wp2_with fail
      refine wpIn_seq (wpIn_cond_false rfl (wpIn_exit ?_))
      simp only [Exit.then, Exit.inBlock, ↓reduceIte]
      exact ⟨TX.out.mono fun j _ e => by (subst e; exact ⟨.inl ⟨g3w, h3⟩, by omega⟩), q, VQ.out.eq (by rw [← ER5.out, ← ER0.out, ← EJ.out]; exact tot_place (fun k => dgx (X k) (M k)) P k m i), H.out⟩
     | succ gk9 =>
      have hlt : k < n := by omega
      have hid : decide ((k : Int) < (n : Int)) = true := by simp; omega
      have hid' : decide (k < n) = true := by simpa using hlt
      have kn : (k : Int) < (n : Int) := by omega
      have n16 : (n : Int) ≤ 16 := by have := HN16.out; omega
      have HK := za hk
      have HLT := za hlt
      obtain ⟨gd, hc, _, _⟩ := (HR.out k hlt).is
      have HC : Hid (∀ W, Below w.heap.size w W → W.cell? ⟨b, k * 409, none⟩ = some (.slice (some ⟨gd, 0, none⟩) (M k) (M k))) := za fun W hW => (hW.cell (p := ⟨b, k * 409, none⟩) (HR.out k hlt).lt).trans hc
      have HRK := za (HR.out k hlt)
      have HMK := za (HML.out k hlt)
      obtain ⟨c, hcc⟩ : ∃ c, M k = c := ⟨_, rfl⟩
      rw [hcc] at HC HRK HMK
      have EC := za hcc
      have c200 : (c : Int) ≤ 200 := by have := HMK.out; omega
      clear hk hlt hc hcc
      refine wpIn_seq (z05 (.inr ⟨l', rfl⟩) rfl (fun a w h => h) ?_)
      go_wp2_with fail
      refine wpIn_seq (wpIn_cond_true rfl (wpIn_skip ?_))
      refine wpIn_seq (wpIn_block (wpIn_seq (z05 (.inr ⟨l', rfl⟩) rfl (fun a w h => h) ?_)))
      go_wp2_with fail
      by_cases hjc : j < c
      ·have d1 : decide ((j : Int) < (c : Int)) = true := by simp; omega
       have d1' : decide (j < c) = true := by simpa using hjc
       have HJ := za hjc
       clear hjc
       refine wpIn_seq (z05 (.inr ⟨l', rfl⟩) rfl (fun a w h => h) ?_)
       go_wp2_with (first
        | ((with_reducible apply z4u y0d H); (case hgd | ho | hx => exact rfl); (case hi => repeat first|exact z5|apply z8); intro _ _; go_simp)
        | ((with_reducible apply z9b z7r); (case hgd | ho | hx => exact rfl); (case hc => exact HC.out _ H.out.bel); intro _ _; go_simp))
       refine wpIn_cond_true rfl ?_
       refine held_lets (S := fun W => W.heap[g1]? = some (Oc 205 (.slice (some ⟨b, 0, none⟩) n n))) (.inr ⟨l', rfl⟩) (by kernel_rfl) (by kernel_rfl) (fun a w h => h) (H.out.drew.row 2 rfl) (fun hH => ?_)
       replace H := za H.out.drew
       replace TX := za TX.out.drew
       generalize World.drew _ = w8 at *
       refine z3x 1 29 y0d rfl rfl rfl hH rfl rfl (fun _ h => h) ?_
       refine zh 2 30 (.int .i64 (k : Int)) hH ?_
       refine zh 3 31 (.pointer (some ⟨b, k * 409, none⟩)) hH ?_
       refine zh 4 32 (.int .i64 (j : Int)) hH ?_
       refine zK [0, 5] (zG rfl (fun K hK => ?_) (zG rfl (fun K hK => ?_) zJ))
       ·skip
        refine z4a 28 rfl 0 zH H.out rfl rfl rfl ?_
        refine hK.out _ _ (hH) (fun hN => ?_)
        have hH := hN
        clear hN
        refine zn 5 rfl fun K hK => ?_
        go_simp
        refine (at_k _ (HT.out.below H.out.bel) ((HRK.out.below H.out.bel).more H.out.bel.size) j HJ.out HMK.out rfl).mono ?_
        rintro e wd ⟨k33, rfl, hv, hb⟩
        replace TX := za (TX.out.callq hb)
        replace H := zd H hb
        have HV33 := za hv
        refine zc hK (zb H 2) fun hH => zn 6 rfl fun K hK => ?_
        go_simp
        refine (z6w _ (HT.out.below H.out.bel) VQ.out HV33.out).mono ?_
        rintro e wd ⟨k34, rfl, hv, hb⟩
        replace TX := za (TX.out.callq hb)
        replace H := zd H hb
        have HV34 := za hv
        refine zc hK (zb H 2) fun hH => ?_
        try simp only [Act.put, qa, qb, qc]
        refine zn 7 rfl fun K hK => ?_
        refine y2u 0 rfl zH H.out rfl rfl rfl rfl ?_
        intro ws HS hts
        simp only [qb] at HS
        replace H := za HS
        replace TX := za (TX.out.trans hts)
        refine zc hK (zb H 2) fun hH => ?_
        try simp only [Act.put, qa, qb, qc]
        try simp only [qa]
        refine zm ?_
        simp only [Exit.then, Exit.inBlock]
        refine z05 (.inr ⟨l', rfl⟩) rfl (fun a w h => h) ?_
        go_wp2_with fail
        gi_roundg gk9
        case rel => exact ⟨k + 1, k34, by have := HK.out; omega, by go_num, HV34.out.eq (by show z6 zB (z6 zB R5 (tot _ P k)) _ = z6 zB R5 (z6 zB (tot _ P k) (zml (dgx (X k) (M k) j) (P k))); rw [show dgx (X k) (M k) j = sdg (X k) 5 j from if_pos (by rw [EC.out]; exact HJ.out), z0r]), H.out, TX.out⟩
        case measure => omega
       ·skip
        go_simp
        refine (at_k _ (HT.out.below H.out.bel) ((HRK.out.below H.out.bel).more H.out.bel.size) j HJ.out HMK.out rfl).mono ?_
        rintro e wd ⟨k33, rfl, hv, hb⟩
        replace TX := za (TX.out.callq hb)
        replace H := zd H hb
        have HV33 := za hv
        refine zc hK (zb H 2) fun hH => zn 0 rfl fun K hK => ?_
        refine z4a 28 rfl 0 zH H.out rfl rfl rfl ?_
        refine hK.out _ _ (hH) (fun hN => ?_)
        have hH := hN
        clear hN
        refine zn 6 rfl fun K hK => ?_
        go_simp
        refine (z6w _ (HT.out.below H.out.bel) VQ.out HV33.out).mono ?_
        rintro e wd ⟨k34, rfl, hv, hb⟩
        replace TX := za (TX.out.callq hb)
        replace H := zd H hb
        have HV34 := za hv
        refine zc hK (zb H 2) fun hH => ?_
        try simp only [Act.put, qa, qb, qc]
        refine zn 7 rfl fun K hK => ?_
        refine y2u 0 rfl zH H.out rfl rfl rfl rfl ?_
        intro ws HS hts
        simp only [qb] at HS
        replace H := za HS
        replace TX := za (TX.out.trans hts)
        refine zc hK (zb H 2) fun hH => ?_
        try simp only [Act.put, qa, qb, qc]
        try simp only [qa]
        refine zm ?_
        simp only [Exit.then, Exit.inBlock]
        refine z05 (.inr ⟨l', rfl⟩) rfl (fun a w h => h) ?_
        go_wp2_with fail
        gi_roundg gk9
        case rel => exact ⟨k + 1, k34, by have := HK.out; omega, by go_num, HV34.out.eq (by show z6 zB (z6 zB R5 (tot _ P k)) _ = z6 zB R5 (z6 zB (tot _ P k) (zml (dgx (X k) (M k) j) (P k))); rw [show dgx (X k) (M k) j = sdg (X k) 5 j from if_pos (by rw [EC.out]; exact HJ.out), z0r]), H.out, TX.out⟩
        case measure => omega
      ·have d1 : decide ((j : Int) < (c : Int)) = false := by simp; omega
       have d1' : decide (j < c) = false := by simp; omega
       have HJ := za hjc
       clear hjc
       refine wpIn_seq (z05 (.inr ⟨l', rfl⟩) rfl (fun a w h => h) ?_)
       go_wp2_with (first
        | ((with_reducible apply z4u y0d H); (case hgd | ho | hx => exact rfl); (case hi => repeat first|exact z5|apply z8); intro _ _; go_simp)
        | ((with_reducible apply z9b z7r); (case hgd | ho | hx => exact rfl); (case hc => exact HC.out _ H.out.bel); intro _ _; go_simp))
       refine wpIn_cond_false rfl (wpIn_skip ?_)
       simp only [Exit.then, Exit.inBlock]
       refine z05 (.inr ⟨l', rfl⟩) rfl (fun a w h => h) ?_
       go_wp2_with fail
       gi_roundg gk9
       case rel => exact ⟨k + 1, q, by have := HK.out; omega, by go_num, VQ.out.eq (by show z6 zB R5 (tot _ P k) = z6 zB R5 (z6 zB (tot _ P k) (zml (dgx (X k) (M k) j) (P k))); rw [show dgx (X k) (M k) j = 0 from if_neg (by rw [EC.out]; exact HJ.out), y4m, z0n]), H.out, TX.out⟩
       case measure => omega
 ·rintro D A hD ⟨r, hr, hO⟩ hDr
  have VR := za (hr.eq HXA.out)
  have H := za (hO.more hDr (by omega) (fun x hx => by (simp at hx; rcases hx with rfl | rfl | rfl <;> omega)))
  have HD := za hD
  clear hr hO hDr hD
  go_wp2_with (first
   | ((with_reducible apply zr zH H); (case hgd | ho | hx => exact rfl); (case hi => repeat first|exact z5|apply z8); intro _ _; go_simp)
   | ((with_reducible apply zj zH H); (case hgd | ho | hx | hy => exact rfl); (case hi => repeat first|exact z5|apply z8); clear H; intro ws H _ _; simp only [qb, qc] at H; go_simp))
  refine ⟨by simp, .inl ⟨_, _, rfl, run_takeDeferred (H.out.row 0 rfl), ?_⟩⟩
  have H3 := za (H.out.pop.turn (z53 (X := fun j => j = D) _ D (.deferred none) rfl) (fun j h1 h2 => by (have := HD.out; omega)) (fun x hx => by (have := HD.out; simp at hx; rcases hx with rfl | rfl | rfl <;> omega)))
  exact ⟨_, zy 1 zH rfl _ H3 rfl rfl, _, rfl, VR.out, H3.out.bel⟩
end Go.Proofs.YtgjbonikbmgfmaaGreatDoor
