/- Lemmas; no statement is proved here. -/
import Derived.Test.YtgjbonikbmgfmaaGreatDoorQMs1
import Derived.Test.YtgjbonikbmgfmaaGreatDoorQGms8
set_option maxRecDepth 8000
set_option maxHeartbeats 3200000
namespace Go.Proofs.YtgjbonikbmgfmaaGreatDoor
open Go.RowKit
theorem fit_yes {a : Option Addr} {n c : Nat} {A : Nat → Option Addr} {N C : Nat → Nat} {V : Nat → Nat → Int} (w : World) (h : Grid w w.heap.size a n c 25 (fun i => zO (.slice (A i) (N i) (C i)) (V i))) (hn : n ≤ 16) (h1 : ∀ i, i < n → 1 ≤ N i ∧ N i ≤ 64) :
  Calls Tryz.prog 157 #[.slice a n c] w fun e w' => e = .returned (.bool true) ∧ Below w.heap.size w w' := fit_k w h (by omega) ⟨fun _ => ⟨hn, h1⟩, fun _ => rfl⟩
theorem y7c {c : Prop} [Decidable c] {p q : Prop} (hc : c) (h : p) : if c then p else q := by rw [if_pos hc]; exact h
theorem y0g (C : Array Value) : (Value.agg C).cells = C := rfl
theorem y1d {v u : Nat → Int} {P Q : Pt pN dK} {a b : Option Addr} {n c m d x y : Nat} (w : World) (hT : Tp w) (hs : Sb w w.heap.size a n c x) (hp : PtK v P) (hr : Sb w w.heap.size b m d y) (hq : PtK u Q) (h1 : 1 ≤ n) (h64 : n ≤ 64) (g1 : 1 ≤ m) (g64 : m ≤ 64) :
  Calls Tryz.prog 103 #[.slice a n c, PO v, .slice b m d, PO u] w fun e w' => ∃ r, e = .returned (.tuple #[PO r, .int .i64 0]) ∧ PtK r (z6 zB (zF zB x P) (zF zB y Q)) ∧ Below w.heap.size w w' := by
 have HF : Hid (∀ i, i < 2 → 1 ≤ prt n m i ∧ prt n m i ≤ 64) := za fun i hi => by
  rcases (by omega : i = 0 ∨ i = 1) with rfl | rfl
  ·exact ⟨h1, h64⟩
  ·exact ⟨g1, g64⟩
 have HN := za (show 1 ≤ n ∧ n ≤ 64 from ⟨h1, h64⟩)
 have HM := za (show 1 ≤ m ∧ m ≤ 64 from ⟨g1, g64⟩)
 clear h1 h64 g1 g64
 have HS := za hs
 have HR := za hr
 have V1 := za hp
 have V2 := za hq
 clear hs hr hp hq
 have HT := za hT
 clear hT
 have H := za (Ow.start w)
 go_enter Tryz.func103, Tryz.ntmps103
 go_wp2_with (first
  | ((with_reducible apply zw H); (case hgd | ho | hx => exact rfl); clear H; intro _ _ H _ _; go_simp)
  | ((fail_if_success have := g8); (with_reducible apply ze z1d H); (case hgd | ho => exact rfl); clear H; intro w8 g8 H _ _; go_simp)
  | ((with_reducible apply zr zH H); (case hgd | ho | hx => exact rfl); (case hi => repeat first|exact z5|apply z8); intro _ _; go_simp)
  | ((with_reducible apply z8p); (case hgd | ho | hx | hy => exact rfl); intro _ _; go_simp)
  | ((with_reducible apply lay_build_tms); (case hgd | ho | hx | hy => exact rfl); intro _ _; go_simp)
  | ((fail_if_success have := g10); (with_reducible apply z0b nilTms H); (case hgd | ho => exact rfl); clear H; intro w10 g10 H _ _; go_simp)
  | ((fail_if_success have := mka); (with_reducible apply z4b (v := .agg (AV 50 (grd 25 (duo (zO (.slice a n c) v) (zO (.slice b m d) u))))) rowTms.size H); (case hgd | ho | hx | hy => exact rfl); (case hi => repeat first|exact z5|apply z8); (case hp => omega); (case hv => exact rfl); (case h1 => exact fun j _ => y14 (fun j => z3l rfl _ j) (fun j => z3l rfl _ j) 25 j); (case hF => exact z13 _ _); intro ws H' ht _ _; replace H := H'; clear H' ht; have mka := trivial; simp only [qb] at H; go_simp))
 with_reducible refine (fit_yes _ (grid_two (H.out.row 0 rfl)) (by omega) HF.out).mono ?_
 rintro e wc ⟨rfl, hb⟩
 replace H := zd H hb
 clear hb
 go_upto_region 4 with fail
 clear mka
 refine wp_region_noPanic ?_
 refine wp_region_held_drew (S := fun W => (∀ j, j < 25 → W.cell? ⟨g10, 0 + j, none⟩ = some ((zO (.slice a n c) v) j)) ∧ (∀ j, j < 25 → W.cell? ⟨g10, 25 + j, none⟩ = some ((zO (.slice b m d) u) j))) (by kernel_rfl) (z17 (H.out.drew.row 0 rfl) rfl) (fun hH => ?_)
 replace H := za H.out.drew
 generalize World.drew _ = w8 at *
 refine zh 0 23 (.pointer (some ⟨g10, 0, none⟩)) hH ?_
 refine y57 1 24 z7z rfl rfl rfl hH rfl rfl (fun _ h => h.1) ?_
 refine zh 3 26 (.pointer (some ⟨g10, 25, none⟩)) hH ?_
 refine y57 4 27 z7z rfl rfl rfl hH rfl rfl (fun _ h => h.2) ?_
 refine zK [2, 7] (zG rfl (fun K hK => ?_) (zG rfl (fun K hK => ?_) zJ))
 ·skip
  go_simp
  refine (z70 _ (HT.out.below H.out.bel) ((HS.out.below H.out.bel).more H.out.bel.size) V1.out HN.out.2 rfl).mono ?_
  rintro e wc ⟨gs25, F25, rfl, hge, hrw, hF, hb⟩
  replace H := za ((H.out.call hb).more hrw (Nat.le_trans H.out.bel.size hge) fun x hx => by (have := z01 (H.out.has x hx); omega))
  have FL25 := za hF
  refine zc hK (z17 (zb H 1) rfl) fun hH => zK [5, 7] (zG rfl (fun K hK => ?_) (zG rfl (fun K hK => ?_) zJ))
  ·skip
   go_simp
   refine (z70 _ (HT.out.below H.out.bel) ((HR.out.below H.out.bel).more H.out.bel.size) V2.out HM.out.2 rfl).mono ?_
   rintro e wc ⟨gs28, F28, rfl, hge, hrw, hF, hb⟩
   replace H := za ((H.out.call hb).more hrw (Nat.le_trans H.out.bel.size hge) fun x hx => by (have := z01 (H.out.has x hx); omega))
   have FL28 := za hF
   refine zc hK (z17 (zb H 2) rfl) fun hH => ?_
   try simp only [Act.put, qa, qb, qc]
   refine y1z 6 29 rfl rfl rfl hH rfl rfl rfl ?_
   refine zn 7 rfl fun K hK => ?_
   refine z04 11 rfl y8l H.out rfl ?_
   intro w11 g11 H3 _
   replace H := za H3
   refine zc hK (z17 (zb H 3) rfl) fun hH => zn 8 rfl fun K hK => ?_
   with_reducible refine y7c rfl ?_
   with_reducible refine z4s (x := .tmp 11) (y := .tmp 29) (ty := 203) (t := 203) (b := g11) (p := 0) (m := 818) (n := 818) (v := .agg (AV 818 (grd 409 (duo (zO (.slice (some ⟨gs25, 0, none⟩) (zM n) (zM n)) F25) (zO (.slice (some ⟨gs28, 0, none⟩) (zM m) (zM m)) F28))))) (f := grd 409 fun _ => zO (.slice none 0 0) fun _ => 0) (g := grd 409 (duo (zO (.slice (some ⟨gs25, 0, none⟩) (zM n) (zM n)) F25) (zO (.slice (some ⟨gs28, 0, none⟩) (zM m) (zM m)) F28))) (F := grd 409 (duo (zO (.slice (some ⟨gs25, 0, none⟩) (zM n) (zM n)) F25) (zO (.slice (some ⟨gs28, 0, none⟩) (zM m) (zM m)) F28))) 0 ?_ y72.size H.out ?_ ?_ ?_ ?_ ?_ (y0g _) ?_ (z13 _ _) ?_
   ·rfl
   ·rfl
   ·rfl
   ·rfl
   ·exact z5
   ·omega
   ·exact fun j _ => y14 (fun j => z3l rfl _ j) (fun j => z3l rfl _ j) 409 j
   intro ws HS2 _
   simp only [qb] at HS2
   replace H := za HS2
   refine zc hK (z17 (zb H 3) rfl) fun hH => ?_
   try simp only [Act.put, qa, qb, qc]
   try simp only [qa]
   refine zm ?_
   have HRA : Hid (∀ i, i < 2 → RowAt ws ws.heap.size g11 (i * 409) (prt (zM n) (zM m) i) (prt x y i) (prt P Q i)) := za fun i hi => by
    rcases (by omega : i = 0 ∨ i = 1) with rfl | rfl
    ·exact z9q (H.out.row 0 rfl) (by omega) (fun j hj => (z6t (duo (zO (.slice (some ⟨gs25, 0, none⟩) (zM n) (zM n)) F25) (zO (.slice (some ⟨gs28, 0, none⟩) (zM m) (zM m)) F28)) 0 j hj).trans rfl) (H.out.row 2 rfl) FL25.out
    ·exact z9q (H.out.row 0 rfl) (by omega) (fun j hj => (z6t (duo (zO (.slice (some ⟨gs25, 0, none⟩) (zM n) (zM n)) F25) (zO (.slice (some ⟨gs28, 0, none⟩) (zM m) (zM m)) F28)) 1 j hj).trans rfl) (H.out.row 1 rfl) FL28.out
   have HML : Hid (∀ i, i < 2 → prt (zM n) (zM m) i ≤ 200) := za fun i hi => by
    rcases (by omega : i = 0 ∨ i = 1) with rfl | rfl
    ·exact Nat.le_trans (z98 HN.out.2) (by omega)
    ·exact Nat.le_trans (z98 HM.out.2) (by omega)
   have HXL : Hid (∀ i, i < 2 → ∀ k, prt (zM n) (zM m) i ≤ k → hor (dgx (prt x y i) (prt (zM n) (zM m) i)) k k = ((prt x y i : Nat) : Int)) := za fun i hi k hk => by
    rcases (by omega : i = 0 ∨ i = 1) with rfl | rfl
    ·exact z68 HS.out.fits hk
    ·exact z68 HR.out.fits hk
   go_wp2_with (first
    | ((fail_if_success have := V3); (with_reducible refine (z55 _ (HT.out.below H.out.bel) HRA.out (by omega) HML.out HXL.out).mono ?_); rintro e wc ⟨k3, rfl, hv, hb⟩; replace H := zd H hb; have V3 := za hv; clear hb hv)
    | ((with_reducible apply zj zH H); (case hgd | ho | hx | hy => exact rfl); (case hi => repeat first|exact z5|apply z8); clear H; intro ws H _ _; simp only [qb, qc] at H; go_simp))
   exact bodyPost_ret (z0c 4 zH rfl _ H rfl rfl rfl) rfl ⟨_, rfl, V3.out.eq (y3t (prt x y) (prt P Q)), H.out.bel⟩
  ·skip
   refine z04 11 rfl y8l H.out rfl ?_
   intro w11 g11 H3 _
   replace H := za H3
   refine zc hK (z17 (zb H 2) rfl) fun hH => zn 5 rfl fun K hK => ?_
   go_simp
   refine (z70 _ (HT.out.below H.out.bel) ((HR.out.below H.out.bel).more H.out.bel.size) V2.out HM.out.2 rfl).mono ?_
   rintro e wc ⟨gs28, F28, rfl, hge, hrw, hF, hb⟩
   replace H := za ((H.out.call hb).more hrw (Nat.le_trans H.out.bel.size hge) fun x hx => by (have := z01 (H.out.has x hx); omega))
   have FL28 := za hF
   refine zc hK (z17 (zb H 3) rfl) fun hH => ?_
   refine y1z 6 29 rfl rfl rfl hH rfl rfl rfl ?_
   try simp only [Act.put, qa, qb, qc]
   refine zn 8 rfl fun K hK => ?_
   with_reducible refine y7c rfl ?_
   with_reducible refine z4s (x := .tmp 11) (y := .tmp 29) (ty := 203) (t := 203) (b := g11) (p := 0) (m := 818) (n := 818) (v := .agg (AV 818 (grd 409 (duo (zO (.slice (some ⟨gs25, 0, none⟩) (zM n) (zM n)) F25) (zO (.slice (some ⟨gs28, 0, none⟩) (zM m) (zM m)) F28))))) (f := grd 409 fun _ => zO (.slice none 0 0) fun _ => 0) (g := grd 409 (duo (zO (.slice (some ⟨gs25, 0, none⟩) (zM n) (zM n)) F25) (zO (.slice (some ⟨gs28, 0, none⟩) (zM m) (zM m)) F28))) (F := grd 409 (duo (zO (.slice (some ⟨gs25, 0, none⟩) (zM n) (zM n)) F25) (zO (.slice (some ⟨gs28, 0, none⟩) (zM m) (zM m)) F28))) 1 ?_ y72.size H.out ?_ ?_ ?_ ?_ ?_ (y0g _) ?_ (z13 _ _) ?_
   ·rfl
   ·rfl
   ·rfl
   ·rfl
   ·exact at1
   ·omega
   ·exact fun j _ => y14 (fun j => z3l rfl _ j) (fun j => z3l rfl _ j) 409 j
   intro ws HS2 _
   simp only [qb, qc] at HS2
   replace H := za HS2
   refine zc hK (z17 (zb H 3) rfl) fun hH => ?_
   try simp only [Act.put, qa, qb, qc]
   try simp only [qa]
   refine zm ?_
   have HRA : Hid (∀ i, i < 2 → RowAt ws ws.heap.size g11 (i * 409) (prt (zM n) (zM m) i) (prt x y i) (prt P Q i)) := za fun i hi => by
    rcases (by omega : i = 0 ∨ i = 1) with rfl | rfl
    ·exact z9q (H.out.row 1 rfl) (by omega) (fun j hj => (z6t (duo (zO (.slice (some ⟨gs25, 0, none⟩) (zM n) (zM n)) F25) (zO (.slice (some ⟨gs28, 0, none⟩) (zM m) (zM m)) F28)) 0 j hj).trans rfl) (H.out.row 2 rfl) FL25.out
    ·exact z9q (H.out.row 1 rfl) (by omega) (fun j hj => (z6t (duo (zO (.slice (some ⟨gs25, 0, none⟩) (zM n) (zM n)) F25) (zO (.slice (some ⟨gs28, 0, none⟩) (zM m) (zM m)) F28)) 1 j hj).trans rfl) (H.out.row 0 rfl) FL28.out
   have HML : Hid (∀ i, i < 2 → prt (zM n) (zM m) i ≤ 200) := za fun i hi => by
    rcases (by omega : i = 0 ∨ i = 1) with rfl | rfl
    ·exact Nat.le_trans (z98 HN.out.2) (by omega)
    ·exact Nat.le_trans (z98 HM.out.2) (by omega)
   have HXL : Hid (∀ i, i < 2 → ∀ k, prt (zM n) (zM m) i ≤ k → hor (dgx (prt x y i) (prt (zM n) (zM m) i)) k k = ((prt x y i : Nat) : Int)) := za fun i hi k hk => by
    rcases (by omega : i = 0 ∨ i = 1) with rfl | rfl
    ·exact z68 HS.out.fits hk
    ·exact z68 HR.out.fits hk
   go_wp2_with (first
    | ((fail_if_success have := V3); (with_reducible refine (z55 _ (HT.out.below H.out.bel) HRA.out (by omega) HML.out HXL.out).mono ?_); rintro e wc ⟨k3, rfl, hv, hb⟩; replace H := zd H hb; have V3 := za hv; clear hb hv)
    | ((with_reducible apply zj zH H); (case hgd | ho | hx | hy => exact rfl); (case hi => repeat first|exact z5|apply z8); clear H; intro ws H _ _; simp only [qb, qc] at H; go_simp))
   exact bodyPost_ret (z0c 4 zH rfl _ H rfl rfl rfl) rfl ⟨_, rfl, V3.out.eq (y3t (prt x y) (prt P Q)), H.out.bel⟩
 ·skip
  refine z04 11 rfl y8l H.out rfl ?_
  intro w11 g11 H3 _
  replace H := za H3
  refine zc hK (z17 (zb H 1) rfl) fun hH => zn 2 rfl fun K hK => ?_
  go_simp
  refine (z70 _ (HT.out.below H.out.bel) ((HS.out.below H.out.bel).more H.out.bel.size) V1.out HN.out.2 rfl).mono ?_
  rintro e wc ⟨gs25, F25, rfl, hge, hrw, hF, hb⟩
  replace H := za ((H.out.call hb).more hrw (Nat.le_trans H.out.bel.size hge) fun x hx => by (have := z01 (H.out.has x hx); omega))
  have FL25 := za hF
  refine zc hK (z17 (zb H 2) rfl) fun hH => zn 5 rfl fun K hK => ?_
  go_simp
  refine (z70 _ (HT.out.below H.out.bel) ((HR.out.below H.out.bel).more H.out.bel.size) V2.out HM.out.2 rfl).mono ?_
  rintro e wc ⟨gs28, F28, rfl, hge, hrw, hF, hb⟩
  replace H := za ((H.out.call hb).more hrw (Nat.le_trans H.out.bel.size hge) fun x hx => by (have := z01 (H.out.has x hx); omega))
  have FL28 := za hF
  refine zc hK (z17 (zb H 3) rfl) fun hH => ?_
  try simp only [Act.put, qa, qb, qc]
  refine y1z 6 29 rfl rfl rfl hH rfl rfl rfl ?_
  refine zn 8 rfl fun K hK => ?_
  with_reducible refine y7c rfl ?_
  with_reducible refine z4s (x := .tmp 11) (y := .tmp 29) (ty := 203) (t := 203) (b := g11) (p := 0) (m := 818) (n := 818) (v := .agg (AV 818 (grd 409 (duo (zO (.slice (some ⟨gs25, 0, none⟩) (zM n) (zM n)) F25) (zO (.slice (some ⟨gs28, 0, none⟩) (zM m) (zM m)) F28))))) (f := grd 409 fun _ => zO (.slice none 0 0) fun _ => 0) (g := grd 409 (duo (zO (.slice (some ⟨gs25, 0, none⟩) (zM n) (zM n)) F25) (zO (.slice (some ⟨gs28, 0, none⟩) (zM m) (zM m)) F28))) (F := grd 409 (duo (zO (.slice (some ⟨gs25, 0, none⟩) (zM n) (zM n)) F25) (zO (.slice (some ⟨gs28, 0, none⟩) (zM m) (zM m)) F28))) 2 ?_ y72.size H.out ?_ ?_ ?_ ?_ ?_ (y0g _) ?_ (z13 _ _) ?_
  ·rfl
  ·rfl
  ·rfl
  ·rfl
  ·exact at2
  ·omega
  ·exact fun j _ => y14 (fun j => z3l rfl _ j) (fun j => z3l rfl _ j) 409 j
  intro ws HS2 _
  simp only [qb, qc] at HS2
  replace H := za HS2
  refine zc hK (z17 (zb H 3) rfl) fun hH => ?_
  try simp only [Act.put, qa, qb, qc]
  try simp only [qa]
  refine zm ?_
  have HRA : Hid (∀ i, i < 2 → RowAt ws ws.heap.size g11 (i * 409) (prt (zM n) (zM m) i) (prt x y i) (prt P Q i)) := za fun i hi => by
   rcases (by omega : i = 0 ∨ i = 1) with rfl | rfl
   ·exact z9q (H.out.row 2 rfl) (by omega) (fun j hj => (z6t (duo (zO (.slice (some ⟨gs25, 0, none⟩) (zM n) (zM n)) F25) (zO (.slice (some ⟨gs28, 0, none⟩) (zM m) (zM m)) F28)) 0 j hj).trans rfl) (H.out.row 1 rfl) FL25.out
   ·exact z9q (H.out.row 2 rfl) (by omega) (fun j hj => (z6t (duo (zO (.slice (some ⟨gs25, 0, none⟩) (zM n) (zM n)) F25) (zO (.slice (some ⟨gs28, 0, none⟩) (zM m) (zM m)) F28)) 1 j hj).trans rfl) (H.out.row 0 rfl) FL28.out
  have HML : Hid (∀ i, i < 2 → prt (zM n) (zM m) i ≤ 200) := za fun i hi => by
   rcases (by omega : i = 0 ∨ i = 1) with rfl | rfl
   ·exact Nat.le_trans (z98 HN.out.2) (by omega)
   ·exact Nat.le_trans (z98 HM.out.2) (by omega)
  have HXL : Hid (∀ i, i < 2 → ∀ k, prt (zM n) (zM m) i ≤ k → hor (dgx (prt x y i) (prt (zM n) (zM m) i)) k k = ((prt x y i : Nat) : Int)) := za fun i hi k hk => by
   rcases (by omega : i = 0 ∨ i = 1) with rfl | rfl
   ·exact z68 HS.out.fits hk
   ·exact z68 HR.out.fits hk
  go_wp2_with (first
   | ((fail_if_success have := V3); (with_reducible refine (z55 _ (HT.out.below H.out.bel) HRA.out (by omega) HML.out HXL.out).mono ?_); rintro e wc ⟨k3, rfl, hv, hb⟩; replace H := zd H hb; have V3 := za hv; clear hb hv)
   | ((with_reducible apply zj zH H); (case hgd | ho | hx | hy => exact rfl); (case hi => repeat first|exact z5|apply z8); clear H; intro ws H _ _; simp only [qb, qc] at H; go_simp))
  exact bodyPost_ret (z0c 4 zH rfl _ H rfl rfl rfl) rfl ⟨_, rfl, V3.out.eq (y3t (prt x y) (prt P Q)), H.out.bel⟩
theorem y6w {k j : KL} {F G : Nat → Value} {P Q : Pt pN dK} (w : World) (hT : Tp w) (h1 : DeK F P) (h2 : DeK G Q) :
  Calls Tryz.prog 34 #[W7 (k).val, DO F, W7 (j).val, DO G] w fun e w' => ∃ r, e = .returned (DO r) ∧ DeK r (z6 zB (zF zB k.val P) (zF zB j.val Q)) ∧ Below w.heap.size w w' := by
 have V1 := za h1
 have V2 := za h2
 clear h1 h2
 have HT := za hT
 clear hT
 have H := za (Ow.start w)
 go_enter Tryz.func34, Tryz.ntmps34
 go_upto_region 1 with (first
  | ((fail_if_success have := g4); (with_reducible apply zw H); (case hgd | ho | hx => exact rfl); clear H; intro w4 g4 H _ _; go_simp)
  | ((fail_if_success have := g5); (with_reducible apply z0g H); (case hgd | ho | hx => exact rfl); clear H; intro w5 g5 H _ _; go_simp)
  | ((fail_if_success have := g6); (with_reducible apply zw H); (case hgd | ho | hx => exact rfl); clear H; intro w6 g6 H _ _; go_simp)
  | ((fail_if_success have := g7); (with_reducible apply z0g H); (case hgd | ho | hx => exact rfl); clear H; intro w7 g7 H _ _; go_simp)
  | ((fail_if_success have := g8); (with_reducible apply z0b zI H); (case hgd | ho => exact rfl); clear H; intro w8 g8 H _ _; go_simp))
 go_cut [9, 10] from 11 to 22 (fun v9 v10 wx => ∃ g9 r20, v9 = .pointer (some ⟨g9, 0, none⟩) ∧ v10 = .int .i64 0 ∧ PtK r20 (z6 zB (zF zB k.val P) (zF zB j.val Q)) ∧ Ow w wx [(g9, zv 32 .u64 24 (r20)), (g8, Cs 34 (AV 25 (ics (fun _ => 0) (.bool false)))), (g7, Cs 34 (AV 25 G)), (g6, WB 70 7 (wd (j).val)), (g5, Cs 34 (AV 25 F)), (g4, WB 70 7 (wd (k).val))])
 case first =>
  go_wp2_with fail
  refine wp_region_noPanic ?_
  refine wp_region_held_drew (S := fun W => W.heap[g4]? = some (WB 70 7 (wd (k).val)) ∧ W.heap[g5]? = some (Cs 34 (AV 25 F)) ∧ W.heap[g6]? = some (WB 70 7 (wd (j).val)) ∧ W.heap[g7]? = some (Cs 34 (AV 25 G))) (by kernel_rfl) (⟨H.out.drew.row 4 rfl, H.out.drew.row 3 rfl, H.out.drew.row 2 rfl, H.out.drew.row 1 rfl⟩) (fun hH => ?_)
  replace H := za H.out.drew
  generalize World.drew _ = w8 at *
  refine zk 0 12 z1g rfl rfl rfl hH rfl rfl (fun _ h => h.1) ?_
  refine zE 2 14 rfl rfl rfl hH rfl rfl (fun _ h => h.2.1) ?_
  refine zk 4 16 z1g rfl rfl rfl hH rfl rfl (fun _ h => h.2.2.1) ?_
  try simp only [Act.put, qa, qb, qc]
  refine zE 6 18 rfl rfl rfl hH rfl rfl (fun _ h => h.2.2.2) ?_
  refine zK [1, 12] (zG rfl (fun K hK => ?_) (zG rfl (fun K hK => ?_) zJ))
  ·skip
   go_simp
   refine (z51 _ _).mono ?_
   rintro e wc ⟨ab13, cb13, rfl, hs, hb⟩
   replace H := zd H hb
   have SB13 := za hs
   refine zc hK ⟨zb H 4, zb H 3, zb H 2, zb H 1⟩ fun hH => zK [3, 12] (zG rfl (fun K hK => ?_) (zG rfl (fun K hK => ?_) zJ))
   ·skip
    go_simp
    refine (z1j _ (HT.out.below H.out.bel) V1.out).mono ?_
    rintro e wc ⟨r15, rfl, hv, hb⟩
    replace SB13 := za (SB13.out.call hb)
    replace H := zd H hb
    have HV15 := za hv
    refine zc hK ⟨zb H 4, zb H 3, zb H 2, zb H 1⟩ fun hH => ?_
    try simp only [Act.put, qa, qb, qc]
    refine zK [5, 12] (zG rfl (fun K hK => ?_) (zG rfl (fun K hK => ?_) zJ))
    ·skip
     go_simp
     refine (z51 _ _).mono ?_
     rintro e wc ⟨ab17, cb17, rfl, hs, hb⟩
     replace SB13 := za (SB13.out.call hb)
     replace H := zd H hb
     have SB17 := za hs
     refine zc hK ⟨zb H 4, zb H 3, zb H 2, zb H 1⟩ fun hH => zK [7, 12] (zG rfl (fun K hK => ?_) (zG rfl (fun K hK => ?_) zJ))
     ·skip
      go_simp
      refine (z1j _ (HT.out.below H.out.bel) V2.out).mono ?_
      rintro e wc ⟨r19, rfl, hv, hb⟩
      replace SB13 := za (SB13.out.call hb)
      replace SB17 := za (SB17.out.call hb)
      replace H := zd H hb
      have HV19 := za hv
      refine zc hK ⟨zb H 4, zb H 3, zb H 2, zb H 1⟩ fun hH => zK [8, 12] (zG rfl (fun K hK => ?_) (zG rfl (fun K hK => ?_) zJ))
      ·skip
       go_simp
       refine (y1d _ (HT.out.below H.out.bel) SB13.out HV15.out SB17.out HV19.out (by omega) (by omega) (by omega) (by omega)).mono ?_
       rintro e wc ⟨r20, rfl, hv, hb⟩
       replace SB13 := za (SB13.out.call hb)
       replace SB17 := za (SB17.out.call hb)
       replace H := zd H hb
       have HV20 := za hv
       refine zc hK ⟨zb H 4, zb H 3, zb H 2, zb H 1⟩ fun hH => ?_
       try simp only [Act.put, qa, qb, qc]
       refine zh 9 11 (.tuple #[PO r20, .int .i64 0]) hH ?_
       refine zh 10 21 (PO r20) hH ?_
       refine zh 11 22 (.int .i64 0) hH ?_
       refine zn 12 rfl fun K hK => ?_
       refine zg 9 rfl z1d H.out rfl ?_
       intro w9 g9 H3 hb
       replace SB13 := za (SB13.out.call hb)
       replace SB17 := za (SB17.out.call hb)
       replace H := za H3
       refine zc hK ⟨zb H 5, zb H 4, zb H 3, zb H 2⟩ fun hH => zn 13 rfl fun K hK => ?_
       refine zu 0 rfl zH H.out rfl rfl rfl rfl ?_
       intro ws HS
       simp only [qb] at HS
       replace H := za HS
       refine zc hK ⟨zb H 5, zb H 4, zb H 3, zb H 2⟩ fun hH => ?_
       try simp only [qa]
       refine zh 14 10 (.int .i64 0) hH ?_
       refine zm ?_
       go_wp2_with fail
       go_meet
       exact ⟨g9, r20, rfl, rfl, HV20.out, H.out⟩
      ·skip
       refine zg 9 rfl z1d H.out rfl ?_
       intro w9 g9 H3 hb
       replace SB13 := za (SB13.out.call hb)
       replace SB17 := za (SB17.out.call hb)
       replace H := za H3
       refine zc hK ⟨zb H 5, zb H 4, zb H 3, zb H 2⟩ fun hH => zn 8 rfl fun K hK => ?_
       go_simp
       refine (y1d _ (HT.out.below H.out.bel) SB13.out HV15.out SB17.out HV19.out (by omega) (by omega) (by omega) (by omega)).mono ?_
       rintro e wc ⟨r20, rfl, hv, hb⟩
       replace SB13 := za (SB13.out.call hb)
       replace SB17 := za (SB17.out.call hb)
       replace H := zd H hb
       have HV20 := za hv
       refine zc hK ⟨zb H 5, zb H 4, zb H 3, zb H 2⟩ fun hH => ?_
       refine zh 9 11 (.tuple #[PO r20, .int .i64 0]) hH ?_
       refine zh 10 21 (PO r20) hH ?_
       refine zh 11 22 (.int .i64 0) hH ?_
       refine zn 13 rfl fun K hK => ?_
       refine zu 0 rfl zH H.out rfl rfl rfl rfl ?_
       intro ws HS
       simp only [qb] at HS
       replace H := za HS
       refine zc hK ⟨zb H 5, zb H 4, zb H 3, zb H 2⟩ fun hH => ?_
       try simp only [qa]
       refine zh 14 10 (.int .i64 0) hH ?_
       refine zm ?_
       go_wp2_with fail
       go_meet
       exact ⟨g9, r20, rfl, rfl, HV20.out, H.out⟩
     ·skip
      refine zg 9 rfl z1d H.out rfl ?_
      intro w9 g9 H3 hb
      replace SB13 := za (SB13.out.call hb)
      replace SB17 := za (SB17.out.call hb)
      replace H := za H3
      refine zc hK ⟨zb H 5, zb H 4, zb H 3, zb H 2⟩ fun hH => zn 7 rfl fun K hK => ?_
      go_simp
      refine (z1j _ (HT.out.below H.out.bel) V2.out).mono ?_
      rintro e wc ⟨r19, rfl, hv, hb⟩
      replace SB13 := za (SB13.out.call hb)
      replace SB17 := za (SB17.out.call hb)
      replace H := zd H hb
      have HV19 := za hv
      refine zc hK ⟨zb H 5, zb H 4, zb H 3, zb H 2⟩ fun hH => zn 8 rfl fun K hK => ?_
      go_simp
      refine (y1d _ (HT.out.below H.out.bel) SB13.out HV15.out SB17.out HV19.out (by omega) (by omega) (by omega) (by omega)).mono ?_
      rintro e wc ⟨r20, rfl, hv, hb⟩
      replace SB13 := za (SB13.out.call hb)
      replace SB17 := za (SB17.out.call hb)
      replace H := zd H hb
      have HV20 := za hv
      refine zc hK ⟨zb H 5, zb H 4, zb H 3, zb H 2⟩ fun hH => ?_
      try simp only [Act.put, qa, qb, qc]
      refine zh 9 11 (.tuple #[PO r20, .int .i64 0]) hH ?_
      refine zh 10 21 (PO r20) hH ?_
      refine zh 11 22 (.int .i64 0) hH ?_
      refine zn 13 rfl fun K hK => ?_
      refine zu 0 rfl zH H.out rfl rfl rfl rfl ?_
      intro ws HS
      simp only [qb] at HS
      replace H := za HS
      refine zc hK ⟨zb H 5, zb H 4, zb H 3, zb H 2⟩ fun hH => ?_
      try simp only [qa]
      refine zh 14 10 (.int .i64 0) hH ?_
      refine zm ?_
      go_wp2_with fail
      go_meet
      exact ⟨g9, r20, rfl, rfl, HV20.out, H.out⟩
    ·skip
     refine zg 9 rfl z1d H.out rfl ?_
     intro w9 g9 H3 hb
     replace SB13 := za (SB13.out.call hb)
     replace H := za H3
     refine zc hK ⟨zb H 5, zb H 4, zb H 3, zb H 2⟩ fun hH => zn 5 rfl fun K hK => ?_
     go_simp
     refine (z51 _ _).mono ?_
     rintro e wc ⟨ab17, cb17, rfl, hs, hb⟩
     replace SB13 := za (SB13.out.call hb)
     replace H := zd H hb
     have SB17 := za hs
     refine zc hK ⟨zb H 5, zb H 4, zb H 3, zb H 2⟩ fun hH => zn 7 rfl fun K hK => ?_
     go_simp
     refine (z1j _ (HT.out.below H.out.bel) V2.out).mono ?_
     rintro e wc ⟨r19, rfl, hv, hb⟩
     replace SB13 := za (SB13.out.call hb)
     replace SB17 := za (SB17.out.call hb)
     replace H := zd H hb
     have HV19 := za hv
     refine zc hK ⟨zb H 5, zb H 4, zb H 3, zb H 2⟩ fun hH => ?_
     try simp only [Act.put, qa, qb, qc]
     refine zn 8 rfl fun K hK => ?_
     go_simp
     refine (y1d _ (HT.out.below H.out.bel) SB13.out HV15.out SB17.out HV19.out (by omega) (by omega) (by omega) (by omega)).mono ?_
     rintro e wc ⟨r20, rfl, hv, hb⟩
     replace SB13 := za (SB13.out.call hb)
     replace SB17 := za (SB17.out.call hb)
     replace H := zd H hb
     have HV20 := za hv
     refine zc hK ⟨zb H 5, zb H 4, zb H 3, zb H 2⟩ fun hH => ?_
     refine zh 9 11 (.tuple #[PO r20, .int .i64 0]) hH ?_
     refine zh 10 21 (PO r20) hH ?_
     refine zh 11 22 (.int .i64 0) hH ?_
     refine zn 13 rfl fun K hK => ?_
     refine zu 0 rfl zH H.out rfl rfl rfl rfl ?_
     intro ws HS
     simp only [qb] at HS
     replace H := za HS
     refine zc hK ⟨zb H 5, zb H 4, zb H 3, zb H 2⟩ fun hH => ?_
     try simp only [qa]
     refine zh 14 10 (.int .i64 0) hH ?_
     refine zm ?_
     go_wp2_with fail
     go_meet
     exact ⟨g9, r20, rfl, rfl, HV20.out, H.out⟩
   ·skip
    refine zg 9 rfl z1d H.out rfl ?_
    intro w9 g9 H3 hb
    replace SB13 := za (SB13.out.call hb)
    replace H := za H3
    refine zc hK ⟨zb H 5, zb H 4, zb H 3, zb H 2⟩ fun hH => zn 3 rfl fun K hK => ?_
    go_simp
    refine (z1j _ (HT.out.below H.out.bel) V1.out).mono ?_
    rintro e wc ⟨r15, rfl, hv, hb⟩
    replace SB13 := za (SB13.out.call hb)
    replace H := zd H hb
    have HV15 := za hv
    refine zc hK ⟨zb H 5, zb H 4, zb H 3, zb H 2⟩ fun hH => zn 5 rfl fun K hK => ?_
    go_simp
    refine (z51 _ _).mono ?_
    rintro e wc ⟨ab17, cb17, rfl, hs, hb⟩
    replace SB13 := za (SB13.out.call hb)
    replace H := zd H hb
    have SB17 := za hs
    refine zc hK ⟨zb H 5, zb H 4, zb H 3, zb H 2⟩ fun hH => ?_
    try simp only [Act.put, qa, qb, qc]
    refine zn 7 rfl fun K hK => ?_
    go_simp
    refine (z1j _ (HT.out.below H.out.bel) V2.out).mono ?_
    rintro e wc ⟨r19, rfl, hv, hb⟩
    replace SB13 := za (SB13.out.call hb)
    replace SB17 := za (SB17.out.call hb)
    replace H := zd H hb
    have HV19 := za hv
    refine zc hK ⟨zb H 5, zb H 4, zb H 3, zb H 2⟩ fun hH => zn 8 rfl fun K hK => ?_
    go_simp
    refine (y1d _ (HT.out.below H.out.bel) SB13.out HV15.out SB17.out HV19.out (by omega) (by omega) (by omega) (by omega)).mono ?_
    rintro e wc ⟨r20, rfl, hv, hb⟩
    replace SB13 := za (SB13.out.call hb)
    replace SB17 := za (SB17.out.call hb)
    replace H := zd H hb
    have HV20 := za hv
    refine zc hK ⟨zb H 5, zb H 4, zb H 3, zb H 2⟩ fun hH => ?_
    refine zh 9 11 (.tuple #[PO r20, .int .i64 0]) hH ?_
    refine zh 10 21 (PO r20) hH ?_
    refine zh 11 22 (.int .i64 0) hH ?_
    refine zn 13 rfl fun K hK => ?_
    refine zu 0 rfl zH H.out rfl rfl rfl rfl ?_
    intro ws HS
    simp only [qb] at HS
    replace H := za HS
    refine zc hK ⟨zb H 5, zb H 4, zb H 3, zb H 2⟩ fun hH => ?_
    try simp only [qa]
    refine zh 14 10 (.int .i64 0) hH ?_
    refine zm ?_
    go_wp2_with fail
    go_meet
    exact ⟨g9, r20, rfl, rfl, HV20.out, H.out⟩
  ·skip
   refine zg 9 rfl z1d H.out rfl ?_
   intro w9 g9 H3 hb
   replace H := za H3
   refine zc hK ⟨zb H 5, zb H 4, zb H 3, zb H 2⟩ fun hH => zn 1 rfl fun K hK => ?_
   go_simp
   refine (z51 _ _).mono ?_
   rintro e wc ⟨ab13, cb13, rfl, hs, hb⟩
   replace H := zd H hb
   have SB13 := za hs
   refine zc hK ⟨zb H 5, zb H 4, zb H 3, zb H 2⟩ fun hH => zn 3 rfl fun K hK => ?_
   go_simp
   refine (z1j _ (HT.out.below H.out.bel) V1.out).mono ?_
   rintro e wc ⟨r15, rfl, hv, hb⟩
   replace SB13 := za (SB13.out.call hb)
   replace H := zd H hb
   have HV15 := za hv
   refine zc hK ⟨zb H 5, zb H 4, zb H 3, zb H 2⟩ fun hH => ?_
   try simp only [Act.put, qa, qb, qc]
   refine zn 5 rfl fun K hK => ?_
   go_simp
   refine (z51 _ _).mono ?_
   rintro e wc ⟨ab17, cb17, rfl, hs, hb⟩
   replace SB13 := za (SB13.out.call hb)
   replace H := zd H hb
   have SB17 := za hs
   refine zc hK ⟨zb H 5, zb H 4, zb H 3, zb H 2⟩ fun hH => zn 7 rfl fun K hK => ?_
   go_simp
   refine (z1j _ (HT.out.below H.out.bel) V2.out).mono ?_
   rintro e wc ⟨r19, rfl, hv, hb⟩
   replace SB13 := za (SB13.out.call hb)
   replace SB17 := za (SB17.out.call hb)
   replace H := zd H hb
   have HV19 := za hv
   refine zc hK ⟨zb H 5, zb H 4, zb H 3, zb H 2⟩ fun hH => zn 8 rfl fun K hK => ?_
   go_simp
   refine (y1d _ (HT.out.below H.out.bel) SB13.out HV15.out SB17.out HV19.out (by omega) (by omega) (by omega) (by omega)).mono ?_
   rintro e wc ⟨r20, rfl, hv, hb⟩
   replace SB13 := za (SB13.out.call hb)
   replace SB17 := za (SB17.out.call hb)
   replace H := zd H hb
   have HV20 := za hv
   refine zc hK ⟨zb H 5, zb H 4, zb H 3, zb H 2⟩ fun hH => ?_
   try simp only [Act.put, qa, qb, qc]
   refine zh 9 11 (.tuple #[PO r20, .int .i64 0]) hH ?_
   refine zh 10 21 (PO r20) hH ?_
   refine zh 11 22 (.int .i64 0) hH ?_
   refine zn 13 rfl fun K hK => ?_
   refine zu 0 rfl zH H.out rfl rfl rfl rfl ?_
   intro ws HS
   simp only [qb] at HS
   replace H := za HS
   refine zc hK ⟨zb H 5, zb H 4, zb H 3, zb H 2⟩ fun hH => ?_
   try simp only [qa]
   refine zh 14 10 (.int .i64 0) hH ?_
   refine zm ?_
   go_wp2_with fail
   go_meet
   exact ⟨g9, r20, rfl, rfl, HV20.out, H.out⟩
 clear H
 obtain ⟨g9, r20, rfl, rfl, hv20, HRR⟩ := hcut
 have HV20 := za hv20
 have H := za HRR
 clear HRR hv20
 go_wp2_with (first
  | ((with_reducible apply zr zH H); (case hgd | ho | hx => exact rfl); (case hi => repeat first|exact z5|apply z8); intro _ _; go_simp)
  | ((fail_if_success have := V3); (with_reducible refine (z3i _ HV20.out).mono ?_); rintro e wc ⟨kV3, rfl, hv, hb⟩; replace H := zd H hb; clear hb; have V3 := za hv; clear hv)
  | ((with_reducible apply z0a H); (case hgd | ho | hx | hy => exact rfl); (case hi => repeat first|exact z5|apply z8); (case h1 => exact V3.out); clear H; intro ws H _ _; simp only [qb, qc] at H; go_simp))
 exact bodyPost_ret (z0z 1 z2w (z26 _) rfl _ H rfl rfl) rfl ⟨_, rfl, V3.out, H.out.bel⟩
end Go.Proofs.YtgjbonikbmgfmaaGreatDoor
