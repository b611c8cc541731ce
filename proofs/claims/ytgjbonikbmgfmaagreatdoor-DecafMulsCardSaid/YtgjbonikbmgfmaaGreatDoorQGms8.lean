/- Lemmas; no statement is proved here. -/
import Derived.Test.YtgjbonikbmgfmaaGreatDoorQGmsBuO
import Derived.Test.YtgjbonikbmgfmaaGreatDoorQK
import Derived.Test.YtgjbonikbmgfmaaGreatDoorZDfGo2
import Derived.Test.YtgjbonikbmgfmaaGreatDoorQGmsBuY
set_option maxRecDepth 8000
set_option maxHeartbeats 3200000
namespace Go.Proofs.YtgjbonikbmgfmaaGreatDoor
open Go.ChangeShapes Go.WideShapes Go.ChangeAt Go.RowKit
theorem cellsO14 : Tryz.prog.cellsOf 68 = 7 := by kernel_rfl
theorem gOrd14 : Tryz.prog.globalNamed "chicory/scalar.order" = some 1 := by kernel_rfl
theorem gOrdT14 : (Tryz.prog.globals[1]?).map (·.type) = some 68 := by kernel_rfl
def y8h : List Int := [2556006723728458995, 2408513697996967765, 14145484589129676432, 18446744071508206569, 18446744073709551615, 18446744073709551615, 4611686018427387903]
def y70 : List Int := [15890737349981092621, 16038230375712583850, 4301259484579875183, 2201345046]
theorem ordZ14_at : ∀ i, i < 7 → y8h.getD i 0 = L (wd lN i) := by decide +kernel
section
variable {P : Program} {W : World} {name : String} {k : IntKind} {zs : List Int} {rest : List (String × DataW Unit)} {x y : String × DataW Unit} {g : Nat} {t e : TypeId} {n : Nat}
theorem tab_second (hg : P.globalNamed name = some g) (hty : (P.globals[g]?).map (·.type) = some t) (ht : P.underlying t = some (.array n e)) (he : P.underlying e = some (.int k)) (hce : P.cellsOf e = 1) (hct : P.cellsOf t = n)
  (h : laidMet P (x :: (name, Lib.tabData k zs) :: rest) W) : Lib.TabIs P W name k zs := by
 obtain ⟨ps, ⟨_, _, _, _, _, _, _, _, _, _, h5, _⟩, _⟩ := h
 obtain ⟨g', t', cs, fuel, p, q, hg', ht', hvar, hd, _, _⟩ := h5
 obtain rfl := Option.some.inj (hg.symm.trans hg')
 obtain rfl := Option.some.inj (hty.symm.trans ht')
 unfold Lib.TabIs
 rw [hvar, ← Lib.cells_of_tab ht he hce hct hd]
end
theorem y41 {rest : List (String × DataW Unit)} {W : World} (h : laidMet Tryz.prog (("chicory/field.prime", Rows.laid_chicory_field_prime) :: rest) W) : Tp W := by
 have h1 : Lib.TabIs Tryz.prog W "chicory/field.prime" .u64 prZ := Lib.tabIs_of_head (rest := rest) gPr gPrT Tryz.underlying28 Tryz.underlying27 y17 cellsT h
 exact ⟨fun i hi => by rw [h1.cell gPr i hi, prZ_at i hi]⟩
theorem y2v {rest : List (String × DataW Unit)} {x : String × DataW Unit} {W : World} (h : laidMet Tryz.prog (x :: ("chicory/scalar.order", Rows.laid_chicory_scalar_order) :: rest) W) : ∀ i, i < 7 → W.cell? ⟨1, i, none⟩ = some (V (wd lN i)) := by
 have h2 : Lib.TabIs Tryz.prog W "chicory/scalar.order" .u64 y8h := tab_second (rest := rest) (x := x) gOrd14 gOrdT14 Tryz.underlying68 Tryz.underlying27 y17 cellsO14 h
 exact fun i hi => by rw [h2.cell gOrd14 i hi, ordZ14_at i hi]
noncomputable def laidWorld14 (os : Os) : World :=
 { World.holding Tryz.prog os ⟨#[], #[], []⟩ with heap := (((World.holding Tryz.prog os ⟨#[], #[], []⟩).heap.modify 0 (y5d (prZ.map fun z => Value.int .u64 z).toArray)).modify 1 (y5d (y8h.map fun z => Value.int .u64 z).toArray)).modify 2 (y5d (y70.map fun z => Value.int .u64 z).toArray) }
open Go.RowKit
theorem z3m {k : KL} {F : Nat → Value} {P : Pt pN dK} (w : World) (hT : Tp w) (h1 : DeK F P) :
  Calls Tryz.prog 33 #[W7 (k).val, DO F] w fun e w' => ∃ r, e = .returned (DO r) ∧ DeK r (zF zB k.val P) ∧ Below w.heap.size w w' := by
 have V1 := za h1
 clear h1
 have HT := za hT
 clear hT
 have H := za (Ow.start w)
 go_enter Tryz.func33, Tryz.ntmps33
 go_upto_region 1 with (first
  | ((fail_if_success have := g2); (with_reducible apply zw H); (case hgd | ho | hx => exact rfl); clear H; intro w2 g2 H _ _; go_simp)
  | ((fail_if_success have := g3); (with_reducible apply z0g H); (case hgd | ho | hx => exact rfl); clear H; intro w3 g3 H _ _; go_simp)
  | ((fail_if_success have := g4); (with_reducible apply z0b zI H); (case hgd | ho => exact rfl); clear H; intro w4 g4 H _ _; go_simp))
 go_cut [5, 6] from 7 to 14 (fun v5 v6 wx => ∃ g5 r12, v5 = .pointer (some ⟨g5, 0, none⟩) ∧ v6 = .int .i64 0 ∧ PtK r12 (zF zB k.val P) ∧ Ow w wx [(g5, zv 32 .u64 24 (r12)), (g4, Cs 34 (AV 25 (ics (fun _ => 0) (.bool false)))), (g3, Cs 34 (AV 25 F)), (g2, WB 70 7 (wd (k).val))])
 case first =>
  go_wp2_with fail
  refine wp_region_noPanic ?_
  refine wp_region_held_drew (S := fun W => W.heap[g2]? = some (WB 70 7 (wd (k).val)) ∧ W.heap[g3]? = some (Cs 34 (AV 25 F))) (by kernel_rfl) (⟨H.out.drew.row 2 rfl, H.out.drew.row 1 rfl⟩) (fun hH => ?_)
  replace H := za H.out.drew
  generalize World.drew _ = w8 at *
  refine zk 0 8 z1g rfl rfl rfl hH rfl rfl (fun _ h => h.1) ?_
  refine zE 2 10 rfl rfl rfl hH rfl rfl (fun _ h => h.2) ?_
  refine zK [1, 8] (zG rfl (fun K hK => ?_) (zG rfl (fun K hK => ?_) zJ))
  ·skip
   go_simp
   refine (z51 _ _).mono ?_
   rintro e wc ⟨ab9, cb9, rfl, hs, hb⟩
   replace H := zd H hb
   have SB9 := za hs
   refine zc hK ⟨zb H 2, zb H 1⟩ fun hH => ?_
   try simp only [Act.put, qa, qb, qc]
   refine zK [3, 8] (zG rfl (fun K hK => ?_) (zG rfl (fun K hK => ?_) zJ))
   ·skip
    go_simp
    refine (z1j _ (HT.out.below H.out.bel) V1.out).mono ?_
    rintro e wc ⟨r11, rfl, hv, hb⟩
    replace SB9 := za (SB9.out.call hb)
    replace H := zd H hb
    have HV11 := za hv
    refine zc hK ⟨zb H 2, zb H 1⟩ fun hH => zK [4, 8] (zG rfl (fun K hK => ?_) (zG rfl (fun K hK => ?_) zJ))
    ·skip
     go_simp
     refine (y5p _ (HT.out.below H.out.bel) SB9.out HV11.out (by omega) (by omega)).mono ?_
     rintro e wc ⟨r12, rfl, hv, hb⟩
     replace SB9 := za (SB9.out.call hb)
     replace H := zd H hb
     have HV12 := za hv
     refine zc hK ⟨zb H 2, zb H 1⟩ fun hH => ?_
     refine zh 5 7 (.tuple #[PO r12, .int .i64 0]) hH ?_
     refine zh 6 13 (PO r12) hH ?_
     refine zh 7 14 (.int .i64 0) hH ?_
     refine zn 8 rfl fun K hK => ?_
     refine zg 5 rfl z1d H.out rfl ?_
     intro w5 g5 H3 hb
     replace SB9 := za (SB9.out.call hb)
     replace H := za H3
     refine zc hK ⟨zb H 3, zb H 2⟩ fun hH => zn 9 rfl fun K hK => ?_
     refine zu 0 rfl zH H.out rfl rfl rfl rfl ?_
     intro ws HS
     simp only [qb] at HS
     replace H := za HS
     refine zc hK ⟨zb H 3, zb H 2⟩ fun hH => ?_
     try simp only [qa]
     refine zh 10 6 (.int .i64 0) hH ?_
     refine zm ?_
     go_wp2_with fail
     go_meet
     exact ⟨g5, r12, rfl, rfl, HV12.out, H.out⟩
    ·skip
     refine zg 5 rfl z1d H.out rfl ?_
     intro w5 g5 H3 hb
     replace SB9 := za (SB9.out.call hb)
     replace H := za H3
     refine zc hK ⟨zb H 3, zb H 2⟩ fun hH => zn 4 rfl fun K hK => ?_
     go_simp
     refine (y5p _ (HT.out.below H.out.bel) SB9.out HV11.out (by omega) (by omega)).mono ?_
     rintro e wc ⟨r12, rfl, hv, hb⟩
     replace SB9 := za (SB9.out.call hb)
     replace H := zd H hb
     have HV12 := za hv
     refine zc hK ⟨zb H 3, zb H 2⟩ fun hH => ?_
     refine zh 5 7 (.tuple #[PO r12, .int .i64 0]) hH ?_
     refine zh 6 13 (PO r12) hH ?_
     refine zh 7 14 (.int .i64 0) hH ?_
     refine zn 9 rfl fun K hK => ?_
     refine zu 0 rfl zH H.out rfl rfl rfl rfl ?_
     intro ws HS
     simp only [qb] at HS
     replace H := za HS
     refine zc hK ⟨zb H 3, zb H 2⟩ fun hH => ?_
     try simp only [qa]
     refine zh 10 6 (.int .i64 0) hH ?_
     refine zm ?_
     go_wp2_with fail
     go_meet
     exact ⟨g5, r12, rfl, rfl, HV12.out, H.out⟩
   ·skip
    refine zg 5 rfl z1d H.out rfl ?_
    intro w5 g5 H3 hb
    replace SB9 := za (SB9.out.call hb)
    replace H := za H3
    refine zc hK ⟨zb H 3, zb H 2⟩ fun hH => zn 3 rfl fun K hK => ?_
    go_simp
    refine (z1j _ (HT.out.below H.out.bel) V1.out).mono ?_
    rintro e wc ⟨r11, rfl, hv, hb⟩
    replace SB9 := za (SB9.out.call hb)
    replace H := zd H hb
    have HV11 := za hv
    refine zc hK ⟨zb H 3, zb H 2⟩ fun hH => zn 4 rfl fun K hK => ?_
    go_simp
    refine (y5p _ (HT.out.below H.out.bel) SB9.out HV11.out (by omega) (by omega)).mono ?_
    rintro e wc ⟨r12, rfl, hv, hb⟩
    replace SB9 := za (SB9.out.call hb)
    replace H := zd H hb
    have HV12 := za hv
    refine zc hK ⟨zb H 3, zb H 2⟩ fun hH => ?_
    try simp only [Act.put, qa, qb, qc]
    refine zh 5 7 (.tuple #[PO r12, .int .i64 0]) hH ?_
    refine zh 6 13 (PO r12) hH ?_
    refine zh 7 14 (.int .i64 0) hH ?_
    refine zn 9 rfl fun K hK => ?_
    refine zu 0 rfl zH H.out rfl rfl rfl rfl ?_
    intro ws HS
    simp only [qb] at HS
    replace H := za HS
    refine zc hK ⟨zb H 3, zb H 2⟩ fun hH => ?_
    try simp only [qa]
    refine zh 10 6 (.int .i64 0) hH ?_
    refine zm ?_
    go_wp2_with fail
    go_meet
    exact ⟨g5, r12, rfl, rfl, HV12.out, H.out⟩
  ·skip
   refine zg 5 rfl z1d H.out rfl ?_
   intro w5 g5 H3 hb
   replace H := za H3
   refine zc hK ⟨zb H 3, zb H 2⟩ fun hH => zn 1 rfl fun K hK => ?_
   go_simp
   refine (z51 _ _).mono ?_
   rintro e wc ⟨ab9, cb9, rfl, hs, hb⟩
   replace H := zd H hb
   have SB9 := za hs
   refine zc hK ⟨zb H 3, zb H 2⟩ fun hH => zn 3 rfl fun K hK => ?_
   go_simp
   refine (z1j _ (HT.out.below H.out.bel) V1.out).mono ?_
   rintro e wc ⟨r11, rfl, hv, hb⟩
   replace SB9 := za (SB9.out.call hb)
   replace H := zd H hb
   have HV11 := za hv
   refine zc hK ⟨zb H 3, zb H 2⟩ fun hH => ?_
   try simp only [Act.put, qa, qb, qc]
   refine zn 4 rfl fun K hK => ?_
   go_simp
   refine (y5p _ (HT.out.below H.out.bel) SB9.out HV11.out (by omega) (by omega)).mono ?_
   rintro e wc ⟨r12, rfl, hv, hb⟩
   replace SB9 := za (SB9.out.call hb)
   replace H := zd H hb
   have HV12 := za hv
   refine zc hK ⟨zb H 3, zb H 2⟩ fun hH => ?_
   refine zh 5 7 (.tuple #[PO r12, .int .i64 0]) hH ?_
   refine zh 6 13 (PO r12) hH ?_
   refine zh 7 14 (.int .i64 0) hH ?_
   refine zn 9 rfl fun K hK => ?_
   refine zu 0 rfl zH H.out rfl rfl rfl rfl ?_
   intro ws HS
   simp only [qb] at HS
   replace H := za HS
   refine zc hK ⟨zb H 3, zb H 2⟩ fun hH => ?_
   try simp only [qa]
   refine zh 10 6 (.int .i64 0) hH ?_
   refine zm ?_
   go_wp2_with fail
   go_meet
   exact ⟨g5, r12, rfl, rfl, HV12.out, H.out⟩
 clear H
 obtain ⟨g5, r12, rfl, rfl, hv12, HRR⟩ := hcut
 have HV12 := za hv12
 have H := za HRR
 clear HRR hv12
 go_wp2_with (first
  | ((with_reducible apply zr zH H); (case hgd | ho | hx => exact rfl); (case hi => repeat first|exact z5|apply z8); intro _ _; go_simp)
  | ((fail_if_success have := V2); (with_reducible refine (z3i _ HV12.out).mono ?_); rintro e wc ⟨kV2, rfl, hv, hb⟩; replace H := zd H hb; clear hb; have V2 := za hv; clear hv)
  | ((with_reducible apply z0a H); (case hgd | ho | hx | hy => exact rfl); (case hi => repeat first|exact z5|apply z8); (case h1 => exact V2.out); clear H; intro ws H _ _; simp only [qb, qc] at H; go_simp))
 exact bodyPost_ret (z0z 1 z2w (z26 _) rfl _ H rfl rfl) rfl ⟨_, rfl, V2.out, H.out.bel⟩
end Go.Proofs.YtgjbonikbmgfmaaGreatDoor
