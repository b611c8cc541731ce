/- Lemmas; no statement is proved here. -/
import Derived.Test.YtgjbonikbmgfmaaGreatDoorZDfEnc
import Derived.Test.YtgjbonikbmgfmaaGreatDoorZDfLaw
set_option maxRecDepth 8000
set_option maxHeartbeats 3200000
namespace Go.Proofs.YtgjbonikbmgfmaaGreatDoor
open Go.RowKit
theorem z10 {F : Nat → Value} {r : Nat → Int} {P Q : Pt pN dK} {b : Bool} (w : World) (hT : Tp w) (hF : DeK F P) (hr : RfK r Q) (h : decide ((encK P).val = (encK Q).val) = b) :
  Calls Tryz.prog 15 #[DO F, QO r] w fun e w' => e = .returned (.bool b) ∧ Below w.heap.size w w' := by
 have V1 := za hF
 have W1 := za hr
 have HB := za h
 clear hF hr h
 have HT := za hT
 clear hT
 have H := za (Ow.start w)
 go_enter Tryz.func15, Tryz.ntmps15
 go_upto_region 1 with (first
  | ((fail_if_success have := g2); (with_reducible apply z0g H); (case hgd | ho | hx => exact rfl); clear H; intro w2 g2 H _ _; go_simp)
  | ((fail_if_success have := g3); (with_reducible apply zw H); (case hgd | ho | hx => exact rfl); clear H; intro w3 g3 H _ _; go_simp))
 refine wp_region_noPanic ?_
 refine wp_region_held_drew (S := fun W => W.heap[g2]? = some (Cs 34 (AV 25 F)) ∧ W.heap[g3]? = some (zv 38 .i64 48 (r))) (by kernel_rfl) (⟨H.out.drew.row 1 rfl, H.out.drew.row 0 rfl⟩) (fun hH => ?_)
 replace H := za H.out.drew
 generalize World.drew _ = w8 at *
 refine zE 0 5 rfl rfl rfl hH rfl rfl (fun _ h => h.1) ?_
 refine zk 2 7 zD rfl rfl rfl hH rfl rfl (fun _ h => h.2) ?_
 refine zn 1 rfl fun K hK => ?_
 go_simp
 refine (z4f _ (HT.out.below H.out.bel) V1.out).mono ?_
 rintro e wc ⟨ge6, ce6, rfl, hs, hb⟩
 replace H := zd H hb
 have SE6 := za hs
 refine zc hK ⟨zb H 1, zb H 0⟩ fun hH => ?_
 try simp only [Act.put, qa, qb, qc]
 refine zn 3 rfl fun K hK => ?_
 go_simp
 refine (z73 _ W1.out).mono ?_
 rintro e wc ⟨ge8, ce8, rfl, hs, hb⟩
 replace SE6 := za (SE6.out.call hb)
 replace H := zd H hb
 have SE8 := za hs
 refine zc hK ⟨zb H 1, zb H 0⟩ fun hH => zn 4 rfl fun K hK => ?_
 go_simp
 refine (z5h HB.out _ SE6.out SE8.out).mono ?_
 rintro e wc ⟨rfl, hb⟩
 replace SE6 := za (SE6.out.call hb)
 replace SE8 := za (SE8.out.call hb)
 replace H := zd H hb
 refine zc hK ⟨zb H 1, zb H 0⟩ fun hH => ?_
 refine zh 5 4 (.bool b) hH ?_
 refine zm ?_
 go_wp2_with fail
 go_ret
 exact ⟨rfl, H.out.bel⟩
end Go.Proofs.YtgjbonikbmgfmaaGreatDoor
