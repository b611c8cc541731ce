/- Lemmas; no statement is proved here. -/
import Derived.Test.YtgjbonikbmgfmaaGreatDoorQAdem1
import Derived.Deep.CutRange
set_option maxRecDepth 40000
set_option maxHeartbeats 3200000
namespace Go.Proofs.YtgjbonikbmgfmaaGreatDoor
open Go.RowKit
theorem z7w : shf (pN + 1) (-2) = eC + 1 := by decide +kernel
theorem refRoot_walk {a r : K} (w : World) (hr : a ^ (eC + 1) = r) :
  Calls Tryz.prog 119 #[FV a.val] w fun e w' => ((r * r = a ∧ e = .returned (.tuple #[FV (ab r).val, .bool true])) ∨ (r * r ≠ a ∧ e = .returned (.tuple #[FV (0 : K).val, .bool false]))) ∧ Below w.heap.size w w' := by
 have HQ := za hr
 clear hr
 have h56 := y4f (show pN + 1 ≤ pN + 1 by omega)
 have h57 := y4f (x := shf (pN + 1) (-2)) (by rw [z7w]; decide +kernel)
 have H := za (Ow.start w)
 go_enter Tryz.func119, Tryz.ntmps119
 go_upto_region 1 with (first
  | ((fail_if_success have := g1); (with_reducible apply zw H); (case hgd | ho | hx => exact rfl); clear H; intro w1 g1 H _ _; go_simp)
  | ((fail_if_success have := g2); (with_reducible apply ze zA.zero H); (case hgd | ho => exact rfl); clear H; intro w2 g2 H _ _; go_simp))
 go_cut [4] from 5 to 10 (fun v4 wx => ∃ g4, v4 = .pointer (some ⟨g4, 0, none⟩) ∧ Ow w wx [(g4, zv 36 .i64 16 (dF (r).val)), (g2, zv 36 .i64 16 fun _ => 0), (g1, zv 36 .i64 16 (dF (a).val))])
 case first =>
  go_wp2_with fail
  refine wp_region_noPanic ?_
  refine wp_region_held_drew (S := fun W => W.heap[g1]? = some (zv 36 .i64 16 (dF (a).val))) (by kernel_rfl) (H.out.drew.row 1 rfl) (fun hH => ?_)
  replace H := za H.out.drew
  generalize World.drew _ = w8 at *
  refine zk 0 5 z4 rfl rfl rfl hH rfl rfl (fun _ h => h) ?_
  refine zK [1, 2, 6] (zG rfl (fun K hK => ?_) (zG rfl (fun K hK => ?_) (zG rfl (fun K hK => ?_) zJ)))
  ·skip
   go_simp
   refine (z1p _).mono ?_
   rintro e wc ⟨a6, c6, rfl, hs, hb⟩
   replace H := zd H hb
   have HS6 := za hs
   refine zc hK (zb H 1) fun hH => zK [2, 6] (zG rfl (fun K hK => ?_) (zG rfl (fun K hK => ?_) zJ))
   ·skip
    refine z2q 7 rfl (v := 1) (by omega) H.out rfl ?_
    intro w7 g7 H3 hs hb
    replace HS6 := za (HS6.out.call hb)
    replace H := za H3
    have HS7 := za hs
    refine zc hK (zb H 2) fun hH => ?_
    try simp only [Act.put, qa, qb, qc]
    refine zK [3, 6] (zG rfl (fun K hK => ?_) (zG rfl (fun K hK => ?_) zJ))
    ·skip
     go_simp
     refine (z2a _ _ _ _ _ _ _ _ _ (by omega) (by omega) HS6.out HS7.out).mono ?_
     rintro e wc ⟨_, rfl, a8, c8, rfl, hs, hb⟩
     replace HS6 := za (HS6.out.call hb)
     replace HS7 := za (HS7.out.call hb)
     replace H := zd H hb
     have HS8 := za hs
     refine zc hK (zb H 2) fun hH => zK [4, 6] (zG rfl (fun K hK => ?_) (zG rfl (fun K hK => ?_) zJ))
     ·skip
      go_simp
      refine (z1n _ _ _ _ _ _ (by omega) (by omega) (by omega) HS8.out).mono ?_
      rintro e wc ⟨_, rfl, a9, c9, rfl, hs, hb⟩
      replace HS6 := za (HS6.out.call hb)
      replace HS7 := za (HS7.out.call hb)
      replace HS8 := za (HS8.out.call hb)
      replace H := zd H hb
      have HS9 := za hs
      refine zc hK (zb H 2) fun hH => zK [5, 6] (zG rfl (fun K hK => ?_) (zG rfl (fun K hK => ?_) zJ))
      ·skip
       go_simp
       refine (z1h _ _ _ _ _ HS9.out (by omega)).mono ?_
       rintro e wc ⟨rfl, hb⟩
       replace HS6 := za (HS6.out.call hb)
       replace HS7 := za (HS7.out.call hb)
       replace HS8 := za (HS8.out.call hb)
       replace HS9 := za (HS9.out.call hb)
       replace H := zd H hb
       refine zc hK (zb H 2) fun hH => ?_
       try simp only [Act.put, qa, qb, qc]
       refine zn 6 rfl fun K hK => ?_
       refine zg 4 rfl zA.zero H.out rfl ?_
       intro w4 g4 H3 hb
       replace HS6 := za (HS6.out.call hb)
       replace HS7 := za (HS7.out.call hb)
       replace HS8 := za (HS8.out.call hb)
       replace HS9 := za (HS9.out.call hb)
       replace H := za H3
       refine zc hK (zb H 3) fun hH => zn 7 rfl fun K hK => ?_
       refine zl 0 z4 H.out rfl rfl rfl rfl ?_
       intro ws HS
       simp only [qb] at HS
       replace H := za HS
       refine zc hK (zb H 3) fun hH => ?_
       try simp only [Act.put, qa]
       refine zm ?_
       rw [z7w, HQ.out] at H
       clear HQ
       replace H := za ((H.out.erase 1).front (x := (g4, zv 36 .i64 16 (dF (r).val))) 0 rfl)
       go_wp2_with fail
       go_meet
       exact ⟨g4, rfl, H.out⟩
      ·skip
       refine zg 4 rfl zA.zero H.out rfl ?_
       intro w4 g4 H3 hb
       replace HS6 := za (HS6.out.call hb)
       replace HS7 := za (HS7.out.call hb)
       replace HS8 := za (HS8.out.call hb)
       replace HS9 := za (HS9.out.call hb)
       replace H := za H3
       refine zc hK (zb H 3) fun hH => zn 5 rfl fun K hK => ?_
       go_simp
       refine (z1h _ _ _ _ _ HS9.out (by omega)).mono ?_
       rintro e wc ⟨rfl, hb⟩
       replace HS6 := za (HS6.out.call hb)
       replace HS7 := za (HS7.out.call hb)
       replace HS8 := za (HS8.out.call hb)
       replace HS9 := za (HS9.out.call hb)
       replace H := zd H hb
       refine zc hK (zb H 3) fun hH => ?_
       try simp only [Act.put, qa, qb, qc]
       refine zn 7 rfl fun K hK => ?_
       refine zl 0 z4 H.out rfl rfl rfl rfl ?_
       intro ws HS
       simp only [qb] at HS
       replace H := za HS
       refine zc hK (zb H 3) fun hH => ?_
       try simp only [Act.put, qa]
       refine zm ?_
       rw [z7w, HQ.out] at H
       clear HQ
       replace H := za ((H.out.erase 1).front (x := (g4, zv 36 .i64 16 (dF (r).val))) 0 rfl)
       go_wp2_with fail
       go_meet
       exact ⟨g4, rfl, H.out⟩
     ·skip
      refine zg 4 rfl zA.zero H.out rfl ?_
      intro w4 g4 H3 hb
      replace HS6 := za (HS6.out.call hb)
      replace HS7 := za (HS7.out.call hb)
      replace HS8 := za (HS8.out.call hb)
      replace H := za H3
      refine zc hK (zb H 3) fun hH => zn 4 rfl fun K hK => ?_
      go_simp
      refine (z1n _ _ _ _ _ _ (by omega) (by omega) (by omega) HS8.out).mono ?_
      rintro e wc ⟨_, rfl, a9, c9, rfl, hs, hb⟩
      replace HS6 := za (HS6.out.call hb)
      replace HS7 := za (HS7.out.call hb)
      replace HS8 := za (HS8.out.call hb)
      replace H := zd H hb
      have HS9 := za hs
      refine zc hK (zb H 3) fun hH => zn 5 rfl fun K hK => ?_
      go_simp
      refine (z1h _ _ _ _ _ HS9.out (by omega)).mono ?_
      rintro e wc ⟨rfl, hb⟩
      replace HS6 := za (HS6.out.call hb)
      replace HS7 := za (HS7.out.call hb)
      replace HS8 := za (HS8.out.call hb)
      replace HS9 := za (HS9.out.call hb)
      replace H := zd H hb
      refine zc hK (zb H 3) fun hH => ?_
      try simp only [Act.put, qa, qb, qc]
      refine zn 7 rfl fun K hK => ?_
      refine zl 0 z4 H.out rfl rfl rfl rfl ?_
      intro ws HS
      simp only [qb] at HS
      replace H := za HS
      refine zc hK (zb H 3) fun hH => ?_
      try simp only [Act.put, qa]
      refine zm ?_
      rw [z7w, HQ.out] at H
      clear HQ
      replace H := za ((H.out.erase 1).front (x := (g4, zv 36 .i64 16 (dF (r).val))) 0 rfl)
      go_wp2_with fail
      go_meet
      exact ⟨g4, rfl, H.out⟩
    ·skip
     refine zg 4 rfl zA.zero H.out rfl ?_
     intro w4 g4 H3 hb
     replace HS6 := za (HS6.out.call hb)
     replace HS7 := za (HS7.out.call hb)
     replace H := za H3
     refine zc hK (zb H 3) fun hH => zn 3 rfl fun K hK => ?_
     go_simp
     refine (z2a _ _ _ _ _ _ _ _ _ (by omega) (by omega) HS6.out HS7.out).mono ?_
     rintro e wc ⟨_, rfl, a8, c8, rfl, hs, hb⟩
     replace HS6 := za (HS6.out.call hb)
     replace HS7 := za (HS7.out.call hb)
     replace H := zd H hb
     have HS8 := za hs
     refine zc hK (zb H 3) fun hH => zn 4 rfl fun K hK => ?_
     go_simp
     refine (z1n _ _ _ _ _ _ (by omega) (by omega) (by omega) HS8.out).mono ?_
     rintro e wc ⟨_, rfl, a9, c9, rfl, hs, hb⟩
     replace HS6 := za (HS6.out.call hb)
     replace HS7 := za (HS7.out.call hb)
     replace HS8 := za (HS8.out.call hb)
     replace H := zd H hb
     have HS9 := za hs
     refine zc hK (zb H 3) fun hH => ?_
     try simp only [Act.put, qa, qb, qc]
     refine zn 5 rfl fun K hK => ?_
     go_simp
     refine (z1h _ _ _ _ _ HS9.out (by omega)).mono ?_
     rintro e wc ⟨rfl, hb⟩
     replace HS6 := za (HS6.out.call hb)
     replace HS7 := za (HS7.out.call hb)
     replace HS8 := za (HS8.out.call hb)
     replace HS9 := za (HS9.out.call hb)
     replace H := zd H hb
     refine zc hK (zb H 3) fun hH => zn 7 rfl fun K hK => ?_
     refine zl 0 z4 H.out rfl rfl rfl rfl ?_
     intro ws HS
     simp only [qb] at HS
     replace H := za HS
     refine zc hK (zb H 3) fun hH => ?_
     try simp only [Act.put, qa]
     refine zm ?_
     rw [z7w, HQ.out] at H
     clear HQ
     replace H := za ((H.out.erase 1).front (x := (g4, zv 36 .i64 16 (dF (r).val))) 0 rfl)
     go_wp2_with fail
     go_meet
     exact ⟨g4, rfl, H.out⟩
   ·skip
    refine zg 4 rfl zA.zero H.out rfl ?_
    intro w4 g4 H3 hb
    replace HS6 := za (HS6.out.call hb)
    replace H := za H3
    refine zc hK (zb H 2) fun hH => zn 2 rfl fun K hK => ?_
    refine z2q 7 rfl (v := 1) (by omega) H.out rfl ?_
    intro w7 g7 H3 hs hb
    replace HS6 := za (HS6.out.call hb)
    replace H := za H3
    have HS7 := za hs
    refine zc hK (zb H 3) fun hH => ?_
    try simp only [Act.put, qa, qb, qc]
    refine zn 3 rfl fun K hK => ?_
    go_simp
    refine (z2a _ _ _ _ _ _ _ _ _ (by omega) (by omega) HS6.out HS7.out).mono ?_
    rintro e wc ⟨_, rfl, a8, c8, rfl, hs, hb⟩
    replace HS6 := za (HS6.out.call hb)
    replace HS7 := za (HS7.out.call hb)
    replace H := zd H hb
    have HS8 := za hs
    refine zc hK (zb H 3) fun hH => zn 4 rfl fun K hK => ?_
    go_simp
    refine (z1n _ _ _ _ _ _ (by omega) (by omega) (by omega) HS8.out).mono ?_
    rintro e wc ⟨_, rfl, a9, c9, rfl, hs, hb⟩
    replace HS6 := za (HS6.out.call hb)
    replace HS7 := za (HS7.out.call hb)
    replace HS8 := za (HS8.out.call hb)
    replace H := zd H hb
    have HS9 := za hs
    refine zc hK (zb H 3) fun hH => zn 5 rfl fun K hK => ?_
    go_simp
    refine (z1h _ _ _ _ _ HS9.out (by omega)).mono ?_
    rintro e wc ⟨rfl, hb⟩
    replace HS6 := za (HS6.out.call hb)
    replace HS7 := za (HS7.out.call hb)
    replace HS8 := za (HS8.out.call hb)
    replace HS9 := za (HS9.out.call hb)
    replace H := zd H hb
    refine zc hK (zb H 3) fun hH => ?_
    try simp only [Act.put, qa, qb, qc]
    refine zn 7 rfl fun K hK => ?_
    refine zl 1 z4 H.out rfl rfl rfl rfl ?_
    intro ws HS
    simp only [qb, qc] at HS
    replace H := za HS
    refine zc hK (zb H 3) fun hH => ?_
    try simp only [Act.put, qa]
    refine zm ?_
    rw [z7w, HQ.out] at H
    clear HQ
    replace H := za ((H.out.erase 0).front (x := (g4, zv 36 .i64 16 (dF (r).val))) 0 rfl)
    go_wp2_with fail
    go_meet
    exact ⟨g4, rfl, H.out⟩
  ·skip
   refine z2q 7 rfl (v := 1) (by omega) H.out rfl ?_
   intro w7 g7 H3 hs hb
   replace H := za H3
   have HS7 := za hs
   refine zc hK (zb H 2) fun hH => zK [1, 6] (zG rfl (fun K hK => ?_) (zG rfl (fun K hK => ?_) zJ))
   ·skip
    go_simp
    refine (z1p _).mono ?_
    rintro e wc ⟨a6, c6, rfl, hs, hb⟩
    replace HS7 := za (HS7.out.call hb)
    replace H := zd H hb
    have HS6 := za hs
    refine zc hK (zb H 2) fun hH => zK [3, 6] (zG rfl (fun K hK => ?_) (zG rfl (fun K hK => ?_) zJ))
    ·skip
     go_simp
     refine (z2a _ _ _ _ _ _ _ _ _ (by omega) (by omega) HS6.out HS7.out).mono ?_
     rintro e wc ⟨_, rfl, a8, c8, rfl, hs, hb⟩
     replace HS7 := za (HS7.out.call hb)
     replace HS6 := za (HS6.out.call hb)
     replace H := zd H hb
     have HS8 := za hs
     refine zc hK (zb H 2) fun hH => ?_
     try simp only [Act.put, qa, qb, qc]
     refine zK [4, 6] (zG rfl (fun K hK => ?_) (zG rfl (fun K hK => ?_) zJ))
     ·skip
      go_simp
      refine (z1n _ _ _ _ _ _ (by omega) (by omega) (by omega) HS8.out).mono ?_
      rintro e wc ⟨_, rfl, a9, c9, rfl, hs, hb⟩
      replace HS7 := za (HS7.out.call hb)
      replace HS6 := za (HS6.out.call hb)
      replace HS8 := za (HS8.out.call hb)
      replace H := zd H hb
      have HS9 := za hs
      refine zc hK (zb H 2) fun hH => zK [5, 6] (zG rfl (fun K hK => ?_) (zG rfl (fun K hK => ?_) zJ))
      ·skip
       go_simp
       refine (z1h _ _ _ _ _ HS9.out (by omega)).mono ?_
       rintro e wc ⟨rfl, hb⟩
       replace HS7 := za (HS7.out.call hb)
       replace HS6 := za (HS6.out.call hb)
       replace HS8 := za (HS8.out.call hb)
       replace HS9 := za (HS9.out.call hb)
       replace H := zd H hb
       refine zc hK (zb H 2) fun hH => zn 6 rfl fun K hK => ?_
       refine zg 4 rfl zA.zero H.out rfl ?_
       intro w4 g4 H3 hb
       replace HS7 := za (HS7.out.call hb)
       replace HS6 := za (HS6.out.call hb)
       replace HS8 := za (HS8.out.call hb)
       replace HS9 := za (HS9.out.call hb)
       replace H := za H3
       refine zc hK (zb H 3) fun hH => ?_
       try simp only [Act.put, qa, qb, qc]
       refine zn 7 rfl fun K hK => ?_
       refine zl 0 z4 H.out rfl rfl rfl rfl ?_
       intro ws HS
       simp only [qb] at HS
       replace H := za HS
       refine zc hK (zb H 3) fun hH => ?_
       try simp only [Act.put, qa]
       refine zm ?_
       rw [z7w, HQ.out] at H
       clear HQ
       replace H := za ((H.out.erase 1).front (x := (g4, zv 36 .i64 16 (dF (r).val))) 0 rfl)
       go_wp2_with fail
       go_meet
       exact ⟨g4, rfl, H.out⟩
      ·skip
       refine zg 4 rfl zA.zero H.out rfl ?_
       intro w4 g4 H3 hb
       replace HS7 := za (HS7.out.call hb)
       replace HS6 := za (HS6.out.call hb)
       replace HS8 := za (HS8.out.call hb)
       replace HS9 := za (HS9.out.call hb)
       replace H := za H3
       refine zc hK (zb H 3) fun hH => zn 5 rfl fun K hK => ?_
       go_simp
       refine (z1h _ _ _ _ _ HS9.out (by omega)).mono ?_
       rintro e wc ⟨rfl, hb⟩
       replace HS7 := za (HS7.out.call hb)
       replace HS6 := za (HS6.out.call hb)
       replace HS8 := za (HS8.out.call hb)
       replace HS9 := za (HS9.out.call hb)
       replace H := zd H hb
       refine zc hK (zb H 3) fun hH => zn 7 rfl fun K hK => ?_
       refine zl 0 z4 H.out rfl rfl rfl rfl ?_
       intro ws HS
       simp only [qb] at HS
       replace H := za HS
       refine zc hK (zb H 3) fun hH => ?_
       try simp only [Act.put, qa]
       refine zm ?_
       rw [z7w, HQ.out] at H
       clear HQ
       replace H := za ((H.out.erase 1).front (x := (g4, zv 36 .i64 16 (dF (r).val))) 0 rfl)
       go_wp2_with fail
       go_meet
       exact ⟨g4, rfl, H.out⟩
     ·skip
      refine zg 4 rfl zA.zero H.out rfl ?_
      intro w4 g4 H3 hb
      replace HS7 := za (HS7.out.call hb)
      replace HS6 := za (HS6.out.call hb)
      replace HS8 := za (HS8.out.call hb)
      replace H := za H3
      refine zc hK (zb H 3) fun hH => ?_
      try simp only [Act.put, qa, qb, qc]
      refine zn 4 rfl fun K hK => ?_
      go_simp
      refine (z1n _ _ _ _ _ _ (by omega) (by omega) (by omega) HS8.out).mono ?_
      rintro e wc ⟨_, rfl, a9, c9, rfl, hs, hb⟩
      replace HS7 := za (HS7.out.call hb)
      replace HS6 := za (HS6.out.call hb)
      replace HS8 := za (HS8.out.call hb)
      replace H := zd H hb
      have HS9 := za hs
      refine zc hK (zb H 3) fun hH => zn 5 rfl fun K hK => ?_
      go_simp
      refine (z1h _ _ _ _ _ HS9.out (by omega)).mono ?_
      rintro e wc ⟨rfl, hb⟩
      replace HS7 := za (HS7.out.call hb)
      replace HS6 := za (HS6.out.call hb)
      replace HS8 := za (HS8.out.call hb)
      replace HS9 := za (HS9.out.call hb)
      replace H := zd H hb
      refine zc hK (zb H 3) fun hH => zn 7 rfl fun K hK => ?_
      refine zl 0 z4 H.out rfl rfl rfl rfl ?_
      intro ws HS
      simp only [qb] at HS
      replace H := za HS
      refine zc hK (zb H 3) fun hH => ?_
      try simp only [Act.put, qa]
      refine zm ?_
      rw [z7w, HQ.out] at H
      clear HQ
      replace H := za ((H.out.erase 1).front (x := (g4, zv 36 .i64 16 (dF (r).val))) 0 rfl)
      go_wp2_with fail
      go_meet
      exact ⟨g4, rfl, H.out⟩
    ·skip
     refine zg 4 rfl zA.zero H.out rfl ?_
     intro w4 g4 H3 hb
     replace HS7 := za (HS7.out.call hb)
     replace HS6 := za (HS6.out.call hb)
     replace H := za H3
     refine zc hK (zb H 3) fun hH => ?_
     try simp only [Act.put, qa, qb, qc]
     refine zn 3 rfl fun K hK => ?_
     go_simp
     refine (z2a _ _ _ _ _ _ _ _ _ (by omega) (by omega) HS6.out HS7.out).mono ?_
     rintro e wc ⟨_, rfl, a8, c8, rfl, hs, hb⟩
     replace HS7 := za (HS7.out.call hb)
     replace HS6 := za (HS6.out.call hb)
     replace H := zd H hb
     have HS8 := za hs
     refine zc hK (zb H 3) fun hH => zn 4 rfl fun K hK => ?_
     go_simp
     refine (z1n _ _ _ _ _ _ (by omega) (by omega) (by omega) HS8.out).mono ?_
     rintro e wc ⟨_, rfl, a9, c9, rfl, hs, hb⟩
     replace HS7 := za (HS7.out.call hb)
     replace HS6 := za (HS6.out.call hb)
     replace HS8 := za (HS8.out.call hb)
     replace H := zd H hb
     have HS9 := za hs
     refine zc hK (zb H 3) fun hH => zn 5 rfl fun K hK => ?_
     go_simp
     refine (z1h _ _ _ _ _ HS9.out (by omega)).mono ?_
     rintro e wc ⟨rfl, hb⟩
     replace HS7 := za (HS7.out.call hb)
     replace HS6 := za (HS6.out.call hb)
     replace HS8 := za (HS8.out.call hb)
     replace HS9 := za (HS9.out.call hb)
     replace H := zd H hb
     refine zc hK (zb H 3) fun hH => ?_
     try simp only [Act.put, qa, qb, qc]
     refine zn 7 rfl fun K hK => ?_
     refine zl 0 z4 H.out rfl rfl rfl rfl ?_
     intro ws HS
     simp only [qb] at HS
     replace H := za HS
     refine zc hK (zb H 3) fun hH => ?_
     try simp only [Act.put, qa]
     refine zm ?_
     rw [z7w, HQ.out] at H
     clear HQ
     replace H := za ((H.out.erase 1).front (x := (g4, zv 36 .i64 16 (dF (r).val))) 0 rfl)
     go_wp2_with fail
     go_meet
     exact ⟨g4, rfl, H.out⟩
   ·skip
    refine zg 4 rfl zA.zero H.out rfl ?_
    intro w4 g4 H3 hb
    replace HS7 := za (HS7.out.call hb)
    replace H := za H3
    refine zc hK (zb H 3) fun hH => zn 1 rfl fun K hK => ?_
    go_simp
    refine (z1p _).mono ?_
    rintro e wc ⟨a6, c6, rfl, hs, hb⟩
    replace HS7 := za (HS7.out.call hb)
    replace H := zd H hb
    have HS6 := za hs
    refine zc hK (zb H 3) fun hH => zn 3 rfl fun K hK => ?_
    go_simp
    refine (z2a _ _ _ _ _ _ _ _ _ (by omega) (by omega) HS6.out HS7.out).mono ?_
    rintro e wc ⟨_, rfl, a8, c8, rfl, hs, hb⟩
    replace HS7 := za (HS7.out.call hb)
    replace HS6 := za (HS6.out.call hb)
    replace H := zd H hb
    have HS8 := za hs
    refine zc hK (zb H 3) fun hH => ?_
    try simp only [Act.put, qa, qb, qc]
    refine zn 4 rfl fun K hK => ?_
    go_simp
    refine (z1n _ _ _ _ _ _ (by omega) (by omega) (by omega) HS8.out).mono ?_
    rintro e wc ⟨_, rfl, a9, c9, rfl, hs, hb⟩
    replace HS7 := za (HS7.out.call hb)
    replace HS6 := za (HS6.out.call hb)
    replace HS8 := za (HS8.out.call hb)
    replace H := zd H hb
    have HS9 := za hs
    refine zc hK (zb H 3) fun hH => zn 5 rfl fun K hK => ?_
    go_simp
    refine (z1h _ _ _ _ _ HS9.out (by omega)).mono ?_
    rintro e wc ⟨rfl, hb⟩
    replace HS7 := za (HS7.out.call hb)
    replace HS6 := za (HS6.out.call hb)
    replace HS8 := za (HS8.out.call hb)
    replace HS9 := za (HS9.out.call hb)
    replace H := zd H hb
    refine zc hK (zb H 3) fun hH => zn 7 rfl fun K hK => ?_
    refine zl 0 z4 H.out rfl rfl rfl rfl ?_
    intro ws HS
    simp only [qb] at HS
    replace H := za HS
    refine zc hK (zb H 3) fun hH => ?_
    try simp only [Act.put, qa]
    refine zm ?_
    rw [z7w, HQ.out] at H
    clear HQ
    replace H := za ((H.out.erase 1).front (x := (g4, zv 36 .i64 16 (dF (r).val))) 0 rfl)
    go_wp2_with fail
    go_meet
    exact ⟨g4, rfl, H.out⟩
  ·skip
   refine zg 4 rfl zA.zero H.out rfl ?_
   intro w4 g4 H3 hb
   replace H := za H3
   refine zc hK (zb H 2) fun hH => ?_
   try simp only [Act.put, qa, qb, qc]
   refine zK [1, 2] (zG rfl (fun K hK => ?_) (zG rfl (fun K hK => ?_) zJ))
   ·skip
    go_simp
    refine (z1p _).mono ?_
    rintro e wc ⟨a6, c6, rfl, hs, hb⟩
    replace H := zd H hb
    have HS6 := za hs
    refine zc hK (zb H 2) fun hH => zn 2 rfl fun K hK => ?_
    refine z2q 7 rfl (v := 1) (by omega) H.out rfl ?_
    intro w7 g7 H3 hs hb
    replace HS6 := za (HS6.out.call hb)
    replace H := za H3
    have HS7 := za hs
    refine zc hK (zb H 3) fun hH => zn 3 rfl fun K hK => ?_
    go_simp
    refine (z2a _ _ _ _ _ _ _ _ _ (by omega) (by omega) HS6.out HS7.out).mono ?_
    rintro e wc ⟨_, rfl, a8, c8, rfl, hs, hb⟩
    replace HS6 := za (HS6.out.call hb)
    replace HS7 := za (HS7.out.call hb)
    replace H := zd H hb
    have HS8 := za hs
    refine zc hK (zb H 3) fun hH => ?_
    try simp only [Act.put, qa, qb, qc]
    refine zn 4 rfl fun K hK => ?_
    go_simp
    refine (z1n _ _ _ _ _ _ (by omega) (by omega) (by omega) HS8.out).mono ?_
    rintro e wc ⟨_, rfl, a9, c9, rfl, hs, hb⟩
    replace HS6 := za (HS6.out.call hb)
    replace HS7 := za (HS7.out.call hb)
    replace HS8 := za (HS8.out.call hb)
    replace H := zd H hb
    have HS9 := za hs
    refine zc hK (zb H 3) fun hH => zn 5 rfl fun K hK => ?_
    go_simp
    refine (z1h _ _ _ _ _ HS9.out (by omega)).mono ?_
    rintro e wc ⟨rfl, hb⟩
    replace HS6 := za (HS6.out.call hb)
    replace HS7 := za (HS7.out.call hb)
    replace HS8 := za (HS8.out.call hb)
    replace HS9 := za (HS9.out.call hb)
    replace H := zd H hb
    refine zc hK (zb H 3) fun hH => zn 7 rfl fun K hK => ?_
    refine zl 1 z4 H.out rfl rfl rfl rfl ?_
    intro ws HS
    simp only [qb, qc] at HS
    replace H := za HS
    refine zc hK (zb H 3) fun hH => ?_
    try simp only [Act.put, qa]
    refine zm ?_
    rw [z7w, HQ.out] at H
    clear HQ
    replace H := za ((H.out.erase 0).front (x := (g4, zv 36 .i64 16 (dF (r).val))) 0 rfl)
    go_wp2_with fail
    go_meet
    exact ⟨g4, rfl, H.out⟩
   ·skip
    refine z2q 7 rfl (v := 1) (by omega) H.out rfl ?_
    intro w7 g7 H3 hs hb
    replace H := za H3
    have HS7 := za hs
    refine zc hK (zb H 3) fun hH => ?_
    try simp only [Act.put, qa, qb, qc]
    refine zn 1 rfl fun K hK => ?_
    go_simp
    refine (z1p _).mono ?_
    rintro e wc ⟨a6, c6, rfl, hs, hb⟩
    replace HS7 := za (HS7.out.call hb)
    replace H := zd H hb
    have HS6 := za hs
    refine zc hK (zb H 3) fun hH => zn 3 rfl fun K hK => ?_
    go_simp
    refine (z2a _ _ _ _ _ _ _ _ _ (by omega) (by omega) HS6.out HS7.out).mono ?_
    rintro e wc ⟨_, rfl, a8, c8, rfl, hs, hb⟩
    replace HS7 := za (HS7.out.call hb)
    replace HS6 := za (HS6.out.call hb)
    replace H := zd H hb
    have HS8 := za hs
    refine zc hK (zb H 3) fun hH => zn 4 rfl fun K hK => ?_
    go_simp
    refine (z1n _ _ _ _ _ _ (by omega) (by omega) (by omega) HS8.out).mono ?_
    rintro e wc ⟨_, rfl, a9, c9, rfl, hs, hb⟩
    replace HS7 := za (HS7.out.call hb)
    replace HS6 := za (HS6.out.call hb)
    replace HS8 := za (HS8.out.call hb)
    replace H := zd H hb
    have HS9 := za hs
    refine zc hK (zb H 3) fun hH => ?_
    try simp only [Act.put, qa, qb, qc]
    refine zn 5 rfl fun K hK => ?_
    go_simp
    refine (z1h _ _ _ _ _ HS9.out (by omega)).mono ?_
    rintro e wc ⟨rfl, hb⟩
    replace HS7 := za (HS7.out.call hb)
    replace HS6 := za (HS6.out.call hb)
    replace HS8 := za (HS8.out.call hb)
    replace HS9 := za (HS9.out.call hb)
    replace H := zd H hb
    refine zc hK (zb H 3) fun hH => zn 7 rfl fun K hK => ?_
    refine zl 1 z4 H.out rfl rfl rfl rfl ?_
    intro ws HS
    simp only [qb, qc] at HS
    replace H := za HS
    refine zc hK (zb H 3) fun hH => ?_
    try simp only [Act.put, qa]
    refine zm ?_
    rw [z7w, HQ.out] at H
    clear HQ
    replace H := za ((H.out.erase 0).front (x := (g4, zv 36 .i64 16 (dF (r).val))) 0 rfl)
    go_wp2_with fail
    go_meet
    exact ⟨g4, rfl, H.out⟩
 case rest =>
  clear H
  obtain ⟨g4, rfl, HR⟩ := hcut
  have H := za HR
  clear HR h56 h57 HQ
  go_wp2_with fail
  refine wp_region_noPanic ?_
  refine wp_region_held_drew (S := fun W => W.heap[g4]? = some (zv 36 .i64 16 (dF (r).val)) ∧ W.heap[g1]? = some (zv 36 .i64 16 (dF (a).val))) (by kernel_rfl) (⟨H.out.drew.row 0 rfl, H.out.drew.row 2 rfl⟩) (fun hH => ?_)
  replace H := za H.out.drew
  generalize World.drew _ = w8 at *
  refine zk 0 11 z4 rfl rfl rfl hH rfl rfl (fun _ h => h.1) ?_
  refine zk 1 12 z4 rfl rfl rfl hH rfl rfl (fun _ h => h.1) ?_
  try simp only [Act.put, qa, qb, qc]
  refine zk 3 14 z4 rfl rfl rfl hH rfl rfl (fun _ h => h.2) ?_
  refine zn 2 rfl fun K hK => ?_
  go_simp
  refine (z0d _ _ _).mono ?_
  rintro e wc ⟨rfl, hb⟩
  replace H := zd H hb
  refine zc hK ⟨zb H 0, zb H 2⟩ fun hH => zn 4 rfl fun K hK => ?_
  go_simp
  refine (y2l _ _ _).mono ?_
  rintro e wc ⟨rfl, hb⟩
  replace H := zd H hb
  refine zc hK ⟨zb H 0, zb H 2⟩ fun hH => ?_
  try simp only [Act.put, qa, qb, qc]
  refine zh 5 16 (.bool (!(decide ((r * r) = a)))) hH ?_
  refine zm ?_
  by_cases hb : r * r = a
  ·rw [decide_eq_true hb]
   have HB := za hb
   clear hb
   go_wp2_with (first
    | ((with_reducible apply zr z4 H); (case hgd | ho | hx => exact rfl); (case hi => repeat first|exact z5|apply z8); intro _ _; go_simp)
    | ((with_reducible refine (z85 _).mono ?_); rintro e wc ⟨rfl, hb⟩; replace H := zd H hb; clear hb)
    | ((with_reducible apply zj z4 H); (case hgd | ho | hx | hy => exact rfl); (case hi => repeat first|exact z5|apply z8); clear H; intro ws H _ _; simp only [qb, qc] at H; go_simp))
   exact bodyPost_ret (z0c 1 z4 rfl _ H rfl rfl rfl) rfl ⟨.inl ⟨HB.out, rfl⟩, H.out.bel⟩
  ·rw [decide_eq_false hb]
   have HB := za hb
   clear hb
   go_wp2_with (first
    | ((with_reducible apply z2u); (case hgd | ho => exact rfl); intro _ _; go_simp)
    | ((with_reducible apply zj z4 H); (case hgd | ho | hx | hy => exact rfl); (case hi => repeat first|exact z5|apply z8); clear H; intro ws H _ _; simp only [qb, qc] at H; go_simp))
   exact bodyPost_ret (z0c 1 z4 rfl _ H rfl rfl rfl) rfl ⟨.inr ⟨HB.out, rfl⟩, H.out.bel⟩
theorem z7d {a : K} (w : World) :
  Calls Tryz.prog 119 #[FV a.val] w fun e w' => ((a ^ (eC + 1) * a ^ (eC + 1) = a ∧ e = .returned (.tuple #[FV (ab (a ^ (eC + 1))).val, .bool true])) ∨ (a ^ (eC + 1) * a ^ (eC + 1) ≠ a ∧ e = .returned (.tuple #[FV (0 : K).val, .bool false]))) ∧ Below w.heap.size w w' := refRoot_walk w rfl
end Go.Proofs.YtgjbonikbmgfmaaGreatDoor
