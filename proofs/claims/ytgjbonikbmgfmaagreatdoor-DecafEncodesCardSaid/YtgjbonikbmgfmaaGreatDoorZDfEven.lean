/- Lemmas; no statement is proved here. -/
import Derived.Test.YtgjbonikbmgfmaaGreatDoorQE1
set_option maxRecDepth 8000
set_option maxHeartbeats 3200000
namespace Go.Proofs.YtgjbonikbmgfmaaGreatDoor
open Go.RowKit
theorem y6e {v : Nat → Int} {P : Pt pN dK} {b : Bool} (w : World) (hp : RfK v P) (h : decide ((zF zB lN P).x = zC (0)) = b) :
  Calls Tryz.prog 21 #[QO v] w fun e w' => e = .returned (.bool b) ∧ Below w.heap.size w w' := by
 have W1 := za hp
 have HB := za h
 clear hp h
 have H := za (Ow.start w)
 go_enter Tryz.func21, Tryz.ntmps21
 go_upto_region 1 with (first
  | ((fail_if_success have := g1); (with_reducible apply zw H); (case hgd | ho | hx => exact rfl); clear H; intro w1 g1 H _ _; go_simp))
 go_cut [3, 4] from 5 to 11 (fun v3 v4 wx => ∃ g3 g4, v3 = .pointer (some ⟨g3, 0, none⟩) ∧ v4 = .pointer (some ⟨g4, 0, none⟩) ∧ Ow w wx [(g3, zv 36 .i64 16 (dF ((zF zB lN P).x).val)), (g4, zv 36 .i64 16 (dF ((zF zB lN P).y).val)), (g1, zv 38 .i64 48 (v))])
 case first =>
  go_wp2_with fail
  refine wp_region_noPanic ?_
  refine wp_region_held_drew (S := fun W => W.heap[g1]? = some (zv 38 .i64 48 (v))) (by kernel_rfl) (H.out.drew.row 0 rfl) (fun hH => ?_)
  replace H := za H.out.drew
  generalize World.drew _ = w8 at *
  refine zk 1 7 zD rfl rfl rfl hH rfl rfl (fun _ h => h) ?_
  refine zK [0, 7, 8] (zG rfl (fun K hK => ?_) (zG rfl (fun K hK => ?_) (zG rfl (fun K hK => ?_) zJ)))
  ·skip
   go_simp
   refine (y0w _).mono ?_
   rintro e wc ⟨al6, cl6, rfl, hs, hb⟩
   replace H := zd H hb
   have SL6 := za hs
   refine zc hK (zb H 0) fun hH => zK [2, 7, 8] (zG rfl (fun K hK => ?_) (zG rfl (fun K hK => ?_) (zG rfl (fun K hK => ?_) zJ)))
   ·skip
    go_simp
    refine (z1a _ _ _ _ _ (by omega) SL6.out W1.out).mono ?_
    rintro e wc ⟨r8, rfl, hv, hb⟩
    replace SL6 := za (SL6.out.call hb)
    replace H := zd H hb
    have HV8 := za hv
    refine zc hK (zb H 0) fun hH => ?_
    try simp only [Act.put, qa, qb, qc]
    refine zK [3, 7, 8] (zG rfl (fun K hK => ?_) (zG rfl (fun K hK => ?_) (zG rfl (fun K hK => ?_) zJ)))
    ·skip
     go_simp
     refine (z0k _ HV8.out).mono ?_
     rintro e wc ⟨rfl, hb⟩
     replace SL6 := za (SL6.out.call hb)
     replace H := zd H hb
     refine zc hK (zb H 0) fun hH => ?_
     refine zh 4 5 (.tuple #[FV ((zF zB lN P).x).val, FV ((zF zB lN P).y).val]) hH ?_
     refine zh 5 10 (FV ((zF zB lN P).x).val) hH ?_
     refine zh 6 11 (FV ((zF zB lN P).y).val) hH ?_
     refine zK [7, 8] (zG rfl (fun K hK => ?_) (zG rfl (fun K hK => ?_) zJ))
     ·skip
      refine zg 3 rfl zA.zero H.out rfl ?_
      intro w3 g3 H3 hb
      replace SL6 := za (SL6.out.call hb)
      replace H := za H3
      refine zc hK (zb H 1) fun hH => zn 8 rfl fun K hK => ?_
      refine zg 4 rfl zA.zero H.out rfl ?_
      intro w4 g4 H3 hb
      replace SL6 := za (SL6.out.call hb)
      replace H := za H3
      refine zc hK (zb H 2) fun hH => zn 9 rfl fun K hK => ?_
      refine zu 1 rfl z4 H.out rfl rfl rfl rfl ?_
      intro ws HS
      simp only [qb, qc] at HS
      replace H := za HS
      refine zc hK (zb H 2) fun hH => ?_
      try simp only [qa]
      refine zn 10 rfl fun K hK => ?_
      refine zu 0 rfl z4 H.out rfl rfl rfl rfl ?_
      intro ws HS
      simp only [qb] at HS
      replace H := za HS
      refine zc hK (zb H 2) fun hH => ?_
      try simp only [qa]
      try simp only [Act.put]
      refine zm ?_
      replace H := za (H.out.front (x := (g3, zv 36 .i64 16 (dF ((zF zB lN P).x).val))) 1 rfl)
      go_wp2_with fail
      go_meet
      exact ⟨g3, g4, rfl, rfl, H.out⟩
     ·skip
      refine zg 4 rfl zA.zero H.out rfl ?_
      intro w4 g4 H3 hb
      replace SL6 := za (SL6.out.call hb)
      replace H := za H3
      refine zc hK (zb H 1) fun hH => ?_
      try simp only [Act.put, qa, qb, qc]
      refine zn 7 rfl fun K hK => ?_
      refine zg 3 rfl zA.zero H.out rfl ?_
      intro w3 g3 H3 hb
      replace SL6 := za (SL6.out.call hb)
      replace H := za H3
      refine zc hK (zb H 2) fun hH => zn 9 rfl fun K hK => ?_
      refine zu 0 rfl z4 H.out rfl rfl rfl rfl ?_
      intro ws HS
      simp only [qb] at HS
      replace H := za HS
      refine zc hK (zb H 2) fun hH => ?_
      try simp only [qa]
      refine zn 10 rfl fun K hK => ?_
      refine zu 1 rfl z4 H.out rfl rfl rfl rfl ?_
      intro ws HS
      simp only [qb, qc] at HS
      replace H := za HS
      refine zc hK (zb H 2) fun hH => ?_
      try simp only [qa]
      try simp only [Act.put]
      refine zm ?_
      replace H := za (H.out.front (x := (g4, zv 36 .i64 16 (dF ((zF zB lN P).y).val))) 1 rfl)
      replace H := za (H.out.front (x := (g3, zv 36 .i64 16 (dF ((zF zB lN P).x).val))) 1 rfl)
      go_wp2_with fail
      go_meet
      exact ⟨g3, g4, rfl, rfl, H.out⟩
    ·skip
     refine zg 3 rfl zA.zero H.out rfl ?_
     intro w3 g3 H3 hb
     replace SL6 := za (SL6.out.call hb)
     replace H := za H3
     refine zc hK (zb H 1) fun hH => zK [3, 8] (zG rfl (fun K hK => ?_) (zG rfl (fun K hK => ?_) zJ))
     ·skip
      go_simp
      refine (z0k _ HV8.out).mono ?_
      rintro e wc ⟨rfl, hb⟩
      replace SL6 := za (SL6.out.call hb)
      replace H := zd H hb
      refine zc hK (zb H 1) fun hH => ?_
      try simp only [Act.put, qa, qb, qc]
      refine zh 4 5 (.tuple #[FV ((zF zB lN P).x).val, FV ((zF zB lN P).y).val]) hH ?_
      refine zh 5 10 (FV ((zF zB lN P).x).val) hH ?_
      refine zh 6 11 (FV ((zF zB lN P).y).val) hH ?_
      refine zn 8 rfl fun K hK => ?_
      refine zg 4 rfl zA.zero H.out rfl ?_
      intro w4 g4 H3 hb
      replace SL6 := za (SL6.out.call hb)
      replace H := za H3
      refine zc hK (zb H 2) fun hH => zn 9 rfl fun K hK => ?_
      refine zu 1 rfl z4 H.out rfl rfl rfl rfl ?_
      intro ws HS
      simp only [qb, qc] at HS
      replace H := za HS
      refine zc hK (zb H 2) fun hH => ?_
      try simp only [qa]
      refine zn 10 rfl fun K hK => ?_
      refine zu 0 rfl z4 H.out rfl rfl rfl rfl ?_
      intro ws HS
      simp only [qb] at HS
      replace H := za HS
      refine zc hK (zb H 2) fun hH => ?_
      try simp only [qa]
      try simp only [Act.put]
      refine zm ?_
      replace H := za (H.out.front (x := (g3, zv 36 .i64 16 (dF ((zF zB lN P).x).val))) 1 rfl)
      go_wp2_with fail
      go_meet
      exact ⟨g3, g4, rfl, rfl, H.out⟩
     ·skip
      refine zg 4 rfl zA.zero H.out rfl ?_
      intro w4 g4 H3 hb
      replace SL6 := za (SL6.out.call hb)
      replace H := za H3
      refine zc hK (zb H 2) fun hH => zn 3 rfl fun K hK => ?_
      go_simp
      refine (z0k _ HV8.out).mono ?_
      rintro e wc ⟨rfl, hb⟩
      replace SL6 := za (SL6.out.call hb)
      replace H := zd H hb
      refine zc hK (zb H 2) fun hH => ?_
      try simp only [Act.put, qa, qb, qc]
      refine zh 4 5 (.tuple #[FV ((zF zB lN P).x).val, FV ((zF zB lN P).y).val]) hH ?_
      refine zh 5 10 (FV ((zF zB lN P).x).val) hH ?_
      refine zh 6 11 (FV ((zF zB lN P).y).val) hH ?_
      refine zn 9 rfl fun K hK => ?_
      refine zu 1 rfl z4 H.out rfl rfl rfl rfl ?_
      intro ws HS
      simp only [qb, qc] at HS
      replace H := za HS
      refine zc hK (zb H 2) fun hH => ?_
      try simp only [qa]
      refine zn 10 rfl fun K hK => ?_
      refine zu 0 rfl z4 H.out rfl rfl rfl rfl ?_
      intro ws HS
      simp only [qb] at HS
      replace H := za HS
      refine zc hK (zb H 2) fun hH => ?_
      try simp only [qa]
      try simp only [Act.put]
      refine zm ?_
      replace H := za (H.out.front (x := (g3, zv 36 .i64 16 (dF ((zF zB lN P).x).val))) 1 rfl)
      go_wp2_with fail
      go_meet
      exact ⟨g3, g4, rfl, rfl, H.out⟩
    ·skip
     refine zg 4 rfl zA.zero H.out rfl ?_
     intro w4 g4 H3 hb
     replace SL6 := za (SL6.out.call hb)
     replace H := za H3
     refine zc hK (zb H 1) fun hH => zK [3, 7] (zG rfl (fun K hK => ?_) (zG rfl (fun K hK => ?_) zJ))
     ·skip
      go_simp
      refine (z0k _ HV8.out).mono ?_
      rintro e wc ⟨rfl, hb⟩
      replace SL6 := za (SL6.out.call hb)
      replace H := zd H hb
      refine zc hK (zb H 1) fun hH => ?_
      refine zh 4 5 (.tuple #[FV ((zF zB lN P).x).val, FV ((zF zB lN P).y).val]) hH ?_
      refine zh 5 10 (FV ((zF zB lN P).x).val) hH ?_
      refine zh 6 11 (FV ((zF zB lN P).y).val) hH ?_
      refine zn 7 rfl fun K hK => ?_
      refine zg 3 rfl zA.zero H.out rfl ?_
      intro w3 g3 H3 hb
      replace SL6 := za (SL6.out.call hb)
      replace H := za H3
      refine zc hK (zb H 2) fun hH => zn 9 rfl fun K hK => ?_
      refine zu 0 rfl z4 H.out rfl rfl rfl rfl ?_
      intro ws HS
      simp only [qb] at HS
      replace H := za HS
      refine zc hK (zb H 2) fun hH => ?_
      try simp only [qa]
      refine zn 10 rfl fun K hK => ?_
      refine zu 1 rfl z4 H.out rfl rfl rfl rfl ?_
      intro ws HS
      simp only [qb, qc] at HS
      replace H := za HS
      refine zc hK (zb H 2) fun hH => ?_
      try simp only [qa]
      try simp only [Act.put]
      refine zm ?_
      replace H := za (H.out.front (x := (g4, zv 36 .i64 16 (dF ((zF zB lN P).y).val))) 1 rfl)
      replace H := za (H.out.front (x := (g3, zv 36 .i64 16 (dF ((zF zB lN P).x).val))) 1 rfl)
      go_wp2_with fail
      go_meet
      exact ⟨g3, g4, rfl, rfl, H.out⟩
     ·skip
      refine zg 3 rfl zA.zero H.out rfl ?_
      intro w3 g3 H3 hb
      replace SL6 := za (SL6.out.call hb)
      replace H := za H3
      refine zc hK (zb H 2) fun hH => zn 3 rfl fun K hK => ?_
      go_simp
      refine (z0k _ HV8.out).mono ?_
      rintro e wc ⟨rfl, hb⟩
      replace SL6 := za (SL6.out.call hb)
      replace H := zd H hb
      refine zc hK (zb H 2) fun hH => ?_
      try simp only [Act.put, qa, qb, qc]
      refine zh 4 5 (.tuple #[FV ((zF zB lN P).x).val, FV ((zF zB lN P).y).val]) hH ?_
      refine zh 5 10 (FV ((zF zB lN P).x).val) hH ?_
      refine zh 6 11 (FV ((zF zB lN P).y).val) hH ?_
      refine zn 9 rfl fun K hK => ?_
      refine zu 0 rfl z4 H.out rfl rfl rfl rfl ?_
      intro ws HS
      simp only [qb] at HS
      replace H := za HS
      refine zc hK (zb H 2) fun hH => ?_
      try simp only [qa]
      refine zn 10 rfl fun K hK => ?_
      refine zu 1 rfl z4 H.out rfl rfl rfl rfl ?_
      intro ws HS
      simp only [qb, qc] at HS
      replace H := za HS
      refine zc hK (zb H 2) fun hH => ?_
      try simp only [qa]
      try simp only [Act.put]
      refine zm ?_
      replace H := za (H.out.front (x := (g4, zv 36 .i64 16 (dF ((zF zB lN P).y).val))) 1 rfl)
      replace H := za (H.out.front (x := (g3, zv 36 .i64 16 (dF ((zF zB lN P).x).val))) 1 rfl)
      go_wp2_with fail
      go_meet
      exact ⟨g3, g4, rfl, rfl, H.out⟩
   ·skip
    refine zg 3 rfl zA.zero H.out rfl ?_
    intro w3 g3 H3 hb
    replace SL6 := za (SL6.out.call hb)
    replace H := za H3
    refine zc hK (zb H 1) fun hH => zK [2, 8] (zG rfl (fun K hK => ?_) (zG rfl (fun K hK => ?_) zJ))
    ·skip
     go_simp
     refine (z1a _ _ _ _ _ (by omega) SL6.out W1.out).mono ?_
     rintro e wc ⟨r8, rfl, hv, hb⟩
     replace SL6 := za (SL6.out.call hb)
     replace H := zd H hb
     have HV8 := za hv
     refine zc hK (zb H 1) fun hH => zK [3, 8] (zG rfl (fun K hK => ?_) (zG rfl (fun K hK => ?_) zJ))
     ·skip
      go_simp
      refine (z0k _ HV8.out).mono ?_
      rintro e wc ⟨rfl, hb⟩
      replace SL6 := za (SL6.out.call hb)
      replace H := zd H hb
      refine zc hK (zb H 1) fun hH => ?_
      try simp only [Act.put, qa, qb, qc]
      refine zh 4 5 (.tuple #[FV ((zF zB lN P).x).val, FV ((zF zB lN P).y).val]) hH ?_
      refine zh 5 10 (FV ((zF zB lN P).x).val) hH ?_
      refine zh 6 11 (FV ((zF zB lN P).y).val) hH ?_
      refine zn 8 rfl fun K hK => ?_
      refine zg 4 rfl zA.zero H.out rfl ?_
      intro w4 g4 H3 hb
      replace SL6 := za (SL6.out.call hb)
      replace H := za H3
      refine zc hK (zb H 2) fun hH => zn 9 rfl fun K hK => ?_
      refine zu 1 rfl z4 H.out rfl rfl rfl rfl ?_
      intro ws HS
      simp only [qb, qc] at HS
      replace H := za HS
      refine zc hK (zb H 2) fun hH => ?_
      try simp only [qa]
      refine zn 10 rfl fun K hK => ?_
      refine zu 0 rfl z4 H.out rfl rfl rfl rfl ?_
      intro ws HS
      simp only [qb] at HS
      replace H := za HS
      refine zc hK (zb H 2) fun hH => ?_
      try simp only [qa]
      try simp only [Act.put]
      refine zm ?_
      replace H := za (H.out.front (x := (g3, zv 36 .i64 16 (dF ((zF zB lN P).x).val))) 1 rfl)
      go_wp2_with fail
      go_meet
      exact ⟨g3, g4, rfl, rfl, H.out⟩
     ·skip
      refine zg 4 rfl zA.zero H.out rfl ?_
      intro w4 g4 H3 hb
      replace SL6 := za (SL6.out.call hb)
      replace H := za H3
      refine zc hK (zb H 2) fun hH => zn 3 rfl fun K hK => ?_
      go_simp
      refine (z0k _ HV8.out).mono ?_
      rintro e wc ⟨rfl, hb⟩
      replace SL6 := za (SL6.out.call hb)
      replace H := zd H hb
      refine zc hK (zb H 2) fun hH => ?_
      try simp only [Act.put, qa, qb, qc]
      refine zh 4 5 (.tuple #[FV ((zF zB lN P).x).val, FV ((zF zB lN P).y).val]) hH ?_
      refine zh 5 10 (FV ((zF zB lN P).x).val) hH ?_
      refine zh 6 11 (FV ((zF zB lN P).y).val) hH ?_
      refine zn 9 rfl fun K hK => ?_
      refine zu 1 rfl z4 H.out rfl rfl rfl rfl ?_
      intro ws HS
      simp only [qb, qc] at HS
      replace H := za HS
      refine zc hK (zb H 2) fun hH => ?_
      try simp only [qa]
      refine zn 10 rfl fun K hK => ?_
      refine zu 0 rfl z4 H.out rfl rfl rfl rfl ?_
      intro ws HS
      simp only [qb] at HS
      replace H := za HS
      refine zc hK (zb H 2) fun hH => ?_
      try simp only [qa]
      try simp only [Act.put]
      refine zm ?_
      replace H := za (H.out.front (x := (g3, zv 36 .i64 16 (dF ((zF zB lN P).x).val))) 1 rfl)
      go_wp2_with fail
      go_meet
      exact ⟨g3, g4, rfl, rfl, H.out⟩
    ·skip
     refine zg 4 rfl zA.zero H.out rfl ?_
     intro w4 g4 H3 hb
     replace SL6 := za (SL6.out.call hb)
     replace H := za H3
     refine zc hK (zb H 2) fun hH => zn 2 rfl fun K hK => ?_
     go_simp
     refine (z1a _ _ _ _ _ (by omega) SL6.out W1.out).mono ?_
     rintro e wc ⟨r8, rfl, hv, hb⟩
     replace SL6 := za (SL6.out.call hb)
     replace H := zd H hb
     have HV8 := za hv
     refine zc hK (zb H 2) fun hH => zn 3 rfl fun K hK => ?_
     go_simp
     refine (z0k _ HV8.out).mono ?_
     rintro e wc ⟨rfl, hb⟩
     replace SL6 := za (SL6.out.call hb)
     replace H := zd H hb
     refine zc hK (zb H 2) fun hH => ?_
     try simp only [Act.put, qa, qb, qc]
     refine zh 4 5 (.tuple #[FV ((zF zB lN P).x).val, FV ((zF zB lN P).y).val]) hH ?_
     refine zh 5 10 (FV ((zF zB lN P).x).val) hH ?_
     refine zh 6 11 (FV ((zF zB lN P).y).val) hH ?_
     refine zn 9 rfl fun K hK => ?_
     refine zu 1 rfl z4 H.out rfl rfl rfl rfl ?_
     intro ws HS
     simp only [qb, qc] at HS
     replace H := za HS
     refine zc hK (zb H 2) fun hH => ?_
     try simp only [qa]
     refine zn 10 rfl fun K hK => ?_
     refine zu 0 rfl z4 H.out rfl rfl rfl rfl ?_
     intro ws HS
     simp only [qb] at HS
     replace H := za HS
     refine zc hK (zb H 2) fun hH => ?_
     try simp only [qa]
     try simp only [Act.put]
     refine zm ?_
     replace H := za (H.out.front (x := (g3, zv 36 .i64 16 (dF ((zF zB lN P).x).val))) 1 rfl)
     go_wp2_with fail
     go_meet
     exact ⟨g3, g4, rfl, rfl, H.out⟩
   ·skip
    refine zg 4 rfl zA.zero H.out rfl ?_
    intro w4 g4 H3 hb
    replace SL6 := za (SL6.out.call hb)
    replace H := za H3
    refine zc hK (zb H 1) fun hH => zK [2, 7] (zG rfl (fun K hK => ?_) (zG rfl (fun K hK => ?_) zJ))
    ·skip
     go_simp
     refine (z1a _ _ _ _ _ (by omega) SL6.out W1.out).mono ?_
     rintro e wc ⟨r8, rfl, hv, hb⟩
     replace SL6 := za (SL6.out.call hb)
     replace H := zd H hb
     have HV8 := za hv
     refine zc hK (zb H 1) fun hH => zK [3, 7] (zG rfl (fun K hK => ?_) (zG rfl (fun K hK => ?_) zJ))
     ·skip
      go_simp
      refine (z0k _ HV8.out).mono ?_
      rintro e wc ⟨rfl, hb⟩
      replace SL6 := za (SL6.out.call hb)
      replace H := zd H hb
      refine zc hK (zb H 1) fun hH => ?_
      try simp only [Act.put, qa, qb, qc]
      refine zh 4 5 (.tuple #[FV ((zF zB lN P).x).val, FV ((zF zB lN P).y).val]) hH ?_
      refine zh 5 10 (FV ((zF zB lN P).x).val) hH ?_
      refine zh 6 11 (FV ((zF zB lN P).y).val) hH ?_
      refine zn 7 rfl fun K hK => ?_
      refine zg 3 rfl zA.zero H.out rfl ?_
      intro w3 g3 H3 hb
      replace SL6 := za (SL6.out.call hb)
      replace H := za H3
      refine zc hK (zb H 2) fun hH => zn 9 rfl fun K hK => ?_
      refine zu 0 rfl z4 H.out rfl rfl rfl rfl ?_
      intro ws HS
      simp only [qb] at HS
      replace H := za HS
      refine zc hK (zb H 2) fun hH => ?_
      try simp only [qa]
      refine zn 10 rfl fun K hK => ?_
      refine zu 1 rfl z4 H.out rfl rfl rfl rfl ?_
      intro ws HS
      simp only [qb, qc] at HS
      replace H := za HS
      refine zc hK (zb H 2) fun hH => ?_
      try simp only [qa]
      try simp only [Act.put]
      refine zm ?_
      replace H := za (H.out.front (x := (g4, zv 36 .i64 16 (dF ((zF zB lN P).y).val))) 1 rfl)
      replace H := za (H.out.front (x := (g3, zv 36 .i64 16 (dF ((zF zB lN P).x).val))) 1 rfl)
      go_wp2_with fail
      go_meet
      exact ⟨g3, g4, rfl, rfl, H.out⟩
     ·skip
      refine zg 3 rfl zA.zero H.out rfl ?_
      intro w3 g3 H3 hb
      replace SL6 := za (SL6.out.call hb)
      replace H := za H3
      refine zc hK (zb H 2) fun hH => zn 3 rfl fun K hK => ?_
      go_simp
      refine (z0k _ HV8.out).mono ?_
      rintro e wc ⟨rfl, hb⟩
      replace SL6 := za (SL6.out.call hb)
      replace H := zd H hb
      refine zc hK (zb H 2) fun hH => ?_
      try simp only [Act.put, qa, qb, qc]
      refine zh 4 5 (.tuple #[FV ((zF zB lN P).x).val, FV ((zF zB lN P).y).val]) hH ?_
      refine zh 5 10 (FV ((zF zB lN P).x).val) hH ?_
      refine zh 6 11 (FV ((zF zB lN P).y).val) hH ?_
      refine zn 9 rfl fun K hK => ?_
      refine zu 0 rfl z4 H.out rfl rfl rfl rfl ?_
      intro ws HS
      simp only [qb] at HS
      replace H := za HS
      refine zc hK (zb H 2) fun hH => ?_
      try simp only [qa]
      refine zn 10 rfl fun K hK => ?_
      refine zu 1 rfl z4 H.out rfl rfl rfl rfl ?_
      intro ws HS
      simp only [qb, qc] at HS
      replace H := za HS
      refine zc hK (zb H 2) fun hH => ?_
      try simp only [qa]
      try simp only [Act.put]
      refine zm ?_
      replace H := za (H.out.front (x := (g4, zv 36 .i64 16 (dF ((zF zB lN P).y).val))) 1 rfl)
      replace H := za (H.out.front (x := (g3, zv 36 .i64 16 (dF ((zF zB lN P).x).val))) 1 rfl)
      go_wp2_with fail
      go_meet
      exact ⟨g3, g4, rfl, rfl, H.out⟩
    ·skip
     refine zg 3 rfl zA.zero H.out rfl ?_
     intro w3 g3 H3 hb
     replace SL6 := za (SL6.out.call hb)
     replace H := za H3
     refine zc hK (zb H 2) fun hH => zn 2 rfl fun K hK => ?_
     go_simp
     refine (z1a _ _ _ _ _ (by omega) SL6.out W1.out).mono ?_
     rintro e wc ⟨r8, rfl, hv, hb⟩
     replace SL6 := za (SL6.out.call hb)
     replace H := zd H hb
     have HV8 := za hv
     refine zc hK (zb H 2) fun hH => zn 3 rfl fun K hK => ?_
     go_simp
     refine (z0k _ HV8.out).mono ?_
     rintro e wc ⟨rfl, hb⟩
     replace SL6 := za (SL6.out.call hb)
     replace H := zd H hb
     refine zc hK (zb H 2) fun hH => ?_
     try simp only [Act.put, qa, qb, qc]
     refine zh 4 5 (.tuple #[FV ((zF zB lN P).x).val, FV ((zF zB lN P).y).val]) hH ?_
     refine zh 5 10 (FV ((zF zB lN P).x).val) hH ?_
     refine zh 6 11 (FV ((zF zB lN P).y).val) hH ?_
     refine zn 9 rfl fun K hK => ?_
     refine zu 0 rfl z4 H.out rfl rfl rfl rfl ?_
     intro ws HS
     simp only [qb] at HS
     replace H := za HS
     refine zc hK (zb H 2) fun hH => ?_
     try simp only [qa]
     refine zn 10 rfl fun K hK => ?_
     refine zu 1 rfl z4 H.out rfl rfl rfl rfl ?_
     intro ws HS
     simp only [qb, qc] at HS
     replace H := za HS
     refine zc hK (zb H 2) fun hH => ?_
     try simp only [qa]
     try simp only [Act.put]
     refine zm ?_
     replace H := za (H.out.front (x := (g4, zv 36 .i64 16 (dF ((zF zB lN P).y).val))) 1 rfl)
     replace H := za (H.out.front (x := (g3, zv 36 .i64 16 (dF ((zF zB lN P).x).val))) 1 rfl)
     go_wp2_with fail
     go_meet
     exact ⟨g3, g4, rfl, rfl, H.out⟩
  ·skip
   refine zg 3 rfl zA.zero H.out rfl ?_
   intro w3 g3 H3 hb
   replace H := za H3
   refine zc hK (zb H 1) fun hH => zK [0, 8] (zG rfl (fun K hK => ?_) (zG rfl (fun K hK => ?_) zJ))
   ·skip
    go_simp
    refine (y0w _).mono ?_
    rintro e wc ⟨al6, cl6, rfl, hs, hb⟩
    replace H := zd H hb
    have SL6 := za hs
    refine zc hK (zb H 1) fun hH => zK [2, 8] (zG rfl (fun K hK => ?_) (zG rfl (fun K hK => ?_) zJ))
    ·skip
     go_simp
     refine (z1a _ _ _ _ _ (by omega) SL6.out W1.out).mono ?_
     rintro e wc ⟨r8, rfl, hv, hb⟩
     replace SL6 := za (SL6.out.call hb)
     replace H := zd H hb
     have HV8 := za hv
     refine zc hK (zb H 1) fun hH => ?_
     try simp only [Act.put, qa, qb, qc]
     refine zK [3, 8] (zG rfl (fun K hK => ?_) (zG rfl (fun K hK => ?_) zJ))
     ·skip
      go_simp
      refine (z0k _ HV8.out).mono ?_
      rintro e wc ⟨rfl, hb⟩
      replace SL6 := za (SL6.out.call hb)
      replace H := zd H hb
      refine zc hK (zb H 1) fun hH => ?_
      refine zh 4 5 (.tuple #[FV ((zF zB lN P).x).val, FV ((zF zB lN P).y).val]) hH ?_
      refine zh 5 10 (FV ((zF zB lN P).x).val) hH ?_
      refine zh 6 11 (FV ((zF zB lN P).y).val) hH ?_
      refine zn 8 rfl fun K hK => ?_
      refine zg 4 rfl zA.zero H.out rfl ?_
      intro w4 g4 H3 hb
      replace SL6 := za (SL6.out.call hb)
      replace H := za H3
      refine zc hK (zb H 2) fun hH => zn 9 rfl fun K hK => ?_
      refine zu 1 rfl z4 H.out rfl rfl rfl rfl ?_
      intro ws HS
      simp only [qb, qc] at HS
      replace H := za HS
      refine zc hK (zb H 2) fun hH => ?_
      try simp only [qa]
      refine zn 10 rfl fun K hK => ?_
      refine zu 0 rfl z4 H.out rfl rfl rfl rfl ?_
      intro ws HS
      simp only [qb] at HS
      replace H := za HS
      refine zc hK (zb H 2) fun hH => ?_
      try simp only [qa]
      try simp only [Act.put]
      refine zm ?_
      replace H := za (H.out.front (x := (g3, zv 36 .i64 16 (dF ((zF zB lN P).x).val))) 1 rfl)
      go_wp2_with fail
      go_meet
      exact ⟨g3, g4, rfl, rfl, H.out⟩
     ·skip
      refine zg 4 rfl zA.zero H.out rfl ?_
      intro w4 g4 H3 hb
      replace SL6 := za (SL6.out.call hb)
      replace H := za H3
      refine zc hK (zb H 2) fun hH => zn 3 rfl fun K hK => ?_
      go_simp
      refine (z0k _ HV8.out).mono ?_
      rintro e wc ⟨rfl, hb⟩
      replace SL6 := za (SL6.out.call hb)
      replace H := zd H hb
      refine zc hK (zb H 2) fun hH => ?_
      try simp only [Act.put, qa, qb, qc]
      refine zh 4 5 (.tuple #[FV ((zF zB lN P).x).val, FV ((zF zB lN P).y).val]) hH ?_
      refine zh 5 10 (FV ((zF zB lN P).x).val) hH ?_
      refine zh 6 11 (FV ((zF zB lN P).y).val) hH ?_
      refine zn 9 rfl fun K hK => ?_
      refine zu 1 rfl z4 H.out rfl rfl rfl rfl ?_
      intro ws HS
      simp only [qb, qc] at HS
      replace H := za HS
      refine zc hK (zb H 2) fun hH => ?_
      try simp only [qa]
      refine zn 10 rfl fun K hK => ?_
      refine zu 0 rfl z4 H.out rfl rfl rfl rfl ?_
      intro ws HS
      simp only [qb] at HS
      replace H := za HS
      refine zc hK (zb H 2) fun hH => ?_
      try simp only [qa]
      try simp only [Act.put]
      refine zm ?_
      replace H := za (H.out.front (x := (g3, zv 36 .i64 16 (dF ((zF zB lN P).x).val))) 1 rfl)
      go_wp2_with fail
      go_meet
      exact ⟨g3, g4, rfl, rfl, H.out⟩
    ·skip
     refine zg 4 rfl zA.zero H.out rfl ?_
     intro w4 g4 H3 hb
     replace SL6 := za (SL6.out.call hb)
     replace H := za H3
     refine zc hK (zb H 2) fun hH => zn 2 rfl fun K hK => ?_
     go_simp
     refine (z1a _ _ _ _ _ (by omega) SL6.out W1.out).mono ?_
     rintro e wc ⟨r8, rfl, hv, hb⟩
     replace SL6 := za (SL6.out.call hb)
     replace H := zd H hb
     have HV8 := za hv
     refine zc hK (zb H 2) fun hH => zn 3 rfl fun K hK => ?_
     go_simp
     refine (z0k _ HV8.out).mono ?_
     rintro e wc ⟨rfl, hb⟩
     replace SL6 := za (SL6.out.call hb)
     replace H := zd H hb
     refine zc hK (zb H 2) fun hH => ?_
     try simp only [Act.put, qa, qb, qc]
     refine zh 4 5 (.tuple #[FV ((zF zB lN P).x).val, FV ((zF zB lN P).y).val]) hH ?_
     refine zh 5 10 (FV ((zF zB lN P).x).val) hH ?_
     refine zh 6 11 (FV ((zF zB lN P).y).val) hH ?_
     refine zn 9 rfl fun K hK => ?_
     refine zu 1 rfl z4 H.out rfl rfl rfl rfl ?_
     intro ws HS
     simp only [qb, qc] at HS
     replace H := za HS
     refine zc hK (zb H 2) fun hH => ?_
     try simp only [qa]
     refine zn 10 rfl fun K hK => ?_
     refine zu 0 rfl z4 H.out rfl rfl rfl rfl ?_
     intro ws HS
     simp only [qb] at HS
     replace H := za HS
     refine zc hK (zb H 2) fun hH => ?_
     try simp only [qa]
     try simp only [Act.put]
     refine zm ?_
     replace H := za (H.out.front (x := (g3, zv 36 .i64 16 (dF ((zF zB lN P).x).val))) 1 rfl)
     go_wp2_with fail
     go_meet
     exact ⟨g3, g4, rfl, rfl, H.out⟩
   ·skip
    refine zg 4 rfl zA.zero H.out rfl ?_
    intro w4 g4 H3 hb
    replace H := za H3
    refine zc hK (zb H 2) fun hH => zn 0 rfl fun K hK => ?_
    go_simp
    refine (y0w _).mono ?_
    rintro e wc ⟨al6, cl6, rfl, hs, hb⟩
    replace H := zd H hb
    have SL6 := za hs
    refine zc hK (zb H 2) fun hH => zn 2 rfl fun K hK => ?_
    go_simp
    refine (z1a _ _ _ _ _ (by omega) SL6.out W1.out).mono ?_
    rintro e wc ⟨r8, rfl, hv, hb⟩
    replace SL6 := za (SL6.out.call hb)
    replace H := zd H hb
    have HV8 := za hv
    refine zc hK (zb H 2) fun hH => ?_
    try simp only [Act.put, qa, qb, qc]
    refine zn 3 rfl fun K hK => ?_
    go_simp
    refine (z0k _ HV8.out).mono ?_
    rintro e wc ⟨rfl, hb⟩
    replace SL6 := za (SL6.out.call hb)
    replace H := zd H hb
    refine zc hK (zb H 2) fun hH => ?_
    refine zh 4 5 (.tuple #[FV ((zF zB lN P).x).val, FV ((zF zB lN P).y).val]) hH ?_
    refine zh 5 10 (FV ((zF zB lN P).x).val) hH ?_
    refine zh 6 11 (FV ((zF zB lN P).y).val) hH ?_
    refine zn 9 rfl fun K hK => ?_
    refine zu 1 rfl z4 H.out rfl rfl rfl rfl ?_
    intro ws HS
    simp only [qb, qc] at HS
    replace H := za HS
    refine zc hK (zb H 2) fun hH => ?_
    try simp only [qa]
    refine zn 10 rfl fun K hK => ?_
    refine zu 0 rfl z4 H.out rfl rfl rfl rfl ?_
    intro ws HS
    simp only [qb] at HS
    replace H := za HS
    refine zc hK (zb H 2) fun hH => ?_
    try simp only [qa]
    try simp only [Act.put]
    refine zm ?_
    replace H := za (H.out.front (x := (g3, zv 36 .i64 16 (dF ((zF zB lN P).x).val))) 1 rfl)
    go_wp2_with fail
    go_meet
    exact ⟨g3, g4, rfl, rfl, H.out⟩
  ·skip
   refine zg 4 rfl zA.zero H.out rfl ?_
   intro w4 g4 H3 hb
   replace H := za H3
   refine zc hK (zb H 1) fun hH => zK [0, 7] (zG rfl (fun K hK => ?_) (zG rfl (fun K hK => ?_) zJ))
   ·skip
    go_simp
    refine (y0w _).mono ?_
    rintro e wc ⟨al6, cl6, rfl, hs, hb⟩
    replace H := zd H hb
    have SL6 := za hs
    refine zc hK (zb H 1) fun hH => zK [2, 7] (zG rfl (fun K hK => ?_) (zG rfl (fun K hK => ?_) zJ))
    ·skip
     go_simp
     refine (z1a _ _ _ _ _ (by omega) SL6.out W1.out).mono ?_
     rintro e wc ⟨r8, rfl, hv, hb⟩
     replace SL6 := za (SL6.out.call hb)
     replace H := zd H hb
     have HV8 := za hv
     refine zc hK (zb H 1) fun hH => ?_
     try simp only [Act.put, qa, qb, qc]
     refine zK [3, 7] (zG rfl (fun K hK => ?_) (zG rfl (fun K hK => ?_) zJ))
     ·skip
      go_simp
      refine (z0k _ HV8.out).mono ?_
      rintro e wc ⟨rfl, hb⟩
      replace SL6 := za (SL6.out.call hb)
      replace H := zd H hb
      refine zc hK (zb H 1) fun hH => ?_
      refine zh 4 5 (.tuple #[FV ((zF zB lN P).x).val, FV ((zF zB lN P).y).val]) hH ?_
      refine zh 5 10 (FV ((zF zB lN P).x).val) hH ?_
      refine zh 6 11 (FV ((zF zB lN P).y).val) hH ?_
      refine zn 7 rfl fun K hK => ?_
      refine zg 3 rfl zA.zero H.out rfl ?_
      intro w3 g3 H3 hb
      replace SL6 := za (SL6.out.call hb)
      replace H := za H3
      refine zc hK (zb H 2) fun hH => zn 9 rfl fun K hK => ?_
      refine zu 0 rfl z4 H.out rfl rfl rfl rfl ?_
      intro ws HS
      simp only [qb] at HS
      replace H := za HS
      refine zc hK (zb H 2) fun hH => ?_
      try simp only [qa]
      refine zn 10 rfl fun K hK => ?_
      refine zu 1 rfl z4 H.out rfl rfl rfl rfl ?_
      intro ws HS
      simp only [qb, qc] at HS
      replace H := za HS
      refine zc hK (zb H 2) fun hH => ?_
      try simp only [qa]
      try simp only [Act.put]
      refine zm ?_
      replace H := za (H.out.front (x := (g4, zv 36 .i64 16 (dF ((zF zB lN P).y).val))) 1 rfl)
      replace H := za (H.out.front (x := (g3, zv 36 .i64 16 (dF ((zF zB lN P).x).val))) 1 rfl)
      go_wp2_with fail
      go_meet
      exact ⟨g3, g4, rfl, rfl, H.out⟩
     ·skip
      refine zg 3 rfl zA.zero H.out rfl ?_
      intro w3 g3 H3 hb
      replace SL6 := za (SL6.out.call hb)
      replace H := za H3
      refine zc hK (zb H 2) fun hH => zn 3 rfl fun K hK => ?_
      go_simp
      refine (z0k _ HV8.out).mono ?_
      rintro e wc ⟨rfl, hb⟩
      replace SL6 := za (SL6.out.call hb)
      replace H := zd H hb
      refine zc hK (zb H 2) fun hH => ?_
      try simp only [Act.put, qa, qb, qc]
      refine zh 4 5 (.tuple #[FV ((zF zB lN P).x).val, FV ((zF zB lN P).y).val]) hH ?_
      refine zh 5 10 (FV ((zF zB lN P).x).val) hH ?_
      refine zh 6 11 (FV ((zF zB lN P).y).val) hH ?_
      refine zn 9 rfl fun K hK => ?_
      refine zu 0 rfl z4 H.out rfl rfl rfl rfl ?_
      intro ws HS
      simp only [qb] at HS
      replace H := za HS
      refine zc hK (zb H 2) fun hH => ?_
      try simp only [qa]
      refine zn 10 rfl fun K hK => ?_
      refine zu 1 rfl z4 H.out rfl rfl rfl rfl ?_
      intro ws HS
      simp only [qb, qc] at HS
      replace H := za HS
      refine zc hK (zb H 2) fun hH => ?_
      try simp only [qa]
      try simp only [Act.put]
      refine zm ?_
      replace H := za (H.out.front (x := (g4, zv 36 .i64 16 (dF ((zF zB lN P).y).val))) 1 rfl)
      replace H := za (H.out.front (x := (g3, zv 36 .i64 16 (dF ((zF zB lN P).x).val))) 1 rfl)
      go_wp2_with fail
      go_meet
      exact ⟨g3, g4, rfl, rfl, H.out⟩
    ·skip
     refine zg 3 rfl zA.zero H.out rfl ?_
     intro w3 g3 H3 hb
     replace SL6 := za (SL6.out.call hb)
     replace H := za H3
     refine zc hK (zb H 2) fun hH => zn 2 rfl fun K hK => ?_
     go_simp
     refine (z1a _ _ _ _ _ (by omega) SL6.out W1.out).mono ?_
     rintro e wc ⟨r8, rfl, hv, hb⟩
     replace SL6 := za (SL6.out.call hb)
     replace H := zd H hb
     have HV8 := za hv
     refine zc hK (zb H 2) fun hH => zn 3 rfl fun K hK => ?_
     go_simp
     refine (z0k _ HV8.out).mono ?_
     rintro e wc ⟨rfl, hb⟩
     replace SL6 := za (SL6.out.call hb)
     replace H := zd H hb
     refine zc hK (zb H 2) fun hH => ?_
     try simp only [Act.put, qa, qb, qc]
     refine zh 4 5 (.tuple #[FV ((zF zB lN P).x).val, FV ((zF zB lN P).y).val]) hH ?_
     refine zh 5 10 (FV ((zF zB lN P).x).val) hH ?_
     refine zh 6 11 (FV ((zF zB lN P).y).val) hH ?_
     refine zn 9 rfl fun K hK => ?_
     refine zu 0 rfl z4 H.out rfl rfl rfl rfl ?_
     intro ws HS
     simp only [qb] at HS
     replace H := za HS
     refine zc hK (zb H 2) fun hH => ?_
     try simp only [qa]
     refine zn 10 rfl fun K hK => ?_
     refine zu 1 rfl z4 H.out rfl rfl rfl rfl ?_
     intro ws HS
     simp only [qb, qc] at HS
     replace H := za HS
     refine zc hK (zb H 2) fun hH => ?_
     try simp only [qa]
     try simp only [Act.put]
     refine zm ?_
     replace H := za (H.out.front (x := (g4, zv 36 .i64 16 (dF ((zF zB lN P).y).val))) 1 rfl)
     replace H := za (H.out.front (x := (g3, zv 36 .i64 16 (dF ((zF zB lN P).x).val))) 1 rfl)
     go_wp2_with fail
     go_meet
     exact ⟨g3, g4, rfl, rfl, H.out⟩
   ·skip
    refine zg 3 rfl zA.zero H.out rfl ?_
    intro w3 g3 H3 hb
    replace H := za H3
    refine zc hK (zb H 2) fun hH => zn 0 rfl fun K hK => ?_
    go_simp
    refine (y0w _).mono ?_
    rintro e wc ⟨al6, cl6, rfl, hs, hb⟩
    replace H := zd H hb
    have SL6 := za hs
    refine zc hK (zb H 2) fun hH => zn 2 rfl fun K hK => ?_
    go_simp
    refine (z1a _ _ _ _ _ (by omega) SL6.out W1.out).mono ?_
    rintro e wc ⟨r8, rfl, hv, hb⟩
    replace SL6 := za (SL6.out.call hb)
    replace H := zd H hb
    have HV8 := za hv
    refine zc hK (zb H 2) fun hH => ?_
    try simp only [Act.put, qa, qb, qc]
    refine zn 3 rfl fun K hK => ?_
    go_simp
    refine (z0k _ HV8.out).mono ?_
    rintro e wc ⟨rfl, hb⟩
    replace SL6 := za (SL6.out.call hb)
    replace H := zd H hb
    refine zc hK (zb H 2) fun hH => ?_
    refine zh 4 5 (.tuple #[FV ((zF zB lN P).x).val, FV ((zF zB lN P).y).val]) hH ?_
    refine zh 5 10 (FV ((zF zB lN P).x).val) hH ?_
    refine zh 6 11 (FV ((zF zB lN P).y).val) hH ?_
    refine zn 9 rfl fun K hK => ?_
    refine zu 0 rfl z4 H.out rfl rfl rfl rfl ?_
    intro ws HS
    simp only [qb] at HS
    replace H := za HS
    refine zc hK (zb H 2) fun hH => ?_
    try simp only [qa]
    refine zn 10 rfl fun K hK => ?_
    refine zu 1 rfl z4 H.out rfl rfl rfl rfl ?_
    intro ws HS
    simp only [qb, qc] at HS
    replace H := za HS
    refine zc hK (zb H 2) fun hH => ?_
    try simp only [qa]
    try simp only [Act.put]
    refine zm ?_
    replace H := za (H.out.front (x := (g4, zv 36 .i64 16 (dF ((zF zB lN P).y).val))) 1 rfl)
    replace H := za (H.out.front (x := (g3, zv 36 .i64 16 (dF ((zF zB lN P).x).val))) 1 rfl)
    go_wp2_with fail
    go_meet
    exact ⟨g3, g4, rfl, rfl, H.out⟩
 clear H
 obtain ⟨g3, g4, rfl, rfl, HRR⟩ := hcut
 have H := za HRR
 clear HRR 
 go_upto_region 2 with fail
 refine wp_region_noPanic ?_
 refine wp_region_held_drew (S := fun W => W.heap[g3]? = some (zv 36 .i64 16 (dF ((zF zB lN P).x).val))) (by kernel_rfl) (H.out.drew.row 0 rfl) (fun hH => ?_)
 replace H := za H.out.drew
 generalize World.drew _ = w8 at *
 refine zk 0 12 z4 rfl rfl rfl hH rfl rfl (fun _ h => h) ?_
 refine zn 1 rfl fun K hK => ?_
 go_simp
 refine (z0p _ (0) (by omega) (by omega)).mono ?_
 rintro e wc ⟨rfl, hb⟩
 replace H := zd H hb
 refine zc hK (zb H 0) fun hH => zn 2 rfl fun K hK => ?_
 go_simp
 refine (z9r _ _ _ HB.out).mono ?_
 rintro e wc ⟨rfl, hb⟩
 replace H := zd H hb
 refine zc hK (zb H 0) fun hH => ?_
 try simp only [Act.put, qa, qb, qc]
 refine zh 3 2 (.bool b) hH ?_
 refine zm ?_
 go_wp2_with fail
 go_ret
 exact ⟨rfl, H.out.bel⟩
end Go.Proofs.YtgjbonikbmgfmaaGreatDoor
