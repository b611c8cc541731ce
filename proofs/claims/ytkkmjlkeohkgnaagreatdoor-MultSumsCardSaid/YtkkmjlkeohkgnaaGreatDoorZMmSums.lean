/-
  The walk of MultSums. No statement is proved here: lemmas for the walks.
-/
import Derived.Test.YtkkmjlkeohkgnaaGreatDoorZMtAwake
import Derived.Test.YtkkmjlkeohkgnaaGreatDoorBuY
import Derived.Test.YtkkmjlkeohkgnaaGreatDoorZMtTerms
import Derived.Test.YtkkmjlkeohkgnaaGreatDoorZMtOnes
import Derived.Test.YtkkmjlkeohkgnaaGreatDoorZRfTimes
import Derived.Test.YtkkmjlkeohkgnaaGreatDoorZRfAddPt
import Derived.Test.YtkkmjlkeohkgnaaGreatDoorZRfPt
import Derived.Deep.CutRange
import Derived.Deep.LoopGhost
namespace Go.Proofs.YtkkmjlkeohkgnaaGreatDoor
open Go.RowKit

section
variable {ops : Array Oper} {rest : List Oper} {o : Oper} {a : Act} {w : World} {Q : Exit → Act → World → Prop}
/-- A spot is loaded. -/
theorem lay_spot12 (hgd : o.guard = none) {x : Operand} (ho : o.op = .load 24 x) {g p : Nat} (hx : a.eval x = .pointer (some ⟨g, p, none⟩)) {u v : Value} (h0 : w.cell? ⟨g, p, none⟩ = some u) (h1 : w.cell? ⟨g, p + 1, none⟩ = some v)
    (h : ∀ K : Act → World → Prop, (∀ a w, wpList Tryz.prog ops Q rest a w → K a w) → K (a.put o.dst (.agg #[u, v])) w) : wpList Tryz.prog ops Q (o :: rest) a w :=
  wpList_plain hgd fun K hK => by
    obtain ⟨d, hd, hd'⟩ := rowSpK.under
    have hrun := run_loadAt_mid (P := Tryz.prog) w g p 24 [u, v] d (fun j q hq => by
      rcases (by omega : j = 0 ∨ j = 1 ∨ 2 ≤ j) with rfl | rfl | h2
      · cases hq
        exact h0
      · cases hq
        exact h1
      · rw [List.getElem?_eq_none (by simpa using h2)] at hq
        cases hq) hd (by cases d <;> simp_all) rowSpK.size
    unfold Oper.wp execOp
    simp only [ho, hx, Sem.run_bind, hrun, Result.andThen_ok]
    exact h K hK
end
theorem tot_pts (X : Nat → Int) {P P' : Nat → Pt pN dK} : ∀ n, (∀ i, i < n → P i = P' i) → tot X P n = tot X P' n
  | 0, _ => rfl
  | n + 1, h => by
    unfold tot
    rw [tot_pts X n fun i hi => h i (by omega), h n (by omega)]
set_option maxRecDepth 8000 in
set_option maxHeartbeats 3200000 in
theorem msums_many {a : Option Addr} {n c : Nat} {A : Nat → Option Addr} {N C X K : Nat → Nat} {Z : Nat → Int} (q : Bool) (w : World) (hT : Tp w) (_hs : Ones w w.heap.size a n c A N C X K Z) (hn : 5 < n) :
    Calls Tryz.prog 6 #[.slice a n c, .bool q] w fun e w' => e = .returned (.bool true) ∧ Below w.heap.size w w' := by
  have d0 : decide ((5 : Int) < (n : Int)) = true := by (simp; omega)
  clear hn
  have HT := Lib.hid hT
  clear hT
  have H := Lib.hid (Ow.start w)
  go_enter Tryz.func6, Tryz.ntmps6
  go_wp2_with (first
    | ((with_reducible refine (awake12_k _ (HT.out.below H.out.bel)).mono ?_); rintro e wc ⟨rfl, hb⟩; replace H := Lib.hid (H.out.call hb); clear hb))
  go_ret
  exact ⟨rfl, H.out.bel⟩
set_option maxRecDepth 8000 in
set_option maxHeartbeats 3200000 in
theorem msums_few {a : Option Addr} {n c : Nat} {A : Nat → Option Addr} {N C X K : Nat → Nat} {Z : Nat → Int} (q : Bool) (w : World) (hT : Tp w) (hs : Ones w w.heap.size a n c A N C X K Z) (hn : n ≤ 5) :
    Calls Tryz.prog 6 #[.slice a n c, .bool q] w fun e w' => e = .returned (.bool true) ∧ Below w.heap.size w w' := by
  have d0 : decide ((5 : Int) < (n : Int)) = false := by (simp; omega)
  have n5 : (n : Int) ≤ 5 := by omega
  have HON := Lib.hid hs
  have HN5 := Lib.hid hn
  clear hs hn
  have HT := Lib.hid hT
  clear hT
  have H := Lib.hid (Ow.start w)
  go_enter Tryz.func6, Tryz.ntmps6
  go_wp2_with (first
    | ((fail_if_success have := mki); (with_reducible refine (refIdentity_k _).mono ?_); rintro e wc ⟨r0, rfl, hv, hb⟩; replace H := Lib.hid (H.out.call hb); have W0 := Lib.hid hv; have mki := trivial; clear hb hv)
    | ((fail_if_success have := g6); (fail_if_success have := g6); (with_reducible apply own_alloc nilQt H); (case hgd => exact rfl); (case ho => exact rfl); intro w6 g6 H' _ _; replace H := H'; clear H'; go_simp)
    | ((with_reducible apply own_store rowQt H); (case hgd => exact rfl); (case ho => exact rfl); (case hx => exact rfl); (case hy => exact rfl); (case hi => first | exact at0 | exact at1 | exact at2 | exact at3 | exact at4 | exact at5 | exact at6 | exact at7 | exact at8 | exact at9); intro ws H' _ _; replace H := H'; clear H'; simp only [List.set_cons_zero] at H; go_simp))
  clear mki
  have HB6w := Lib.hid (H.out.ge 0 rfl)
  go_loopg [5, 7, 8] n (fun gk v5 v7 v8 wr => ∃ (i : Nat) (V : Nat → Nat → Int) (P : Nat → Pt pN dK) (rw : Nat → Int) (R : Pt pN dK) (ez : Int), i + gk = n ∧ v8 = .int .i64 (i : Int) ∧ v7 = .int .i64 ez ∧ (∀ j, j < i → PtK (V j) (P j)) ∧ RfK rw R ∧ ((ez = 0 ∧ (∀ j, j < i → 1 ≤ N j ∧ N j ≤ 64) ∧ R = tot (fun k => ((X k : Nat) : Int)) P i) ∨ (ez = 11 ∧ ∃ j, j < i ∧ ¬ (1 ≤ N j ∧ N j ≤ 64))) ∧ OwnG wr (g6 + 1) 60 25 v5 i (fun j => sci (.slice (A j) (N j) (C j)) (V j)) ∧ Ow w wr [(g6, Blk 34 .i64 48 rw)])
  case atStart => exact ⟨0, fun _ _ => 0, fun _ => pzero, r0, pzero, 0, by omega, rfl, rfl, (fun j hj => by omega), W0.out, .inl ⟨rfl, (fun j hj => by omega), rfl⟩, OwnG.nil _ _ _ _ _, H.out⟩
  case round =>
    clear H W0
    obtain ⟨i, V, P, rw, R, ez, hi, rfl, rfl, hP, hR, hE, hG, hO⟩ := hrel
    have HP := Lib.hid hP
    have HRR := Lib.hid hR
    have HE := Lib.hid hE
    have HG := Lib.hid hG
    have HO := Lib.hid hO
    have HBW := Lib.hid hO.bel
    clear hP hR hE hG hO
    cases gk with
    | succ gk9 =>
      have hlt : i < n := by omega
      have hid : decide ((i : Int) < (n : Int)) = true := by simp; omega
      have hid' : decide (i < n) = true := by simpa using hlt
      have iN : (i : Int) < (n : Int) := by omega
      have HI := Lib.hid hi
      have HLT := Lib.hid hlt
      obtain ⟨b, o, ki, kc, kx, rfl, hbw, hall⟩ := HON.out.get i hlt
      have HALL := Lib.hid hall
      have HBLT := Lib.hid hbw
      obtain ⟨ok, hok⟩ : ∃ ok, okS (K i) (Z i) = ok := ⟨_, rfl⟩
      have OK := Lib.hid hok
      clear hlt hi hall hbw hok
      obtain ⟨ka, hka⟩ : ∃ ka, K i = ka := ⟨_, rfl⟩
      obtain ⟨za, hza⟩ : ∃ za, Z i = za := ⟨_, rfl⟩
      obtain ⟨na, hna⟩ : ∃ na, N i = na := ⟨_, rfl⟩
      rw [hka, hza] at OK
      rw [hka, hza, hna] at HALL
      have ENA := Lib.hid hna
      clear hka hza hna
      have H := Lib.hid (Ow.start wr)
      cases ok with
      | false =>
        go_wp2_with (first
          | ((with_reducible apply lay_spot12); (case hgd => exact rfl); (case ho => exact rfl); (case hx => exact rfl); (case h0 => exact (HALL.out _ (HBW.out.trans (H.out.bel.mono HBW.out.size))).2.2.2.1); (case h1 => exact (HALL.out _ (HBW.out.trans (H.out.bel.mono HBW.out.size))).2.2.2.2); intro _ _; go_simp)
          | ((fail_if_success have := mk1); (with_reducible refine (made11_any OK.out _ (HT.out.below (HBW.out.trans (H.out.bel.mono HBW.out.size))) (HALL.out _ (HBW.out.trans (H.out.bel.mono HBW.out.size))).2.1).mono ?_); rintro e wc ⟨v1, r1, P1, rfl, hv, hw, hb⟩; replace H := Lib.hid (H.out.call hb); have V1 := Lib.hid hv; have W1 := Lib.hid hw; have mk1 := trivial; clear hb hv hw)
          | ((fail_if_success have := g9); (fail_if_success have := g9); (with_reducible apply own_alloc nilPt H); (case hgd => exact rfl); (case ho => exact rfl); intro w9 g9 H' _ _; replace H := H'; clear H'; go_simp)
          | ((fail_if_success have := g10); (fail_if_success have := g10); (with_reducible apply own_alloc nilQt H); (case hgd => exact rfl); (case ho => exact rfl); intro w10 g10 H' _ _; replace H := H'; clear H'; go_simp)
          | ((with_reducible apply own_store rowPt H); (case hgd => exact rfl); (case ho => exact rfl); (case hx => exact rfl); (case hy => exact rfl); (case hi => first | exact at0 | exact at1 | exact at2 | exact at3 | exact at4 | exact at5 | exact at6 | exact at7 | exact at8 | exact at9); intro ws H' _ _; replace H := H'; clear H'; simp only [List.set_cons_zero, List.set_cons_succ] at H; go_simp)
          | ((with_reducible apply own_store rowQt H); (case hgd => exact rfl); (case ho => exact rfl); (case hx => exact rfl); (case hy => exact rfl); (case hi => first | exact at0 | exact at1 | exact at2 | exact at3 | exact at4 | exact at5 | exact at6 | exact at7 | exact at8 | exact at9); intro ws H' _ _; replace H := H'; clear H'; simp only [List.set_cons_zero] at H; go_simp)
          | ((with_reducible refine cd_skip ?hw ?h); (case hw => exact rfl); intro _ _; go_simp)
          | ((with_reducible apply lay_cellg cellSb); (case hw => exact rfl); (case ho => exact rfl); (case hx => exact rfl); (case hc => exact (HALL.out _ (HBW.out.trans (H.out.bel.mono HBW.out.size))).2.2.1); intro _ _; go_simp)
          | ((with_reducible refine (awake12_k _ (HT.out.below (HBW.out.trans (H.out.bel.mono HBW.out.size)))).mono ?_); rintro e wc ⟨rfl, hb⟩; replace H := Lib.hid (H.out.call hb); clear hb))
        try rw [Exit.noGoto_ret]
        go_ret
        exact ⟨rfl, (HBW.out.trans (H.out.bel.mono HBW.out.size))⟩
      | true =>
        by_cases h80 : 80 < na
        · have d1 : decide ((80 : Int) < (na : Int)) = true := by (simp; omega)
          clear h80
          go_wp2_with (first
            | ((with_reducible apply lay_spot12); (case hgd => exact rfl); (case ho => exact rfl); (case hx => exact rfl); (case h0 => exact (HALL.out _ (HBW.out.trans (H.out.bel.mono HBW.out.size))).2.2.2.1); (case h1 => exact (HALL.out _ (HBW.out.trans (H.out.bel.mono HBW.out.size))).2.2.2.2); intro _ _; go_simp)
            | ((fail_if_success have := mk1); (with_reducible refine (made11_any OK.out _ (HT.out.below (HBW.out.trans (H.out.bel.mono HBW.out.size))) (HALL.out _ (HBW.out.trans (H.out.bel.mono HBW.out.size))).2.1).mono ?_); rintro e wc ⟨v1, r1, P1, rfl, hv, hw, hb⟩; replace H := Lib.hid (H.out.call hb); have V1 := Lib.hid hv; have W1 := Lib.hid hw; have mk1 := trivial; clear hb hv hw)
            | ((fail_if_success have := g9); (fail_if_success have := g9); (with_reducible apply own_alloc nilPt H); (case hgd => exact rfl); (case ho => exact rfl); intro w9 g9 H' _ _; replace H := H'; clear H'; go_simp)
            | ((fail_if_success have := g10); (fail_if_success have := g10); (with_reducible apply own_alloc nilQt H); (case hgd => exact rfl); (case ho => exact rfl); intro w10 g10 H' _ _; replace H := H'; clear H'; go_simp)
            | ((with_reducible apply own_store rowPt H); (case hgd => exact rfl); (case ho => exact rfl); (case hx => exact rfl); (case hy => exact rfl); (case hi => first | exact at0 | exact at1 | exact at2 | exact at3 | exact at4 | exact at5 | exact at6 | exact at7 | exact at8 | exact at9); intro ws H' _ _; replace H := H'; clear H'; simp only [List.set_cons_zero, List.set_cons_succ] at H; go_simp)
            | ((with_reducible apply own_store rowQt H); (case hgd => exact rfl); (case ho => exact rfl); (case hx => exact rfl); (case hy => exact rfl); (case hi => first | exact at0 | exact at1 | exact at2 | exact at3 | exact at4 | exact at5 | exact at6 | exact at7 | exact at8 | exact at9); intro ws H' _ _; replace H := H'; clear H'; simp only [List.set_cons_zero] at H; go_simp)
            | ((with_reducible refine cd_skip ?hw ?h); (case hw => exact rfl); intro _ _; go_simp)
            | ((with_reducible apply lay_cellg cellSb); (case hw => exact rfl); (case ho => exact rfl); (case hx => exact rfl); (case hc => exact (HALL.out _ (HBW.out.trans (H.out.bel.mono HBW.out.size))).2.2.1); intro _ _; go_simp)
            | ((with_reducible refine (awake12_k _ (HT.out.below (HBW.out.trans (H.out.bel.mono HBW.out.size)))).mono ?_); rintro e wc ⟨rfl, hb⟩; replace H := Lib.hid (H.out.call hb); clear hb))
          try rw [Exit.noGoto_ret]
          go_ret
          exact ⟨rfl, (HBW.out.trans (H.out.bel.mono HBW.out.size))⟩
        have d1 : decide ((80 : Int) < (na : Int)) = false := by (simp; omega)
        have H80 := Lib.hid h80
        clear h80
        go_upto_region 12 with (first
          | ((with_reducible apply lay_spot12); (case hgd => exact rfl); (case ho => exact rfl); (case hx => exact rfl); (case h0 => exact (HALL.out _ (HBW.out.trans (H.out.bel.mono HBW.out.size))).2.2.2.1); (case h1 => exact (HALL.out _ (HBW.out.trans (H.out.bel.mono HBW.out.size))).2.2.2.2); intro _ _; go_simp)
          | ((fail_if_success have := mk1); (with_reducible refine (made11_any OK.out _ (HT.out.below (HBW.out.trans (H.out.bel.mono HBW.out.size))) (HALL.out _ (HBW.out.trans (H.out.bel.mono HBW.out.size))).2.1).mono ?_); rintro e wc ⟨v1, r1, P1, rfl, hv, hw, hb⟩; replace H := Lib.hid (H.out.call hb); have V1 := Lib.hid hv; have W1 := Lib.hid hw; have mk1 := trivial; clear hb hv hw)
          | ((fail_if_success have := g9); (fail_if_success have := g9); (with_reducible apply own_alloc nilPt H); (case hgd => exact rfl); (case ho => exact rfl); intro w9 g9 H' _ _; replace H := H'; clear H'; go_simp)
          | ((fail_if_success have := g10); (fail_if_success have := g10); (with_reducible apply own_alloc nilQt H); (case hgd => exact rfl); (case ho => exact rfl); intro w10 g10 H' _ _; replace H := H'; clear H'; go_simp)
          | ((with_reducible apply own_store rowPt H); (case hgd => exact rfl); (case ho => exact rfl); (case hx => exact rfl); (case hy => exact rfl); (case hi => first | exact at0 | exact at1 | exact at2 | exact at3 | exact at4 | exact at5 | exact at6 | exact at7 | exact at8 | exact at9); intro ws H' _ _; replace H := H'; clear H'; simp only [List.set_cons_zero, List.set_cons_succ] at H; go_simp)
          | ((with_reducible apply own_store rowQt H); (case hgd => exact rfl); (case ho => exact rfl); (case hx => exact rfl); (case hy => exact rfl); (case hi => first | exact at0 | exact at1 | exact at2 | exact at3 | exact at4 | exact at5 | exact at6 | exact at7 | exact at8 | exact at9); intro ws H' _ _; replace H := H'; clear H'; simp only [List.set_cons_zero] at H; go_simp)
          | ((with_reducible refine cd_skip ?hw ?h); (case hw => exact rfl); intro _ _; go_simp)
          | ((with_reducible apply lay_cellg cellSb); (case hw => exact rfl); (case ho => exact rfl); (case hx => exact rfl); (case hc => exact (HALL.out _ (HBW.out.trans (H.out.bel.mono HBW.out.size))).2.2.1); intro _ _; go_simp)
          | ((with_reducible refine (awake12_k _ (HT.out.below (HBW.out.trans (H.out.bel.mono HBW.out.size)))).mono ?_); rintro e wc ⟨rfl, hb⟩; replace H := Lib.hid (H.out.call hb); clear hb))
        clear mk1 d1
        refine wp_region_noPanic ?_
        refine wp_region_held_drew (S := fun W => W.cell? ⟨b, o + i * 3, none⟩ = some (.slice (A i) na (C i)) ∧ W.heap[g9]? = some (Blk 30 .u64 24 v1)) (by kernel_rfl) (⟨(HALL.out _ (HBW.out.trans (H.out.drew.bel.mono HBW.out.size))).2.2.1, H.out.drew.row 1 rfl⟩) (fun hH => ?_)
        replace H := Lib.hid H.out.drew
        generalize World.drew _ = w8 at *
        refine held_value 0 47 (u5) rfl rfl (by kernel_rfl) (by kernel_rfl) (by kernel_rfl) rfl hH (fun w hw => by go_simp) ?_
        try simp only [Act.put, List.setIfInBounds_toArray, List.set_cons_zero, List.set_cons_succ]
        refine held_value 1 48 (.slice (some ⟨b, o, none⟩) n c) rfl rfl (by kernel_rfl) (by kernel_rfl) (by kernel_rfl) rfl hH (fun w hw => by go_simp) ?_
        try simp only [Act.put, List.setIfInBounds_toArray, List.set_cons_zero, List.set_cons_succ]
        refine held_value 2 49 (.int .i64 (i : Int)) rfl rfl (by kernel_rfl) (by kernel_rfl) (by kernel_rfl) rfl hH (fun w hw => by go_simp) ?_
        try simp only [Act.put, List.setIfInBounds_toArray, List.set_cons_zero, List.set_cons_succ]
        refine held_value 3 50 (.pointer (some ⟨b, o + i * 3, none⟩)) rfl rfl (by kernel_rfl) (by kernel_rfl) (by kernel_rfl) rfl hH (fun w hw => by go_simp) ?_
        try simp only [Act.put, List.setIfInBounds_toArray, List.set_cons_zero, List.set_cons_succ]
        refine held_value 4 51 (.pointer (some ⟨b, o + i * 3, none⟩)) rfl rfl (by kernel_rfl) (by kernel_rfl) (by kernel_rfl) rfl hH (fun w hw => by go_simp) ?_
        try simp only [Act.put, List.setIfInBounds_toArray, List.set_cons_zero, List.set_cons_succ]
        refine held_cell 5 52 cellSb rfl rfl (by kernel_rfl) (by kernel_rfl) (by kernel_rfl) rfl hH rfl rfl (fun _ h => h.1) ?_
        try simp only [Act.put, List.setIfInBounds_toArray, List.set_cons_zero, List.set_cons_succ]
        refine held_row 6 53 rowPt rfl rfl (by kernel_rfl) (by kernel_rfl) (by kernel_rfl) rfl hH rfl rfl (fun _ h => h.2) ?_
        try simp only [Act.put, List.setIfInBounds_toArray, List.set_cons_zero, List.set_cons_succ]
        refine held_tm 7 54 rfl rfl (by kernel_rfl) (by kernel_rfl) (by kernel_rfl) rfl hH rfl rfl rfl ?_
        try simp only [Act.put, List.setIfInBounds_toArray, List.set_cons_zero, List.set_cons_succ]
        refine wpAnyH_ready (rs := [8]) (by kernel_rfl) (by simp) ?_
        refine AllReadyH.cons (o := _) rfl (fun K hK => ?_) AllReadyH.nil
        refine own_wp_build1G 55 rfl Tryz.underlying55 infoTm (by omega) (by omega) H.out rfl rfl ?_
        intro w55 g55 H3 _
        replace H := Lib.hid H3
        refine hK.out _ _ (⟨(HALL.out _ (HBW.out.trans (H.out.bel.mono HBW.out.size))).2.2.1, H.out.row 2 rfl⟩) (fun hN => ?_)
        clear hK K hH H3
        have hH := hN
        clear hN
        try simp only [Act.put, List.setIfInBounds_toArray, List.set_cons_zero, List.set_cons_succ]
        refine wpAnyH_ready (rs := [9]) (by kernel_rfl) (by simp) ?_
        refine AllReadyH.cons (o := _) rfl (fun K hK => ?_) AllReadyH.nil
        refine own_wp_appG 56 rfl Tryz.underlying55 infoTm (by omega) (by omega) (HG.out.call H.out.bel) (Nat.le_trans (lt_row (HO.out.row 0 rfl)) H.out.bel.size) rfl rfl rfl (H.out.row 0 rfl) (fun j _ => sci_one rfl _ j) (by omega) ?_
        intro v' wt HG' ht
        have HGN := Lib.hid HG'
        have HO3 := Lib.hid (show Ow w wt [(g10, Blk 34 .i64 48 r1), (g9, Blk 30 .u64 24 v1), (g6, Blk 34 .i64 48 rw)] from by
          have e9 := H.out.ge 2 rfl
          have e10 := H.out.ge 1 rfl
          have e6 := lt_row (HO.out.row 0 rfl)
          have ew := HBW.out.size
          have e6w := HB6w.out
          have ne : g10 ≠ g9 := (List.pairwise_cons.1 (List.pairwise_cons.1 H.out.apart).2).1 (g9, _) (.head _)
          refine (((HO.out.call H.out.bel).more (H.out.row 2 rfl) (by omega) (fun x hx => by simp at hx; subst hx; show g9 ≠ g6; omega)).more (H.out.row 1 rfl) (by omega) (fun x hx => by simp at hx; rcases hx with rfl | rfl; exact ne; show g10 ≠ g6; omega)).turn ht (fun j h1 => HG.out.own_ne (.inl (by omega))) (fun x hx => ?_)
          simp at hx
          rcases hx with rfl | rfl | rfl
          · exact HG.out.own_ne (.inr e10)
          · exact HG.out.own_ne (.inr e9)
          · exact HG.out.own_ne (.inl (by show g6 < g6 + 1; omega)))
        clear H
        refine hK.out _ _ (⟨(HALL.out _ HO3.out.bel).2.2.1, HO3.out.row 1 rfl⟩) (fun hN => ?_)
        clear hK K hH HG' ht
        have hH := hN
        clear hN
        try simp only [Act.put, List.setIfInBounds_toArray, List.set_cons_zero, List.set_cons_succ]
        refine held_value 10 5 (v') rfl rfl (by kernel_rfl) (by kernel_rfl) (by kernel_rfl) rfl hH (fun w hw => by go_simp) ?_
        try simp only [Act.put, List.setIfInBounds_toArray, List.set_cons_zero, List.set_cons_succ]
        try simp only [List.setIfInBounds_toArray]
        try simp only [Act.put]
        refine wpAnyH_done (by kernel_rfl) ?_ _
        refine NoPanic.normal ?_
        clear hH
        have H := HO3
        clear HO3
        have TX := Lib.hid (Turn.refl (fun j => j = g6) wt)
        obtain ⟨V', hV'⟩ : ∃ V' : Nat → Nat → Int, V' = fun j => if j = i then v1 else V j := ⟨_, rfl⟩
        obtain ⟨P', hP'⟩ : ∃ P' : Nat → Pt pN dK, P' = fun j => if j = i then P1 else P j := ⟨_, rfl⟩
        have HPN : Hid (∀ j, j < i + 1 → PtK (V' j) (P' j)) := Lib.hid fun j hj => by
          subst hV' hP'
          rcases (by omega : j < i ∨ j = i) with h | rfl
          · show PtK (if j = i then v1 else V j) (if j = i then P1 else P j)
            rw [if_neg (by omega), if_neg (by omega)]
            exact HP.out j h
          · show PtK (if j = j then v1 else V j) (if j = j then P1 else P j)
            rw [if_pos rfl, if_pos rfl]
            exact V1.out
        have HGQ : Hid (∀ W, Turn (fun j => j = g6) wt W → OwnG W (g6 + 1) 60 25 v' (i + 1) (fun j => sci (.slice (A j) (N j) (C j)) (V' j))) := Lib.hid fun W hW => by
          subst hV'
          refine (HGN.out.kept fun g hg => hW.block g (HGN.out.lt g hg).1 (by have := (HGN.out.lt g hg).2; omega)).congr (by omega) fun j hj => ?_
          show (if j = i then _ else _) = sci _ (if j = i then v1 else V j)
          by_cases h : j = i
          · subst h
            rw [if_pos rfl, if_pos rfl, ENA.out]
          · rw [if_neg h, if_neg h]
        have HTP : Hid (tot (fun k => ((X k : Nat) : Int)) P' i = tot (fun k => ((X k : Nat) : Int)) P i) := Lib.hid (tot_pts _ i fun j hj => by rw [hP']; exact if_neg (by omega))
        have HPI : Hid (P' i = P1) := Lib.hid (by rw [hP']; exact if_pos rfl)
        clear hV' hP'
        by_cases hbd : na < 1 ∨ 64 < na
        · have WR : Hid ((if na < 1 ∨ 64 < na then (11 : Int) else 0) = 11) := Lib.hid (if_pos hbd)
          have HBD := Lib.hid hbd
          clear hbd
          go_wp2_with (first
            | ((with_reducible apply lay_cell cellSb); (case hgd => exact rfl); (case ho => exact rfl); (case hx => exact rfl); (case hc => exact (HALL.out _ H.out.bel).2.2.1); intro _ _; go_simp)
            | ((with_reducible refine (wrong12_k (A i) _ _ _ WR.out).mono ?_); rintro e wc ⟨rfl, hb⟩; replace H := Lib.hid (H.out.call hb); replace TX := Lib.hid (TX.out.callq hb); clear hb))
          go_roundg gk9
          case rel => exact ⟨i + 1, V', P', rw, R, 11, by have := HI.out; omega, by go_num, rfl, HPN.out, HRR.out, .inr ⟨rfl, i, by omega, fun h => by (have := HBD.out; rw [ENA.out] at h; omega)⟩, HGQ.out _ TX.out, H.out.pop.pop⟩
          case measure => omega
        · have WR : Hid ((if na < 1 ∨ 64 < na then (11 : Int) else 0) = 0) := Lib.hid (if_neg hbd)
          have HBD := Lib.hid hbd
          clear hbd
          go_upto_region 15 with (first
            | ((with_reducible apply lay_cell cellSb); (case hgd => exact rfl); (case ho => exact rfl); (case hx => exact rfl); (case hc => exact (HALL.out _ H.out.bel).2.2.1); intro _ _; go_simp)
            | ((with_reducible refine (wrong12_k (A i) _ _ _ WR.out).mono ?_); rintro e wc ⟨rfl, hb⟩; replace H := Lib.hid (H.out.call hb); replace TX := Lib.hid (TX.out.callq hb); clear hb))
          refine wp_region_noPanic ?_
          refine wp_region_held_drew (S := fun W => W.cell? ⟨b, o + i * 3, none⟩ = some (.slice (A i) na (C i)) ∧ W.heap[g10]? = some (Blk 34 .i64 48 r1)) (by kernel_rfl) (⟨(HALL.out _ H.out.drew.bel).2.2.1, H.out.drew.row 0 rfl⟩) (fun hH => ?_)
          replace H := Lib.hid H.out.drew
          replace TX := Lib.hid TX.out.drew
          generalize World.drew _ = w8 at *
          refine held_value 1 65 (.slice (some ⟨b, o, none⟩) n c) rfl rfl (by kernel_rfl) (by kernel_rfl) (by kernel_rfl) rfl hH (fun w hw => by go_simp) ?_
          try simp only [Act.put, List.setIfInBounds_toArray, List.set_cons_zero, List.set_cons_succ]
          refine held_value 2 66 (.int .i64 (i : Int)) rfl rfl (by kernel_rfl) (by kernel_rfl) (by kernel_rfl) rfl hH (fun w hw => by go_simp) ?_
          try simp only [Act.put, List.setIfInBounds_toArray, List.set_cons_zero, List.set_cons_succ]
          refine held_value 3 67 (.pointer (some ⟨b, o + i * 3, none⟩)) rfl rfl (by kernel_rfl) (by kernel_rfl) (by kernel_rfl) rfl hH (fun w hw => by go_simp) ?_
          try simp only [Act.put, List.setIfInBounds_toArray, List.set_cons_zero, List.set_cons_succ]
          refine held_value 4 68 (.pointer (some ⟨b, o + i * 3, none⟩)) rfl rfl (by kernel_rfl) (by kernel_rfl) (by kernel_rfl) rfl hH (fun w hw => by go_simp) ?_
          try simp only [Act.put, List.setIfInBounds_toArray, List.set_cons_zero, List.set_cons_succ]
          refine held_cell 5 69 cellSb rfl rfl (by kernel_rfl) (by kernel_rfl) (by kernel_rfl) rfl hH rfl rfl (fun _ h => h.1) ?_
          try simp only [Act.put, List.setIfInBounds_toArray, List.set_cons_zero, List.set_cons_succ]
          refine held_row 6 70 rowQt rfl rfl (by kernel_rfl) (by kernel_rfl) (by kernel_rfl) rfl hH rfl rfl (fun _ h => h.2) ?_
          try simp only [Act.put, List.setIfInBounds_toArray, List.set_cons_zero, List.set_cons_succ]
          refine wpAnyH_ready (rs := [0, 7]) (by kernel_rfl) (by simp) ?_
          refine AllReadyH.cons (o := _) rfl (fun K hK => ?_) (AllReadyH.cons (o := _) rfl (fun K hK => ?_) AllReadyH.nil)
          · skip
            refine own_wp_load 64 rfl 2 rowQt H.out rfl rfl rfl ?_
            refine hK.out _ _ (hH) (fun hN => ?_)
            clear hK K hH
            have hH := hN
            clear hN
            try simp only [Act.put, List.setIfInBounds_toArray, List.set_cons_zero, List.set_cons_succ]
            refine wpAnyH_ready (rs := [7]) (by kernel_rfl) (by simp) ?_
            refine AllReadyH.cons (o := _) rfl (fun K hK => ?_) AllReadyH.nil
            go_simp
            refine (refTimes_k _ _ _ (X i) _ (by have := HBD.out; omega) (HALL.out _ H.out.bel).1 W1.out).mono ?_
            rintro e wd ⟨r71, rfl, hv, hb⟩
            replace TX := Lib.hid (TX.out.callq hb)
            replace H := Lib.hid (H.out.call hb)
            have HV71 := Lib.hid hv
            refine hK.out _ _ (⟨(HALL.out _ H.out.bel).2.2.1, H.out.row 0 rfl⟩) (fun hN => ?_)
            clear hK K hH hb hv
            have hH := hN
            clear hN
            try simp only [Act.put, List.setIfInBounds_toArray, List.set_cons_zero, List.set_cons_succ]
            refine wpAnyH_ready (rs := [8]) (by kernel_rfl) (by simp) ?_
            refine AllReadyH.cons (o := _) rfl (fun K hK => ?_) AllReadyH.nil
            go_simp
            refine (refPtAdd_k _ HRR.out HV71.out).mono ?_
            rintro e wd ⟨r72, rfl, hv, hb⟩
            replace TX := Lib.hid (TX.out.callq hb)
            replace H := Lib.hid (H.out.call hb)
            have HV72 := Lib.hid hv
            refine hK.out _ _ (⟨(HALL.out _ H.out.bel).2.2.1, H.out.row 0 rfl⟩) (fun hN => ?_)
            clear hK K hH hb hv
            have hH := hN
            clear hN
            try simp only [Act.put, List.setIfInBounds_toArray, List.set_cons_zero, List.set_cons_succ]
            refine wpAnyH_ready (rs := [9]) (by kernel_rfl) (by simp) ?_
            refine AllReadyH.cons (o := _) rfl (fun K hK => ?_) AllReadyH.nil
            refine own_stT12 2 rfl rowQt H.out rfl rfl rfl rfl ?_
            intro ws HS hts
            simp only [List.set_cons_zero, List.set_cons_succ] at HS
            replace H := Lib.hid HS
            replace TX := Lib.hid (TX.out.trans hts)
            refine hK.out _ _ (⟨(HALL.out _ H.out.bel).2.2.1, H.out.row 0 rfl⟩) (fun hN => ?_)
            clear hK K hH HS hts
            have hH := hN
            clear hN
            try simp only [Act.put, List.setIfInBounds_toArray, List.set_cons_zero, List.set_cons_succ]
            try simp only [List.setIfInBounds_toArray]
            try simp only [Act.put]
            refine wpAnyH_done (by kernel_rfl) ?_ _
            refine NoPanic.normal ?_
            clear hH
            have HEN : Hid ((ez = 0 ∧ (∀ j, j < i + 1 → 1 ≤ N j ∧ N j ≤ 64) ∧ padd edK R (pmul edK (X i) P1) = tot (fun k => ((X k : Nat) : Int)) P' (i + 1)) ∨ (ez = 11 ∧ ∃ j, j < i + 1 ∧ ¬ (1 ≤ N j ∧ N j ≤ 64))) := Lib.hid (by
              rcases HE.out with ⟨h1, h2, h3⟩ | ⟨h1, j, h2, h3⟩
              · refine .inl ⟨h1, fun j hj => ?_, ?_⟩
                · rcases (by omega : j < i ∨ j = i) with h | h
                  · exact h2 j h
                  · have h9 := HBD.out
                    rw [h, ENA.out]
                    omega
                · show _ = padd edK (tot _ P' i) (zml ((X i : Nat) : Int) (P' i))
                  rw [HTP.out, HPI.out, zml_nat, ← h3]
              · exact .inr ⟨h1, j, by omega, h3⟩)
            go_wp2_with fail
            go_roundg gk9
            case rel => exact ⟨i + 1, V', P', r72, _, ez, by have := HI.out; omega, by go_num, rfl, HPN.out, HV72.out, HEN.out, HGQ.out _ TX.out, H.out.pop.pop⟩
            case measure => omega
          · skip
            go_simp
            refine (refTimes_k _ _ _ (X i) _ (by have := HBD.out; omega) (HALL.out _ H.out.bel).1 W1.out).mono ?_
            rintro e wd ⟨r71, rfl, hv, hb⟩
            replace TX := Lib.hid (TX.out.callq hb)
            replace H := Lib.hid (H.out.call hb)
            have HV71 := Lib.hid hv
            refine hK.out _ _ (⟨(HALL.out _ H.out.bel).2.2.1, H.out.row 0 rfl⟩) (fun hN => ?_)
            clear hK K hH hb hv
            have hH := hN
            clear hN
            try simp only [Act.put, List.setIfInBounds_toArray, List.set_cons_zero, List.set_cons_succ]
            refine wpAnyH_ready (rs := [0]) (by kernel_rfl) (by simp) ?_
            refine AllReadyH.cons (o := _) rfl (fun K hK => ?_) AllReadyH.nil
            refine own_wp_load 64 rfl 2 rowQt H.out rfl rfl rfl ?_
            refine hK.out _ _ (hH) (fun hN => ?_)
            clear hK K hH
            have hH := hN
            clear hN
            try simp only [Act.put, List.setIfInBounds_toArray, List.set_cons_zero, List.set_cons_succ]
            refine wpAnyH_ready (rs := [8]) (by kernel_rfl) (by simp) ?_
            refine AllReadyH.cons (o := _) rfl (fun K hK => ?_) AllReadyH.nil
            go_simp
            refine (refPtAdd_k _ HRR.out HV71.out).mono ?_
            rintro e wd ⟨r72, rfl, hv, hb⟩
            replace TX := Lib.hid (TX.out.callq hb)
            replace H := Lib.hid (H.out.call hb)
            have HV72 := Lib.hid hv
            refine hK.out _ _ (⟨(HALL.out _ H.out.bel).2.2.1, H.out.row 0 rfl⟩) (fun hN => ?_)
            clear hK K hH hb hv
            have hH := hN
            clear hN
            try simp only [Act.put, List.setIfInBounds_toArray, List.set_cons_zero, List.set_cons_succ]
            refine wpAnyH_ready (rs := [9]) (by kernel_rfl) (by simp) ?_
            refine AllReadyH.cons (o := _) rfl (fun K hK => ?_) AllReadyH.nil
            refine own_stT12 2 rfl rowQt H.out rfl rfl rfl rfl ?_
            intro ws HS hts
            simp only [List.set_cons_zero, List.set_cons_succ] at HS
            replace H := Lib.hid HS
            replace TX := Lib.hid (TX.out.trans hts)
            refine hK.out _ _ (⟨(HALL.out _ H.out.bel).2.2.1, H.out.row 0 rfl⟩) (fun hN => ?_)
            clear hK K hH HS hts
            have hH := hN
            clear hN
            try simp only [Act.put, List.setIfInBounds_toArray, List.set_cons_zero, List.set_cons_succ]
            try simp only [List.setIfInBounds_toArray]
            try simp only [Act.put]
            refine wpAnyH_done (by kernel_rfl) ?_ _
            refine NoPanic.normal ?_
            clear hH
            have HEN : Hid ((ez = 0 ∧ (∀ j, j < i + 1 → 1 ≤ N j ∧ N j ≤ 64) ∧ padd edK R (pmul edK (X i) P1) = tot (fun k => ((X k : Nat) : Int)) P' (i + 1)) ∨ (ez = 11 ∧ ∃ j, j < i + 1 ∧ ¬ (1 ≤ N j ∧ N j ≤ 64))) := Lib.hid (by
              rcases HE.out with ⟨h1, h2, h3⟩ | ⟨h1, j, h2, h3⟩
              · refine .inl ⟨h1, fun j hj => ?_, ?_⟩
                · rcases (by omega : j < i ∨ j = i) with h | h
                  · exact h2 j h
                  · have h9 := HBD.out
                    rw [h, ENA.out]
                    omega
                · show _ = padd edK (tot _ P' i) (zml ((X i : Nat) : Int) (P' i))
                  rw [HTP.out, HPI.out, zml_nat, ← h3]
              · exact .inr ⟨h1, j, by omega, h3⟩)
            go_wp2_with fail
            go_roundg gk9
            case rel => exact ⟨i + 1, V', P', r72, _, ez, by have := HI.out; omega, by go_num, rfl, HPN.out, HV72.out, HEN.out, HGQ.out _ TX.out, H.out.pop.pop⟩
            case measure => omega
    | zero =>
      obtain rfl : i = n := by omega
      have hid : decide ((i : Int) < (i : Int)) = false := by simp
      have hid' : decide (i < i) = false := by simp
      have H := HO
      clear hi HO
      obtain ⟨wS, hwS⟩ : ∃ wS, wS = wr := ⟨_, rfl⟩
      subst hwS
      obtain ⟨v5, hv5⟩ : ∃ v5, v5 = u5 := ⟨_, rfl⟩
      subst hv5
      have HSX : Hid (∀ j, j < i → Sb wS wS.heap.size (A j) (N j) (C j) (X j)) := Lib.hid fun j hj => by
        obtain ⟨_, _, _, _, _, _, _, hall⟩ := HON.out.get j hj
        exact (hall _ HBW.out).1
      cases q with
      | false =>
        obtain ⟨a9, c9, rfl, hgr⟩ := HG.out.grid
        have HGR := Lib.hid hgr
        clear HG hgr
        go_wp2_with fail
        go_loopg [5, 7] 0 (fun _ v5 v7 w2 => v5 = .slice a9 i c9 ∧ v7 = .int .i64 ez ∧ w2 = wS)
        case atStart => exact ⟨rfl, rfl, rfl⟩
        case round =>
          obtain ⟨rfl, rfl, rfl⟩ := hrel
          rcases HE.out with ⟨rfl, hg, hR⟩ | ⟨rfl, hbd⟩
          · have HGD := Lib.hid hg
            have HRT := Lib.hid (HRR.out.eq hR)
            clear HE HRR hg hR
            go_wp2_with (first
              | ((fail_if_success have := V9); (with_reducible refine (sum_k (A := A) (N := N) (C := C) (V := V) (X := X) (P := P) _ (HT.out.below H.out.bel) HGR.out (by have := HN5.out; omega) HGD.out HSX.out HP.out).mono ?_); rintro e wc ⟨k9, rfl, hv, hb⟩; replace H := Lib.hid (H.out.call hb); have V9 := Lib.hid hv; clear hb hv)
              | ((fail_if_success have := g12); (fail_if_success have := g12); (with_reducible apply own_alloc nilPt H); (case hgd => exact rfl); (case ho => exact rfl); intro w12 g12 H' _ _; replace H := H'; clear H'; go_simp)
              | ((with_reducible apply own_store rowPt H); (case hgd => exact rfl); (case ho => exact rfl); (case hx => exact rfl); (case hy => exact rfl); (case hi => first | exact at0 | exact at1 | exact at2 | exact at3 | exact at4 | exact at5 | exact at6 | exact at7 | exact at8 | exact at9); intro ws H' _ _; replace H := H'; clear H'; simp only [List.set_cons_zero] at H; go_simp)
              | ((with_reducible apply own_loadg rowPt H); (case hw => exact rfl); (case ho => exact rfl); (case hx => exact rfl); (case hi => first | exact at0 | exact at1 | exact at2 | exact at3 | exact at4 | exact at5 | exact at6 | exact at7 | exact at8 | exact at9); intro _ _; go_simp)
              | ((with_reducible apply own_loadg rowQt H); (case hw => exact rfl); (case ho => exact rfl); (case hx => exact rfl); (case hi => first | exact at0 | exact at1 | exact at2 | exact at3 | exact at4 | exact at5 | exact at6 | exact at7 | exact at8 | exact at9); intro _ _; go_simp)
              | ((with_reducible refine (same11_k _ V9.out HRT.out).mono ?_); rintro e wc ⟨rfl, hb⟩; replace H := Lib.hid (H.out.call hb); clear hb)
              | ((with_reducible refine cd_skip ?hw ?h); (case hw => exact rfl); intro _ _; go_simp)
              | ((with_reducible refine (awake12_k _ (HT.out.below H.out.bel)).mono ?_); rintro e wc ⟨rfl, hb⟩; replace H := Lib.hid (H.out.call hb); clear hb))
            go_ret
            exact ⟨rfl, H.out.bel⟩
          · have HBD : Hid (¬ (i ≤ 16 ∧ ∀ j, j < i → 1 ≤ N j ∧ N j ≤ 64)) := Lib.hid fun h => by
              obtain ⟨j, hj, hn⟩ := hbd
              exact hn (h.2 j hj)
            clear HE hbd
            go_wp2_with (first
              | ((fail_if_success have := k9); (with_reducible refine (sum_bad (A := A) (N := N) (C := C) (V := V) _ (HT.out.below H.out.bel) HGR.out (by have := HN5.out; omega) HBD.out).mono ?_); rintro e wc ⟨k9, rfl, hb⟩; replace H := Lib.hid (H.out.call hb); clear hb)
              | ((fail_if_success have := g12); (fail_if_success have := g12); (with_reducible apply own_alloc nilPt H); (case hgd => exact rfl); (case ho => exact rfl); intro w12 g12 H' _ _; replace H := H'; clear H'; go_simp)
              | ((with_reducible apply own_store rowPt H); (case hgd => exact rfl); (case ho => exact rfl); (case hx => exact rfl); (case hy => exact rfl); (case hi => first | exact at0 | exact at1 | exact at2 | exact at3 | exact at4 | exact at5 | exact at6 | exact at7 | exact at8 | exact at9); intro ws H' _ _; replace H := H'; clear H'; simp only [List.set_cons_zero] at H; go_simp)
              | ((with_reducible refine cd_skip ?hw ?h); (case hw => exact rfl); intro _ _; go_simp)
              | ((with_reducible refine (awake12_k _ (HT.out.below H.out.bel)).mono ?_); rintro e wc ⟨rfl, hb⟩; replace H := Lib.hid (H.out.call hb); clear hb))
            go_ret
            exact ⟨rfl, H.out.bel⟩
      | true =>
        go_wp2_with fail
        go_loopg [5, 7] (17 - i) (fun gk v5 v7 w2 => ∃ (m : Nat) (A' : Nat → Option Addr) (N' C' : Nat → Nat) (V' : Nat → Nat → Int) (e2 : Int), m + gk = 17 ∧ i ≤ m ∧ v7 = .int .i64 e2 ∧ (i < m → e2 = 11) ∧ OwnG w2 (g6 + 1) 60 25 v5 m (fun j => sci (.slice (A' j) (N' j) (C' j)) (V' j)) ∧ Ow w w2 [(g6, Blk 34 .i64 48 rw)])
        case atStart => exact ⟨i, A, N, C, V, ez, by have := HN5.out; omega, Nat.le_refl _, rfl, fun h => absurd h (Nat.lt_irrefl _), HG.out, H.out⟩
        case round =>
          clear H HG HBW HE HRR HP HSX
          obtain ⟨m, A', N', C', V', e2, hm, him, rfl, he2, hG, hO⟩ := hrel
          obtain ⟨a9, c9, rfl, hgr⟩ := hG.grid
          have HG := Lib.hid hG
          have HGR := Lib.hid hgr
          have HO := Lib.hid hO
          have HBW := Lib.hid hO.bel
          clear hG hgr hO
          cases gk with
          | zero =>
            obtain rfl : m = 17 := by omega
            obtain rfl : e2 = 11 := he2 (by have := HN5.out; omega)
            have HBD : Hid (¬ (17 ≤ 16 ∧ ∀ j, j < 17 → 1 ≤ N' j ∧ N' j ≤ 64)) := Lib.hid fun h => by have := h.1; omega
            have hid2 : decide (((17 : Nat) : Int) < 17) = false := by decide
            have H := HO
            clear HO he2 him hm HG
            go_wp2_with (first
              | ((fail_if_success have := k9); (with_reducible refine (sum_bad (A := A') (N := N') (C := C') (V := V') _ (HT.out.below H.out.bel) HGR.out (by have := HN5.out; omega) HBD.out).mono ?_); rintro e wc ⟨k9, rfl, hb⟩; replace H := Lib.hid (H.out.call hb); clear hb)
              | ((fail_if_success have := g12); (fail_if_success have := g12); (with_reducible apply own_alloc nilPt H); (case hgd => exact rfl); (case ho => exact rfl); intro w12 g12 H' _ _; replace H := H'; clear H'; go_simp)
              | ((with_reducible apply own_store rowPt H); (case hgd => exact rfl); (case ho => exact rfl); (case hx => exact rfl); (case hy => exact rfl); (case hi => first | exact at0 | exact at1 | exact at2 | exact at3 | exact at4 | exact at5 | exact at6 | exact at7 | exact at8 | exact at9); intro ws H' _ _; replace H := H'; clear H'; simp only [List.set_cons_zero] at H; go_simp)
              | ((with_reducible refine cd_skip ?hw ?h); (case hw => exact rfl); intro _ _; go_simp)
              | ((with_reducible refine (awake12_k _ (HT.out.below H.out.bel)).mono ?_); rintro e wc ⟨rfl, hb⟩; replace H := Lib.hid (H.out.call hb); clear hb))
            go_ret
            exact ⟨rfl, H.out.bel⟩
          | succ gk9 =>
            have hid2 : decide ((m : Int) < 17) = true := by (simp; omega)
            have m17 : (m : Int) < 17 := by omega
            have HM := Lib.hid (show m + (gk9 + 1) = 17 ∧ i ≤ m from ⟨hm, him⟩)
            have H := Lib.hid (Ow.start wr)
            clear hm him he2 HGR
            go_wp2_with (first
              | ((fail_if_success have := gb); (with_reducible apply lay_b1 (x := 0) H); (case hgd => exact rfl); (case ho => exact rfl); (case h0 => exact rfl); intro wb gb H' _ _; replace H := H'; clear H'; go_simp)
              | ((fail_if_success have := V0); (with_reducible refine (identity_k _ (HT.out.below (HBW.out.trans (H.out.bel.mono HBW.out.size)))).mono ?_); rintro e wc ⟨k0, rfl, hv, hb⟩; replace H := Lib.hid (H.out.call hb); have V0 := Lib.hid hv; clear hb hv)
              | ((with_reducible apply lay_build_tm); (case hgd => exact rfl); (case ho => exact rfl); (case hx => exact rfl); (case hy => exact rfl); intro _ _; go_simp)
              | ((fail_if_success have := gt); (with_reducible apply own_build1G Tryz.underlying55 infoTm (by omega) (by omega) H); (case hgd => exact rfl); (case ho => exact rfl); (case hx => exact rfl); intro wt gt H' _ _; replace H := H'; clear H'; go_simp)
              | ((fail_if_success have := HGN); (with_reducible apply lay_appG Tryz.underlying55 infoTm (by omega) (by omega) (Lib.hid (HG.out.call H.out.bel)) (Nat.le_trans (lt_row (HO.out.row 0 rfl)) H.out.bel.size)); (case hd => exact rfl); (case hgd => exact rfl); (case ho => exact rfl); (case hx => exact rfl); (case hy => exact rfl); (case hr => exact H.out.row 0 rfl); (case h1 => exact fun j _ => sci_one rfl _ j); (case hn => omega); intro v' wn HG' ht _ _; have HGN := HG'; have HO3 := Lib.hid ((HO.out.call H.out.bel).turn ht.out (fun j h1 => HG.out.own_ne (.inl (by have := HB6w.out; omega))) (fun x hx => by simp at hx; subst hx; exact HG.out.own_ne (.inl (by show g6 < g6 + 1; omega)))); clear H HG' ht; go_simp)
              | ((with_reducible refine cd_skip ?hw ?h); (case hw => exact rfl); intro _ _; go_simp))
            go_roundg gk9
            case rel => exact ⟨m + 1, fun j => if j = m then some ⟨gb, 0, none⟩ else A' j, fun j => if j = m then 1 else N' j, fun j => if j = m then 1 else C' j, fun j => if j = m then k0 else V' j, 11, by have := HM.out; omega, by have := HM.out; omega, rfl, fun _ => rfl, HGN.out.congr (by omega) fun j _ => by
              by_cases h : j = m
              · subst h
                simp only [↓reduceIte]
              · simp only [if_neg h], HO3.out⟩
            case measure => omega
theorem msums_walk {a : Option Addr} {n c : Nat} {A : Nat → Option Addr} {N C X K : Nat → Nat} {Z : Nat → Int} (q : Bool) (w : World) (hT : Tp w) (hs : Ones w w.heap.size a n c A N C X K Z) :
    Calls Tryz.prog 6 #[.slice a n c, .bool q] w fun e w' => e = .returned (.bool true) ∧ Below w.heap.size w w' := by
  by_cases h : 5 < n
  · exact msums_many q w hT hs h
  · exact msums_few q w hT hs (by omega)
end Go.Proofs.YtkkmjlkeohkgnaaGreatDoor
