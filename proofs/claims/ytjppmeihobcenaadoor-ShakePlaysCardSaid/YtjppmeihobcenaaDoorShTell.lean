/-
  The contract of tell.
-/
import Derived.Test.YtjppmeihobcenaaDoorShFill
namespace Go.Proofs.YtjppmeihobcenaaDoor
open Go.RowKit

/-- What tell leaves: n bytes in a row of its own, and the hash behind them. -/
def Told (w : World) (g : Nat) (h : HS) (n : Nat) (v : Value) (w' : World) : Prop :=
  ∃ b, v = .slice (some ⟨b, 0, none⟩) n n ∧ w.heap.size ≤ b ∧ RowB w' b n (tellB h.opened) ∧ Hs w g w' (tellS h.opened n)

set_option maxHeartbeats 3200000 in
set_option maxRecDepth 100000 in
theorem tell_any (g : Nat) (h : HS) (n : Nat) (w : World) (hT : Tabs w) (h2 : 2 ≤ g) (hg : Lies w g h) (hk : h.k ≤ 136) (hl : h.tl = false → h.k < 136) (hn : n ≤ 65536) :
    Calls Tryd.prog 26 #[.pointer (some ⟨g, 0, none⟩), .int .i64 n] w fun e w' => ∃ v, e = .returned v ∧ Told w g h n v w' := by
  have hgl := hg.lt
  have hct := hg.t
  have HT := Lib.hid hT
  have hX := opened_k h hk hl
  obtain ⟨X, hXd⟩ : ∃ X, h.opened = X := ⟨_, rfl⟩
  rw [hXd] at hX
  have HX := Lib.hid hXd
  clear hXd
  have n0 : (n : Int) ≤ 65536 := by omega
  cases htl : h.tl with
  | true =>
    rw [htl] at hct
    have H1 := Lib.hid ((Hs.start hg).eq (show h = X from by rw [← HX.out]; unfold HS.opened; rw [htl]; rfl))
    clear hl hg hT
    go_enter Tryd.func26, Tryd.ntmps26
    go_wp2_with ((with_reducible apply lay_make (l := 0)); (case hgd => exact rfl); (case ho => exact rfl); (case hx => exact rfl); (case hy => exact rfl); (case hl => exact Nat.zero_le _); (case hc => exact hn); intro _ _; go_simp)
    have hbz : w.heap.size ≤ w.heap.size := H1.out.size
    have hm0 := H1.out.alloc (.cells (AB n fun _ => 0) 5)
    have hr0 : RowB (w.alloc (.cells (AB n fun _ => 0) 5)) w.heap.size n (fun _ => 0) := row1 _ _
    generalize w.alloc (.cells (AB n fun _ => 0) 5) = wm at hm0 hr0 ⊢
    clear H1 hct
    go_loopg [5] n (fun gk s5 wr => ∃ (m : Nat) (f : Nat → BitVec 8), m + gk = n ∧ s5 = .slice (some ⟨w.heap.size, 0, none⟩) m n ∧ RowB wr w.heap.size n f ∧ (∀ i, i < m → f i = tellB X i) ∧ Hs w g wr (tellS X m))
    case atStart => exact ⟨0, fun _ => 0, by omega, rfl, hr0, fun i hi => by omega, hm0⟩
    case round =>
      clear hm0 hr0
      obtain ⟨r, rfl⟩ : ∃ r, r = gk := ⟨_, rfl⟩
      obtain ⟨m, f, hmg, rfl, hrow, hf, hs⟩ := hrel
      by_cases hr : r = 0
      · have hmn : m = n := by omega
        subst hmn
        have HY := Lib.hid hs
        have Ry := Lib.hid (hrow.congr hf)
        clear hs hrow hf
        go_wp2_with fail
        go_ret
        exact ⟨_, rfl, w.heap.size, rfl, hbz, by rw [HX.out]; exact Ry.out, by rw [HX.out]; exact HY.out⟩
      · have hmn : (m : Int) < (n : Int) := by omega
        obtain ⟨Z, hZ⟩ : ∃ Z, tellS X m = Z := ⟨_, rfl⟩
        have hck := hs.row.k
        rw [hZ] at hck hs
        have Ry := Lib.hid hrow
        have HZd := Lib.hid hZ
        clear hZ hrow
        by_cases h136 : Z.k = 136
        · rw [h136] at hck
          have HZ := Lib.hid hs
          have H136 := Lib.hid h136
          clear hs h136
          go_wp2_with ((with_reducible apply lay_load_s); (case hgd => exact rfl); (case ho => exact rfl); (case hx => exact rfl); (case hg => exact HZ.out.row); intro _ _; go_simp)
          refine (perm_any Z.s _ (HZ.out.tabs h2 HT.out)).mono ?_
          rintro e w2 ⟨rfl, hb⟩
          have HZ2 := Lib.hid (HZ.out.call hb)
          have Ry2 := Lib.hid (Ry.out.below hb)
          clear hb HZ Ry
          go_upto_region 7 with (first
            | ((with_reducible apply lay_store_s); (case hgd => exact rfl); (case ho => exact rfl); (case hx => exact rfl); (case hy => exact rfl); (case hg => exact HZ2.out.row); intro _ _; go_simp)
            | ((with_reducible apply lay_store_k (n := 0)); (case hgd => exact rfl); (case ho => exact rfl); (case hx => exact rfl); (case hy => exact rfl); (case hg => exact (HZ2.out.set _).row); intro _ _; go_simp))
          obtain ⟨Y, hYd⟩ : ∃ Y, Z.fresh = Y := ⟨_, rfl⟩
          have hy3 := ((HZ2.out.set ⟨permF Z.s, Z.b, Z.k, Z.tl⟩).set ⟨permF Z.s, Z.b, 0, Z.tl⟩).eq (show _ = Y from by rw [← hYd]; unfold HS.fresh; rw [if_pos H136.out])
          have hr3 := (Ry2.out.hs (Hs.set (Hs.start HZ2.out.row) ⟨permF Z.s, Z.b, Z.k, Z.tl⟩) (by omega)).hs (Hs.set (Hs.set (Hs.start HZ2.out.row) ⟨permF Z.s, Z.b, Z.k, Z.tl⟩) ⟨permF Z.s, Z.b, 0, Z.tl⟩ |>.row |> fun _ => Hs.set (Hs.start (Hs.set (Hs.start HZ2.out.row) ⟨permF Z.s, Z.b, Z.k, Z.tl⟩).row) ⟨permF Z.s, Z.b, 0, Z.tl⟩) (by omega)
          have HYd := Lib.hid (show (tellS X m).fresh = Y from by rw [HZd.out]; exact hYd)
          clear hYd HZ2 Ry2 hck
          generalize (w2.setRow g (HB ⟨permF Z.s, Z.b, Z.k, Z.tl⟩)).setRow g (HB ⟨permF Z.s, Z.b, 0, Z.tl⟩) = wy at hy3 hr3 ⊢
          have HY := Lib.hid hy3
          have Ry := Lib.hid hr3
          clear hy3 hr3
          have hYk : Y.k < 136 := by rw [← HYd.out]; exact fresh_k _ (tellS_k X hX m)
          obtain ⟨k, hkk⟩ : ∃ k, Y.k = k := ⟨_, rfl⟩
          have HK := Lib.hid hkk
          rw [hkk] at hYk
          have hck2 := HY.out.row.k
          rw [hkk] at hck2
          clear hkk
          obtain ⟨j, hjd⟩ : ∃ j, k + r = j := ⟨_, rfl⟩
          have hj : (k : Int) + (n : Int) - (m : Int) = (j : Int) := by omega
          have HJ := Lib.hid hjd
          have k200 : ¬ (200 = k) := by omega
          have mn : (m : Int) ≤ (n : Int) := by omega
          have k1 : (k : Int) < 136 := by omega
          have k3 : (k : Int) ≤ 136 := by omega
          have k4 : k ≤ 136 := by omega
          have k2 : ((k : Int) == 136) = false := by simp; omega
          have hw1 : IntKind.i64.wrap ((k : Int) + (n : Int)) = (k : Int) + (n : Int) := IntWalk.i64_in _ (by omega)
          have hw3 : IntKind.i64.wrap (j : Int) = (j : Int) := IntWalk.i64_in _ (by omega)
          by_cases hle : 136 ≤ j
          · have hle1 : (136 : Int) ≤ (j : Int) := by omega
            obtain ⟨c, hc⟩ : ∃ c, k + c = 136 := ⟨136 - k, by omega⟩
            have hcn : 136 - k = c := by omega
            go_wp2_with fail
            refine wp_region_noPanic ?_
            refine wp_region_held_drew (S := fun W => Hs w g W Y) (by kernel_rfl) HY.out.drew (fun hH => ?_)
            have Rd := Lib.hid Ry.out.drew
            clear HY Ry
            generalize wy.drew = wd at *
            refine held_value 0 46 (.slice (some ⟨w.heap.size, 0, none⟩) m n) rfl rfl (by kernel_rfl) (by kernel_rfl) (by kernel_rfl) rfl hH (fun w hw => by go_simp) ?_
            simp only [Act.put, List.setIfInBounds_toArray, List.set_cons_zero, List.set_cons_succ]
            refine held_value 1 47 (.pointer (some ⟨g, 0, none⟩)) rfl rfl (by kernel_rfl) (by kernel_rfl) (by kernel_rfl) rfl hH (fun w hw => by go_simp) ?_
            simp only [Act.put, List.setIfInBounds_toArray, List.set_cons_zero, List.set_cons_succ]
            refine held_value 2 48 (.pointer (some ⟨g, 0, none⟩)) rfl rfl (by kernel_rfl) (by kernel_rfl) (by kernel_rfl) rfl hH (fun w hw => by go_simp) ?_
            simp only [Act.put, List.setIfInBounds_toArray, List.set_cons_zero, List.set_cons_succ]
            refine held_value 3 49 (.pointer (some ⟨g, 0, none⟩)) rfl rfl (by kernel_rfl) (by kernel_rfl) (by kernel_rfl) rfl hH (fun w hw => by go_simp) ?_
            simp only [Act.put, List.setIfInBounds_toArray, List.set_cons_zero, List.set_cons_succ]
            refine held_load_s 4 50 rfl rfl (by kernel_rfl) (by kernel_rfl) (by kernel_rfl) rfl hH rfl rfl (fun _ h => h.row) ?_
            simp only [Act.put, List.setIfInBounds_toArray, List.set_cons_zero, List.set_cons_succ]
            refine held_value 6 52 (.pointer (some ⟨g, 0, none⟩)) rfl rfl (by kernel_rfl) (by kernel_rfl) (by kernel_rfl) rfl hH (fun w hw => by go_simp) ?_
            simp only [Act.put, List.setIfInBounds_toArray, List.set_cons_zero, List.set_cons_succ]
            refine held_value 7 53 (.pointer (some ⟨g, 0, none⟩)) rfl rfl (by kernel_rfl) (by kernel_rfl) (by kernel_rfl) rfl hH (fun w hw => by go_simp) ?_
            simp only [Act.put, List.setIfInBounds_toArray, List.set_cons_zero, List.set_cons_succ]
            refine held_value 8 54 (.pointer (some ⟨g, 161, none⟩)) rfl rfl (by kernel_rfl) (by kernel_rfl) (by kernel_rfl) rfl hH (fun w hw => by go_simp) ?_
            simp only [Act.put, List.setIfInBounds_toArray, List.set_cons_zero, List.set_cons_succ]
            refine held_value 9 55 (.int .i64 (k : Int)) rfl rfl (by kernel_rfl) (by kernel_rfl) (by kernel_rfl) rfl hH (fun w hw => by have hq := hw.row.k; rw [HK.out] at hq; go_simp) ?_
            simp only [Act.put, List.setIfInBounds_toArray, List.set_cons_zero, List.set_cons_succ]
            refine held_value 10 56 (.int .i64 136) rfl rfl (by kernel_rfl) (by kernel_rfl) (by kernel_rfl) rfl hH (fun w hw => by go_simp) ?_
            simp only [Act.put, List.setIfInBounds_toArray, List.set_cons_zero, List.set_cons_succ]
            refine wpAnyH_ready (rs := [5]) (by kernel_rfl) (by simp) ?_
            refine AllReadyH.cons (o := _) rfl (fun K hK => ?_) AllReadyH.nil
            go_simp
            refine (bytes_any Y.s _).mono ?_
            rintro e w3 ⟨rfl, ht⟩
            have R3 := Lib.hid (Rd.out.below ht.bel)
            have B3 := Lib.hid ht.r2
            refine hK.out _ _ (hH.call ht.bel) (fun hN => ?_)
            clear hK K hH ht Rd
            have hH := hN
            clear hN
            try simp only [Act.put, List.setIfInBounds_toArray, List.set_cons_zero, List.set_cons_succ]
            obtain ⟨bx, hbx⟩ : ∃ bx, wd.heap.size + 1 = bx := ⟨_, rfl⟩
            rw [hbx] at B3 ⊢
            clear hbx
            refine held_value 11 57 (.slice (some ⟨bx, k, none⟩) c (200 - k)) rfl rfl (by kernel_rfl) (by kernel_rfl) (by kernel_rfl) rfl hH (fun w hw => by go_simp) ?_
            simp only [Act.put, List.setIfInBounds_toArray, List.set_cons_zero, List.set_cons_succ]
            refine wpAnyH_ready (rs := [12]) (by kernel_rfl) (by simp) ?_
            refine AllReadyH.cons (o := _) rfl (fun K hK => ?_) AllReadyH.nil
            refine want rfl ?_
            refine wp_append_room (f2 := fun i => bytesF Y.s (k + i)) 58 rfl rfl rfl rfl R3.out (fun i hi => by rw [cell_of_row _ _ _ _ _ _ B3.out, AB_get _ _ _ (by omega)]) (by omega) ?_
            refine hK.out _ _ (hH.setOther w.heap.size _ hbz (by omega)) (fun hN => ?_)
            clear hK K hH
            have hH := hN
            clear hN
            try simp only [Act.put, List.setIfInBounds_toArray, List.set_cons_zero, List.set_cons_succ]
            have R4 := Lib.hid (show RowB (w3.setRow w.heap.size (AB n (ov f m c fun i => bytesF Y.s (k + i)))) w.heap.size n (ov f m c fun i => bytesF Y.s (k + i)) from setRow_heap _ _ _ _ _ _ R3.out)
            clear R3 B3
            generalize w3.setRow w.heap.size (AB n (ov f m c fun i => bytesF Y.s (k + i))) = w4 at *
            refine held_value 13 5 (.slice (some ⟨w.heap.size, 0, none⟩) (m + c) n) rfl rfl (by kernel_rfl) (by kernel_rfl) (by kernel_rfl) rfl hH (fun w hw => by go_simp) ?_
            simp only [Act.put, List.setIfInBounds_toArray, List.set_cons_zero, List.set_cons_succ]
            refine wpAnyH_done (by kernel_rfl) ?_ _
            refine NoPanic.normal ?_
            have H4 := Lib.hid hH
            clear hH
            go_wp2_with ((with_reducible apply lay_store_k (n := 136)); (case hgd => exact rfl); (case ho => exact rfl); (case hx => exact rfl); (case hy => exact rfl); (case hg => exact H4.out.row); intro _ _; go_simp)
            go_roundg (r - c)
            case measure => omega
            case rel =>
              refine ⟨m + c, ov f m c fun i => bytesF Y.s (k + i), by omega, by first | rfl | rw [hmg], R4.out.hs (Hs.set (Hs.start H4.out.row) _) (by omega), fun i hi => ?_, (H4.out.set _).eq ?_⟩
              · unfold ov
                by_cases hi2 : i < m
                · rw [if_neg (by omega), hf i hi2]
                · rw [if_pos (by omega)]
                  have h5 := tellB_round X m c (i - m) hX (by omega) (by rw [HYd.out, HK.out]; omega)
                  rw [HYd.out, HK.out, show m + (i - m) = i by omega] at h5
                  exact h5.symm
              · rw [tellS_round X m c hX (by omega) (by rw [HYd.out, HK.out]; omega), HYd.out]
                unfold HS.on
                rw [HK.out, show k + c = 136 by omega]
          · have hle1 : ¬ ((136 : Int) ≤ (j : Int)) := by omega
            have hkj : (k : Int) ≤ (j : Int) := by omega
            have hj2 : (j : Int) ≤ 200 := by omega
            have hcn : j - k = r := by omega
            go_wp2_with fail
            refine wp_region_noPanic ?_
            refine wp_region_held_drew (S := fun W => Hs w g W Y) (by kernel_rfl) HY.out.drew (fun hH => ?_)
            have Rd := Lib.hid Ry.out.drew
            clear HY Ry
            generalize wy.drew = wd at *
            refine held_value 0 46 (.slice (some ⟨w.heap.size, 0, none⟩) m n) rfl rfl (by kernel_rfl) (by kernel_rfl) (by kernel_rfl) rfl hH (fun w hw => by go_simp) ?_
            simp only [Act.put, List.setIfInBounds_toArray, List.set_cons_zero, List.set_cons_succ]
            refine held_value 1 47 (.pointer (some ⟨g, 0, none⟩)) rfl rfl (by kernel_rfl) (by kernel_rfl) (by kernel_rfl) rfl hH (fun w hw => by go_simp) ?_
            simp only [Act.put, List.setIfInBounds_toArray, List.set_cons_zero, List.set_cons_succ]
            refine held_value 2 48 (.pointer (some ⟨g, 0, none⟩)) rfl rfl (by kernel_rfl) (by kernel_rfl) (by kernel_rfl) rfl hH (fun w hw => by go_simp) ?_
            simp only [Act.put, List.setIfInBounds_toArray, List.set_cons_zero, List.set_cons_succ]
            refine held_value 3 49 (.pointer (some ⟨g, 0, none⟩)) rfl rfl (by kernel_rfl) (by kernel_rfl) (by kernel_rfl) rfl hH (fun w hw => by go_simp) ?_
            simp only [Act.put, List.setIfInBounds_toArray, List.set_cons_zero, List.set_cons_succ]
            refine held_load_s 4 50 rfl rfl (by kernel_rfl) (by kernel_rfl) (by kernel_rfl) rfl hH rfl rfl (fun _ h => h.row) ?_
            simp only [Act.put, List.setIfInBounds_toArray, List.set_cons_zero, List.set_cons_succ]
            refine held_value 6 52 (.pointer (some ⟨g, 0, none⟩)) rfl rfl (by kernel_rfl) (by kernel_rfl) (by kernel_rfl) rfl hH (fun w hw => by go_simp) ?_
            simp only [Act.put, List.setIfInBounds_toArray, List.set_cons_zero, List.set_cons_succ]
            refine held_value 7 53 (.pointer (some ⟨g, 0, none⟩)) rfl rfl (by kernel_rfl) (by kernel_rfl) (by kernel_rfl) rfl hH (fun w hw => by go_simp) ?_
            simp only [Act.put, List.setIfInBounds_toArray, List.set_cons_zero, List.set_cons_succ]
            refine held_value 8 54 (.pointer (some ⟨g, 161, none⟩)) rfl rfl (by kernel_rfl) (by kernel_rfl) (by kernel_rfl) rfl hH (fun w hw => by go_simp) ?_
            simp only [Act.put, List.setIfInBounds_toArray, List.set_cons_zero, List.set_cons_succ]
            refine held_value 9 55 (.int .i64 (k : Int)) rfl rfl (by kernel_rfl) (by kernel_rfl) (by kernel_rfl) rfl hH (fun w hw => by have hq := hw.row.k; rw [HK.out] at hq; go_simp) ?_
            simp only [Act.put, List.setIfInBounds_toArray, List.set_cons_zero, List.set_cons_succ]
            refine held_value 10 56 (.int .i64 (j : Int)) rfl rfl (by kernel_rfl) (by kernel_rfl) (by kernel_rfl) rfl hH (fun w hw => by go_simp) ?_
            simp only [Act.put, List.setIfInBounds_toArray, List.set_cons_zero, List.set_cons_succ]
            refine wpAnyH_ready (rs := [5]) (by kernel_rfl) (by simp) ?_
            refine AllReadyH.cons (o := _) rfl (fun K hK => ?_) AllReadyH.nil
            go_simp
            refine (bytes_any Y.s _).mono ?_
            rintro e w3 ⟨rfl, ht⟩
            have R3 := Lib.hid (Rd.out.below ht.bel)
            have B3 := Lib.hid ht.r2
            refine hK.out _ _ (hH.call ht.bel) (fun hN => ?_)
            clear hK K hH ht Rd
            have hH := hN
            clear hN
            try simp only [Act.put, List.setIfInBounds_toArray, List.set_cons_zero, List.set_cons_succ]
            obtain ⟨bx, hbx⟩ : ∃ bx, wd.heap.size + 1 = bx := ⟨_, rfl⟩
            rw [hbx] at B3 ⊢
            clear hbx
            refine held_value 11 57 (.slice (some ⟨bx, k, none⟩) r (200 - k)) rfl rfl (by kernel_rfl) (by kernel_rfl) (by kernel_rfl) rfl hH (fun w hw => by go_simp) ?_
            simp only [Act.put, List.setIfInBounds_toArray, List.set_cons_zero, List.set_cons_succ]
            refine wpAnyH_ready (rs := [12]) (by kernel_rfl) (by simp) ?_
            refine AllReadyH.cons (o := _) rfl (fun K hK => ?_) AllReadyH.nil
            refine want rfl ?_
            refine wp_append_room (f2 := fun i => bytesF Y.s (k + i)) 58 rfl rfl rfl rfl R3.out (fun i hi => by rw [cell_of_row _ _ _ _ _ _ B3.out, AB_get _ _ _ (by omega)]) (by omega) ?_
            refine hK.out _ _ (hH.setOther w.heap.size _ hbz (by omega)) (fun hN => ?_)
            clear hK K hH
            have hH := hN
            clear hN
            try simp only [Act.put, List.setIfInBounds_toArray, List.set_cons_zero, List.set_cons_succ]
            have R4 := Lib.hid (show RowB (w3.setRow w.heap.size (AB n (ov f m r fun i => bytesF Y.s (k + i)))) w.heap.size n (ov f m r fun i => bytesF Y.s (k + i)) from setRow_heap _ _ _ _ _ _ R3.out)
            clear R3 B3
            generalize w3.setRow w.heap.size (AB n (ov f m r fun i => bytesF Y.s (k + i))) = w4 at *
            refine held_value 13 5 (.slice (some ⟨w.heap.size, 0, none⟩) (m + r) n) rfl rfl (by kernel_rfl) (by kernel_rfl) (by kernel_rfl) rfl hH (fun w hw => by go_simp) ?_
            simp only [Act.put, List.setIfInBounds_toArray, List.set_cons_zero, List.set_cons_succ]
            refine wpAnyH_done (by kernel_rfl) ?_ _
            refine NoPanic.normal ?_
            have H4 := Lib.hid hH
            clear hH
            go_wp2_with ((with_reducible apply lay_store_k (n := j)); (case hgd => exact rfl); (case ho => exact rfl); (case hx => exact rfl); (case hy => exact rfl); (case hg => exact H4.out.row); intro _ _; go_simp)
            go_roundg (r - r)
            case measure => omega
            case rel =>
              refine ⟨m + r, ov f m r fun i => bytesF Y.s (k + i), by omega, by first | rfl | rw [hmg], R4.out.hs (Hs.set (Hs.start H4.out.row) _) (by omega), fun i hi => ?_, (H4.out.set _).eq ?_⟩
              · unfold ov
                by_cases hi2 : i < m
                · rw [if_neg (by omega), hf i hi2]
                · rw [if_pos (by omega)]
                  have h5 := tellB_round X m r (i - m) hX (by omega) (by rw [HYd.out, HK.out]; omega)
                  rw [HYd.out, HK.out, show m + (i - m) = i by omega] at h5
                  exact h5.symm
              · rw [tellS_round X m r hX (by omega) (by rw [HYd.out, HK.out]; omega), HYd.out]
                unfold HS.on
                rw [HK.out, show k + r = j by omega]
        · have h136' : ¬ ((Z.k : Int) = 136) := by omega
          have HY0 := Lib.hid (hs.eq (show Z = Z.fresh from by unfold HS.fresh; rw [if_neg h136]))
          clear hs
          obtain ⟨Y, hYd⟩ : ∃ Y, Z.fresh = Y := ⟨_, rfl⟩
          have HY := Lib.hid (HY0.out.eq hYd)
          have HYd := Lib.hid (show (tellS X m).fresh = Y from by rw [HZd.out]; exact hYd)
          clear HY0 hYd hck h136' h136
          have hYk : Y.k < 136 := by rw [← HYd.out]; exact fresh_k _ (tellS_k X hX m)
          obtain ⟨k, hkk⟩ : ∃ k, Y.k = k := ⟨_, rfl⟩
          have HK := Lib.hid hkk
          rw [hkk] at hYk
          have hck2 := HY.out.row.k
          rw [hkk] at hck2
          clear hkk
          obtain ⟨j, hjd⟩ : ∃ j, k + r = j := ⟨_, rfl⟩
          have hj : (k : Int) + (n : Int) - (m : Int) = (j : Int) := by omega
          have HJ := Lib.hid hjd
          have k200 : ¬ (200 = k) := by omega
          have mn : (m : Int) ≤ (n : Int) := by omega
          have k1 : (k : Int) < 136 := by omega
          have k3 : (k : Int) ≤ 136 := by omega
          have k4 : k ≤ 136 := by omega
          have k2 : ((k : Int) == 136) = false := by simp; omega
          have hw1 : IntKind.i64.wrap ((k : Int) + (n : Int)) = (k : Int) + (n : Int) := IntWalk.i64_in _ (by omega)
          have hw3 : IntKind.i64.wrap (j : Int) = (j : Int) := IntWalk.i64_in _ (by omega)
          by_cases hle : 136 ≤ j
          · have hle1 : (136 : Int) ≤ (j : Int) := by omega
            obtain ⟨c, hc⟩ : ∃ c, k + c = 136 := ⟨136 - k, by omega⟩
            have hcn : 136 - k = c := by omega
            go_wp2_with fail
            refine wp_region_noPanic ?_
            refine wp_region_held_drew (S := fun W => Hs w g W Y) (by kernel_rfl) HY.out.drew (fun hH => ?_)
            have Rd := Lib.hid Ry.out.drew
            clear HY Ry
            generalize wr.drew = wd at *
            refine held_value 0 46 (.slice (some ⟨w.heap.size, 0, none⟩) m n) rfl rfl (by kernel_rfl) (by kernel_rfl) (by kernel_rfl) rfl hH (fun w hw => by go_simp) ?_
            simp only [Act.put, List.setIfInBounds_toArray, List.set_cons_zero, List.set_cons_succ]
            refine held_value 1 47 (.pointer (some ⟨g, 0, none⟩)) rfl rfl (by kernel_rfl) (by kernel_rfl) (by kernel_rfl) rfl hH (fun w hw => by go_simp) ?_
            simp only [Act.put, List.setIfInBounds_toArray, List.set_cons_zero, List.set_cons_succ]
            refine held_value 2 48 (.pointer (some ⟨g, 0, none⟩)) rfl rfl (by kernel_rfl) (by kernel_rfl) (by kernel_rfl) rfl hH (fun w hw => by go_simp) ?_
            simp only [Act.put, List.setIfInBounds_toArray, List.set_cons_zero, List.set_cons_succ]
            refine held_value 3 49 (.pointer (some ⟨g, 0, none⟩)) rfl rfl (by kernel_rfl) (by kernel_rfl) (by kernel_rfl) rfl hH (fun w hw => by go_simp) ?_
            simp only [Act.put, List.setIfInBounds_toArray, List.set_cons_zero, List.set_cons_succ]
            refine held_load_s 4 50 rfl rfl (by kernel_rfl) (by kernel_rfl) (by kernel_rfl) rfl hH rfl rfl (fun _ h => h.row) ?_
            simp only [Act.put, List.setIfInBounds_toArray, List.set_cons_zero, List.set_cons_succ]
            refine held_value 6 52 (.pointer (some ⟨g, 0, none⟩)) rfl rfl (by kernel_rfl) (by kernel_rfl) (by kernel_rfl) rfl hH (fun w hw => by go_simp) ?_
            simp only [Act.put, List.setIfInBounds_toArray, List.set_cons_zero, List.set_cons_succ]
            refine held_value 7 53 (.pointer (some ⟨g, 0, none⟩)) rfl rfl (by kernel_rfl) (by kernel_rfl) (by kernel_rfl) rfl hH (fun w hw => by go_simp) ?_
            simp only [Act.put, List.setIfInBounds_toArray, List.set_cons_zero, List.set_cons_succ]
            refine held_value 8 54 (.pointer (some ⟨g, 161, none⟩)) rfl rfl (by kernel_rfl) (by kernel_rfl) (by kernel_rfl) rfl hH (fun w hw => by go_simp) ?_
            simp only [Act.put, List.setIfInBounds_toArray, List.set_cons_zero, List.set_cons_succ]
            refine held_value 9 55 (.int .i64 (k : Int)) rfl rfl (by kernel_rfl) (by kernel_rfl) (by kernel_rfl) rfl hH (fun w hw => by have hq := hw.row.k; rw [HK.out] at hq; go_simp) ?_
            simp only [Act.put, List.setIfInBounds_toArray, List.set_cons_zero, List.set_cons_succ]
            refine held_value 10 56 (.int .i64 136) rfl rfl (by kernel_rfl) (by kernel_rfl) (by kernel_rfl) rfl hH (fun w hw => by go_simp) ?_
            simp only [Act.put, List.setIfInBounds_toArray, List.set_cons_zero, List.set_cons_succ]
            refine wpAnyH_ready (rs := [5]) (by kernel_rfl) (by simp) ?_
            refine AllReadyH.cons (o := _) rfl (fun K hK => ?_) AllReadyH.nil
            go_simp
            refine (bytes_any Y.s _).mono ?_
            rintro e w3 ⟨rfl, ht⟩
            have R3 := Lib.hid (Rd.out.below ht.bel)
            have B3 := Lib.hid ht.r2
            refine hK.out _ _ (hH.call ht.bel) (fun hN => ?_)
            clear hK K hH ht Rd
            have hH := hN
            clear hN
            try simp only [Act.put, List.setIfInBounds_toArray, List.set_cons_zero, List.set_cons_succ]
            obtain ⟨bx, hbx⟩ : ∃ bx, wd.heap.size + 1 = bx := ⟨_, rfl⟩
            rw [hbx] at B3 ⊢
            clear hbx
            refine held_value 11 57 (.slice (some ⟨bx, k, none⟩) c (200 - k)) rfl rfl (by kernel_rfl) (by kernel_rfl) (by kernel_rfl) rfl hH (fun w hw => by go_simp) ?_
            simp only [Act.put, List.setIfInBounds_toArray, List.set_cons_zero, List.set_cons_succ]
            refine wpAnyH_ready (rs := [12]) (by kernel_rfl) (by simp) ?_
            refine AllReadyH.cons (o := _) rfl (fun K hK => ?_) AllReadyH.nil
            refine want rfl ?_
            refine wp_append_room (f2 := fun i => bytesF Y.s (k + i)) 58 rfl rfl rfl rfl R3.out (fun i hi => by rw [cell_of_row _ _ _ _ _ _ B3.out, AB_get _ _ _ (by omega)]) (by omega) ?_
            refine hK.out _ _ (hH.setOther w.heap.size _ hbz (by omega)) (fun hN => ?_)
            clear hK K hH
            have hH := hN
            clear hN
            try simp only [Act.put, List.setIfInBounds_toArray, List.set_cons_zero, List.set_cons_succ]
            have R4 := Lib.hid (show RowB (w3.setRow w.heap.size (AB n (ov f m c fun i => bytesF Y.s (k + i)))) w.heap.size n (ov f m c fun i => bytesF Y.s (k + i)) from setRow_heap _ _ _ _ _ _ R3.out)
            clear R3 B3
            generalize w3.setRow w.heap.size (AB n (ov f m c fun i => bytesF Y.s (k + i))) = w4 at *
            refine held_value 13 5 (.slice (some ⟨w.heap.size, 0, none⟩) (m + c) n) rfl rfl (by kernel_rfl) (by kernel_rfl) (by kernel_rfl) rfl hH (fun w hw => by go_simp) ?_
            simp only [Act.put, List.setIfInBounds_toArray, List.set_cons_zero, List.set_cons_succ]
            refine wpAnyH_done (by kernel_rfl) ?_ _
            refine NoPanic.normal ?_
            have H4 := Lib.hid hH
            clear hH
            go_wp2_with ((with_reducible apply lay_store_k (n := 136)); (case hgd => exact rfl); (case ho => exact rfl); (case hx => exact rfl); (case hy => exact rfl); (case hg => exact H4.out.row); intro _ _; go_simp)
            go_roundg (r - c)
            case measure => omega
            case rel =>
              refine ⟨m + c, ov f m c fun i => bytesF Y.s (k + i), by omega, by first | rfl | rw [hmg], R4.out.hs (Hs.set (Hs.start H4.out.row) _) (by omega), fun i hi => ?_, (H4.out.set _).eq ?_⟩
              · unfold ov
                by_cases hi2 : i < m
                · rw [if_neg (by omega), hf i hi2]
                · rw [if_pos (by omega)]
                  have h5 := tellB_round X m c (i - m) hX (by omega) (by rw [HYd.out, HK.out]; omega)
                  rw [HYd.out, HK.out, show m + (i - m) = i by omega] at h5
                  exact h5.symm
              · rw [tellS_round X m c hX (by omega) (by rw [HYd.out, HK.out]; omega), HYd.out]
                unfold HS.on
                rw [HK.out, show k + c = 136 by omega]
          · have hle1 : ¬ ((136 : Int) ≤ (j : Int)) := by omega
            have hkj : (k : Int) ≤ (j : Int) := by omega
            have hj2 : (j : Int) ≤ 200 := by omega
            have hcn : j - k = r := by omega
            go_wp2_with fail
            refine wp_region_noPanic ?_
            refine wp_region_held_drew (S := fun W => Hs w g W Y) (by kernel_rfl) HY.out.drew (fun hH => ?_)
            have Rd := Lib.hid Ry.out.drew
            clear HY Ry
            generalize wr.drew = wd at *
            refine held_value 0 46 (.slice (some ⟨w.heap.size, 0, none⟩) m n) rfl rfl (by kernel_rfl) (by kernel_rfl) (by kernel_rfl) rfl hH (fun w hw => by go_simp) ?_
            simp only [Act.put, List.setIfInBounds_toArray, List.set_cons_zero, List.set_cons_succ]
            refine held_value 1 47 (.pointer (some ⟨g, 0, none⟩)) rfl rfl (by kernel_rfl) (by kernel_rfl) (by kernel_rfl) rfl hH (fun w hw => by go_simp) ?_
            simp only [Act.put, List.setIfInBounds_toArray, List.set_cons_zero, List.set_cons_succ]
            refine held_value 2 48 (.pointer (some ⟨g, 0, none⟩)) rfl rfl (by kernel_rfl) (by kernel_rfl) (by kernel_rfl) rfl hH (fun w hw => by go_simp) ?_
            simp only [Act.put, List.setIfInBounds_toArray, List.set_cons_zero, List.set_cons_succ]
            refine held_value 3 49 (.pointer (some ⟨g, 0, none⟩)) rfl rfl (by kernel_rfl) (by kernel_rfl) (by kernel_rfl) rfl hH (fun w hw => by go_simp) ?_
            simp only [Act.put, List.setIfInBounds_toArray, List.set_cons_zero, List.set_cons_succ]
            refine held_load_s 4 50 rfl rfl (by kernel_rfl) (by kernel_rfl) (by kernel_rfl) rfl hH rfl rfl (fun _ h => h.row) ?_
            simp only [Act.put, List.setIfInBounds_toArray, List.set_cons_zero, List.set_cons_succ]
            refine held_value 6 52 (.pointer (some ⟨g, 0, none⟩)) rfl rfl (by kernel_rfl) (by kernel_rfl) (by kernel_rfl) rfl hH (fun w hw => by go_simp) ?_
            simp only [Act.put, List.setIfInBounds_toArray, List.set_cons_zero, List.set_cons_succ]
            refine held_value 7 53 (.pointer (some ⟨g, 0, none⟩)) rfl rfl (by kernel_rfl) (by kernel_rfl) (by kernel_rfl) rfl hH (fun w hw => by go_simp) ?_
            simp only [Act.put, List.setIfInBounds_toArray, List.set_cons_zero, List.set_cons_succ]
            refine held_value 8 54 (.pointer (some ⟨g, 161, none⟩)) rfl rfl (by kernel_rfl) (by kernel_rfl) (by kernel_rfl) rfl hH (fun w hw => by go_simp) ?_
            simp only [Act.put, List.setIfInBounds_toArray, List.set_cons_zero, List.set_cons_succ]
            refine held_value 9 55 (.int .i64 (k : Int)) rfl rfl (by kernel_rfl) (by kernel_rfl) (by kernel_rfl) rfl hH (fun w hw => by have hq := hw.row.k; rw [HK.out] at hq; go_simp) ?_
            simp only [Act.put, List.setIfInBounds_toArray, List.set_cons_zero, List.set_cons_succ]
            refine held_value 10 56 (.int .i64 (j : Int)) rfl rfl (by kernel_rfl) (by kernel_rfl) (by kernel_rfl) rfl hH (fun w hw => by go_simp) ?_
            simp only [Act.put, List.setIfInBounds_toArray, List.set_cons_zero, List.set_cons_succ]
            refine wpAnyH_ready (rs := [5]) (by kernel_rfl) (by simp) ?_
            refine AllReadyH.cons (o := _) rfl (fun K hK => ?_) AllReadyH.nil
            go_simp
            refine (bytes_any Y.s _).mono ?_
            rintro e w3 ⟨rfl, ht⟩
            have R3 := Lib.hid (Rd.out.below ht.bel)
            have B3 := Lib.hid ht.r2
            refine hK.out _ _ (hH.call ht.bel) (fun hN => ?_)
            clear hK K hH ht Rd
            have hH := hN
            clear hN
            try simp only [Act.put, List.setIfInBounds_toArray, List.set_cons_zero, List.set_cons_succ]
            obtain ⟨bx, hbx⟩ : ∃ bx, wd.heap.size + 1 = bx := ⟨_, rfl⟩
            rw [hbx] at B3 ⊢
            clear hbx
            refine held_value 11 57 (.slice (some ⟨bx, k, none⟩) r (200 - k)) rfl rfl (by kernel_rfl) (by kernel_rfl) (by kernel_rfl) rfl hH (fun w hw => by go_simp) ?_
            simp only [Act.put, List.setIfInBounds_toArray, List.set_cons_zero, List.set_cons_succ]
            refine wpAnyH_ready (rs := [12]) (by kernel_rfl) (by simp) ?_
            refine AllReadyH.cons (o := _) rfl (fun K hK => ?_) AllReadyH.nil
            refine want rfl ?_
            refine wp_append_room (f2 := fun i => bytesF Y.s (k + i)) 58 rfl rfl rfl rfl R3.out (fun i hi => by rw [cell_of_row _ _ _ _ _ _ B3.out, AB_get _ _ _ (by omega)]) (by omega) ?_
            refine hK.out _ _ (hH.setOther w.heap.size _ hbz (by omega)) (fun hN => ?_)
            clear hK K hH
            have hH := hN
            clear hN
            try simp only [Act.put, List.setIfInBounds_toArray, List.set_cons_zero, List.set_cons_succ]
            have R4 := Lib.hid (show RowB (w3.setRow w.heap.size (AB n (ov f m r fun i => bytesF Y.s (k + i)))) w.heap.size n (ov f m r fun i => bytesF Y.s (k + i)) from setRow_heap _ _ _ _ _ _ R3.out)
            clear R3 B3
            generalize w3.setRow w.heap.size (AB n (ov f m r fun i => bytesF Y.s (k + i))) = w4 at *
            refine held_value 13 5 (.slice (some ⟨w.heap.size, 0, none⟩) (m + r) n) rfl rfl (by kernel_rfl) (by kernel_rfl) (by kernel_rfl) rfl hH (fun w hw => by go_simp) ?_
            simp only [Act.put, List.setIfInBounds_toArray, List.set_cons_zero, List.set_cons_succ]
            refine wpAnyH_done (by kernel_rfl) ?_ _
            refine NoPanic.normal ?_
            have H4 := Lib.hid hH
            clear hH
            go_wp2_with ((with_reducible apply lay_store_k (n := j)); (case hgd => exact rfl); (case ho => exact rfl); (case hx => exact rfl); (case hy => exact rfl); (case hg => exact H4.out.row); intro _ _; go_simp)
            go_roundg (r - r)
            case measure => omega
            case rel =>
              refine ⟨m + r, ov f m r fun i => bytesF Y.s (k + i), by omega, by first | rfl | rw [hmg], R4.out.hs (Hs.set (Hs.start H4.out.row) _) (by omega), fun i hi => ?_, (H4.out.set _).eq ?_⟩
              · unfold ov
                by_cases hi2 : i < m
                · rw [if_neg (by omega), hf i hi2]
                · rw [if_pos (by omega)]
                  have h5 := tellB_round X m r (i - m) hX (by omega) (by rw [HYd.out, HK.out]; omega)
                  rw [HYd.out, HK.out, show m + (i - m) = i by omega] at h5
                  exact h5.symm
              · rw [tellS_round X m r hX (by omega) (by rw [HYd.out, HK.out]; omega), HYd.out]
                unfold HS.on
                rw [HK.out, show k + r = j by omega]
  | false =>
    rw [htl] at hct
    have hk' := hl htl
    have HG := Lib.hid hg
    clear hl hg hT
    go_enter Tryd.func26, Tryd.ntmps26
    go_wp2_with fail
    refine (fill_any g h _ HT.out h2 HG.out hk').mono ?_
    rintro e w1 ⟨rfl, hs1⟩
    have H1 := Lib.hid (hs1.eq (show h.fill = X from by rw [← HX.out]; unfold HS.opened; rw [htl]; rfl))
    clear hs1
    go_wp2_with ((with_reducible apply lay_make (l := 0)); (case hgd => exact rfl); (case ho => exact rfl); (case hx => exact rfl); (case hy => exact rfl); (case hl => exact Nat.zero_le _); (case hc => exact hn); intro _ _; go_simp)
    have hbz : w.heap.size ≤ w1.heap.size := H1.out.size
    have hm0 := H1.out.alloc (.cells (AB n fun _ => 0) 5)
    have hr0 : RowB (w1.alloc (.cells (AB n fun _ => 0) 5)) w1.heap.size n (fun _ => 0) := row1 _ _
    generalize w1.alloc (.cells (AB n fun _ => 0) 5) = wm at hm0 hr0 ⊢
    clear H1 hct
    go_loopg [5] n (fun gk s5 wr => ∃ (m : Nat) (f : Nat → BitVec 8), m + gk = n ∧ s5 = .slice (some ⟨w1.heap.size, 0, none⟩) m n ∧ RowB wr w1.heap.size n f ∧ (∀ i, i < m → f i = tellB X i) ∧ Hs w g wr (tellS X m))
    case atStart => exact ⟨0, fun _ => 0, by omega, rfl, hr0, fun i hi => by omega, hm0⟩
    case round =>
      clear hm0 hr0
      obtain ⟨r, rfl⟩ : ∃ r, r = gk := ⟨_, rfl⟩
      obtain ⟨m, f, hmg, rfl, hrow, hf, hs⟩ := hrel
      by_cases hr : r = 0
      · have hmn : m = n := by omega
        subst hmn
        have HY := Lib.hid hs
        have Ry := Lib.hid (hrow.congr hf)
        clear hs hrow hf
        go_wp2_with fail
        go_ret
        exact ⟨_, rfl, w1.heap.size, rfl, hbz, by rw [HX.out]; exact Ry.out, by rw [HX.out]; exact HY.out⟩
      · have hmn : (m : Int) < (n : Int) := by omega
        obtain ⟨Z, hZ⟩ : ∃ Z, tellS X m = Z := ⟨_, rfl⟩
        have hck := hs.row.k
        rw [hZ] at hck hs
        have Ry := Lib.hid hrow
        have HZd := Lib.hid hZ
        clear hZ hrow
        by_cases h136 : Z.k = 136
        · rw [h136] at hck
          have HZ := Lib.hid hs
          have H136 := Lib.hid h136
          clear hs h136
          go_wp2_with ((with_reducible apply lay_load_s); (case hgd => exact rfl); (case ho => exact rfl); (case hx => exact rfl); (case hg => exact HZ.out.row); intro _ _; go_simp)
          refine (perm_any Z.s _ (HZ.out.tabs h2 HT.out)).mono ?_
          rintro e w2 ⟨rfl, hb⟩
          have HZ2 := Lib.hid (HZ.out.call hb)
          have Ry2 := Lib.hid (Ry.out.below hb)
          clear hb HZ Ry
          go_upto_region 7 with (first
            | ((with_reducible apply lay_store_s); (case hgd => exact rfl); (case ho => exact rfl); (case hx => exact rfl); (case hy => exact rfl); (case hg => exact HZ2.out.row); intro _ _; go_simp)
            | ((with_reducible apply lay_store_k (n := 0)); (case hgd => exact rfl); (case ho => exact rfl); (case hx => exact rfl); (case hy => exact rfl); (case hg => exact (HZ2.out.set _).row); intro _ _; go_simp))
          obtain ⟨Y, hYd⟩ : ∃ Y, Z.fresh = Y := ⟨_, rfl⟩
          have hy3 := ((HZ2.out.set ⟨permF Z.s, Z.b, Z.k, Z.tl⟩).set ⟨permF Z.s, Z.b, 0, Z.tl⟩).eq (show _ = Y from by rw [← hYd]; unfold HS.fresh; rw [if_pos H136.out])
          have hr3 := (Ry2.out.hs (Hs.set (Hs.start HZ2.out.row) ⟨permF Z.s, Z.b, Z.k, Z.tl⟩) (by omega)).hs (Hs.set (Hs.set (Hs.start HZ2.out.row) ⟨permF Z.s, Z.b, Z.k, Z.tl⟩) ⟨permF Z.s, Z.b, 0, Z.tl⟩ |>.row |> fun _ => Hs.set (Hs.start (Hs.set (Hs.start HZ2.out.row) ⟨permF Z.s, Z.b, Z.k, Z.tl⟩).row) ⟨permF Z.s, Z.b, 0, Z.tl⟩) (by omega)
          have HYd := Lib.hid (show (tellS X m).fresh = Y from by rw [HZd.out]; exact hYd)
          clear hYd HZ2 Ry2 hck
          generalize (w2.setRow g (HB ⟨permF Z.s, Z.b, Z.k, Z.tl⟩)).setRow g (HB ⟨permF Z.s, Z.b, 0, Z.tl⟩) = wy at hy3 hr3 ⊢
          have HY := Lib.hid hy3
          have Ry := Lib.hid hr3
          clear hy3 hr3
          have hYk : Y.k < 136 := by rw [← HYd.out]; exact fresh_k _ (tellS_k X hX m)
          obtain ⟨k, hkk⟩ : ∃ k, Y.k = k := ⟨_, rfl⟩
          have HK := Lib.hid hkk
          rw [hkk] at hYk
          have hck2 := HY.out.row.k
          rw [hkk] at hck2
          clear hkk
          obtain ⟨j, hjd⟩ : ∃ j, k + r = j := ⟨_, rfl⟩
          have hj : (k : Int) + (n : Int) - (m : Int) = (j : Int) := by omega
          have HJ := Lib.hid hjd
          have k200 : ¬ (200 = k) := by omega
          have mn : (m : Int) ≤ (n : Int) := by omega
          have k1 : (k : Int) < 136 := by omega
          have k3 : (k : Int) ≤ 136 := by omega
          have k4 : k ≤ 136 := by omega
          have k2 : ((k : Int) == 136) = false := by simp; omega
          have hw1 : IntKind.i64.wrap ((k : Int) + (n : Int)) = (k : Int) + (n : Int) := IntWalk.i64_in _ (by omega)
          have hw3 : IntKind.i64.wrap (j : Int) = (j : Int) := IntWalk.i64_in _ (by omega)
          by_cases hle : 136 ≤ j
          · have hle1 : (136 : Int) ≤ (j : Int) := by omega
            obtain ⟨c, hc⟩ : ∃ c, k + c = 136 := ⟨136 - k, by omega⟩
            have hcn : 136 - k = c := by omega
            go_wp2_with fail
            refine wp_region_noPanic ?_
            refine wp_region_held_drew (S := fun W => Hs w g W Y) (by kernel_rfl) HY.out.drew (fun hH => ?_)
            have Rd := Lib.hid Ry.out.drew
            clear HY Ry
            generalize wy.drew = wd at *
            refine held_value 0 46 (.slice (some ⟨w1.heap.size, 0, none⟩) m n) rfl rfl (by kernel_rfl) (by kernel_rfl) (by kernel_rfl) rfl hH (fun w hw => by go_simp) ?_
            simp only [Act.put, List.setIfInBounds_toArray, List.set_cons_zero, List.set_cons_succ]
            refine held_value 1 47 (.pointer (some ⟨g, 0, none⟩)) rfl rfl (by kernel_rfl) (by kernel_rfl) (by kernel_rfl) rfl hH (fun w hw => by go_simp) ?_
            simp only [Act.put, List.setIfInBounds_toArray, List.set_cons_zero, List.set_cons_succ]
            refine held_value 2 48 (.pointer (some ⟨g, 0, none⟩)) rfl rfl (by kernel_rfl) (by kernel_rfl) (by kernel_rfl) rfl hH (fun w hw => by go_simp) ?_
            simp only [Act.put, List.setIfInBounds_toArray, List.set_cons_zero, List.set_cons_succ]
            refine held_value 3 49 (.pointer (some ⟨g, 0, none⟩)) rfl rfl (by kernel_rfl) (by kernel_rfl) (by kernel_rfl) rfl hH (fun w hw => by go_simp) ?_
            simp only [Act.put, List.setIfInBounds_toArray, List.set_cons_zero, List.set_cons_succ]
            refine held_load_s 4 50 rfl rfl (by kernel_rfl) (by kernel_rfl) (by kernel_rfl) rfl hH rfl rfl (fun _ h => h.row) ?_
            simp only [Act.put, List.setIfInBounds_toArray, List.set_cons_zero, List.set_cons_succ]
            refine held_value 6 52 (.pointer (some ⟨g, 0, none⟩)) rfl rfl (by kernel_rfl) (by kernel_rfl) (by kernel_rfl) rfl hH (fun w hw => by go_simp) ?_
            simp only [Act.put, List.setIfInBounds_toArray, List.set_cons_zero, List.set_cons_succ]
            refine held_value 7 53 (.pointer (some ⟨g, 0, none⟩)) rfl rfl (by kernel_rfl) (by kernel_rfl) (by kernel_rfl) rfl hH (fun w hw => by go_simp) ?_
            simp only [Act.put, List.setIfInBounds_toArray, List.set_cons_zero, List.set_cons_succ]
            refine held_value 8 54 (.pointer (some ⟨g, 161, none⟩)) rfl rfl (by kernel_rfl) (by kernel_rfl) (by kernel_rfl) rfl hH (fun w hw => by go_simp) ?_
            simp only [Act.put, List.setIfInBounds_toArray, List.set_cons_zero, List.set_cons_succ]
            refine held_value 9 55 (.int .i64 (k : Int)) rfl rfl (by kernel_rfl) (by kernel_rfl) (by kernel_rfl) rfl hH (fun w hw => by have hq := hw.row.k; rw [HK.out] at hq; go_simp) ?_
            simp only [Act.put, List.setIfInBounds_toArray, List.set_cons_zero, List.set_cons_succ]
            refine held_value 10 56 (.int .i64 136) rfl rfl (by kernel_rfl) (by kernel_rfl) (by kernel_rfl) rfl hH (fun w hw => by go_simp) ?_
            simp only [Act.put, List.setIfInBounds_toArray, List.set_cons_zero, List.set_cons_succ]
            refine wpAnyH_ready (rs := [5]) (by kernel_rfl) (by simp) ?_
            refine AllReadyH.cons (o := _) rfl (fun K hK => ?_) AllReadyH.nil
            go_simp
            refine (bytes_any Y.s _).mono ?_
            rintro e w3 ⟨rfl, ht⟩
            have R3 := Lib.hid (Rd.out.below ht.bel)
            have B3 := Lib.hid ht.r2
            refine hK.out _ _ (hH.call ht.bel) (fun hN => ?_)
            clear hK K hH ht Rd
            have hH := hN
            clear hN
            try simp only [Act.put, List.setIfInBounds_toArray, List.set_cons_zero, List.set_cons_succ]
            obtain ⟨bx, hbx⟩ : ∃ bx, wd.heap.size + 1 = bx := ⟨_, rfl⟩
            rw [hbx] at B3 ⊢
            clear hbx
            refine held_value 11 57 (.slice (some ⟨bx, k, none⟩) c (200 - k)) rfl rfl (by kernel_rfl) (by kernel_rfl) (by kernel_rfl) rfl hH (fun w hw => by go_simp) ?_
            simp only [Act.put, List.setIfInBounds_toArray, List.set_cons_zero, List.set_cons_succ]
            refine wpAnyH_ready (rs := [12]) (by kernel_rfl) (by simp) ?_
            refine AllReadyH.cons (o := _) rfl (fun K hK => ?_) AllReadyH.nil
            refine want rfl ?_
            refine wp_append_room (f2 := fun i => bytesF Y.s (k + i)) 58 rfl rfl rfl rfl R3.out (fun i hi => by rw [cell_of_row _ _ _ _ _ _ B3.out, AB_get _ _ _ (by omega)]) (by omega) ?_
            refine hK.out _ _ (hH.setOther w1.heap.size _ hbz (by omega)) (fun hN => ?_)
            clear hK K hH
            have hH := hN
            clear hN
            try simp only [Act.put, List.setIfInBounds_toArray, List.set_cons_zero, List.set_cons_succ]
            have R4 := Lib.hid (show RowB (w3.setRow w1.heap.size (AB n (ov f m c fun i => bytesF Y.s (k + i)))) w1.heap.size n (ov f m c fun i => bytesF Y.s (k + i)) from setRow_heap _ _ _ _ _ _ R3.out)
            clear R3 B3
            generalize w3.setRow w1.heap.size (AB n (ov f m c fun i => bytesF Y.s (k + i))) = w4 at *
            refine held_value 13 5 (.slice (some ⟨w1.heap.size, 0, none⟩) (m + c) n) rfl rfl (by kernel_rfl) (by kernel_rfl) (by kernel_rfl) rfl hH (fun w hw => by go_simp) ?_
            simp only [Act.put, List.setIfInBounds_toArray, List.set_cons_zero, List.set_cons_succ]
            refine wpAnyH_done (by kernel_rfl) ?_ _
            refine NoPanic.normal ?_
            have H4 := Lib.hid hH
            clear hH
            go_wp2_with ((with_reducible apply lay_store_k (n := 136)); (case hgd => exact rfl); (case ho => exact rfl); (case hx => exact rfl); (case hy => exact rfl); (case hg => exact H4.out.row); intro _ _; go_simp)
            go_roundg (r - c)
            case measure => omega
            case rel =>
              refine ⟨m + c, ov f m c fun i => bytesF Y.s (k + i), by omega, by first | rfl | rw [hmg], R4.out.hs (Hs.set (Hs.start H4.out.row) _) (by omega), fun i hi => ?_, (H4.out.set _).eq ?_⟩
              · unfold ov
                by_cases hi2 : i < m
                · rw [if_neg (by omega), hf i hi2]
                · rw [if_pos (by omega)]
                  have h5 := tellB_round X m c (i - m) hX (by omega) (by rw [HYd.out, HK.out]; omega)
                  rw [HYd.out, HK.out, show m + (i - m) = i by omega] at h5
                  exact h5.symm
              · rw [tellS_round X m c hX (by omega) (by rw [HYd.out, HK.out]; omega), HYd.out]
                unfold HS.on
                rw [HK.out, show k + c = 136 by omega]
          · have hle1 : ¬ ((136 : Int) ≤ (j : Int)) := by omega
            have hkj : (k : Int) ≤ (j : Int) := by omega
            have hj2 : (j : Int) ≤ 200 := by omega
            have hcn : j - k = r := by omega
            go_wp2_with fail
            refine wp_region_noPanic ?_
            refine wp_region_held_drew (S := fun W => Hs w g W Y) (by kernel_rfl) HY.out.drew (fun hH => ?_)
            have Rd := Lib.hid Ry.out.drew
            clear HY Ry
            generalize wy.drew = wd at *
            refine held_value 0 46 (.slice (some ⟨w1.heap.size, 0, none⟩) m n) rfl rfl (by kernel_rfl) (by kernel_rfl) (by kernel_rfl) rfl hH (fun w hw => by go_simp) ?_
            simp only [Act.put, List.setIfInBounds_toArray, List.set_cons_zero, List.set_cons_succ]
            refine held_value 1 47 (.pointer (some ⟨g, 0, none⟩)) rfl rfl (by kernel_rfl) (by kernel_rfl) (by kernel_rfl) rfl hH (fun w hw => by go_simp) ?_
            simp only [Act.put, List.setIfInBounds_toArray, List.set_cons_zero, List.set_cons_succ]
            refine held_value 2 48 (.pointer (some ⟨g, 0, none⟩)) rfl rfl (by kernel_rfl) (by kernel_rfl) (by kernel_rfl) rfl hH (fun w hw => by go_simp) ?_
            simp only [Act.put, List.setIfInBounds_toArray, List.set_cons_zero, List.set_cons_succ]
            refine held_value 3 49 (.pointer (some ⟨g, 0, none⟩)) rfl rfl (by kernel_rfl) (by kernel_rfl) (by kernel_rfl) rfl hH (fun w hw => by go_simp) ?_
            simp only [Act.put, List.setIfInBounds_toArray, List.set_cons_zero, List.set_cons_succ]
            refine held_load_s 4 50 rfl rfl (by kernel_rfl) (by kernel_rfl) (by kernel_rfl) rfl hH rfl rfl (fun _ h => h.row) ?_
            simp only [Act.put, List.setIfInBounds_toArray, List.set_cons_zero, List.set_cons_succ]
            refine held_value 6 52 (.pointer (some ⟨g, 0, none⟩)) rfl rfl (by kernel_rfl) (by kernel_rfl) (by kernel_rfl) rfl hH (fun w hw => by go_simp) ?_
            simp only [Act.put, List.setIfInBounds_toArray, List.set_cons_zero, List.set_cons_succ]
            refine held_value 7 53 (.pointer (some ⟨g, 0, none⟩)) rfl rfl (by kernel_rfl) (by kernel_rfl) (by kernel_rfl) rfl hH (fun w hw => by go_simp) ?_
            simp only [Act.put, List.setIfInBounds_toArray, List.set_cons_zero, List.set_cons_succ]
            refine held_value 8 54 (.pointer (some ⟨g, 161, none⟩)) rfl rfl (by kernel_rfl) (by kernel_rfl) (by kernel_rfl) rfl hH (fun w hw => by go_simp) ?_
            simp only [Act.put, List.setIfInBounds_toArray, List.set_cons_zero, List.set_cons_succ]
            refine held_value 9 55 (.int .i64 (k : Int)) rfl rfl (by kernel_rfl) (by kernel_rfl) (by kernel_rfl) rfl hH (fun w hw => by have hq := hw.row.k; rw [HK.out] at hq; go_simp) ?_
            simp only [Act.put, List.setIfInBounds_toArray, List.set_cons_zero, List.set_cons_succ]
            refine held_value 10 56 (.int .i64 (j : Int)) rfl rfl (by kernel_rfl) (by kernel_rfl) (by kernel_rfl) rfl hH (fun w hw => by go_simp) ?_
            simp only [Act.put, List.setIfInBounds_toArray, List.set_cons_zero, List.set_cons_succ]
            refine wpAnyH_ready (rs := [5]) (by kernel_rfl) (by simp) ?_
            refine AllReadyH.cons (o := _) rfl (fun K hK => ?_) AllReadyH.nil
            go_simp
            refine (bytes_any Y.s _).mono ?_
            rintro e w3 ⟨rfl, ht⟩
            have R3 := Lib.hid (Rd.out.below ht.bel)
            have B3 := Lib.hid ht.r2
            refine hK.out _ _ (hH.call ht.bel) (fun hN => ?_)
            clear hK K hH ht Rd
            have hH := hN
            clear hN
            try simp only [Act.put, List.setIfInBounds_toArray, List.set_cons_zero, List.set_cons_succ]
            obtain ⟨bx, hbx⟩ : ∃ bx, wd.heap.size + 1 = bx := ⟨_, rfl⟩
            rw [hbx] at B3 ⊢
            clear hbx
            refine held_value 11 57 (.slice (some ⟨bx, k, none⟩) r (200 - k)) rfl rfl (by kernel_rfl) (by kernel_rfl) (by kernel_rfl) rfl hH (fun w hw => by go_simp) ?_
            simp only [Act.put, List.setIfInBounds_toArray, List.set_cons_zero, List.set_cons_succ]
            refine wpAnyH_ready (rs := [12]) (by kernel_rfl) (by simp) ?_
            refine AllReadyH.cons (o := _) rfl (fun K hK => ?_) AllReadyH.nil
            refine want rfl ?_
            refine wp_append_room (f2 := fun i => bytesF Y.s (k + i)) 58 rfl rfl rfl rfl R3.out (fun i hi => by rw [cell_of_row _ _ _ _ _ _ B3.out, AB_get _ _ _ (by omega)]) (by omega) ?_
            refine hK.out _ _ (hH.setOther w1.heap.size _ hbz (by omega)) (fun hN => ?_)
            clear hK K hH
            have hH := hN
            clear hN
            try simp only [Act.put, List.setIfInBounds_toArray, List.set_cons_zero, List.set_cons_succ]
            have R4 := Lib.hid (show RowB (w3.setRow w1.heap.size (AB n (ov f m r fun i => bytesF Y.s (k + i)))) w1.heap.size n (ov f m r fun i => bytesF Y.s (k + i)) from setRow_heap _ _ _ _ _ _ R3.out)
            clear R3 B3
            generalize w3.setRow w1.heap.size (AB n (ov f m r fun i => bytesF Y.s (k + i))) = w4 at *
            refine held_value 13 5 (.slice (some ⟨w1.heap.size, 0, none⟩) (m + r) n) rfl rfl (by kernel_rfl) (by kernel_rfl) (by kernel_rfl) rfl hH (fun w hw => by go_simp) ?_
            simp only [Act.put, List.setIfInBounds_toArray, List.set_cons_zero, List.set_cons_succ]
            refine wpAnyH_done (by kernel_rfl) ?_ _
            refine NoPanic.normal ?_
            have H4 := Lib.hid hH
            clear hH
            go_wp2_with ((with_reducible apply lay_store_k (n := j)); (case hgd => exact rfl); (case ho => exact rfl); (case hx => exact rfl); (case hy => exact rfl); (case hg => exact H4.out.row); intro _ _; go_simp)
            go_roundg (r - r)
            case measure => omega
            case rel =>
              refine ⟨m + r, ov f m r fun i => bytesF Y.s (k + i), by omega, by first | rfl | rw [hmg], R4.out.hs (Hs.set (Hs.start H4.out.row) _) (by omega), fun i hi => ?_, (H4.out.set _).eq ?_⟩
              · unfold ov
                by_cases hi2 : i < m
                · rw [if_neg (by omega), hf i hi2]
                · rw [if_pos (by omega)]
                  have h5 := tellB_round X m r (i - m) hX (by omega) (by rw [HYd.out, HK.out]; omega)
                  rw [HYd.out, HK.out, show m + (i - m) = i by omega] at h5
                  exact h5.symm
              · rw [tellS_round X m r hX (by omega) (by rw [HYd.out, HK.out]; omega), HYd.out]
                unfold HS.on
                rw [HK.out, show k + r = j by omega]
        · have h136' : ¬ ((Z.k : Int) = 136) := by omega
          have HY0 := Lib.hid (hs.eq (show Z = Z.fresh from by unfold HS.fresh; rw [if_neg h136]))
          clear hs
          obtain ⟨Y, hYd⟩ : ∃ Y, Z.fresh = Y := ⟨_, rfl⟩
          have HY := Lib.hid (HY0.out.eq hYd)
          have HYd := Lib.hid (show (tellS X m).fresh = Y from by rw [HZd.out]; exact hYd)
          clear HY0 hYd hck h136' h136
          have hYk : Y.k < 136 := by rw [← HYd.out]; exact fresh_k _ (tellS_k X hX m)
          obtain ⟨k, hkk⟩ : ∃ k, Y.k = k := ⟨_, rfl⟩
          have HK := Lib.hid hkk
          rw [hkk] at hYk
          have hck2 := HY.out.row.k
          rw [hkk] at hck2
          clear hkk
          obtain ⟨j, hjd⟩ : ∃ j, k + r = j := ⟨_, rfl⟩
          have hj : (k : Int) + (n : Int) - (m : Int) = (j : Int) := by omega
          have HJ := Lib.hid hjd
          have k200 : ¬ (200 = k) := by omega
          have mn : (m : Int) ≤ (n : Int) := by omega
          have k1 : (k : Int) < 136 := by omega
          have k3 : (k : Int) ≤ 136 := by omega
          have k4 : k ≤ 136 := by omega
          have k2 : ((k : Int) == 136) = false := by simp; omega
          have hw1 : IntKind.i64.wrap ((k : Int) + (n : Int)) = (k : Int) + (n : Int) := IntWalk.i64_in _ (by omega)
          have hw3 : IntKind.i64.wrap (j : Int) = (j : Int) := IntWalk.i64_in _ (by omega)
          by_cases hle : 136 ≤ j
          · have hle1 : (136 : Int) ≤ (j : Int) := by omega
            obtain ⟨c, hc⟩ : ∃ c, k + c = 136 := ⟨136 - k, by omega⟩
            have hcn : 136 - k = c := by omega
            go_wp2_with fail
            refine wp_region_noPanic ?_
            refine wp_region_held_drew (S := fun W => Hs w g W Y) (by kernel_rfl) HY.out.drew (fun hH => ?_)
            have Rd := Lib.hid Ry.out.drew
            clear HY Ry
            generalize wr.drew = wd at *
            refine held_value 0 46 (.slice (some ⟨w1.heap.size, 0, none⟩) m n) rfl rfl (by kernel_rfl) (by kernel_rfl) (by kernel_rfl) rfl hH (fun w hw => by go_simp) ?_
            simp only [Act.put, List.setIfInBounds_toArray, List.set_cons_zero, List.set_cons_succ]
            refine held_value 1 47 (.pointer (some ⟨g, 0, none⟩)) rfl rfl (by kernel_rfl) (by kernel_rfl) (by kernel_rfl) rfl hH (fun w hw => by go_simp) ?_
            simp only [Act.put, List.setIfInBounds_toArray, List.set_cons_zero, List.set_cons_succ]
            refine held_value 2 48 (.pointer (some ⟨g, 0, none⟩)) rfl rfl (by kernel_rfl) (by kernel_rfl) (by kernel_rfl) rfl hH (fun w hw => by go_simp) ?_
            simp only [Act.put, List.setIfInBounds_toArray, List.set_cons_zero, List.set_cons_succ]
            refine held_value 3 49 (.pointer (some ⟨g, 0, none⟩)) rfl rfl (by kernel_rfl) (by kernel_rfl) (by kernel_rfl) rfl hH (fun w hw => by go_simp) ?_
            simp only [Act.put, List.setIfInBounds_toArray, List.set_cons_zero, List.set_cons_succ]
            refine held_load_s 4 50 rfl rfl (by kernel_rfl) (by kernel_rfl) (by kernel_rfl) rfl hH rfl rfl (fun _ h => h.row) ?_
            simp only [Act.put, List.setIfInBounds_toArray, List.set_cons_zero, List.set_cons_succ]
            refine held_value 6 52 (.pointer (some ⟨g, 0, none⟩)) rfl rfl (by kernel_rfl) (by kernel_rfl) (by kernel_rfl) rfl hH (fun w hw => by go_simp) ?_
            simp only [Act.put, List.setIfInBounds_toArray, List.set_cons_zero, List.set_cons_succ]
            refine held_value 7 53 (.pointer (some ⟨g, 0, none⟩)) rfl rfl (by kernel_rfl) (by kernel_rfl) (by kernel_rfl) rfl hH (fun w hw => by go_simp) ?_
            simp only [Act.put, List.setIfInBounds_toArray, List.set_cons_zero, List.set_cons_succ]
            refine held_value 8 54 (.pointer (some ⟨g, 161, none⟩)) rfl rfl (by kernel_rfl) (by kernel_rfl) (by kernel_rfl) rfl hH (fun w hw => by go_simp) ?_
            simp only [Act.put, List.setIfInBounds_toArray, List.set_cons_zero, List.set_cons_succ]
            refine held_value 9 55 (.int .i64 (k : Int)) rfl rfl (by kernel_rfl) (by kernel_rfl) (by kernel_rfl) rfl hH (fun w hw => by have hq := hw.row.k; rw [HK.out] at hq; go_simp) ?_
            simp only [Act.put, List.setIfInBounds_toArray, List.set_cons_zero, List.set_cons_succ]
            refine held_value 10 56 (.int .i64 136) rfl rfl (by kernel_rfl) (by kernel_rfl) (by kernel_rfl) rfl hH (fun w hw => by go_simp) ?_
            simp only [Act.put, List.setIfInBounds_toArray, List.set_cons_zero, List.set_cons_succ]
            refine wpAnyH_ready (rs := [5]) (by kernel_rfl) (by simp) ?_
            refine AllReadyH.cons (o := _) rfl (fun K hK => ?_) AllReadyH.nil
            go_simp
            refine (bytes_any Y.s _).mono ?_
            rintro e w3 ⟨rfl, ht⟩
            have R3 := Lib.hid (Rd.out.below ht.bel)
            have B3 := Lib.hid ht.r2
            refine hK.out _ _ (hH.call ht.bel) (fun hN => ?_)
            clear hK K hH ht Rd
            have hH := hN
            clear hN
            try simp only [Act.put, List.setIfInBounds_toArray, List.set_cons_zero, List.set_cons_succ]
            obtain ⟨bx, hbx⟩ : ∃ bx, wd.heap.size + 1 = bx := ⟨_, rfl⟩
            rw [hbx] at B3 ⊢
            clear hbx
            refine held_value 11 57 (.slice (some ⟨bx, k, none⟩) c (200 - k)) rfl rfl (by kernel_rfl) (by kernel_rfl) (by kernel_rfl) rfl hH (fun w hw => by go_simp) ?_
            simp only [Act.put, List.setIfInBounds_toArray, List.set_cons_zero, List.set_cons_succ]
            refine wpAnyH_ready (rs := [12]) (by kernel_rfl) (by simp) ?_
            refine AllReadyH.cons (o := _) rfl (fun K hK => ?_) AllReadyH.nil
            refine want rfl ?_
            refine wp_append_room (f2 := fun i => bytesF Y.s (k + i)) 58 rfl rfl rfl rfl R3.out (fun i hi => by rw [cell_of_row _ _ _ _ _ _ B3.out, AB_get _ _ _ (by omega)]) (by omega) ?_
            refine hK.out _ _ (hH.setOther w1.heap.size _ hbz (by omega)) (fun hN => ?_)
            clear hK K hH
            have hH := hN
            clear hN
            try simp only [Act.put, List.setIfInBounds_toArray, List.set_cons_zero, List.set_cons_succ]
            have R4 := Lib.hid (show RowB (w3.setRow w1.heap.size (AB n (ov f m c fun i => bytesF Y.s (k + i)))) w1.heap.size n (ov f m c fun i => bytesF Y.s (k + i)) from setRow_heap _ _ _ _ _ _ R3.out)
            clear R3 B3
            generalize w3.setRow w1.heap.size (AB n (ov f m c fun i => bytesF Y.s (k + i))) = w4 at *
            refine held_value 13 5 (.slice (some ⟨w1.heap.size, 0, none⟩) (m + c) n) rfl rfl (by kernel_rfl) (by kernel_rfl) (by kernel_rfl) rfl hH (fun w hw => by go_simp) ?_
            simp only [Act.put, List.setIfInBounds_toArray, List.set_cons_zero, List.set_cons_succ]
            refine wpAnyH_done (by kernel_rfl) ?_ _
            refine NoPanic.normal ?_
            have H4 := Lib.hid hH
            clear hH
            go_wp2_with ((with_reducible apply lay_store_k (n := 136)); (case hgd => exact rfl); (case ho => exact rfl); (case hx => exact rfl); (case hy => exact rfl); (case hg => exact H4.out.row); intro _ _; go_simp)
            go_roundg (r - c)
            case measure => omega
            case rel =>
              refine ⟨m + c, ov f m c fun i => bytesF Y.s (k + i), by omega, by first | rfl | rw [hmg], R4.out.hs (Hs.set (Hs.start H4.out.row) _) (by omega), fun i hi => ?_, (H4.out.set _).eq ?_⟩
              · unfold ov
                by_cases hi2 : i < m
                · rw [if_neg (by omega), hf i hi2]
                · rw [if_pos (by omega)]
                  have h5 := tellB_round X m c (i - m) hX (by omega) (by rw [HYd.out, HK.out]; omega)
                  rw [HYd.out, HK.out, show m + (i - m) = i by omega] at h5
                  exact h5.symm
              · rw [tellS_round X m c hX (by omega) (by rw [HYd.out, HK.out]; omega), HYd.out]
                unfold HS.on
                rw [HK.out, show k + c = 136 by omega]
          · have hle1 : ¬ ((136 : Int) ≤ (j : Int)) := by omega
            have hkj : (k : Int) ≤ (j : Int) := by omega
            have hj2 : (j : Int) ≤ 200 := by omega
            have hcn : j - k = r := by omega
            go_wp2_with fail
            refine wp_region_noPanic ?_
            refine wp_region_held_drew (S := fun W => Hs w g W Y) (by kernel_rfl) HY.out.drew (fun hH => ?_)
            have Rd := Lib.hid Ry.out.drew
            clear HY Ry
            generalize wr.drew = wd at *
            refine held_value 0 46 (.slice (some ⟨w1.heap.size, 0, none⟩) m n) rfl rfl (by kernel_rfl) (by kernel_rfl) (by kernel_rfl) rfl hH (fun w hw => by go_simp) ?_
            simp only [Act.put, List.setIfInBounds_toArray, List.set_cons_zero, List.set_cons_succ]
            refine held_value 1 47 (.pointer (some ⟨g, 0, none⟩)) rfl rfl (by kernel_rfl) (by kernel_rfl) (by kernel_rfl) rfl hH (fun w hw => by go_simp) ?_
            simp only [Act.put, List.setIfInBounds_toArray, List.set_cons_zero, List.set_cons_succ]
            refine held_value 2 48 (.pointer (some ⟨g, 0, none⟩)) rfl rfl (by kernel_rfl) (by kernel_rfl) (by kernel_rfl) rfl hH (fun w hw => by go_simp) ?_
            simp only [Act.put, List.setIfInBounds_toArray, List.set_cons_zero, List.set_cons_succ]
            refine held_value 3 49 (.pointer (some ⟨g, 0, none⟩)) rfl rfl (by kernel_rfl) (by kernel_rfl) (by kernel_rfl) rfl hH (fun w hw => by go_simp) ?_
            simp only [Act.put, List.setIfInBounds_toArray, List.set_cons_zero, List.set_cons_succ]
            refine held_load_s 4 50 rfl rfl (by kernel_rfl) (by kernel_rfl) (by kernel_rfl) rfl hH rfl rfl (fun _ h => h.row) ?_
            simp only [Act.put, List.setIfInBounds_toArray, List.set_cons_zero, List.set_cons_succ]
            refine held_value 6 52 (.pointer (some ⟨g, 0, none⟩)) rfl rfl (by kernel_rfl) (by kernel_rfl) (by kernel_rfl) rfl hH (fun w hw => by go_simp) ?_
            simp only [Act.put, List.setIfInBounds_toArray, List.set_cons_zero, List.set_cons_succ]
            refine held_value 7 53 (.pointer (some ⟨g, 0, none⟩)) rfl rfl (by kernel_rfl) (by kernel_rfl) (by kernel_rfl) rfl hH (fun w hw => by go_simp) ?_
            simp only [Act.put, List.setIfInBounds_toArray, List.set_cons_zero, List.set_cons_succ]
            refine held_value 8 54 (.pointer (some ⟨g, 161, none⟩)) rfl rfl (by kernel_rfl) (by kernel_rfl) (by kernel_rfl) rfl hH (fun w hw => by go_simp) ?_
            simp only [Act.put, List.setIfInBounds_toArray, List.set_cons_zero, List.set_cons_succ]
            refine held_value 9 55 (.int .i64 (k : Int)) rfl rfl (by kernel_rfl) (by kernel_rfl) (by kernel_rfl) rfl hH (fun w hw => by have hq := hw.row.k; rw [HK.out] at hq; go_simp) ?_
            simp only [Act.put, List.setIfInBounds_toArray, List.set_cons_zero, List.set_cons_succ]
            refine held_value 10 56 (.int .i64 (j : Int)) rfl rfl (by kernel_rfl) (by kernel_rfl) (by kernel_rfl) rfl hH (fun w hw => by go_simp) ?_
            simp only [Act.put, List.setIfInBounds_toArray, List.set_cons_zero, List.set_cons_succ]
            refine wpAnyH_ready (rs := [5]) (by kernel_rfl) (by simp) ?_
            refine AllReadyH.cons (o := _) rfl (fun K hK => ?_) AllReadyH.nil
            go_simp
            refine (bytes_any Y.s _).mono ?_
            rintro e w3 ⟨rfl, ht⟩
            have R3 := Lib.hid (Rd.out.below ht.bel)
            have B3 := Lib.hid ht.r2
            refine hK.out _ _ (hH.call ht.bel) (fun hN => ?_)
            clear hK K hH ht Rd
            have hH := hN
            clear hN
            try simp only [Act.put, List.setIfInBounds_toArray, List.set_cons_zero, List.set_cons_succ]
            obtain ⟨bx, hbx⟩ : ∃ bx, wd.heap.size + 1 = bx := ⟨_, rfl⟩
            rw [hbx] at B3 ⊢
            clear hbx
            refine held_value 11 57 (.slice (some ⟨bx, k, none⟩) r (200 - k)) rfl rfl (by kernel_rfl) (by kernel_rfl) (by kernel_rfl) rfl hH (fun w hw => by go_simp) ?_
            simp only [Act.put, List.setIfInBounds_toArray, List.set_cons_zero, List.set_cons_succ]
            refine wpAnyH_ready (rs := [12]) (by kernel_rfl) (by simp) ?_
            refine AllReadyH.cons (o := _) rfl (fun K hK => ?_) AllReadyH.nil
            refine want rfl ?_
            refine wp_append_room (f2 := fun i => bytesF Y.s (k + i)) 58 rfl rfl rfl rfl R3.out (fun i hi => by rw [cell_of_row _ _ _ _ _ _ B3.out, AB_get _ _ _ (by omega)]) (by omega) ?_
            refine hK.out _ _ (hH.setOther w1.heap.size _ hbz (by omega)) (fun hN => ?_)
            clear hK K hH
            have hH := hN
            clear hN
            try simp only [Act.put, List.setIfInBounds_toArray, List.set_cons_zero, List.set_cons_succ]
            have R4 := Lib.hid (show RowB (w3.setRow w1.heap.size (AB n (ov f m r fun i => bytesF Y.s (k + i)))) w1.heap.size n (ov f m r fun i => bytesF Y.s (k + i)) from setRow_heap _ _ _ _ _ _ R3.out)
            clear R3 B3
            generalize w3.setRow w1.heap.size (AB n (ov f m r fun i => bytesF Y.s (k + i))) = w4 at *
            refine held_value 13 5 (.slice (some ⟨w1.heap.size, 0, none⟩) (m + r) n) rfl rfl (by kernel_rfl) (by kernel_rfl) (by kernel_rfl) rfl hH (fun w hw => by go_simp) ?_
            simp only [Act.put, List.setIfInBounds_toArray, List.set_cons_zero, List.set_cons_succ]
            refine wpAnyH_done (by kernel_rfl) ?_ _
            refine NoPanic.normal ?_
            have H4 := Lib.hid hH
            clear hH
            go_wp2_with ((with_reducible apply lay_store_k (n := j)); (case hgd => exact rfl); (case ho => exact rfl); (case hx => exact rfl); (case hy => exact rfl); (case hg => exact H4.out.row); intro _ _; go_simp)
            go_roundg (r - r)
            case measure => omega
            case rel =>
              refine ⟨m + r, ov f m r fun i => bytesF Y.s (k + i), by omega, by first | rfl | rw [hmg], R4.out.hs (Hs.set (Hs.start H4.out.row) _) (by omega), fun i hi => ?_, (H4.out.set _).eq ?_⟩
              · unfold ov
                by_cases hi2 : i < m
                · rw [if_neg (by omega), hf i hi2]
                · rw [if_pos (by omega)]
                  have h5 := tellB_round X m r (i - m) hX (by omega) (by rw [HYd.out, HK.out]; omega)
                  rw [HYd.out, HK.out, show m + (i - m) = i by omega] at h5
                  exact h5.symm
              · rw [tellS_round X m r hX (by omega) (by rw [HYd.out, HK.out]; omega), HYd.out]
                unfold HS.on
                rw [HK.out, show k + r = j by omega]
end Go.Proofs.YtjppmeihobcenaaDoor
