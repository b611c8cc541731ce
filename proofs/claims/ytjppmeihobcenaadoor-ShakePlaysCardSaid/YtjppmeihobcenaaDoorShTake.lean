/-
  The contract of take.
-/
import Derived.Test.YtjppmeihobcenaaDoorShLeaf
import Derived.WalkLawsBesides
namespace Go.Proofs.YtjppmeihobcenaaDoor
open Go.RowKit

set_option maxHeartbeats 1600000 in
set_option maxRecDepth 100000 in
theorem take_any (g : Nat) (h : HS) (a : Option Addr) (n c : Nat) (p : Nat → Piece) (w : World) (hT : Tabs w) (h2 : 2 ≤ g) (hg : Lies w g h) (hk : h.k < 136) (hp : Pc w g a n c p) (hn : n ≤ 9223372036854775806) :
    Calls Tryd.prog 25 #[.pointer (some ⟨g, 0, none⟩), .slice a n c] w fun e w' => e = .returned (.tuple #[]) ∧ Hs w g w' (takeP h p n) := by
  have HT := Lib.hid hT
  have HG := Lib.hid hg
  have HP := Lib.hid hp
  clear hT hg hp
  go_enter Tryd.func25, Tryd.ntmps25
  go_wp2
  go_step3
  go_wp2
  go_step3
  go_wp2
  go_loopg [9] n (fun gk s9 wr => ∃ i : Nat, i + gk = n ∧ s9 = .int .i64 i ∧ Hs w g wr (takeP h p i))
  case atStart => exact ⟨0, by omega, rfl, Hs.start HG.out⟩
  case round =>
    obtain ⟨i, hig, rfl, HR⟩ := hrel
    cases gk with
    | zero =>
      have hiz : ¬ ((i : Int) < (n : Int)) := by omega
      obtain rfl : i = n := by omega
      have HH := Lib.hid HR
      clear HR
      go_wp2
      exact bodyPost_end (results_none Tryd.results25 _ _ _) rfl ⟨rfl, HH.out⟩
    | succ go =>
      have hiz : (i : Int) < (n : Int) := by omega
      have hP1 := HP.out.hs HR
      obtain ⟨b, o, rfl, hb, hbg, hc⟩ := hP1.get i (by omega)
      have HSg := Lib.hid (HP.out.each i (by omega))
      have HH := Lib.hid HR
      clear HR hP1
      obtain ⟨pa, hpa⟩ : ∃ x, (p i).a = x := ⟨_, rfl⟩
      obtain ⟨pn, hpn⟩ : ∃ x, (p i).n = x := ⟨_, rfl⟩
      obtain ⟨pc, hpc⟩ : ∃ x, (p i).c = x := ⟨_, rfl⟩
      obtain ⟨pf, hpf⟩ : ∃ x, (p i).f = x := ⟨_, rfl⟩
      rw [hpa, hpn, hpc] at hc
      rw [hpa, hpn, hpc, hpf] at HSg
      have Hpc := Lib.hid hpc
      have Hpa := Lib.hid hpa
      have Hpn := Lib.hid hpn
      have Hpf := Lib.hid hpf
      clear hpc hpa hpn hpf
      go_wp2_with fail
      go_loopg [5] pn (fun g2 s5 wy => ∃ (d : Nat) (a' : Option Addr) (c' : Nat), d + g2 = pn ∧ s5 = .slice a' g2 c' ∧ Sg w g a' g2 c' (fun j => pf (d + j)) ∧ Hs w g wy (takeN (takeP h p i) pf d))
      case atStart => exact ⟨0, pa, pc, by omega, rfl, by simpa using HSg.out, HH.out⟩
      case round =>
        clear HSg HH hc
        obtain ⟨r, rfl⟩ : ∃ r, r = gk := ⟨_, rfl⟩
        obtain ⟨d, a', c', hdg, rfl, hsg, HR⟩ := hrel
        have hXk := takeN_k (takeP h p i) pf (takeP_k h p hk i) d
        obtain ⟨X, hX⟩ : ∃ X, takeN (takeP h p i) pf d = X := ⟨_, rfl⟩
        rw [hX] at HR hXk
        obtain ⟨k, hXk'⟩ : ∃ k, X.k = k := ⟨_, rfl⟩
        have hck := HR.row.k
        rw [hXk'] at hck hXk
        have HX := Lib.hid hX
        have HK := Lib.hid hXk'
        have HSg := Lib.hid hsg
        have HH := Lib.hid HR
        clear hX hXk' hsg HR
        by_cases hcase : k + r < 136
        · have hmin : (r : Int) ≤ 136 - (k : Int) := by omega
          have hm : k + r ≤ 136 := by omega
          go_wp2_with fail
          refine wp_region_noPanic ?_
          refine wp_region_held_drew (S := fun _ => True) (by kernel_rfl) trivial (fun hH => ?_)
          have hdl := HH.out.drew
          clear HH
          generalize wr.drew = wd at *
          have hcut := (HSg.out.hs hdl).head r (by omega)
          have hckd := hdl.row.k
          rw [HK.out] at hckd
          have hrc : r ≤ c' := Nat.le_trans (by omega) HSg.out.le
          have hadd := map_add_zero a'
          have hk1 : (k : Int) ≤ 136 := by omega
          have hk2 : ¬ (136 = k) := by omega
          have hwr : IntKind.i64.wrap ((k : Int) + (r : Int)) = (k : Int) + (r : Int) := IntWalk.i64_in _ (by omega)
          refine held_value 0 21 (.pointer (some ⟨g, 0, none⟩)) rfl rfl (by kernel_rfl) (by kernel_rfl) (by kernel_rfl) rfl hH (fun w hw => by go_simp) ?_
          simp only [Act.put, List.setIfInBounds_toArray, List.set_cons_zero, List.set_cons_succ]
          refine held_value 1 22 (.pointer (some ⟨g, 0, none⟩)) rfl rfl (by kernel_rfl) (by kernel_rfl) (by kernel_rfl) rfl hH (fun w hw => by go_simp) ?_
          simp only [Act.put, List.setIfInBounds_toArray, List.set_cons_zero, List.set_cons_succ]
          refine held_value 2 23 (.pointer (some ⟨g, 161, none⟩)) rfl rfl (by kernel_rfl) (by kernel_rfl) (by kernel_rfl) rfl hH (fun w hw => by go_simp) ?_
          simp only [Act.put, List.setIfInBounds_toArray, List.set_cons_zero, List.set_cons_succ]
          refine held_value 4 25 (.pointer (some ⟨g, 0, none⟩)) rfl rfl (by kernel_rfl) (by kernel_rfl) (by kernel_rfl) rfl hH (fun w hw => by go_simp) ?_
          simp only [Act.put, List.setIfInBounds_toArray, List.set_cons_zero, List.set_cons_succ]
          refine held_value 5 26 (.pointer (some ⟨g, 0, none⟩)) rfl rfl (by kernel_rfl) (by kernel_rfl) (by kernel_rfl) rfl hH (fun w hw => by go_simp) ?_
          simp only [Act.put, List.setIfInBounds_toArray, List.set_cons_zero, List.set_cons_succ]
          refine held_value 6 27 (.pointer (some ⟨g, 25, none⟩)) rfl rfl (by kernel_rfl) (by kernel_rfl) (by kernel_rfl) rfl hH (fun w hw => by go_simp) ?_
          simp only [Act.put, List.setIfInBounds_toArray, List.set_cons_zero, List.set_cons_succ]
          refine held_value 7 28 (.pointer (some ⟨g, 0, none⟩)) rfl rfl (by kernel_rfl) (by kernel_rfl) (by kernel_rfl) rfl hH (fun w hw => by go_simp) ?_
          simp only [Act.put, List.setIfInBounds_toArray, List.set_cons_zero, List.set_cons_succ]
          refine held_value 8 29 (.pointer (some ⟨g, 0, none⟩)) rfl rfl (by kernel_rfl) (by kernel_rfl) (by kernel_rfl) rfl hH (fun w hw => by go_simp) ?_
          simp only [Act.put, List.setIfInBounds_toArray, List.set_cons_zero, List.set_cons_succ]
          refine held_value 9 30 (.pointer (some ⟨g, 161, none⟩)) rfl rfl (by kernel_rfl) (by kernel_rfl) (by kernel_rfl) rfl hH (fun w hw => by go_simp) ?_
          simp only [Act.put, List.setIfInBounds_toArray, List.set_cons_zero, List.set_cons_succ]
          refine held_value 12 33 (.slice a' r c') rfl rfl (by kernel_rfl) (by kernel_rfl) (by kernel_rfl) rfl hH (fun w hw => by go_simp) ?_
          simp only [Act.put, List.setIfInBounds_toArray, List.set_cons_zero, List.set_cons_succ]
          refine held_value 13 34 (.int .i64 (r : Int)) rfl rfl (by kernel_rfl) (by kernel_rfl) (by kernel_rfl) rfl hH (fun w hw => by go_simp) ?_
          simp only [Act.put, List.setIfInBounds_toArray, List.set_cons_zero, List.set_cons_succ]
          refine held_value 14 35 (.int .i64 (r : Int)) rfl rfl (by kernel_rfl) (by kernel_rfl) (by kernel_rfl) rfl hH (fun w hw => by go_simp) ?_
          simp only [Act.put, List.setIfInBounds_toArray, List.set_cons_zero, List.set_cons_succ]
          refine held_value 15 36 (.slice a' r r) rfl rfl (by kernel_rfl) (by kernel_rfl) (by kernel_rfl) rfl hH (fun w hw => by go_simp) ?_
          simp only [Act.put, List.setIfInBounds_toArray, List.set_cons_zero, List.set_cons_succ]
          refine wpAnyH_ready (rs := [3, 10]) (by kernel_rfl) (by simp) ?_
          refine AllReadyH.cons (o := _) rfl (fun K hK => ?_) (AllReadyH.cons (o := _) rfl (fun K hK => ?_) AllReadyH.nil)
          · go_simp
            refine hK.out _ _ trivial (fun _ => ?_)
            clear hK K
            try simp only [Act.put, List.setIfInBounds_toArray, List.set_cons_zero, List.set_cons_succ]
            refine wpAnyH_ready (rs := [10]) (by kernel_rfl) (by simp) ?_
            refine AllReadyH.cons (o := _) rfl (fun K hK => ?_) AllReadyH.nil
            go_simp
            refine hK.out _ _ trivial (fun _ => ?_)
            clear hK K
            try simp only [Act.put, List.setIfInBounds_toArray, List.set_cons_zero, List.set_cons_succ]
            refine held_value 11 32 (.slice (some ⟨g, 25 + k, none⟩) (136 - k) (136 - k)) rfl rfl (by kernel_rfl) (by kernel_rfl) (by kernel_rfl) rfl hH (fun w hw => by go_simp) ?_
            simp only [Act.put, List.setIfInBounds_toArray, List.set_cons_zero, List.set_cons_succ]
            refine wpAnyH_ready (rs := [16]) (by kernel_rfl) (by simp) ?_
            refine AllReadyH.cons (o := _) rfl (fun K hK => ?_) AllReadyH.nil
            refine want rfl ?_
            refine wp_copy_h 37 rfl rfl HK.out rfl rfl hm hcut hdl.row ?_
            refine hK.out _ _ trivial (fun _ => ?_)
            clear hK K
            try simp only [Act.put, List.setIfInBounds_toArray, List.set_cons_zero, List.set_cons_succ]
            have hd2 := hdl.set (X.over r fun j => pf (d + j))
            generalize wd.setRow g (HB (X.over r fun j => pf (d + j))) = w2 at hd2 ⊢
            refine held_value 17 38 (.int .i64 ((k + r : Nat) : Int)) rfl rfl (by kernel_rfl) (by kernel_rfl) (by kernel_rfl) rfl hH (fun w hw => by (go_simp; try omega)) ?_
            simp only [Act.put, List.setIfInBounds_toArray, List.set_cons_zero, List.set_cons_succ]
            refine held_value 18 39 (.pointer (some ⟨g, 0, none⟩)) rfl rfl (by kernel_rfl) (by kernel_rfl) (by kernel_rfl) rfl hH (fun w hw => by go_simp) ?_
            simp only [Act.put, List.setIfInBounds_toArray, List.set_cons_zero, List.set_cons_succ]
            refine held_value 19 40 (.pointer (some ⟨g, 161, none⟩)) rfl rfl (by kernel_rfl) (by kernel_rfl) (by kernel_rfl) rfl hH (fun w hw => by go_simp) ?_
            simp only [Act.put, List.setIfInBounds_toArray, List.set_cons_zero, List.set_cons_succ]
            refine wpAnyH_ready (rs := [20]) (by kernel_rfl) (by simp) ?_
            refine AllReadyH.cons (o := _) rfl (fun K hK => ?_) AllReadyH.nil
            refine want rfl ?_
            refine wp_store_k rfl rfl rfl rfl hd2.row ?_
            refine hK.out _ _ trivial (fun _ => ?_)
            clear hK K
            try simp only [Act.put, List.setIfInBounds_toArray, List.set_cons_zero, List.set_cons_succ]
            have hd3 := (hd2.set { X.over r (fun j => pf (d + j)) with k := k + r }).eq (show _ = X.laid r (fun j => pf (d + j)) from by unfold HS.laid HS.over; rw [HK.out])
            generalize w2.setRow g (HB { X.over r (fun j => pf (d + j)) with k := k + r }) = w3 at hd3 ⊢
            refine wpAnyH_done (by kernel_rfl) ?_ _
            refine NoPanic.normal ?_
            have hck3 := hd3.row.k
            rw [show (X.laid r fun j => pf (d + j)).k = k + r from by unfold HS.laid; rw [HK.out]] at hck3
            have hlt : (k : Int) + (r : Int) < 136 := by omega
            clear hd2 hckd hcut hdl
            have HH3 := Lib.hid hd3
            clear hd3
            go_wp2_with fail
            go_roundg go
            case measure => omega
            case rel =>
              refine ⟨i + 1, by omega, by first | rfl | simp, HH3.out.eq ?_⟩
              show _ = takeN (takeP h p i) (p i).f (p i).n
              rw [Hpn.out, Hpf.out, ← hdg, takeN_add, HX.out, takeN_few _ _ _ (by rw [HK.out]; exact hcase)]
          · go_simp
            refine hK.out _ _ trivial (fun _ => ?_)
            clear hK K
            try simp only [Act.put, List.setIfInBounds_toArray, List.set_cons_zero, List.set_cons_succ]
            refine held_value 11 32 (.slice (some ⟨g, 25 + k, none⟩) (136 - k) (136 - k)) rfl rfl (by kernel_rfl) (by kernel_rfl) (by kernel_rfl) rfl hH (fun w hw => by go_simp) ?_
            simp only [Act.put, List.setIfInBounds_toArray, List.set_cons_zero, List.set_cons_succ]
            refine wpAnyH_ready (rs := [3, 16]) (by kernel_rfl) (by simp) ?_
            refine AllReadyH.cons (o := _) rfl (fun K hK => ?_) (AllReadyH.cons (o := _) rfl (fun K hK => ?_) AllReadyH.nil)
            · go_simp
              refine hK.out _ _ trivial (fun _ => ?_)
              clear hK K
              try simp only [Act.put, List.setIfInBounds_toArray, List.set_cons_zero, List.set_cons_succ]
              refine wpAnyH_ready (rs := [16]) (by kernel_rfl) (by simp) ?_
              refine AllReadyH.cons (o := _) rfl (fun K hK => ?_) AllReadyH.nil
              refine want rfl ?_
              refine wp_copy_h 37 rfl rfl HK.out rfl rfl hm hcut hdl.row ?_
              refine hK.out _ _ trivial (fun _ => ?_)
              clear hK K
              try simp only [Act.put, List.setIfInBounds_toArray, List.set_cons_zero, List.set_cons_succ]
              have hd2 := hdl.set (X.over r fun j => pf (d + j))
              generalize wd.setRow g (HB (X.over r fun j => pf (d + j))) = w2 at hd2 ⊢
              refine held_value 17 38 (.int .i64 ((k + r : Nat) : Int)) rfl rfl (by kernel_rfl) (by kernel_rfl) (by kernel_rfl) rfl hH (fun w hw => by (go_simp; try omega)) ?_
              simp only [Act.put, List.setIfInBounds_toArray, List.set_cons_zero, List.set_cons_succ]
              refine held_value 18 39 (.pointer (some ⟨g, 0, none⟩)) rfl rfl (by kernel_rfl) (by kernel_rfl) (by kernel_rfl) rfl hH (fun w hw => by go_simp) ?_
              simp only [Act.put, List.setIfInBounds_toArray, List.set_cons_zero, List.set_cons_succ]
              refine held_value 19 40 (.pointer (some ⟨g, 161, none⟩)) rfl rfl (by kernel_rfl) (by kernel_rfl) (by kernel_rfl) rfl hH (fun w hw => by go_simp) ?_
              simp only [Act.put, List.setIfInBounds_toArray, List.set_cons_zero, List.set_cons_succ]
              refine wpAnyH_ready (rs := [20]) (by kernel_rfl) (by simp) ?_
              refine AllReadyH.cons (o := _) rfl (fun K hK => ?_) AllReadyH.nil
              refine want rfl ?_
              refine wp_store_k rfl rfl rfl rfl hd2.row ?_
              refine hK.out _ _ trivial (fun _ => ?_)
              clear hK K
              try simp only [Act.put, List.setIfInBounds_toArray, List.set_cons_zero, List.set_cons_succ]
              have hd3 := (hd2.set { X.over r (fun j => pf (d + j)) with k := k + r }).eq (show _ = X.laid r (fun j => pf (d + j)) from by unfold HS.laid HS.over; rw [HK.out])
              generalize w2.setRow g (HB { X.over r (fun j => pf (d + j)) with k := k + r }) = w3 at hd3 ⊢
              refine wpAnyH_done (by kernel_rfl) ?_ _
              refine NoPanic.normal ?_
              have hck3 := hd3.row.k
              rw [show (X.laid r fun j => pf (d + j)).k = k + r from by unfold HS.laid; rw [HK.out]] at hck3
              have hlt : (k : Int) + (r : Int) < 136 := by omega
              clear hd2 hckd hcut hdl
              have HH3 := Lib.hid hd3
              clear hd3
              go_wp2_with fail
              go_roundg go
              case measure => omega
              case rel =>
                refine ⟨i + 1, by omega, by first | rfl | simp, HH3.out.eq ?_⟩
                show _ = takeN (takeP h p i) (p i).f (p i).n
                rw [Hpn.out, Hpf.out, ← hdg, takeN_add, HX.out, takeN_few _ _ _ (by rw [HK.out]; exact hcase)]
            · refine want rfl ?_
              refine wp_copy_h 37 rfl rfl HK.out rfl rfl hm hcut hdl.row ?_
              refine hK.out _ _ trivial (fun _ => ?_)
              clear hK K
              try simp only [Act.put, List.setIfInBounds_toArray, List.set_cons_zero, List.set_cons_succ]
              have hd2 := hdl.set (X.over r fun j => pf (d + j))
              generalize wd.setRow g (HB (X.over r fun j => pf (d + j))) = w2 at hd2 ⊢
              refine wpAnyH_ready (rs := [3]) (by kernel_rfl) (by simp) ?_
              refine AllReadyH.cons (o := _) rfl (fun K hK => ?_) AllReadyH.nil
              have hck2 := hd2.row.k
              rw [show (X.over r fun j => pf (d + j)).k = k from HK.out] at hck2
              go_simp
              refine hK.out _ _ trivial (fun _ => ?_)
              clear hK K
              try simp only [Act.put, List.setIfInBounds_toArray, List.set_cons_zero, List.set_cons_succ]
              refine held_value 17 38 (.int .i64 ((k + r : Nat) : Int)) rfl rfl (by kernel_rfl) (by kernel_rfl) (by kernel_rfl) rfl hH (fun w hw => by (go_simp; try omega)) ?_
              simp only [Act.put, List.setIfInBounds_toArray, List.set_cons_zero, List.set_cons_succ]
              refine held_value 18 39 (.pointer (some ⟨g, 0, none⟩)) rfl rfl (by kernel_rfl) (by kernel_rfl) (by kernel_rfl) rfl hH (fun w hw => by go_simp) ?_
              simp only [Act.put, List.setIfInBounds_toArray, List.set_cons_zero, List.set_cons_succ]
              refine held_value 19 40 (.pointer (some ⟨g, 161, none⟩)) rfl rfl (by kernel_rfl) (by kernel_rfl) (by kernel_rfl) rfl hH (fun w hw => by go_simp) ?_
              simp only [Act.put, List.setIfInBounds_toArray, List.set_cons_zero, List.set_cons_succ]
              refine wpAnyH_ready (rs := [20]) (by kernel_rfl) (by simp) ?_
              refine AllReadyH.cons (o := _) rfl (fun K hK => ?_) AllReadyH.nil
              refine want rfl ?_
              refine wp_store_k rfl rfl rfl rfl hd2.row ?_
              refine hK.out _ _ trivial (fun _ => ?_)
              clear hK K
              try simp only [Act.put, List.setIfInBounds_toArray, List.set_cons_zero, List.set_cons_succ]
              have hd3 := (hd2.set { X.over r (fun j => pf (d + j)) with k := k + r }).eq (show _ = X.laid r (fun j => pf (d + j)) from by unfold HS.laid HS.over; rw [HK.out])
              generalize w2.setRow g (HB { X.over r (fun j => pf (d + j)) with k := k + r }) = w3 at hd3 ⊢
              refine wpAnyH_done (by kernel_rfl) ?_ _
              refine NoPanic.normal ?_
              have hck3 := hd3.row.k
              rw [show (X.laid r fun j => pf (d + j)).k = k + r from by unfold HS.laid; rw [HK.out]] at hck3
              have hlt : (k : Int) + (r : Int) < 136 := by omega
              clear hd2 hckd hcut hdl
              have HH3 := Lib.hid hd3
              clear hd3
              go_wp2_with fail
              go_roundg go
              case measure => omega
              case rel =>
                refine ⟨i + 1, by omega, by first | rfl | simp, HH3.out.eq ?_⟩
                show _ = takeN (takeP h p i) (p i).f (p i).n
                rw [Hpn.out, Hpf.out, ← hdg, takeN_add, HX.out, takeN_few _ _ _ (by rw [HK.out]; exact hcase)]
        · by_cases h3 : k + r = 136
          · have hmin : (r : Int) ≤ 136 - (k : Int) := by omega
            have hm : k + r ≤ 136 := by omega
            go_wp2_with fail
            refine wp_region_noPanic ?_
            refine wp_region_held_drew (S := fun _ => True) (by kernel_rfl) trivial (fun hH => ?_)
            have hdl := HH.out.drew
            clear HH
            generalize wr.drew = wd at *
            have hcut := (HSg.out.hs hdl).head r (by omega)
            have hckd := hdl.row.k
            rw [HK.out] at hckd
            have hrc : r ≤ c' := Nat.le_trans (by omega) HSg.out.le
            have hadd := map_add_zero a'
            have hk1 : (k : Int) ≤ 136 := by omega
            have hk2 : ¬ (136 = k) := by omega
            have hwr : IntKind.i64.wrap ((k : Int) + (r : Int)) = (k : Int) + (r : Int) := IntWalk.i64_in _ (by omega)
            refine held_value 0 21 (.pointer (some ⟨g, 0, none⟩)) rfl rfl (by kernel_rfl) (by kernel_rfl) (by kernel_rfl) rfl hH (fun w hw => by go_simp) ?_
            simp only [Act.put, List.setIfInBounds_toArray, List.set_cons_zero, List.set_cons_succ]
            refine held_value 1 22 (.pointer (some ⟨g, 0, none⟩)) rfl rfl (by kernel_rfl) (by kernel_rfl) (by kernel_rfl) rfl hH (fun w hw => by go_simp) ?_
            simp only [Act.put, List.setIfInBounds_toArray, List.set_cons_zero, List.set_cons_succ]
            refine held_value 2 23 (.pointer (some ⟨g, 161, none⟩)) rfl rfl (by kernel_rfl) (by kernel_rfl) (by kernel_rfl) rfl hH (fun w hw => by go_simp) ?_
            simp only [Act.put, List.setIfInBounds_toArray, List.set_cons_zero, List.set_cons_succ]
            refine held_value 4 25 (.pointer (some ⟨g, 0, none⟩)) rfl rfl (by kernel_rfl) (by kernel_rfl) (by kernel_rfl) rfl hH (fun w hw => by go_simp) ?_
            simp only [Act.put, List.setIfInBounds_toArray, List.set_cons_zero, List.set_cons_succ]
            refine held_value 5 26 (.pointer (some ⟨g, 0, none⟩)) rfl rfl (by kernel_rfl) (by kernel_rfl) (by kernel_rfl) rfl hH (fun w hw => by go_simp) ?_
            simp only [Act.put, List.setIfInBounds_toArray, List.set_cons_zero, List.set_cons_succ]
            refine held_value 6 27 (.pointer (some ⟨g, 25, none⟩)) rfl rfl (by kernel_rfl) (by kernel_rfl) (by kernel_rfl) rfl hH (fun w hw => by go_simp) ?_
            simp only [Act.put, List.setIfInBounds_toArray, List.set_cons_zero, List.set_cons_succ]
            refine held_value 7 28 (.pointer (some ⟨g, 0, none⟩)) rfl rfl (by kernel_rfl) (by kernel_rfl) (by kernel_rfl) rfl hH (fun w hw => by go_simp) ?_
            simp only [Act.put, List.setIfInBounds_toArray, List.set_cons_zero, List.set_cons_succ]
            refine held_value 8 29 (.pointer (some ⟨g, 0, none⟩)) rfl rfl (by kernel_rfl) (by kernel_rfl) (by kernel_rfl) rfl hH (fun w hw => by go_simp) ?_
            simp only [Act.put, List.setIfInBounds_toArray, List.set_cons_zero, List.set_cons_succ]
            refine held_value 9 30 (.pointer (some ⟨g, 161, none⟩)) rfl rfl (by kernel_rfl) (by kernel_rfl) (by kernel_rfl) rfl hH (fun w hw => by go_simp) ?_
            simp only [Act.put, List.setIfInBounds_toArray, List.set_cons_zero, List.set_cons_succ]
            refine held_value 12 33 (.slice a' r c') rfl rfl (by kernel_rfl) (by kernel_rfl) (by kernel_rfl) rfl hH (fun w hw => by go_simp) ?_
            simp only [Act.put, List.setIfInBounds_toArray, List.set_cons_zero, List.set_cons_succ]
            refine held_value 13 34 (.int .i64 (r : Int)) rfl rfl (by kernel_rfl) (by kernel_rfl) (by kernel_rfl) rfl hH (fun w hw => by go_simp) ?_
            simp only [Act.put, List.setIfInBounds_toArray, List.set_cons_zero, List.set_cons_succ]
            refine held_value 14 35 (.int .i64 (r : Int)) rfl rfl (by kernel_rfl) (by kernel_rfl) (by kernel_rfl) rfl hH (fun w hw => by go_simp) ?_
            simp only [Act.put, List.setIfInBounds_toArray, List.set_cons_zero, List.set_cons_succ]
            refine held_value 15 36 (.slice a' r r) rfl rfl (by kernel_rfl) (by kernel_rfl) (by kernel_rfl) rfl hH (fun w hw => by go_simp) ?_
            simp only [Act.put, List.setIfInBounds_toArray, List.set_cons_zero, List.set_cons_succ]
            refine wpAnyH_ready (rs := [3, 10]) (by kernel_rfl) (by simp) ?_
            refine AllReadyH.cons (o := _) rfl (fun K hK => ?_) (AllReadyH.cons (o := _) rfl (fun K hK => ?_) AllReadyH.nil)
            · go_simp
              refine hK.out _ _ trivial (fun _ => ?_)
              clear hK K
              try simp only [Act.put, List.setIfInBounds_toArray, List.set_cons_zero, List.set_cons_succ]
              refine wpAnyH_ready (rs := [10]) (by kernel_rfl) (by simp) ?_
              refine AllReadyH.cons (o := _) rfl (fun K hK => ?_) AllReadyH.nil
              go_simp
              refine hK.out _ _ trivial (fun _ => ?_)
              clear hK K
              try simp only [Act.put, List.setIfInBounds_toArray, List.set_cons_zero, List.set_cons_succ]
              refine held_value 11 32 (.slice (some ⟨g, 25 + k, none⟩) (136 - k) (136 - k)) rfl rfl (by kernel_rfl) (by kernel_rfl) (by kernel_rfl) rfl hH (fun w hw => by go_simp) ?_
              simp only [Act.put, List.setIfInBounds_toArray, List.set_cons_zero, List.set_cons_succ]
              refine wpAnyH_ready (rs := [16]) (by kernel_rfl) (by simp) ?_
              refine AllReadyH.cons (o := _) rfl (fun K hK => ?_) AllReadyH.nil
              refine want rfl ?_
              refine wp_copy_h 37 rfl rfl HK.out rfl rfl hm hcut hdl.row ?_
              refine hK.out _ _ trivial (fun _ => ?_)
              clear hK K
              try simp only [Act.put, List.setIfInBounds_toArray, List.set_cons_zero, List.set_cons_succ]
              have hd2 := hdl.set (X.over r fun j => pf (d + j))
              generalize wd.setRow g (HB (X.over r fun j => pf (d + j))) = w2 at hd2 ⊢
              refine held_value 17 38 (.int .i64 ((k + r : Nat) : Int)) rfl rfl (by kernel_rfl) (by kernel_rfl) (by kernel_rfl) rfl hH (fun w hw => by (go_simp; try omega)) ?_
              simp only [Act.put, List.setIfInBounds_toArray, List.set_cons_zero, List.set_cons_succ]
              refine held_value 18 39 (.pointer (some ⟨g, 0, none⟩)) rfl rfl (by kernel_rfl) (by kernel_rfl) (by kernel_rfl) rfl hH (fun w hw => by go_simp) ?_
              simp only [Act.put, List.setIfInBounds_toArray, List.set_cons_zero, List.set_cons_succ]
              refine held_value 19 40 (.pointer (some ⟨g, 161, none⟩)) rfl rfl (by kernel_rfl) (by kernel_rfl) (by kernel_rfl) rfl hH (fun w hw => by go_simp) ?_
              simp only [Act.put, List.setIfInBounds_toArray, List.set_cons_zero, List.set_cons_succ]
              refine wpAnyH_ready (rs := [20]) (by kernel_rfl) (by simp) ?_
              refine AllReadyH.cons (o := _) rfl (fun K hK => ?_) AllReadyH.nil
              refine want rfl ?_
              refine wp_store_k rfl rfl rfl rfl hd2.row ?_
              refine hK.out _ _ trivial (fun _ => ?_)
              clear hK K
              try simp only [Act.put, List.setIfInBounds_toArray, List.set_cons_zero, List.set_cons_succ]
              have hd3 := (hd2.set { X.over r (fun j => pf (d + j)) with k := k + r }).eq (show _ = X.laid r (fun j => pf (d + j)) from by unfold HS.laid HS.over; rw [HK.out])
              generalize w2.setRow g (HB { X.over r (fun j => pf (d + j)) with k := k + r }) = w3 at hd3 ⊢
              refine wpAnyH_done (by kernel_rfl) ?_ _
              refine NoPanic.normal ?_
              have hck3 := hd3.row.k
              rw [show (X.laid r fun j => pf (d + j)).k = k + r from by unfold HS.laid; rw [HK.out]] at hck3
              have hlt : ¬ ((k : Int) + (r : Int) < 136) := by omega
              have hr1 : (r : Int) ≤ (r : Int) := by omega
              have hr2 : r ≤ r := by omega
              clear hd2 hckd hcut hdl hH
              have HH3 := Lib.hid hd3
              clear hd3
              go_wp2_with fail
              refine (stir_any g _ _ (HH3.out.tabs h2 HT.out) h2 HH3.out.row).mono ?_
              rintro e w4 ⟨rfl, hs4⟩
              have HS4 := Lib.hid hs4
              clear hs4
              have hst : Hs w g w4 (takeN (takeP h p i) pf (d + r)) := (HH3.out.trans HS4.out).eq (by rw [takeN_add, HX.out, takeN_full _ _ _ (by rw [HK.out]; exact hXk) (by rw [HK.out]; omega)])
              have HST := Lib.hid hst
              have HC := Lib.hid ((HSg.out.cut r hr2).congr (f' := fun j => pf (d + r + j)) fun j _ => by rw [Nat.add_assoc])
              clear hst HH3 HS4 HSg
              by_cases hcm : c' = r
              · have HC2 := Lib.hid (by have := HC.out; rwa [if_pos hcm] at this)
                clear HC
                go_wp2_with fail
                go_roundg (r - r)
                case measure => omega
                case rel => exact ⟨d + r, a', c' - r, by omega, by first | rfl | (rw [hcm]; simp) | simp, HC2.out, HST.out⟩
              · have HC2 := Lib.hid (by have := HC.out; rwa [if_neg hcm] at this)
                clear HC
                go_wp2_with fail
                go_roundg (r - r)
                case measure => omega
                case rel => exact ⟨d + r, _, c' - r, by omega, by first | rfl | simp, HC2.out, HST.out⟩
            · go_simp
              refine hK.out _ _ trivial (fun _ => ?_)
              clear hK K
              try simp only [Act.put, List.setIfInBounds_toArray, List.set_cons_zero, List.set_cons_succ]
              refine held_value 11 32 (.slice (some ⟨g, 25 + k, none⟩) (136 - k) (136 - k)) rfl rfl (by kernel_rfl) (by kernel_rfl) (by kernel_rfl) rfl hH (fun w hw => by go_simp) ?_
              simp only [Act.put, List.setIfInBounds_toArray, List.set_cons_zero, List.set_cons_succ]
              refine wpAnyH_ready (rs := [3, 16]) (by kernel_rfl) (by simp) ?_
              refine AllReadyH.cons (o := _) rfl (fun K hK => ?_) (AllReadyH.cons (o := _) rfl (fun K hK => ?_) AllReadyH.nil)
              · go_simp
                refine hK.out _ _ trivial (fun _ => ?_)
                clear hK K
                try simp only [Act.put, List.setIfInBounds_toArray, List.set_cons_zero, List.set_cons_succ]
                refine wpAnyH_ready (rs := [16]) (by kernel_rfl) (by simp) ?_
                refine AllReadyH.cons (o := _) rfl (fun K hK => ?_) AllReadyH.nil
                refine want rfl ?_
                refine wp_copy_h 37 rfl rfl HK.out rfl rfl hm hcut hdl.row ?_
                refine hK.out _ _ trivial (fun _ => ?_)
                clear hK K
                try simp only [Act.put, List.setIfInBounds_toArray, List.set_cons_zero, List.set_cons_succ]
                have hd2 := hdl.set (X.over r fun j => pf (d + j))
                generalize wd.setRow g (HB (X.over r fun j => pf (d + j))) = w2 at hd2 ⊢
                refine held_value 17 38 (.int .i64 ((k + r : Nat) : Int)) rfl rfl (by kernel_rfl) (by kernel_rfl) (by kernel_rfl) rfl hH (fun w hw => by (go_simp; try omega)) ?_
                simp only [Act.put, List.setIfInBounds_toArray, List.set_cons_zero, List.set_cons_succ]
                refine held_value 18 39 (.pointer (some ⟨g, 0, none⟩)) rfl rfl (by kernel_rfl) (by kernel_rfl) (by kernel_rfl) rfl hH (fun w hw => by go_simp) ?_
                simp only [Act.put, List.setIfInBounds_toArray, List.set_cons_zero, List.set_cons_succ]
                refine held_value 19 40 (.pointer (some ⟨g, 161, none⟩)) rfl rfl (by kernel_rfl) (by kernel_rfl) (by kernel_rfl) rfl hH (fun w hw => by go_simp) ?_
                simp only [Act.put, List.setIfInBounds_toArray, List.set_cons_zero, List.set_cons_succ]
                refine wpAnyH_ready (rs := [20]) (by kernel_rfl) (by simp) ?_
                refine AllReadyH.cons (o := _) rfl (fun K hK => ?_) AllReadyH.nil
                refine want rfl ?_
                refine wp_store_k rfl rfl rfl rfl hd2.row ?_
                refine hK.out _ _ trivial (fun _ => ?_)
                clear hK K
                try simp only [Act.put, List.setIfInBounds_toArray, List.set_cons_zero, List.set_cons_succ]
                have hd3 := (hd2.set { X.over r (fun j => pf (d + j)) with k := k + r }).eq (show _ = X.laid r (fun j => pf (d + j)) from by unfold HS.laid HS.over; rw [HK.out])
                generalize w2.setRow g (HB { X.over r (fun j => pf (d + j)) with k := k + r }) = w3 at hd3 ⊢
                refine wpAnyH_done (by kernel_rfl) ?_ _
                refine NoPanic.normal ?_
                have hck3 := hd3.row.k
                rw [show (X.laid r fun j => pf (d + j)).k = k + r from by unfold HS.laid; rw [HK.out]] at hck3
                have hlt : ¬ ((k : Int) + (r : Int) < 136) := by omega
                have hr1 : (r : Int) ≤ (r : Int) := by omega
                have hr2 : r ≤ r := by omega
                clear hd2 hckd hcut hdl hH
                have HH3 := Lib.hid hd3
                clear hd3
                go_wp2_with fail
                refine (stir_any g _ _ (HH3.out.tabs h2 HT.out) h2 HH3.out.row).mono ?_
                rintro e w4 ⟨rfl, hs4⟩
                have HS4 := Lib.hid hs4
                clear hs4
                have hst : Hs w g w4 (takeN (takeP h p i) pf (d + r)) := (HH3.out.trans HS4.out).eq (by rw [takeN_add, HX.out, takeN_full _ _ _ (by rw [HK.out]; exact hXk) (by rw [HK.out]; omega)])
                have HST := Lib.hid hst
                have HC := Lib.hid ((HSg.out.cut r hr2).congr (f' := fun j => pf (d + r + j)) fun j _ => by rw [Nat.add_assoc])
                clear hst HH3 HS4 HSg
                by_cases hcm : c' = r
                · have HC2 := Lib.hid (by have := HC.out; rwa [if_pos hcm] at this)
                  clear HC
                  go_wp2_with fail
                  go_roundg (r - r)
                  case measure => omega
                  case rel => exact ⟨d + r, a', c' - r, by omega, by first | rfl | (rw [hcm]; simp) | simp, HC2.out, HST.out⟩
                · have HC2 := Lib.hid (by have := HC.out; rwa [if_neg hcm] at this)
                  clear HC
                  go_wp2_with fail
                  go_roundg (r - r)
                  case measure => omega
                  case rel => exact ⟨d + r, _, c' - r, by omega, by first | rfl | simp, HC2.out, HST.out⟩
              · refine want rfl ?_
                refine wp_copy_h 37 rfl rfl HK.out rfl rfl hm hcut hdl.row ?_
                refine hK.out _ _ trivial (fun _ => ?_)
                clear hK K
                try simp only [Act.put, List.setIfInBounds_toArray, List.set_cons_zero, List.set_cons_succ]
                have hd2 := hdl.set (X.over r fun j => pf (d + j))
                generalize wd.setRow g (HB (X.over r fun j => pf (d + j))) = w2 at hd2 ⊢
                refine wpAnyH_ready (rs := [3]) (by kernel_rfl) (by simp) ?_
                refine AllReadyH.cons (o := _) rfl (fun K hK => ?_) AllReadyH.nil
                have hck2 := hd2.row.k
                rw [show (X.over r fun j => pf (d + j)).k = k from HK.out] at hck2
                go_simp
                refine hK.out _ _ trivial (fun _ => ?_)
                clear hK K
                try simp only [Act.put, List.setIfInBounds_toArray, List.set_cons_zero, List.set_cons_succ]
                refine held_value 17 38 (.int .i64 ((k + r : Nat) : Int)) rfl rfl (by kernel_rfl) (by kernel_rfl) (by kernel_rfl) rfl hH (fun w hw => by (go_simp; try omega)) ?_
                simp only [Act.put, List.setIfInBounds_toArray, List.set_cons_zero, List.set_cons_succ]
                refine held_value 18 39 (.pointer (some ⟨g, 0, none⟩)) rfl rfl (by kernel_rfl) (by kernel_rfl) (by kernel_rfl) rfl hH (fun w hw => by go_simp) ?_
                simp only [Act.put, List.setIfInBounds_toArray, List.set_cons_zero, List.set_cons_succ]
                refine held_value 19 40 (.pointer (some ⟨g, 161, none⟩)) rfl rfl (by kernel_rfl) (by kernel_rfl) (by kernel_rfl) rfl hH (fun w hw => by go_simp) ?_
                simp only [Act.put, List.setIfInBounds_toArray, List.set_cons_zero, List.set_cons_succ]
                refine wpAnyH_ready (rs := [20]) (by kernel_rfl) (by simp) ?_
                refine AllReadyH.cons (o := _) rfl (fun K hK => ?_) AllReadyH.nil
                refine want rfl ?_
                refine wp_store_k rfl rfl rfl rfl hd2.row ?_
                refine hK.out _ _ trivial (fun _ => ?_)
                clear hK K
                try simp only [Act.put, List.setIfInBounds_toArray, List.set_cons_zero, List.set_cons_succ]
                have hd3 := (hd2.set { X.over r (fun j => pf (d + j)) with k := k + r }).eq (show _ = X.laid r (fun j => pf (d + j)) from by unfold HS.laid HS.over; rw [HK.out])
                generalize w2.setRow g (HB { X.over r (fun j => pf (d + j)) with k := k + r }) = w3 at hd3 ⊢
                refine wpAnyH_done (by kernel_rfl) ?_ _
                refine NoPanic.normal ?_
                have hck3 := hd3.row.k
                rw [show (X.laid r fun j => pf (d + j)).k = k + r from by unfold HS.laid; rw [HK.out]] at hck3
                have hlt : ¬ ((k : Int) + (r : Int) < 136) := by omega
                have hr1 : (r : Int) ≤ (r : Int) := by omega
                have hr2 : r ≤ r := by omega
                clear hd2 hckd hcut hdl hH
                have HH3 := Lib.hid hd3
                clear hd3
                go_wp2_with fail
                refine (stir_any g _ _ (HH3.out.tabs h2 HT.out) h2 HH3.out.row).mono ?_
                rintro e w4 ⟨rfl, hs4⟩
                have HS4 := Lib.hid hs4
                clear hs4
                have hst : Hs w g w4 (takeN (takeP h p i) pf (d + r)) := (HH3.out.trans HS4.out).eq (by rw [takeN_add, HX.out, takeN_full _ _ _ (by rw [HK.out]; exact hXk) (by rw [HK.out]; omega)])
                have HST := Lib.hid hst
                have HC := Lib.hid ((HSg.out.cut r hr2).congr (f' := fun j => pf (d + r + j)) fun j _ => by rw [Nat.add_assoc])
                clear hst HH3 HS4 HSg
                by_cases hcm : c' = r
                · have HC2 := Lib.hid (by have := HC.out; rwa [if_pos hcm] at this)
                  clear HC
                  go_wp2_with fail
                  go_roundg (r - r)
                  case measure => omega
                  case rel => exact ⟨d + r, a', c' - r, by omega, by first | rfl | (rw [hcm]; simp) | simp, HC2.out, HST.out⟩
                · have HC2 := Lib.hid (by have := HC.out; rwa [if_neg hcm] at this)
                  clear HC
                  go_wp2_with fail
                  go_roundg (r - r)
                  case measure => omega
                  case rel => exact ⟨d + r, _, c' - r, by omega, by first | rfl | simp, HC2.out, HST.out⟩
          · obtain ⟨q, hkq⟩ : ∃ q, k + q = 136 := ⟨136 - k, by omega⟩
            have hq : (136 : Int) - (k : Int) = (q : Int) := by omega
            have hqr : q < r := by omega
            have hmin : ¬ ((r : Int) ≤ (q : Int)) := by omega
            have hm : k + q ≤ 136 := by omega
            go_wp2_with fail
            refine wp_region_noPanic ?_
            refine wp_region_held_drew (S := fun _ => True) (by kernel_rfl) trivial (fun hH => ?_)
            have hdl := HH.out.drew
            clear HH
            generalize wr.drew = wd at *
            have hcut := (HSg.out.hs hdl).head q (by omega)
            have hckd := hdl.row.k
            rw [HK.out] at hckd
            have hrc : q ≤ c' := Nat.le_trans (by omega) HSg.out.le
            have hadd := map_add_zero a'
            have hk1 : (k : Int) ≤ 136 := by omega
            have hk2 : ¬ (136 = k) := by omega
            have hwr : IntKind.i64.wrap ((k : Int) + (q : Int)) = (k : Int) + (q : Int) := IntWalk.i64_in _ (by omega)
            refine held_value 0 21 (.pointer (some ⟨g, 0, none⟩)) rfl rfl (by kernel_rfl) (by kernel_rfl) (by kernel_rfl) rfl hH (fun w hw => by go_simp) ?_
            simp only [Act.put, List.setIfInBounds_toArray, List.set_cons_zero, List.set_cons_succ]
            refine held_value 1 22 (.pointer (some ⟨g, 0, none⟩)) rfl rfl (by kernel_rfl) (by kernel_rfl) (by kernel_rfl) rfl hH (fun w hw => by go_simp) ?_
            simp only [Act.put, List.setIfInBounds_toArray, List.set_cons_zero, List.set_cons_succ]
            refine held_value 2 23 (.pointer (some ⟨g, 161, none⟩)) rfl rfl (by kernel_rfl) (by kernel_rfl) (by kernel_rfl) rfl hH (fun w hw => by go_simp) ?_
            simp only [Act.put, List.setIfInBounds_toArray, List.set_cons_zero, List.set_cons_succ]
            refine held_value 4 25 (.pointer (some ⟨g, 0, none⟩)) rfl rfl (by kernel_rfl) (by kernel_rfl) (by kernel_rfl) rfl hH (fun w hw => by go_simp) ?_
            simp only [Act.put, List.setIfInBounds_toArray, List.set_cons_zero, List.set_cons_succ]
            refine held_value 5 26 (.pointer (some ⟨g, 0, none⟩)) rfl rfl (by kernel_rfl) (by kernel_rfl) (by kernel_rfl) rfl hH (fun w hw => by go_simp) ?_
            simp only [Act.put, List.setIfInBounds_toArray, List.set_cons_zero, List.set_cons_succ]
            refine held_value 6 27 (.pointer (some ⟨g, 25, none⟩)) rfl rfl (by kernel_rfl) (by kernel_rfl) (by kernel_rfl) rfl hH (fun w hw => by go_simp) ?_
            simp only [Act.put, List.setIfInBounds_toArray, List.set_cons_zero, List.set_cons_succ]
            refine held_value 7 28 (.pointer (some ⟨g, 0, none⟩)) rfl rfl (by kernel_rfl) (by kernel_rfl) (by kernel_rfl) rfl hH (fun w hw => by go_simp) ?_
            simp only [Act.put, List.setIfInBounds_toArray, List.set_cons_zero, List.set_cons_succ]
            refine held_value 8 29 (.pointer (some ⟨g, 0, none⟩)) rfl rfl (by kernel_rfl) (by kernel_rfl) (by kernel_rfl) rfl hH (fun w hw => by go_simp) ?_
            simp only [Act.put, List.setIfInBounds_toArray, List.set_cons_zero, List.set_cons_succ]
            refine held_value 9 30 (.pointer (some ⟨g, 161, none⟩)) rfl rfl (by kernel_rfl) (by kernel_rfl) (by kernel_rfl) rfl hH (fun w hw => by go_simp) ?_
            simp only [Act.put, List.setIfInBounds_toArray, List.set_cons_zero, List.set_cons_succ]
            refine held_value 12 33 (.slice a' r c') rfl rfl (by kernel_rfl) (by kernel_rfl) (by kernel_rfl) rfl hH (fun w hw => by go_simp) ?_
            simp only [Act.put, List.setIfInBounds_toArray, List.set_cons_zero, List.set_cons_succ]
            refine held_value 13 34 (.int .i64 (q : Int)) rfl rfl (by kernel_rfl) (by kernel_rfl) (by kernel_rfl) rfl hH (fun w hw => by go_simp) ?_
            simp only [Act.put, List.setIfInBounds_toArray, List.set_cons_zero, List.set_cons_succ]
            refine held_value 14 35 (.int .i64 (q : Int)) rfl rfl (by kernel_rfl) (by kernel_rfl) (by kernel_rfl) rfl hH (fun w hw => by go_simp) ?_
            simp only [Act.put, List.setIfInBounds_toArray, List.set_cons_zero, List.set_cons_succ]
            refine held_value 15 36 (.slice a' q q) rfl rfl (by kernel_rfl) (by kernel_rfl) (by kernel_rfl) rfl hH (fun w hw => by go_simp) ?_
            simp only [Act.put, List.setIfInBounds_toArray, List.set_cons_zero, List.set_cons_succ]
            refine wpAnyH_ready (rs := [3, 10]) (by kernel_rfl) (by simp) ?_
            refine AllReadyH.cons (o := _) rfl (fun K hK => ?_) (AllReadyH.cons (o := _) rfl (fun K hK => ?_) AllReadyH.nil)
            · go_simp
              refine hK.out _ _ trivial (fun _ => ?_)
              clear hK K
              try simp only [Act.put, List.setIfInBounds_toArray, List.set_cons_zero, List.set_cons_succ]
              refine wpAnyH_ready (rs := [10]) (by kernel_rfl) (by simp) ?_
              refine AllReadyH.cons (o := _) rfl (fun K hK => ?_) AllReadyH.nil
              go_simp
              refine hK.out _ _ trivial (fun _ => ?_)
              clear hK K
              try simp only [Act.put, List.setIfInBounds_toArray, List.set_cons_zero, List.set_cons_succ]
              refine held_value 11 32 (.slice (some ⟨g, 25 + k, none⟩) (136 - k) (136 - k)) rfl rfl (by kernel_rfl) (by kernel_rfl) (by kernel_rfl) rfl hH (fun w hw => by go_simp) ?_
              simp only [Act.put, List.setIfInBounds_toArray, List.set_cons_zero, List.set_cons_succ]
              refine wpAnyH_ready (rs := [16]) (by kernel_rfl) (by simp) ?_
              refine AllReadyH.cons (o := _) rfl (fun K hK => ?_) AllReadyH.nil
              refine want rfl ?_
              refine wp_copy_h 37 rfl rfl HK.out rfl rfl hm hcut hdl.row ?_
              refine hK.out _ _ trivial (fun _ => ?_)
              clear hK K
              try simp only [Act.put, List.setIfInBounds_toArray, List.set_cons_zero, List.set_cons_succ]
              have hd2 := hdl.set (X.over q fun j => pf (d + j))
              generalize wd.setRow g (HB (X.over q fun j => pf (d + j))) = w2 at hd2 ⊢
              refine held_value 17 38 (.int .i64 ((k + q : Nat) : Int)) rfl rfl (by kernel_rfl) (by kernel_rfl) (by kernel_rfl) rfl hH (fun w hw => by (go_simp; try omega)) ?_
              simp only [Act.put, List.setIfInBounds_toArray, List.set_cons_zero, List.set_cons_succ]
              refine held_value 18 39 (.pointer (some ⟨g, 0, none⟩)) rfl rfl (by kernel_rfl) (by kernel_rfl) (by kernel_rfl) rfl hH (fun w hw => by go_simp) ?_
              simp only [Act.put, List.setIfInBounds_toArray, List.set_cons_zero, List.set_cons_succ]
              refine held_value 19 40 (.pointer (some ⟨g, 161, none⟩)) rfl rfl (by kernel_rfl) (by kernel_rfl) (by kernel_rfl) rfl hH (fun w hw => by go_simp) ?_
              simp only [Act.put, List.setIfInBounds_toArray, List.set_cons_zero, List.set_cons_succ]
              refine wpAnyH_ready (rs := [20]) (by kernel_rfl) (by simp) ?_
              refine AllReadyH.cons (o := _) rfl (fun K hK => ?_) AllReadyH.nil
              refine want rfl ?_
              refine wp_store_k rfl rfl rfl rfl hd2.row ?_
              refine hK.out _ _ trivial (fun _ => ?_)
              clear hK K
              try simp only [Act.put, List.setIfInBounds_toArray, List.set_cons_zero, List.set_cons_succ]
              have hd3 := (hd2.set { X.over q (fun j => pf (d + j)) with k := k + q }).eq (show _ = X.laid q (fun j => pf (d + j)) from by unfold HS.laid HS.over; rw [HK.out])
              generalize w2.setRow g (HB { X.over q (fun j => pf (d + j)) with k := k + q }) = w3 at hd3 ⊢
              refine wpAnyH_done (by kernel_rfl) ?_ _
              refine NoPanic.normal ?_
              have hck3 := hd3.row.k
              rw [show (X.laid q fun j => pf (d + j)).k = k + q from by unfold HS.laid; rw [HK.out]] at hck3
              have hlt : ¬ ((k : Int) + (q : Int) < 136) := by omega
              have hr1 : (q : Int) ≤ (r : Int) := by omega
              have hr2 : q ≤ r := by omega
              clear hd2 hckd hcut hdl hH
              have HH3 := Lib.hid hd3
              clear hd3
              go_wp2_with fail
              refine (stir_any g _ _ (HH3.out.tabs h2 HT.out) h2 HH3.out.row).mono ?_
              rintro e w4 ⟨rfl, hs4⟩
              have HS4 := Lib.hid hs4
              clear hs4
              have hst : Hs w g w4 (takeN (takeP h p i) pf (d + q)) := (HH3.out.trans HS4.out).eq (by rw [takeN_add, HX.out, takeN_full _ _ _ (by rw [HK.out]; exact hXk) (by rw [HK.out]; omega)])
              have HST := Lib.hid hst
              have HC := Lib.hid ((HSg.out.cut q hr2).congr (f' := fun j => pf (d + q + j)) fun j _ => by rw [Nat.add_assoc])
              clear hst HH3 HS4 HSg
              by_cases hcm : c' = q
              · have HC2 := Lib.hid (by have := HC.out; rwa [if_pos hcm] at this)
                clear HC
                go_wp2_with fail
                go_roundg (r - q)
                case measure => omega
                case rel => exact ⟨d + q, a', c' - q, by omega, by first | rfl | (rw [hcm]; simp) | simp, HC2.out, HST.out⟩
              · have HC2 := Lib.hid (by have := HC.out; rwa [if_neg hcm] at this)
                clear HC
                go_wp2_with fail
                go_roundg (r - q)
                case measure => omega
                case rel => exact ⟨d + q, _, c' - q, by omega, by first | rfl | simp, HC2.out, HST.out⟩
            · go_simp
              refine hK.out _ _ trivial (fun _ => ?_)
              clear hK K
              try simp only [Act.put, List.setIfInBounds_toArray, List.set_cons_zero, List.set_cons_succ]
              refine held_value 11 32 (.slice (some ⟨g, 25 + k, none⟩) (136 - k) (136 - k)) rfl rfl (by kernel_rfl) (by kernel_rfl) (by kernel_rfl) rfl hH (fun w hw => by go_simp) ?_
              simp only [Act.put, List.setIfInBounds_toArray, List.set_cons_zero, List.set_cons_succ]
              refine wpAnyH_ready (rs := [3, 16]) (by kernel_rfl) (by simp) ?_
              refine AllReadyH.cons (o := _) rfl (fun K hK => ?_) (AllReadyH.cons (o := _) rfl (fun K hK => ?_) AllReadyH.nil)
              · go_simp
                refine hK.out _ _ trivial (fun _ => ?_)
                clear hK K
                try simp only [Act.put, List.setIfInBounds_toArray, List.set_cons_zero, List.set_cons_succ]
                refine wpAnyH_ready (rs := [16]) (by kernel_rfl) (by simp) ?_
                refine AllReadyH.cons (o := _) rfl (fun K hK => ?_) AllReadyH.nil
                refine want rfl ?_
                refine wp_copy_h 37 rfl rfl HK.out rfl rfl hm hcut hdl.row ?_
                refine hK.out _ _ trivial (fun _ => ?_)
                clear hK K
                try simp only [Act.put, List.setIfInBounds_toArray, List.set_cons_zero, List.set_cons_succ]
                have hd2 := hdl.set (X.over q fun j => pf (d + j))
                generalize wd.setRow g (HB (X.over q fun j => pf (d + j))) = w2 at hd2 ⊢
                refine held_value 17 38 (.int .i64 ((k + q : Nat) : Int)) rfl rfl (by kernel_rfl) (by kernel_rfl) (by kernel_rfl) rfl hH (fun w hw => by (go_simp; try omega)) ?_
                simp only [Act.put, List.setIfInBounds_toArray, List.set_cons_zero, List.set_cons_succ]
                refine held_value 18 39 (.pointer (some ⟨g, 0, none⟩)) rfl rfl (by kernel_rfl) (by kernel_rfl) (by kernel_rfl) rfl hH (fun w hw => by go_simp) ?_
                simp only [Act.put, List.setIfInBounds_toArray, List.set_cons_zero, List.set_cons_succ]
                refine held_value 19 40 (.pointer (some ⟨g, 161, none⟩)) rfl rfl (by kernel_rfl) (by kernel_rfl) (by kernel_rfl) rfl hH (fun w hw => by go_simp) ?_
                simp only [Act.put, List.setIfInBounds_toArray, List.set_cons_zero, List.set_cons_succ]
                refine wpAnyH_ready (rs := [20]) (by kernel_rfl) (by simp) ?_
                refine AllReadyH.cons (o := _) rfl (fun K hK => ?_) AllReadyH.nil
                refine want rfl ?_
                refine wp_store_k rfl rfl rfl rfl hd2.row ?_
                refine hK.out _ _ trivial (fun _ => ?_)
                clear hK K
                try simp only [Act.put, List.setIfInBounds_toArray, List.set_cons_zero, List.set_cons_succ]
                have hd3 := (hd2.set { X.over q (fun j => pf (d + j)) with k := k + q }).eq (show _ = X.laid q (fun j => pf (d + j)) from by unfold HS.laid HS.over; rw [HK.out])
                generalize w2.setRow g (HB { X.over q (fun j => pf (d + j)) with k := k + q }) = w3 at hd3 ⊢
                refine wpAnyH_done (by kernel_rfl) ?_ _
                refine NoPanic.normal ?_
                have hck3 := hd3.row.k
                rw [show (X.laid q fun j => pf (d + j)).k = k + q from by unfold HS.laid; rw [HK.out]] at hck3
                have hlt : ¬ ((k : Int) + (q : Int) < 136) := by omega
                have hr1 : (q : Int) ≤ (r : Int) := by omega
                have hr2 : q ≤ r := by omega
                clear hd2 hckd hcut hdl hH
                have HH3 := Lib.hid hd3
                clear hd3
                go_wp2_with fail
                refine (stir_any g _ _ (HH3.out.tabs h2 HT.out) h2 HH3.out.row).mono ?_
                rintro e w4 ⟨rfl, hs4⟩
                have HS4 := Lib.hid hs4
                clear hs4
                have hst : Hs w g w4 (takeN (takeP h p i) pf (d + q)) := (HH3.out.trans HS4.out).eq (by rw [takeN_add, HX.out, takeN_full _ _ _ (by rw [HK.out]; exact hXk) (by rw [HK.out]; omega)])
                have HST := Lib.hid hst
                have HC := Lib.hid ((HSg.out.cut q hr2).congr (f' := fun j => pf (d + q + j)) fun j _ => by rw [Nat.add_assoc])
                clear hst HH3 HS4 HSg
                by_cases hcm : c' = q
                · have HC2 := Lib.hid (by have := HC.out; rwa [if_pos hcm] at this)
                  clear HC
                  go_wp2_with fail
                  go_roundg (r - q)
                  case measure => omega
                  case rel => exact ⟨d + q, a', c' - q, by omega, by first | rfl | (rw [hcm]; simp) | simp, HC2.out, HST.out⟩
                · have HC2 := Lib.hid (by have := HC.out; rwa [if_neg hcm] at this)
                  clear HC
                  go_wp2_with fail
                  go_roundg (r - q)
                  case measure => omega
                  case rel => exact ⟨d + q, _, c' - q, by omega, by first | rfl | simp, HC2.out, HST.out⟩
              · refine want rfl ?_
                refine wp_copy_h 37 rfl rfl HK.out rfl rfl hm hcut hdl.row ?_
                refine hK.out _ _ trivial (fun _ => ?_)
                clear hK K
                try simp only [Act.put, List.setIfInBounds_toArray, List.set_cons_zero, List.set_cons_succ]
                have hd2 := hdl.set (X.over q fun j => pf (d + j))
                generalize wd.setRow g (HB (X.over q fun j => pf (d + j))) = w2 at hd2 ⊢
                refine wpAnyH_ready (rs := [3]) (by kernel_rfl) (by simp) ?_
                refine AllReadyH.cons (o := _) rfl (fun K hK => ?_) AllReadyH.nil
                have hck2 := hd2.row.k
                rw [show (X.over q fun j => pf (d + j)).k = k from HK.out] at hck2
                go_simp
                refine hK.out _ _ trivial (fun _ => ?_)
                clear hK K
                try simp only [Act.put, List.setIfInBounds_toArray, List.set_cons_zero, List.set_cons_succ]
                refine held_value 17 38 (.int .i64 ((k + q : Nat) : Int)) rfl rfl (by kernel_rfl) (by kernel_rfl) (by kernel_rfl) rfl hH (fun w hw => by (go_simp; try omega)) ?_
                simp only [Act.put, List.setIfInBounds_toArray, List.set_cons_zero, List.set_cons_succ]
                refine held_value 18 39 (.pointer (some ⟨g, 0, none⟩)) rfl rfl (by kernel_rfl) (by kernel_rfl) (by kernel_rfl) rfl hH (fun w hw => by go_simp) ?_
                simp only [Act.put, List.setIfInBounds_toArray, List.set_cons_zero, List.set_cons_succ]
                refine held_value 19 40 (.pointer (some ⟨g, 161, none⟩)) rfl rfl (by kernel_rfl) (by kernel_rfl) (by kernel_rfl) rfl hH (fun w hw => by go_simp) ?_
                simp only [Act.put, List.setIfInBounds_toArray, List.set_cons_zero, List.set_cons_succ]
                refine wpAnyH_ready (rs := [20]) (by kernel_rfl) (by simp) ?_
                refine AllReadyH.cons (o := _) rfl (fun K hK => ?_) AllReadyH.nil
                refine want rfl ?_
                refine wp_store_k rfl rfl rfl rfl hd2.row ?_
                refine hK.out _ _ trivial (fun _ => ?_)
                clear hK K
                try simp only [Act.put, List.setIfInBounds_toArray, List.set_cons_zero, List.set_cons_succ]
                have hd3 := (hd2.set { X.over q (fun j => pf (d + j)) with k := k + q }).eq (show _ = X.laid q (fun j => pf (d + j)) from by unfold HS.laid HS.over; rw [HK.out])
                generalize w2.setRow g (HB { X.over q (fun j => pf (d + j)) with k := k + q }) = w3 at hd3 ⊢
                refine wpAnyH_done (by kernel_rfl) ?_ _
                refine NoPanic.normal ?_
                have hck3 := hd3.row.k
                rw [show (X.laid q fun j => pf (d + j)).k = k + q from by unfold HS.laid; rw [HK.out]] at hck3
                have hlt : ¬ ((k : Int) + (q : Int) < 136) := by omega
                have hr1 : (q : Int) ≤ (r : Int) := by omega
                have hr2 : q ≤ r := by omega
                clear hd2 hckd hcut hdl hH
                have HH3 := Lib.hid hd3
                clear hd3
                go_wp2_with fail
                refine (stir_any g _ _ (HH3.out.tabs h2 HT.out) h2 HH3.out.row).mono ?_
                rintro e w4 ⟨rfl, hs4⟩
                have HS4 := Lib.hid hs4
                clear hs4
                have hst : Hs w g w4 (takeN (takeP h p i) pf (d + q)) := (HH3.out.trans HS4.out).eq (by rw [takeN_add, HX.out, takeN_full _ _ _ (by rw [HK.out]; exact hXk) (by rw [HK.out]; omega)])
                have HST := Lib.hid hst
                have HC := Lib.hid ((HSg.out.cut q hr2).congr (f' := fun j => pf (d + q + j)) fun j _ => by rw [Nat.add_assoc])
                clear hst HH3 HS4 HSg
                by_cases hcm : c' = q
                · have HC2 := Lib.hid (by have := HC.out; rwa [if_pos hcm] at this)
                  clear HC
                  go_wp2_with fail
                  go_roundg (r - q)
                  case measure => omega
                  case rel => exact ⟨d + q, a', c' - q, by omega, by first | rfl | (rw [hcm]; simp) | simp, HC2.out, HST.out⟩
                · have HC2 := Lib.hid (by have := HC.out; rwa [if_neg hcm] at this)
                  clear HC
                  go_wp2_with fail
                  go_roundg (r - q)
                  case measure => omega
                  case rel => exact ⟨d + q, _, c' - q, by omega, by first | rfl | simp, HC2.out, HST.out⟩
end Go.Proofs.YtjppmeihobcenaaDoor
