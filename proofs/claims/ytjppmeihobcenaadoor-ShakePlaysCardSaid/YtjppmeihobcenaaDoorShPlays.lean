/-
  The walk of ShakePlays.
-/
import Derived.Test.YtjppmeihobcenaaDoorShPlay1
namespace Go.Proofs.YtjppmeihobcenaaDoor
open Go.RowKit

set_option maxHeartbeats 800000 in
theorem plays_far (a : Option Addr) (n c : Nat) (q : Nat → OpV) (w : World) (hT : Tabs w) (hp : SlO w w.heap.size a n c q) (hn : n ≤ maxLen) (h : ¬ (n ≤ 25 ∧ ∀ i, i < n → fairO (q i))) :
    Calls Tryd.prog 4 #[.slice a n c] w fun e w' => e = .returned (.bool true) ∧ Below w.heap.size w w' := by
  have HT := Lib.hid hT
  have HP := Lib.hid hp
  have HN := Lib.hid hn
  have HF := Lib.hid h
  clear hT hp h hn
  go_enter Tryd.func4, Tryd.ntmps4
  go_wp2_with fail
  refine (fair_any a n c q w HP.out HN.out).mono ?_
  rintro e w1 ⟨r, rfl, rfl, hr⟩
  cases r with
  | true => exact absurd (hr.1 rfl) HF.out
  | false =>
    clear hr
    go_wp2_with fail
    refine (awake_any _ HT.out).mono ?_
    rintro e w2 ⟨rfl, hb⟩
    go_wp2_with fail
    go_ret
    exact ⟨rfl, hb⟩

set_option maxHeartbeats 1600000 in
set_option maxRecDepth 100000 in
theorem plays_near (a : Option Addr) (n c : Nat) (q : Nat → OpV) (w : World) (hT : Tabs w) (hp : SlO w w.heap.size a n c q) (hn : n ≤ 25) (hf : ∀ i, i < n → fairO (q i)) :
    Calls Tryd.prog 4 #[.slice a n c] w fun e w' => e = .returned (.bool true) ∧ Below w.heap.size w w' := by
  have hw2 := hT.size
  have HT := Lib.hid hT
  have HP := Lib.hid hp
  have HF := Lib.hid hf
  clear hT hp hf
  go_enter Tryd.func4, Tryd.ntmps4
  go_wp2_with fail
  refine (fair_any a n c q w HP.out (by unfold maxLen; omega)).mono ?_
  rintro e w0 ⟨r, rfl, hw0, hr⟩
  obtain rfl : r = true := hr.2 ⟨hn, HF.out⟩
  rw [hw0]
  clear hr hw0
  go_wp2_with fail
  refine (new_any _).mono ?_
  rintro e w0 ⟨rfl, rfl⟩
  have P1 := Lib.hid (Pl.start w)
  generalize w.alloc (.cells (HB zeroH) 57) = W1 at P1 ⊢
  go_wp2_with fail
  go_loopg [3, 4, 5, 6, 7] n (fun gk v3 v4 v5 v6 v7 wr => ∃ (i gh T D : Nat) (Z : HS) (F : Nat → BitVec 8) (tl : Bool), i + gk = n ∧ v3 = .pointer (some ⟨gh, 0, none⟩) ∧ v5 = .int .i64 D ∧ v6 = .bool tl ∧ v7 = .int .i64 i ∧ T ≤ i * 400 ∧ D ≤ i * 400 ∧ Pl w wr gh Z v4 T F D tl)
  case atStart => exact ⟨0, w.heap.size, 0, 0, zeroH, fun _ => 0, false, by omega, rfl, rfl, rfl, rfl, by omega, by omega, P1.out⟩
  case round =>
    clear P1
    obtain ⟨gk0, hgk0⟩ : ∃ x, x = gk := ⟨_, rfl⟩
    obtain ⟨i, gh, T, D, Z, F, tl, hig, rfl, rfl, rfl, rfl, hTi, hDi, hpl⟩ := hrel
    have HPL := Lib.hid hpl
    clear hpl
    cases gk with
    | zero =>
      obtain rfl : i = n := by omega
      have hii : decide ((i : Int) < (i : Int)) = false := by simp
      go_wp2_with fail
      refine (awake_any _ (HT.out.below HPL.out.bel)).mono ?_
      rintro e w2 ⟨rfl, hb⟩
      have B2 := Lib.hid (HPL.out.bel.trans (hb.mono HPL.out.bel.size))
      clear hb
      go_wp2_with fail
      go_ret
      exact ⟨rfl, B2.out⟩
    | succ go =>
      clear hgk0 gk0
      have hid : decide ((i : Int) < (n : Int)) = true := by simp; omega
      have hlt' : (i : Int) < (n : Int) := by omega
      have hsl := HP.out.below HPL.out.bel
      obtain ⟨b, o, rfl, hb, hc1, hc2, hc3⟩ := hsl.get i (by omega)
      have hsb := HP.out.each i (by omega)
      have hfo := HF.out i (by omega)
      obtain ⟨x, hx⟩ : ∃ x, q i = x := ⟨_, rfl⟩
      rw [hx] at hc1 hc2 hc3 hsb hfo
      clear hx hsl
      obtain ⟨k, ⟨pa, pn, pc, pf⟩, m⟩ := x
      dsimp only at hc1 hc2 hc3 hsb
      obtain ⟨hpn, hm⟩ := hfo
      dsimp only at hpn hm
      have HSB := Lib.hid hsb
      have HM := Lib.hid hm
      clear hsb hm
      have hgw : w.heap.size ≤ gh := HPL.out.ge
      have hgl := HPL.out.row.lt
      have hbw : b < wr.heap.size := Nat.lt_of_lt_of_le hb HPL.out.bel.size
      have hbg : b ≠ gh := by omega
      have cells : ∀ W : World, W.heap[b]? = wr.heap[b]? → W.cell? ⟨b, o + i * 3, none⟩ = some (.int .i64 k) ∧ W.cell? ⟨b, o + i * 3 + 1, none⟩ = some (.slice pa pn pc) ∧ W.cell? ⟨b, o + i * 3 + 2, none⟩ = some (.int .i64 m) := fun W hW => ⟨(World.cell?_of_block (w := wr) hW).trans hc1, (World.cell?_of_block (w := wr) hW).trans hc2, (World.cell?_of_block (w := wr) hW).trans hc3⟩
      have HC := Lib.hid cells
      clear cells
      by_cases k0 : k = 0
      · subst k0
        have O0 := Lib.hid (OwnB.nil wr wr.heap.size pf)
        have SB := Lib.hid ((HSB.out.below HPL.out.bel).more HPL.out.bel.size)
        have HK4 := Lib.hid (fun k (hk : Value.ownBlock _ = some k) => HPL.out.own.blockLt k hk)
        go_upto_region 22 with (((with_reducible apply lay_append_many); (case hgd => exact rfl); (case ho => exact rfl); (case hs => exact rfl); (case hx => exact rfl); (case hown => exact O0.out); (case hS => exact SB.out); (case hn => omega); (case hbase => exact Nat.le_refl _); intro _ _ _ _ _ _; go_simp))
        rename_i v8 w8 hown8 hb8 _ _
        have hown8' := hown8.congr (g := pf) fun x _ => by unfold cat; rw [if_neg (by omega), Nat.sub_zero]
        rw [Nat.zero_add] at hown8'
        have P8 := Lib.hid (HPL.out.call hb8)
        obtain ⟨a8, c8, rfl, hs8⟩ := hown8'.sg (g := gh) hgl
        have hz8 := hb8.size
        have hbz := HPL.out.bel.size
        have own8 : 0 < pn → ∃ go8 cc, (.slice a8 pn c8 : Value) = .slice (some ⟨go8, 0, none⟩) pn cc ∧ wr.heap.size ≤ go8 ∧ Wn w8 go8 pn pf := fun h0 => by
          obtain ⟨g9, c9, e9, h9, _, h10⟩ := hown8'.wn h0
          exact ⟨g9, c9, e9, h9, h10⟩
        have hblk8 : w8.heap[b]? = wr.heap[b]? := hb8.block b hbw
        have S8 := Lib.hid hs8
        have O8 := Lib.hid own8
        have HB8 := Lib.hid hblk8
        obtain ⟨wz, hwz⟩ : ∃ z, wr.heap.size = z := ⟨_, rfl⟩
        rw [hwz] at hgl hbw hbz hz8 HK4 O8
        clear hown8 hown8' hb8 hs8 own8 O0 SB hblk8 hwz HPL hc1 hc2 hc3
        cases tl with
        | false =>
          have hf8 := P8.out.fresh rfl
          go_wp2_with fail
          refine (write_any gh Z a8 pn c8 pf w8 (HT.out.below P8.out.bel) (by omega) P8.out.row (P8.out.kl P8.out.tls) P8.out.tls S8.out).mono ?_
          rintro e w9 ⟨rfl, hs9⟩
          have B9 := Lib.hid (P8.out.bel.trans (hs9.below hgw P8.out.bel.size))
          have L9 := Lib.hid hs9.row
          have W9o := Lib.hid (P8.out.own.hs2 P8.out.row hs9)
          have hz9 := hs9.size
          have O9 := Lib.hid (show 0 < pn → ∃ go8 cc f', (.slice a8 pn c8 : Value) = .slice (some ⟨go8, 0, none⟩) pn cc ∧ wz ≤ go8 ∧ Wn w9 go8 pn f' from fun h0 => by
            obtain ⟨g9, c9, e9, h9, h10⟩ := O8.out h0
            exact ⟨g9, c9, pf, e9, h9, h10.block (hs9.oth g9 h10.lt (by omega))⟩)
          have HB9 := Lib.hid ((hs9.oth b (by omega) hbg).trans HB8.out)
          have HF8 := Lib.hid hf8
          clear hs9 S8 O8 HB8 P8 hf8
          go_wp2_with fail
          go_loopg [10] pn (fun g2 v10 wy => ∃ x : Nat, x + g2 = pn ∧ v10 = .int .i64 x ∧ Below wz w9 wy ∧ (0 < pn → ∃ go8 cc f', (.slice a8 pn c8 : Value) = .slice (some ⟨go8, 0, none⟩) pn cc ∧ wz ≤ go8 ∧ Wn wy go8 pn f'))
          case atStart => exact ⟨0, by omega, rfl, Below.refl _ _, O9.out⟩
          case round =>
            clear O9
            obtain ⟨g20, hg20⟩ : ∃ y, y = gk := ⟨_, rfl⟩
            obtain ⟨x, hxg, rfl, hbx, hox⟩ := hrel
            have HBX := Lib.hid hbx
            have HOX := Lib.hid hox
            clear hbx hox
            cases gk with
            | succ g2 =>
              obtain ⟨go8, cc, f', e8, hg8, hw8⟩ := HOX.out (by omega)
              injection e8 with e8a _ e8c
              subst e8a
              subst e8c
              have hcx := hw8.cell x (by omega)
              have hzx := hw8.thaw x
              have hxp : (x : Int) < (pn : Int) := by omega
              have hxd : decide ((x : Int) < (pn : Int)) = true := by simp; omega
              have HW8 := Lib.hid hw8
              clear hw8 HOX
              go_wp2_with fail
              go_roundg g2
              case measure => omega
              case rel => exact ⟨x + 1, by omega, by first | rfl | simp, HBX.out.setCell hg8 _, fun _ => ⟨go8, _, _, rfl, hg8, HW8.out.set x (f' x + 1)⟩⟩
            | zero =>
              obtain rfl : x = pn := by omega
              have hxx : decide ((x : Int) < (x : Int)) = false := by simp
              clear HOX hg20 g20
              obtain ⟨hd1, hd2, hd3⟩ := HC.out wr ((HBX.out.block b hbw).trans HB9.out)
              have W10 := Lib.hid (W9o.out.keep fun k hk => HBX.out.block k (HK4.out k hk))
              have L10 := Lib.hid (show Lies wr gh (takeN Z pf x) from (HBX.out.block gh hgl).trans L9.out)
              have B10 := Lib.hid (B9.out.trans (HBX.out.mono hbz))
              have S10 := Lib.hid ((HSB.out.below B10.out).more B10.out.size)
              have hz10 := B10.out.size
              have hgr := L10.out.lt
              clear W9o L9 B9 HBX
              go_wp2_with ((with_reducible apply lay_append_keep); (case hgd => exact rfl); (case ho => exact rfl); (case hs => exact rfl); (case hx => exact rfl); (case hown => exact W10.out); (case hS => exact S10.out); (case hn => omega); (case hbase => exact hz10); intro _ _ _ _ _ _ _; go_simp)
              rename_i v' w11 hown11 hb11 hblk11
              go_roundg go
              case measure => omega
              case rel =>
                have hne : some gh ≠ Value.ownBlock _ := fun e => W10.out.ne L10.out gh e.symm rfl
                exact ⟨i + 1, gh, T + x, 0, takeN Z pf x, cat F T pf, false, by omega, rfl, by rw [HF8.out.2], rfl, by first | rfl | simp, by omega, by omega, Pl.took HF8.out.1 (B10.out.trans hb11) hgw ((hblk11 gh hgr hne).trans L10.out) hown11⟩
        | true =>
          go_wp2_with fail
          refine (write_late gh Z a8 pn c8 w8 P8.out.row P8.out.tls).mono ?_
          rintro e w9 ⟨rfl, hw9⟩
          rw [hw9]
          clear hw9
          have O9 := Lib.hid (show 0 < pn → ∃ go8 cc f', (.slice a8 pn c8 : Value) = .slice (some ⟨go8, 0, none⟩) pn cc ∧ wz ≤ go8 ∧ Wn w8 go8 pn f' from fun h0 => by
            obtain ⟨g9, c9, e9, h9, h10⟩ := O8.out h0
            exact ⟨g9, c9, pf, e9, h9, h10⟩)
          clear S8 O8 HB8
          go_wp2_with fail
          go_loopg [10] pn (fun g2 v10 wy => ∃ x : Nat, x + g2 = pn ∧ v10 = .int .i64 x ∧ Below wz w8 wy ∧ (0 < pn → ∃ go8 cc f', (.slice a8 pn c8 : Value) = .slice (some ⟨go8, 0, none⟩) pn cc ∧ wz ≤ go8 ∧ Wn wy go8 pn f'))
          case atStart => exact ⟨0, by omega, rfl, Below.refl _ _, O9.out⟩
          case round =>
            clear O9
            obtain ⟨g20, hg20⟩ : ∃ y, y = gk := ⟨_, rfl⟩
            obtain ⟨x, hxg, rfl, hbx, hox⟩ := hrel
            have HBX := Lib.hid hbx
            have HOX := Lib.hid hox
            clear hbx hox
            cases gk with
            | succ g2 =>
              obtain ⟨go8, cc, f', e8, hg8, hw8⟩ := HOX.out (by omega)
              injection e8 with e8a _ e8c
              subst e8a
              subst e8c
              have hcx := hw8.cell x (by omega)
              have hzx := hw8.thaw x
              have hxp : (x : Int) < (pn : Int) := by omega
              have hxd : decide ((x : Int) < (pn : Int)) = true := by simp; omega
              have HW8 := Lib.hid hw8
              clear hw8 HOX
              go_wp2_with fail
              go_roundg g2
              case measure => omega
              case rel => exact ⟨x + 1, by omega, by first | rfl | simp, HBX.out.setCell hg8 _, fun _ => ⟨go8, _, _, rfl, hg8, HW8.out.set x (f' x + 1)⟩⟩
            | zero =>
              obtain rfl : x = pn := by omega
              have hxx : decide ((x : Int) < (x : Int)) = false := by simp
              clear HOX hg20 g20
              go_wp2_with fail
              go_roundg go
              case measure => omega
              case rel => exact ⟨i + 1, gh, T, D, Z, F, true, by omega, rfl, rfl, rfl, by first | rfl | simp, by omega, by omega, P8.out.back HBX.out hbz hgl HK4.out⟩
      · by_cases k1 : k = 1
        · subst k1
          by_cases hr : m < 0 ∨ 65536 < m
          · have HR := Lib.hid hr
            clear hr
            go_wp2_with fail
            refine (read_far _ m wr HR.out).mono ?_
            rintro e w2 ⟨rfl, hw2'⟩
            rw [hw2']
            clear hw2'
            by_cases hm0 : m < 0
            · have hd0 : decide (m < 0) = true := by simp; omega
              go_wp2_with fail
              go_roundg go
              case measure => omega
              case rel => exact ⟨i + 1, gh, T, D, Z, F, tl, by omega, rfl, rfl, rfl, by first | rfl | simp, by omega, by omega, HPL.out⟩
            · have hd0 : decide (m < 0) = false := by simp; omega
              have hd1 : decide ((65536 : Int) < m) = true := by have := HR.out; simp; omega
              have hm1 : (65536 : Int) < m := by have := HR.out; omega
              go_wp2_with fail
              go_roundg go
              case measure => omega
              case rel => exact ⟨i + 1, gh, T, D, Z, F, tl, by omega, rfl, rfl, rfl, by first | rfl | simp, by omega, by omega, HPL.out⟩
          · obtain ⟨r, rfl⟩ := Int.eq_ofNat_of_zero_le (by omega : 0 ≤ m)
            have hr4 : r ≤ 400 := by have := HM.out; omega
            have hd0 : decide ((r : Int) < 0) = false := by simp
            have hd1 : decide ((65536 : Int) < (r : Int)) = false := by simp; omega
            clear hr
            go_wp2_with fail
            refine (read_any gh Z r wr (HT.out.below HPL.out.bel) (by omega) HPL.out.row HPL.out.kk HPL.out.kl (by omega)).mono ?_
            rintro e w2 ⟨v, rfl, b2, rfl, hb2, hr2, hs2⟩
            obtain ⟨hd1c, hd2c, hd3c⟩ := HC.out w2 (hs2.oth b hbw hbg)
            have hopn := HPL.out.opn
            have P2 := Lib.hid (HPL.out.tell r hs2)
            have R2 := Lib.hid (hr2.congr (f' := fun x => tellB (takeN zeroH F T).opened (D + x)) fun x _ => by rw [hopn, tellB_add])
            obtain ⟨a4, c4, rfl, hs4, _⟩ := P2.out.own.any
            obtain ⟨E, hE⟩ : ∃ E, D + r = E := ⟨_, rfl⟩
            have e5 : (D : Int) + (r : Int) = (E : Int) := by omega
            have hD9 : D ≤ 10000 := by omega
            have hwE : IntKind.i64.wrap (E : Int) = (E : Int) := IntWalk.i64_in _ (by omega)
            rw [hE] at P2
            have HE := Lib.hid hE
            have Q2 := Lib.hid (row1 w2 (.cells #[.slice a4 T c4] 25))
            have A2 := Lib.hid ((Below.refl w2.heap.size w2).alloc (Nat.le_refl _) (.cells #[.slice a4 T c4] 25))
            have hz2 : (w2.alloc (.cells #[.slice a4 T c4] 25)).heap.size = w2.heap.size + 1 := by simp
            have S4 := Lib.hid hs4
            have hbw2 : b < w2.heap.size := Nat.lt_of_lt_of_le hbw hs2.size
            have hblk : w2.heap[b]? = wr.heap[b]? := hs2.oth b hbw hbg
            have HBLK := Lib.hid hblk
            clear hs4 hs2 hr2 hE hopn HPL hc1 hc2 hc3 hblk
            go_wp2_with fail
            generalize w2.alloc (.cells #[.slice a4 T c4] 25) = W3 at Q2 A2 hz2 ⊢
            have P3 := Lib.hid (P2.out.call A2.out)
            have R3 := Lib.hid (R2.out.below A2.out)
            have PC3 := Lib.hid (Pc.one (g := W3.heap.size) (q := ⟨a4, T, c4, F⟩) Q2.out (by omega) (Nat.le_refl 1) (Sg.of_sl (S4.out.below A2.out) (by omega) (by omega)))
            refine (refSum_any (some ⟨w2.heap.size, 0, none⟩) 1 1 (fun _ => ⟨a4, T, c4, F⟩) E W3 PC3.out (by omega) (by show 0 + T ≤ 20000; omega) (by omega)).mono ?_
            rintro e w4 ⟨v, rfl, hown4, hb4⟩
            obtain ⟨a5, c5, rfl, hs5, _⟩ := hown4.any
            have P4 := Lib.hid (P3.out.call hb4)
            have R4 := Lib.hid (R3.out.below hb4)
            have hblk4 : w4.heap[b]? = wr.heap[b]? := (hb4.block b (by omega)).trans ((A2.out.block b (by omega)).trans HBLK.out)
            obtain ⟨hd1d, hd2d, hd3d⟩ := HC.out w4 hblk4
            have HB4 := Lib.hid hblk4
            have hDE : (D : Int) ≤ (E : Int) := by have := HE.out; omega
            have hDE' : D ≤ E := by have := HE.out; omega
            have hEc : E ≤ c5 := hs5.le
            have hDc : D ≤ c5 := by omega
            have hDc' : (D : Int) ≤ (c5 : Int) := by omega
            have hED : E - D = r := by have := HE.out; omega
            have hcut : Sl w4 w4.heap.size (if c5 = D then a5 else Option.map (fun x => Addr.add x D) a5) r (c5 - D) (fun x => tellB (takeN zeroH F T).opened (D + x)) := by
              have h9 := ((Sg.of_sl hs5 (Nat.le_refl _) (Nat.le_refl _)).cut D hDE').sl
              rw [hED] at h9
              exact h9
            have HCUT := Lib.hid hcut
            clear hcut hown4 hb4 hs5 P2 R2 P3 R3 Q2 A2 PC3 S4 hd1c hd2c hd3c hblk4
            by_cases hcD : c5 = D
            · have HC2 := Lib.hid (by have := HCUT.out; rwa [if_pos hcD, show c5 - D = 0 by omega] at this)
              clear HCUT
              go_wp2_with fail
              refine (same_any (some ⟨b2, 0, none⟩) _ r r _ _ _ w4 (by omega) R4.out.sl HC2.out (fun _ _ => rfl)).mono ?_
              rintro e w6 ⟨rfl, hb6⟩
              have P6 := Lib.hid (P4.out.call hb6)
              obtain ⟨hd1e, hd2e, hd3e⟩ := HC.out w6 ((hb6.block b (block_lt_of_cell hd1d)).trans HB4.out)
              clear hb6 P4 R4 HC2 hd1d hd2d hd3d
              go_wp2_with fail
              go_roundg go
              case measure => omega
              case rel => exact ⟨i + 1, gh, T, E, _, F, true, by omega, rfl, by first | rfl | simp, rfl, by first | rfl | simp, by omega, by have := HE.out; omega, P6.out⟩
            · have HC2 := Lib.hid (by have := HCUT.out; rwa [if_neg hcD] at this)
              clear HCUT
              go_wp2_with fail
              refine (same_any (some ⟨b2, 0, none⟩) _ r r _ _ _ w4 (by omega) R4.out.sl HC2.out (fun _ _ => rfl)).mono ?_
              rintro e w6 ⟨rfl, hb6⟩
              have P6 := Lib.hid (P4.out.call hb6)
              obtain ⟨hd1e, hd2e, hd3e⟩ := HC.out w6 ((hb6.block b (block_lt_of_cell hd1d)).trans HB4.out)
              clear hb6 P4 R4 HC2 hd1d hd2d hd3d
              go_wp2_with fail
              go_roundg go
              case measure => omega
              case rel => exact ⟨i + 1, gh, T, E, _, F, true, by omega, rfl, by first | rfl | simp, rfl, by first | rfl | simp, by omega, by have := HE.out; omega, P6.out⟩
        · by_cases k2 : k = 2
          · subst k2
            go_wp2_with fail
            refine (reset_any gh Z wr HPL.out.row).mono ?_
            rintro e w2 ⟨rfl, rfl⟩
            have P2 := Lib.hid HPL.out.reset
            generalize wr.setRow gh (HB zeroH) = W2 at P2 ⊢
            clear HPL
            go_wp2_with fail
            go_roundg go
            case measure => omega
            case rel => exact ⟨i + 1, gh, 0, 0, zeroH, fun _ => 0, false, by omega, rfl, rfl, rfl, by first | rfl | simp, by omega, by omega, P2.out⟩
          · have hk0 : (k == 0) = false := by simpa using k0
            have hk1 : (k == 1) = false := by simpa using k1
            have hk2 : (k == 2) = false := by simpa using k2
            go_wp2_with fail
            refine (clone_any gh Z wr HPL.out.row).mono ?_
            rintro e w2 ⟨rfl, rfl⟩
            have P2 := Lib.hid HPL.out.clone
            have L2 := Lib.hid (HPL.out.row.alloc (.cells (HB Z) 57))
            have hz2 : wr.heap.size < (wr.alloc (.cells (HB Z) 57)).heap.size := by simp
            obtain ⟨gn, hgn⟩ : ∃ x, wr.heap.size = x := ⟨_, rfl⟩
            rw [hgn] at P2 hgl hz2 hbw ⊢
            have hzk := HPL.out.kk
            have hzl := HPL.out.kl
            have hzt := HPL.out.tls
            clear hgn HPL
            generalize wr.alloc (.cells (HB Z) 57) = W2 at P2 L2 hz2 ⊢
            have P3 := Lib.hid (P2.out.call ((Below.refl _ _).alloc (Nat.le_refl _) (.cells #[U 1] 5)))
            have L3 := Lib.hid (L2.out.alloc (.cells #[U 1] 5))
            have S3 := Lib.hid (sl_one W2 1)
            have hz3 : W2.heap.size < (W2.alloc (.cells #[U 1] 5)).heap.size := by simp
            have hU : U 1 = Value.int .u8 1 := rfl
            rw [hU] at P3 L3 S3 hz3
            go_wp2_with fail
            generalize W2.alloc (.cells #[.int .u8 1] 5) = W3 at P3 L3 S3 hz3 ⊢
            have P3' := P3.out
            have L3' := L3.out
            have S3' : Sg W3 gh (some ⟨W2.heap.size, 0, none⟩) 1 1 (fun _ => 1) := ⟨Nat.le_refl _, (fun e => by cases e), fun ad e h0 => by
                obtain ⟨b', o', e', h1, h2⟩ := S3.out.low ad e h0
                refine ⟨b', o', e', h1, ?_, h2⟩
                have h4 := Option.some.inj e
                rw [e'] at h4
                injection h4 with h5
                omega⟩
            clear P3 L3 S3
            cases tl with
            | false =>
              refine (write_any gh Z (some ⟨W2.heap.size, 0, none⟩) 1 1 (fun _ => 1) W3 (HT.out.below P3'.bel) (by omega) L3' (hzl hzt) hzt S3').mono ?_
              rintro e w4 ⟨rfl, hs4⟩
              have P4 := Lib.hid (P3'.aside L3' hgw (by omega) hs4)
              have L4 := Lib.hid hs4.row
              have k4 : (takeN Z (fun _ => 1) 1).k < 136 := takeN_k _ _ (hzl hzt) _
              clear hs4 P3' L3' S3'
              go_wp2_with fail
              refine (read_any gh (takeN Z (fun _ => 1) 1) 3 w4 (HT.out.below P4.out.bel) (by omega) L4.out (Nat.le_of_lt k4) (fun _ => k4) (by omega)).mono ?_
              rintro e w5 ⟨v, rfl, b5, rfl, hb5, hr5, hs5⟩
              have P5 := Lib.hid (P4.out.aside L4.out hgw (by omega) hs5)
              clear hs5 hr5 P4 L4
              go_wp2_with fail
              go_roundg go
              case measure => omega
              case rel => exact ⟨i + 1, gn, T, D, Z, F, false, by omega, rfl, rfl, rfl, by first | rfl | simp, by omega, by omega, P5.out⟩
            | true =>
              refine (write_late gh Z _ 1 1 W3 L3' hzt).mono ?_
              rintro e w4 ⟨rfl, hw4⟩
              rw [hw4]
              clear hw4
              have P4 := Lib.hid P3'
              have L4 := Lib.hid L3'
              clear P3' L3' S3'
              go_wp2_with fail
              refine (read_any gh Z 3 W3 (HT.out.below P4.out.bel) (by omega) L4.out hzk hzl (by omega)).mono ?_
              rintro e w5 ⟨v, rfl, b5, rfl, hb5, hr5, hs5⟩
              have P5 := Lib.hid (P4.out.aside L4.out hgw (by omega) hs5)
              clear hs5 hr5 P4 L4
              go_wp2_with fail
              go_roundg go
              case measure => omega
              case rel => exact ⟨i + 1, gn, T, D, Z, F, true, by omega, rfl, rfl, rfl, by first | rfl | simp, by omega, by omega, P5.out⟩
end Go.Proofs.YtjppmeihobcenaaDoor
