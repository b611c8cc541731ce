/-
  The walk of ShakePieces.
-/
import Derived.Test.YtjppmeihobcenaaDoorShFew
import Derived.Test.YtjppmeihobcenaaDoorShAwake
import Derived.Test.YtjppmeihobcenaaDoorShSame
namespace Go.Proofs.YtjppmeihobcenaaDoor
open Go.RowKit

/-- A slice of ints that lies below block B. -/
structure SlI (w : World) (B : Nat) (a : Option Addr) (n c : Nat) (z : Nat → Int) : Prop where
  le : n ≤ c
  nil : a = none → c = 0
  low : ∀ ad, a = some ad → 0 < n → ∃ b o, ad = ⟨b, o, none⟩ ∧ b < B ∧ ∀ i, i < n → w.cell? ⟨b, o + i, none⟩ = some (.int .i64 (z i))
theorem SlI.get {w : World} {B : Nat} {a : Option Addr} {n c : Nat} {z : Nat → Int} (h : SlI w B a n c z) (i : Nat) (hi : i < n) : ∃ b o, a = some ⟨b, o, none⟩ ∧ b < B ∧ w.cell? ⟨b, o + i, none⟩ = some (.int .i64 (z i)) := by
  cases ha : a with
  | none =>
    have h1 := h.nil ha
    have h2 := h.le
    exfalso; omega
  | some ad =>
    obtain ⟨b, o, rfl, hb, hc⟩ := h.low ad ha (by omega)
    exact ⟨b, o, rfl, hb, hc i hi⟩
theorem SlI.below {w w' : World} {B : Nat} {a : Option Addr} {n c : Nat} {z : Nat → Int} (h : SlI w B a n c z) (hb : Below B w w') : SlI w' B a n c z :=
  ⟨h.le, h.nil, fun ad ha h0 => by
    obtain ⟨b, o, rfl, hlt, hc⟩ := h.low ad ha h0
    exact ⟨b, o, rfl, hlt, fun i hi => (hb.cell (p := ⟨b, o + i, none⟩) hlt).trans (hc i hi)⟩⟩

set_option maxHeartbeats 800000 in
theorem pieces_far (a : Option Addr) (n c : Nat) (p : Nat → Piece) (a' : Option Addr) (n' c' : Nat) (w : World) (hT : Tabs w) (hp : Pc w w.heap.size a n c p) (hn : n ≤ maxLen) (h : ¬ ((n ≤ 12 ∧ ∀ i, i < n → (p i).n ≤ 400) ∧ n' ≤ 12)) :
    Calls Tryd.prog 5 #[.slice a n c, .slice a' n' c'] w fun e w' => e = .returned (.bool true) ∧ Below w.heap.size w w' := by
  have HT := Lib.hid hT
  have HP := Lib.hid hp
  have HN := Lib.hid hn
  have HF := Lib.hid h
  clear hT hp h hn
  go_enter Tryd.func5, Tryd.ntmps5
  go_wp2_with fail
  refine (few_any a n c p w HP.out HN.out).mono ?_
  rintro e w1 ⟨r, rfl, rfl, hr⟩
  have HRR := Lib.hid hr
  clear hr
  cases r with
  | false =>
    go_wp2_with fail
    refine (awake_any _ HT.out).mono ?_
    rintro e w2 ⟨rfl, hb⟩
    go_wp2_with fail
    go_ret
    exact ⟨rfl, hb⟩
  | true =>
    have h12 : 12 < n' := by
      have h1 := HF.out
      have h2 := HRR.out.1 rfl
      rcases Nat.lt_or_ge 12 n' with h3 | h3
      · exact h3
      · exact absurd ⟨h2, h3⟩ h1
    have hd : decide ((12 : Int) < (n' : Int)) = true := by simp; omega
    go_wp2_with fail
    refine (awake_any _ HT.out).mono ?_
    rintro e w2 ⟨rfl, hb⟩
    go_wp2_with fail
    go_ret
    exact ⟨rfl, hb⟩

set_option maxHeartbeats 3200000 in
set_option maxRecDepth 100000 in
theorem pieces_near (a : Option Addr) (n c : Nat) (p : Nat → Piece) (a' : Option Addr) (n' c' : Nat) (z : Nat → Int) (w : World) (hT : Tabs w) (hp : Pc w w.heap.size a n c p) (hz : SlI w w.heap.size a' n' c' z) (hn : n ≤ 12) (hpn : ∀ i, i < n → (p i).n ≤ 400) (hn' : n' ≤ 12) :
    Calls Tryd.prog 5 #[.slice a n c, .slice a' n' c'] w fun e w' => e = .returned (.bool true) ∧ Below w.heap.size w w' := by
  have h2 := hT.size
  have HT := Lib.hid hT
  have HP := Lib.hid hp
  have HZ := Lib.hid hz
  have HF := Lib.hid hpn
  clear hT hp hz hpn
  have hd : decide ((12 : Int) < (n' : Int)) = false := by simp; omega
  go_enter Tryd.func5, Tryd.ntmps5
  go_wp2_with fail
  refine (few_any a n c p w HP.out (by unfold maxLen; omega)).mono ?_
  rintro e w0 ⟨r, rfl, hw0, hr⟩
  obtain rfl : r = true := hr.2 ⟨hn, HF.out⟩
  rw [hw0]
  clear hr hw0
  go_wp2_with fail
  refine (new_any _).mono ?_
  rintro e w0 ⟨rfl, rfl⟩
  have B1 := Lib.hid ((Below.refl _ _).alloc (Nat.le_refl _) (.cells (HB zeroH) 57) : Below w.heap.size w _)
  have L1 := Lib.hid (Lies.new w zeroH)
  have hz1 : (w.alloc (.cells (HB zeroH) 57)).heap.size = w.heap.size + 1 := by simp
  generalize w.alloc (.cells (HB zeroH) 57) = W1 at B1 L1 hz1 ⊢
  obtain ⟨g, hg⟩ : ∃ g, w.heap.size = g := ⟨_, rfl⟩
  have HG := Lib.hid hg
  have T1 := Lib.hid (HT.out.below B1.out)
  have P1 := Lib.hid (HP.out.move B1.out g (by omega))
  rw [hg] at h2 hz1 B1 L1 ⊢
  clear hg
  go_wp2_with fail
  go_loopg [6, 7] n (fun gk v6 v7 wr => ∃ i : Nat, i + gk = n ∧ v7 = .int .i64 i ∧ OwnB wr W1.heap.size v6 (allN p i) (allF p i) ∧ Hs W1 g wr (takeP zeroH p i))
  case atStart => exact ⟨0, by omega, rfl, OwnB.nil _ _ _, Hs.start L1.out⟩
  case round =>
    obtain ⟨gk0, hgk0⟩ : ∃ x, x = gk := ⟨_, rfl⟩
    obtain ⟨i, hig, rfl, hown, HR⟩ := hrel
    cases gk with
    | succ go =>
      clear hgk0 gk0
      have hid : decide ((i : Int) < (n : Int)) = true := by simp; omega
      have hlt' : (i : Int) < (n : Int) := by omega
      have hP1 := P1.out.hs HR
      obtain ⟨b, o, rfl, hb, hbg, hc⟩ := hP1.get i (by omega)
      have HSg := Lib.hid (hP1.each i (by omega))
      have hle := HF.out i (by omega)
      have hall := allN_le p 400 i fun j hj => HF.out j (by omega)
      obtain ⟨pa, hpa⟩ : ∃ x, (p i).a = x := ⟨_, rfl⟩
      obtain ⟨pn, hpn⟩ : ∃ x, (p i).n = x := ⟨_, rfl⟩
      obtain ⟨pc, hpc⟩ : ∃ x, (p i).c = x := ⟨_, rfl⟩
      obtain ⟨pf, hpf⟩ : ∃ x, (p i).f = x := ⟨_, rfl⟩
      rw [hpa, hpn, hpc] at hc
      rw [hpa, hpn, hpc, hpf] at HSg
      rw [hpn] at hle
      have Hpn := Lib.hid hpn
      have Hpf := Lib.hid hpf
      have HH := Lib.hid HR
      have HO := Lib.hid hown
      have hc2 : ∀ w2 h, Hs wr g w2 h → w2.cell? ⟨b, o + i, none⟩ = some (.slice pa pn pc) := fun w2 h H => (World.cell?_of_block (w := wr) (H.oth b hb hbg)).trans hc
      have HC2 := Lib.hid hc2
      clear hpa hpn hpc hpf hown HR hP1 hc2
      go_wp2_with fail
      refine (write_any g (takeP zeroH p i) pa pn pc pf wr (HH.out.tabs h2 T1.out) h2 HH.out.row (takeP_k _ _ (by decide) _) (takeP_tl _ _ _) HSg.out).mono ?_
      rintro e w2 ⟨rfl, hs2⟩
      have hcc := HC2.out w2 _ hs2
      have HH2 := Lib.hid (HH.out.trans hs2)
      have HO2 := Lib.hid (HO.out.hs hs2 (by omega))
      have HS2 := Lib.hid (HSg.out.hs hs2).sl
      have hsz2 := HH2.out.size
      clear hs2 HH HO HSg hc HC2
      go_wp2_with ((with_reducible apply lay_append_many); (case hgd => exact rfl); (case ho => exact rfl); (case hs => exact rfl); (case hx => exact rfl); (case hown => exact HO2.out); (case hS => exact HS2.out); (case hn => omega); (case hbase => exact hsz2); intro _ _ _ _ _ _; go_simp)
      rename_i v' w3 hown3 hb3
      go_roundg go
      case measure => omega
      case rel =>
        refine ⟨i + 1, by omega, by first | rfl | simp, ?_, (HH2.out.grow hb3 (Nat.le_refl _) (by omega)).eq ?_⟩
        · show OwnB _ _ _ (allN p i + (p i).n) (cat (allF p i) (allN p i) (p i).f)
          rw [Hpn.out, Hpf.out]
          exact hown3
        · show _ = takeN (takeP zeroH p i) (p i).f (p i).n
          rw [Hpn.out, Hpf.out]
    | zero =>
      clear hgk0 gk0
      obtain rfl : i = n := by omega
      have hall := allN_le p 400 i HF.out
      obtain ⟨a6, c6, rfl, hs6⟩ := hown.sg (g := g) (by omega)
      obtain ⟨X, hX⟩ : ∃ X, (takeP zeroH p i).opened = X := ⟨_, rfl⟩
      have hX0 : takeN zeroH (allF p i) (allN p i) = takeP zeroH p i := take_all _ _ _
      obtain ⟨N, hN⟩ : ∃ N, allN p i = N := ⟨_, rfl⟩
      rw [hN] at hs6 hall hX0 ⊢
      obtain ⟨w5, hw5⟩ : ∃ w5, w5 = wr := ⟨_, rfl⟩
      rw [← hw5] at hs6 HR ⊢
      clear hw5 hown hN
      have S6 := Lib.hid hs6
      have H5 := Lib.hid HR
      have HX := Lib.hid hX
      have HX0 := Lib.hid hX0
      have hz5 := HR.size
      clear hs6 HR hX hX0
      have hin : decide ((i : Int) < (i : Int)) = false := by simp
      go_wp2_with fail
      go_loopg [8, 9] n' (fun gk v8 v9 wq => ∃ (j T : Nat) (Z : HS), j + gk = n' ∧ v9 = .int .i64 j ∧ T ≤ j * 200 ∧ OwnB wq w5.heap.size v8 T (tellB X) ∧ Hs w5 g wq Z ∧ Z.k ≤ 136 ∧ (Z.tl = false → Z.k < 136) ∧ Z.opened = tellS X T)
      case atStart => exact ⟨0, 0, takeP zeroH p i, by omega, rfl, by omega, OwnB.nil _ _ _, Hs.start H5.out.row, Nat.le_of_lt (takeP_k _ _ (by decide) _), fun _ => takeP_k _ _ (by decide) _, HX.out⟩
      case round =>
        obtain ⟨gk1, hgk1⟩ : ∃ x, x = gk := ⟨_, rfl⟩
        obtain ⟨j, T, Z, hjg, rfl, hT2, hown, HR, hZk, hZl, hZo⟩ := hrel
        have hbw : Below w.heap.size w wr := by
          rw [HG.out]
          exact B1.out.trans ((H5.out.trans HR).below (Nat.le_refl _) (by omega))
        have HBW := Lib.hid hbw
        have HO := Lib.hid hown
        have HH := Lib.hid HR
        have HZo := Lib.hid hZo
        have HZl := Lib.hid hZl
        clear hown HR hbw hZo hZl
        cases gk with
        | succ go =>
          clear hgk1 gk1
          have hid : decide ((j : Int) < (n' : Int)) = true := by simp; omega
          have hlt' : (j : Int) < (n' : Int) := by omega
          obtain ⟨b, o, rfl, hb, hc⟩ := (HZ.out.below HBW.out).get j (by omega)
          rw [HG.out] at hb
          obtain ⟨zj, hzj⟩ : ∃ x, z j = x := ⟨_, rfl⟩
          rw [hzj] at hc
          clear hzj
          by_cases hz0 : zj < 0
          · have hd0 : decide (zj < 0) = true := by simp; omega
            go_wp2_with fail
            go_roundg go
            case measure => omega
            case rel => exact ⟨j + 1, T, Z, by omega, by first | rfl | simp, by omega, HO.out, HH.out, hZk, HZl.out, HZo.out⟩
          · have hd0 : decide (zj < 0) = false := by simp; omega
            by_cases hz2 : 200 < zj
            · have hd1 : decide (200 < zj) = true := by simp; omega
              go_wp2_with fail
              go_roundg go
              case measure => omega
              case rel => exact ⟨j + 1, T, Z, by omega, by first | rfl | simp, by omega, HO.out, HH.out, hZk, HZl.out, HZo.out⟩
            · have hd1 : decide (200 < zj) = false := by simp; omega
              obtain ⟨k, rfl⟩ := Int.eq_ofNat_of_zero_le (by omega : 0 ≤ zj)
              have hk2 : k ≤ 200 := by omega
              go_wp2_with fail
              refine (read_any g Z k wr ((H5.out.trans HH.out).tabs h2 T1.out) h2 HH.out.row hZk HZl.out (by omega)).mono ?_
              rintro e w7 ⟨v, rfl, b7, rfl, hb7, hr7, hs7⟩
              have hbwr : b < wr.heap.size := by have := HH.out.size; omega
              have hc7 : w7.cell? ⟨b, o + j, none⟩ = some (.int .i64 (k : Int)) := (World.cell?_of_block (w := wr) (hs7.oth b hbwr (by omega))).trans hc
              have H7 := Lib.hid (HH.out.trans hs7)
              have O7 := Lib.hid (HO.out.hs hs7 (by omega))
              have R7 := Lib.hid hr7.sl
              have hz7 := H7.out.size
              have hkk : ((k : Int) != (k : Int)) = false := by simp
              clear hs7 hr7 HO HH hc
              go_wp2_with ((with_reducible apply lay_append_many); (case hgd => exact rfl); (case ho => exact rfl); (case hs => exact rfl); (case hx => exact rfl); (case hown => exact O7.out); (case hS => exact R7.out); (case hn => omega); (case hbase => exact hz7); intro _ _ _ _ _ _; go_simp)
              rename_i v' w8 hown8 hb8
              go_roundg go
              case measure => omega
              case rel =>
                refine ⟨j + 1, T + k, tellS Z.opened k, by omega, by first | rfl | simp, by omega, hown8.congr fun x hx => ?_, H7.out.grow hb8 (Nat.le_refl _) (by omega), tellS_k _ (opened_k Z hZk HZl.out) k, fun h => ?_, ?_⟩
                · unfold cat
                  by_cases hx2 : x < T
                  · rw [if_pos hx2]
                  · rw [if_neg hx2, HZo.out, tellB_add]
                    congr 1
                    omega
                · rw [tellS_tl, opened_tl] at h; cases h
                · have ht : (tellS Z.opened k).tl = true := (tellS_tl _ _).trans (opened_tl _)
                  rw [opened_of_tl _ ht, HZo.out, tellS_add]
        | zero =>
          clear hgk1 gk1
          obtain rfl : j = n' := by omega
          obtain ⟨a8, c8, rfl, hs8, _⟩ := HO.out.any
          have hjn : decide ((j : Int) < (j : Int)) = false := by simp
          have S8 := Lib.hid hs8
          clear HO hs8
          have S6' := Lib.hid (S6.out.hs HH.out)
          have hTT : T ≤ 2400 := by omega
          obtain ⟨M, hM⟩ : ∃ M, T + 5 = M := ⟨_, rfl⟩
          have e5 : (T : Int) + 5 = (M : Int) := by omega
          have HM := Lib.hid hM
          have Q9 := Lib.hid (row1 wr (.cells #[.slice a6 N c6] 25))
          have A9 := Lib.hid ((Below.refl wr.heap.size wr).alloc (Nat.le_refl _) (.cells #[.slice a6 N c6] 25))
          have Z9 := Lib.hid (show (wr.alloc (.cells #[.slice a6 N c6] 25)).heap.size = wr.heap.size + 1 by simp)
          have T8 := Lib.hid ((H5.out.trans HH.out).tabs h2 T1.out)
          have hwz := HBW.out.size
          clear hM S6 H5 HH HZo HZl
          go_wp2_with fail
          generalize wr.alloc (.cells #[.slice a6 N c6] 25) = W9 at Q9 A9 Z9 ⊢
          have hz9 := Z9.out
          have T9 := Lib.hid (T8.out.below A9.out)
          have P9 := Lib.hid (Pc.one (g := W9.heap.size) (q := ⟨a6, N, c6, allF p i⟩) Q9.out (by omega) (Nat.le_refl 1) (Sg.of_sl (S6'.out.sl.below A9.out) (by omega) (by omega)))
          refine (sum_any (some ⟨wr.heap.size, 0, none⟩) 1 1 (fun _ => ⟨a6, N, c6, allF p i⟩) T W9 T9.out P9.out (by omega) (by omega)).mono ?_
          rintro e w10 ⟨v, rfl, b10, rfl, hb10, hr10, h10⟩
          have R10 := Lib.hid (hr10.congr (f' := tellB X) fun x _ => by show tellB (takeN zeroH (allF p i) N).opened x = _; rw [HX0.out, HX.out])
          have S10 := Lib.hid ((S8.out.below A9.out).more (by omega) |>.below h10)
          have B10 := Lib.hid (HBW.out.trans ((A9.out.trans (h10.mono (by omega))).mono hwz))
          have T10 := Lib.hid (T9.out.below h10)
          have hz10 := h10.size
          clear hr10 h10 Q9 A9 Z9 T9 P9 T8 S8 S6' HBW
          go_wp2_with fail
          refine (sum_any a i c p M w10 T10.out (HP.out.move B10.out w10.heap.size B10.out.size) (by omega) (by have := HM.out; omega)).mono ?_
          rintro e w11 ⟨v, rfl, b11, rfl, hb11, hr11, h11⟩
          have R11 := Lib.hid (hr11.congr (f' := tellB X) fun x _ => by rw [HX.out])
          have R10' := Lib.hid (R10.out.below h11)
          have S11 := Lib.hid ((S10.out.more (by omega)).below h11)
          have B11 := Lib.hid (B10.out.trans (h11.mono B10.out.size))
          have T11 := Lib.hid (T10.out.below h11)
          have hz11 := h11.size
          have hMM : ((M : Int) != (M : Int)) = false := by simp
          have hTM : (T : Int) ≤ (M : Int) := by omega
          have hTM' : T ≤ M := by omega
          clear hr11 h11 R10 S10 B10 T10
          go_wp2_with fail
          refine (same_wide a8 (some ⟨b10, 0, none⟩) T c8 T _ _ w11 (by omega) (S11.out.more (by omega)) R10'.out.sl (fun _ _ => rfl)).mono ?_
          rintro e w12 ⟨rfl, h12⟩
          have R12 := Lib.hid (R11.out.below h12)
          have S12 := Lib.hid ((S11.out.more (by omega : _ ≤ w11.heap.size)).below h12)
          have B12 := Lib.hid (B11.out.trans (h12.mono B11.out.size))
          have T12 := Lib.hid (T11.out.below h12)
          have hz12 := h12.size
          clear h12 R11 S11 B11 T11 R10'
          go_wp2_with fail
          refine (same_wide (some ⟨b11, 0, none⟩) a8 T M c8 _ _ w12 (by omega) (Sl.own R12.out hTM' hTM' R12.out.lt) (S12.out.more (by omega)) (fun _ _ => rfl)).mono ?_
          rintro e w13 ⟨rfl, h13⟩
          have B13 := Lib.hid (B12.out.trans (h13.mono B12.out.size))
          have T13 := Lib.hid (T12.out.below h13)
          clear h13 B12 T12 R12 S12
          go_wp2_with fail
          refine (awake_any _ T13.out).mono ?_
          rintro e w14 ⟨rfl, h14⟩
          have B14 := Lib.hid (B13.out.trans (h14.mono B13.out.size))
          clear h14
          go_wp2_with fail
          go_ret
          exact ⟨rfl, B14.out⟩
end Go.Proofs.YtjppmeihobcenaaDoor
