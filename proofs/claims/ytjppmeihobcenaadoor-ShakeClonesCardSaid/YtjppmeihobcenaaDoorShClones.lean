/-
  The walk of ShakeClones.
-/
import Derived.Test.YtjppmeihobcenaaDoorShClone0
import Derived.Deep.Cut
namespace Go.Proofs.YtjppmeihobcenaaDoor
open Go.RowKit

set_option maxHeartbeats 1600000 in
set_option maxRecDepth 100000 in
theorem clones_far (a : Option Addr) (n c : Nat) (p : Nat → Piece) (ab : Option Addr) (bn bc : Nat) (x y : Int) (w : World) (hT : Tabs w) (hp : Pc w w.heap.size a n c p) (hn : n ≤ maxLen) (h : ¬ ((n ≤ 12 ∧ ∀ i, i < n → (p i).n ≤ 400) ∧ bn ≤ 400 ∧ 0 ≤ x ∧ x ≤ n ∧ 0 ≤ y ∧ y ≤ 400)) :
    Calls Tryd.prog 7 #[.slice a n c, .slice ab bn bc, .agg #[.int .i64 x, .int .i64 y]] w fun e w' => e = .returned (.bool true) ∧ Below w.heap.size w w' := by
  have HT := Lib.hid hT
  have HP := Lib.hid hp
  have HN := Lib.hid hn
  have HF := Lib.hid h
  clear hT hp h hn
  go_enter Tryd.func7, Tryd.ntmps7
  go_wp2_with fail
  have S0 := Lib.hid ((St.start w).alloc (.cells #[.int .i64 x, .int .i64 y] 43))
  have B0 := Lib.hid ((Below.refl w.heap.size w).alloc (Nat.le_refl _) (.cells #[.int .i64 x, .int .i64 y] 43))
  have hc0 : (w.alloc (.cells #[.int .i64 x, .int .i64 y] 43)).cell? ⟨w.heap.size, 0, none⟩ = some (.int .i64 x) := by rw [cell_of_row _ _ _ _ _ _ (row1 _ _)]; rfl
  have hc1 : (w.alloc (.cells #[.int .i64 x, .int .i64 y] 43)).cell? ⟨w.heap.size, 1, none⟩ = some (.int .i64 y) := by rw [cell_of_row _ _ _ _ _ _ (row1 _ _)]; rfl
  generalize w.alloc (.cells #[.int .i64 x, .int .i64 y] 43) = W0 at S0 B0 hc0 hc1 ⊢
  refine (few_any a n c p W0 (HP.out.move B0.out W0.heap.size B0.out.size) HN.out).mono ?_
  rintro e w1 ⟨r, rfl, hw1, hr⟩
  rw [hw1]
  clear hw1
  have HRR := Lib.hid hr
  clear hr
  cases r with
  | false =>
    go_wp2_with fail
    refine (awake_any _ (HT.out.below B0.out)).mono ?_
    rintro e w2 ⟨rfl, hb⟩
    go_wp2_with fail
    go_ret
    exact ⟨rfl, B0.out.trans (hb.mono B0.out.size)⟩
  | true =>
    by_cases h0 : 400 < bn
    · have hd0 : decide ((400 : Int) < (bn : Int)) = true := by simp; omega
      go_wp2_with fail
      refine (awake_any _ (HT.out.below B0.out)).mono ?_
      rintro e w2 ⟨rfl, hb⟩
      go_wp2_with fail
      go_ret
      exact ⟨rfl, B0.out.trans (hb.mono B0.out.size)⟩
    · have hd0 : decide ((400 : Int) < (bn : Int)) = false := by simp; omega
      by_cases h1 : x < 0
      · have hd1 : decide (x < 0) = true := by simp; omega
        go_wp2_with fail
        refine (awake_any _ (HT.out.below B0.out)).mono ?_
        rintro e w2 ⟨rfl, hb⟩
        go_wp2_with fail
        go_ret
        exact ⟨rfl, B0.out.trans (hb.mono B0.out.size)⟩
      · have hd1 : decide (x < 0) = false := by simp; omega
        by_cases h2 : (n : Int) < x
        · have hd2 : decide ((n : Int) < x) = true := by simp; omega
          go_wp2_with fail
          refine (awake_any _ (HT.out.below B0.out)).mono ?_
          rintro e w2 ⟨rfl, hb⟩
          go_wp2_with fail
          go_ret
          exact ⟨rfl, B0.out.trans (hb.mono B0.out.size)⟩
        · have hd2 : decide ((n : Int) < x) = false := by simp; omega
          by_cases h3 : y < 0
          · have hd3 : decide (y < 0) = true := by simp; omega
            go_wp2_with fail
            refine (awake_any _ (HT.out.below B0.out)).mono ?_
            rintro e w2 ⟨rfl, hb⟩
            go_wp2_with fail
            go_ret
            exact ⟨rfl, B0.out.trans (hb.mono B0.out.size)⟩
          · have hd3 : decide (y < 0) = false := by simp; omega
            have h4 : 400 < y := by
              have h9 := HRR.out.1 rfl
              rcases Int.lt_or_le 400 y with h8 | h8
              · exact h8
              · exact absurd ⟨h9, by omega, by omega, by omega, by omega, h8⟩ HF.out
            have hd4 : decide ((400 : Int) < y) = true := by simp; omega
            go_wp2_with fail
            refine (awake_any _ (HT.out.below B0.out)).mono ?_
            rintro e w2 ⟨rfl, hb⟩
            go_wp2_with fail
            go_ret
            exact ⟨rfl, B0.out.trans (hb.mono B0.out.size)⟩
set_option maxHeartbeats 6400000 in
set_option maxRecDepth 100000 in
theorem clones_near (a : Option Addr) (n c : Nat) (p : Nat → Piece) (ab : Option Addr) (bn bc : Nat) (bf : Nat → BitVec 8) (t0 t1 : Nat) (w : World) (hT : Tabs w) (hp : Pc w w.heap.size a n c p) (hb : Sl w w.heap.size ab bn bc bf) (hn : n ≤ 12) (hpn : ∀ i, i < n → (p i).n ≤ 400) (hbn : bn ≤ 400) (h0 : t0 ≤ n) (h1 : t1 ≤ 400) :
    Calls Tryd.prog 7 #[.slice a n c, .slice ab bn bc, .agg #[.int .i64 t0, .int .i64 t1]] w fun e w' => e = .returned (.bool true) ∧ Below w.heap.size w w' := by
  have hw2 := hT.size
  have HT := Lib.hid hT
  have HP := Lib.hid hp
  have HBB := Lib.hid hb
  have HN := Lib.hid (show n ≤ maxLen by unfold maxLen; omega)
  have HF := Lib.hid hpn
  clear hT hp hb hpn
  have hd0 : decide ((400 : Int) < (bn : Int)) = false := by simp; omega
  have hd1 : decide ((t0 : Int) < 0) = false := by simp
  have hd2 : decide ((n : Int) < (t0 : Int)) = false := by simp; omega
  have hd3 : decide ((t1 : Int) < 0) = false := by simp
  have hd4 : decide ((400 : Int) < (t1 : Int)) = false := by simp; omega
  go_enter Tryd.func7, Tryd.ntmps7
  go_wp2_with fail
  have S0 := Lib.hid ((St.start w).alloc (.cells #[.int .i64 t0, .int .i64 t1] 43))
  have B0 := Lib.hid ((Below.refl w.heap.size w).alloc (Nat.le_refl _) (.cells #[.int .i64 t0, .int .i64 t1] 43))
  have hc0 : (w.alloc (.cells #[.int .i64 t0, .int .i64 t1] 43)).cell? ⟨w.heap.size, 0, none⟩ = some (.int .i64 t0) := by rw [cell_of_row _ _ _ _ _ _ (row1 _ _)]; rfl
  have hc1 : (w.alloc (.cells #[.int .i64 t0, .int .i64 t1] 43)).cell? ⟨w.heap.size, 1, none⟩ = some (.int .i64 t1) := by rw [cell_of_row _ _ _ _ _ _ (row1 _ _)]; rfl
  generalize w.alloc (.cells #[.int .i64 t0, .int .i64 t1] 43) = W0 at S0 B0 hc0 hc1 ⊢
  refine (few_any a n c p W0 (HP.out.move B0.out W0.heap.size B0.out.size) HN.out).mono ?_
  rintro e w1 ⟨r, rfl, hw1, hr⟩
  rw [hw1]
  clear hw1
  obtain rfl : r = true := hr.2 ⟨hn, HF.out⟩
  clear hr
  obtain ⟨tb, htb⟩ : ∃ tb, w.heap.size = tb := ⟨_, rfl⟩
  have HTB := Lib.hid htb
  obtain ⟨TW, hTW⟩ : ∃ o : Obj, o = .cells #[.int .i64 t0, .int .i64 t1] 43 := ⟨_, rfl⟩
  have HTW := Lib.hid hTW
  rw [← hTW, htb] at S0
  rw [htb] at hc0 hc1 hw2 B0 ⊢
  clear htb hTW
  have cells : ∀ W l, St w W l → (tb, TW) ∈ l → W.cell? ⟨tb, 0, none⟩ = some (.int .i64 t0) ∧ W.cell? ⟨tb, 1, none⟩ = some (.int .i64 t1) := fun W l hs hm => by
    have := hs.get _ _ hm
    rw [HTW.out] at this
    exact ⟨by rw [cell_of_row _ _ _ _ _ _ this]; rfl, by rw [cell_of_row _ _ _ _ _ _ this]; rfl⟩
  have HC := Lib.hid cells
  clear cells
  go_wp2_with fail
  refine (new_any W0).mono ?_
  rintro e w1 ⟨rfl, rfl⟩
  have S1 := Lib.hid (S0.out.alloc (.cells (HB zeroH) 57))
  have hg0 := row_lt (S0.out.get _ _ (.head _))
  obtain ⟨gh, hgh⟩ : ∃ gh, W0.heap.size = gh := ⟨_, rfl⟩
  rw [hgh] at S1 hg0 ⊢
  clear hgh S0 B0 hc0 hc1
  generalize W0.alloc (.cells (HB zeroH) 57) = W1 at S1 ⊢
  have hz1 := row_lt (S1.out.get _ _ (.head _))
  obtain ⟨hx, hy⟩ := HC.out _ _ S1.out (.tail _ (.head _))
  go_wp2_with fail
  go_loopg [8] t0 (fun gk v8 wr => ∃ i : Nat, i + gk = t0 ∧ v8 = .int .i64 i ∧ St w wr [(gh, .cells (HB (takeP zeroH p i)) 57), (tb, TW)])
  case atStart => exact ⟨0, by omega, rfl, S1.out⟩
  case round =>
    clear S1 hx hy
    obtain ⟨i, hig, rfl, hst⟩ := hrel
    obtain ⟨hx, hy⟩ := HC.out _ _ hst (.tail _ (.head _))
    have hgl := row_lt (hst.get _ _ (.head _))
    have HST := Lib.hid hst
    clear hst
    cases gk with
    | succ go =>
      have hid : decide ((i : Int) < (t0 : Int)) = true := by simp; omega
      have hlt' : (i : Int) < (t0 : Int) := by omega
      have hltn : (i : Int) < (n : Int) := by omega
      have hP1 := HP.out.move HST.out.bel gh (by have := HTB.out; omega)
      obtain ⟨b, o, rfl, hb, hbg, hc⟩ := hP1.get i (by omega)
      have HSg := Lib.hid (hP1.each i (by omega))
      obtain ⟨pa, hpa⟩ : ∃ x, (p i).a = x := ⟨_, rfl⟩
      obtain ⟨pn, hpn⟩ : ∃ x, (p i).n = x := ⟨_, rfl⟩
      obtain ⟨pc, hpc⟩ : ∃ x, (p i).c = x := ⟨_, rfl⟩
      obtain ⟨pf, hpf⟩ : ∃ x, (p i).f = x := ⟨_, rfl⟩
      rw [hpa, hpn, hpc] at hc
      rw [hpa, hpn, hpc, hpf] at HSg
      have Hpn := Lib.hid hpn
      have Hpf := Lib.hid hpf
      clear hpa hpn hpc hpf hP1
      go_wp2_with fail
      refine (write_any gh (takeP zeroH p i) pa pn pc pf wr (HT.out.below HST.out.bel) (by omega) (HST.out.get _ _ (.head _)) (takeP_k _ _ (by decide) _) (takeP_tl _ _ _) HSg.out).mono ?_
      rintro e w2 ⟨rfl, hs2⟩
      have HH2 := Lib.hid hs2
      clear hs2 hc HSg
      go_wp2_with fail
      go_roundg go
      case measure => omega
      case rel =>
        refine ⟨i + 1, by omega, by first | rfl | simp, ?_⟩
        have h9 := HST.out.hs HH2.out (by have := HTB.out; omega) (l' := [(tb, TW)]) (fun z hz => by simp at hz; subst hz; exact ⟨.tail _ (.head _), by show tb ≠ gh; omega⟩)
        show St w _ [(gh, .cells (HB (takeN (takeP zeroH p i) (p i).f (p i).n)) 57), (tb, TW)]
        rw [Hpn.out, Hpf.out]
        exact h9
    | zero =>
      obtain rfl : i = t0 := by omega
      have hii : decide ((i : Int) < (i : Int)) = false := by simp
      go_wp2_with fail
      refine (clone_any gh _ wr (HST.out.get _ _ (.head _))).mono ?_
      rintro e w3 ⟨rfl, rfl⟩
      have S3 := Lib.hid (HST.out.alloc (.cells (HB (takeP zeroH p i)) 57))
      obtain ⟨gg, hgg⟩ : ∃ gg, wr.heap.size = gg := ⟨_, rfl⟩
      rw [hgg] at S3 hgl ⊢
      clear hgg HST hx hy
      generalize wr.alloc (.cells (HB (takeP zeroH p i)) 57) = W3 at S3 ⊢
      have hz3 := row_lt (S3.out.get _ _ (.head _))
      go_wp2_with fail
      refine (write_any gg (takeP zeroH p i) ab bn bc bf W3 (HT.out.below S3.out.bel) (by omega) (S3.out.get _ _ (.head _)) (takeP_k _ _ (by decide) _) (takeP_tl _ _ _) (Sg.of_sl (HBB.out.below S3.out.bel) (by have := HTB.out; omega) S3.out.bel.size)).mono ?_
      rintro e w4 ⟨rfl, hs4⟩
      have hz4 := hs4.size
      have S4 := Lib.hid (S3.out.hs hs4 (by have := HTB.out; omega) (l' := [(gh, .cells (HB (takeP zeroH p i)) 57), (tb, TW)]) (fun z hz => by
          simp only [List.mem_cons, List.not_mem_nil, or_false] at hz
          rcases hz with rfl | rfl
          · exact ⟨by simp, by dsimp only; omega⟩
          · exact ⟨by simp, by dsimp only; omega⟩))
      clear hs4 S3
      obtain ⟨hx, hy⟩ := HC.out _ _ S4.out (by simp)
      go_wp2_with fail
      go_loopg [10] (n - i) (fun gk v10 wq => ∃ j : Nat, j + gk = n ∧ i ≤ j ∧ v10 = .int .i64 j ∧ St w wq [(gh, .cells (HB (takeP zeroH p j)) 57), (gg, .cells (HB (takeN (takeP zeroH p i) bf bn)) 57), (tb, TW)])
      case atStart => exact ⟨i, by omega, Nat.le_refl _, rfl, S4.out.sub (fun z hz => by simp only [List.mem_cons, List.not_mem_nil, or_false] at hz ⊢; rcases hz with rfl | rfl | rfl <;> simp)⟩
      case round =>
        clear S4 hx hy
        obtain ⟨j, hjg, hij, rfl, hst⟩ := hrel
        have hgl2 := row_lt (hst.get _ _ (.head _))
        have hgl3 := row_lt (hst.get _ _ (.tail _ (.head _)))
        have HST := Lib.hid hst
        clear hst
        cases gk with
        | succ go =>
          have hid : decide ((j : Int) < (n : Int)) = true := by simp; omega
          have hltn : (j : Int) < (n : Int) := by omega
          have hP1 := HP.out.move HST.out.bel gh (by have := HTB.out; omega)
          obtain ⟨b, o, rfl, hb, hbg, hc⟩ := hP1.get j (by omega)
          have HSg := Lib.hid (hP1.each j (by omega))
          obtain ⟨pa, hpa⟩ : ∃ x, (p j).a = x := ⟨_, rfl⟩
          obtain ⟨pn, hpn⟩ : ∃ x, (p j).n = x := ⟨_, rfl⟩
          obtain ⟨pc, hpc⟩ : ∃ x, (p j).c = x := ⟨_, rfl⟩
          obtain ⟨pf, hpf⟩ : ∃ x, (p j).f = x := ⟨_, rfl⟩
          rw [hpa, hpn, hpc] at hc
          rw [hpa, hpn, hpc, hpf] at HSg
          have Hpn := Lib.hid hpn
          have Hpf := Lib.hid hpf
          clear hpa hpn hpc hpf hP1
          go_wp2_with fail
          refine (write_any gh (takeP zeroH p j) pa pn pc pf wr (HT.out.below HST.out.bel) (by omega) (HST.out.get _ _ (.head _)) (takeP_k _ _ (by decide) _) (takeP_tl _ _ _) HSg.out).mono ?_
          rintro e w2 ⟨rfl, hs2⟩
          have HH2 := Lib.hid hs2
          clear hs2 hc HSg
          go_wp2_with fail
          go_roundg go
          case measure => omega
          case rel =>
            refine ⟨j + 1, by omega, by omega, by first | rfl | simp, ?_⟩
            have h9 := Lib.hid (HST.out.hs HH2.out (by have := HTB.out; omega) (l' := [(gg, .cells (HB (takeN (takeP zeroH p i) bf bn)) 57), (tb, TW)]) (fun z hz => by
                simp only [List.mem_cons, List.not_mem_nil, or_false] at hz
                rcases hz with rfl | rfl
                · exact ⟨by simp, by dsimp only; omega⟩
                · exact ⟨by simp, by dsimp only; omega⟩))
            show St w _ [(gh, .cells (HB (takeN (takeP zeroH p j) (p j).f (p j).n)) 57), (gg, .cells (HB (takeN (takeP zeroH p i) bf bn)) 57), (tb, TW)]
            rw [Hpn.out, Hpf.out]
            exact h9.out
        | zero =>
          obtain rfl : j = n := by omega
          have hjj : decide ((j : Int) < (j : Int)) = false := by simp
          go_wp2_with fail
          refine (clone_any gh _ wr (HST.out.get _ _ (.head _))).mono ?_
          rintro e w5 ⟨rfl, rfl⟩
          have S5 := Lib.hid (HST.out.alloc (.cells (HB (takeP zeroH p j)) 57))
          obtain ⟨gf, hgf⟩ : ∃ gf, wr.heap.size = gf := ⟨_, rfl⟩
          rw [hgf] at S5 hgl2 hgl3 ⊢
          clear hgf HST
          generalize wr.alloc (.cells (HB (takeP zeroH p j)) 57) = W5 at S5 ⊢
          have hz5 := row_lt (S5.out.get _ _ (.head _))
          obtain ⟨hx, hy⟩ := HC.out _ _ S5.out (by simp)
          have hadd := map_add_zero a
          have hic : i ≤ c := Nat.le_trans hij HP.out.le
          have hic' : (i : Int) ≤ (c : Int) := by omega
          have hbz5 := S5.out.bel.size
          have O5 := Lib.hid (OwnP.nil W5 W5.heap.size p)
          have P5 := Lib.hid ((HP.out.move S5.out.bel W5.heap.size S5.out.bel.size).first i hij)
          go_upto_region 24 with (((with_reducible apply lay_append_pieces); (case hgd => exact rfl); (case ho => exact rfl); (case hs => exact rfl); (case hx => exact rfl); (case hown => exact O5.out); (case hS => exact P5.out); (case hn => omega); (case hbase => exact Nat.le_refl _); intro _ _ _ _ _ _; go_simp))
          rename_i v6 w6 hown6 hb6 _ _
          have O6 := Lib.hid (hown6.congr (q := p) fun x _ => by unfold catP; rw [if_neg (by omega), Nat.sub_zero])
          rw [Nat.zero_add] at O6
          have S6 := Lib.hid (S5.out.grow hb6 hbz5 (fun z hz => by
              simp only [List.mem_cons, List.not_mem_nil, or_false] at hz
              rcases hz with rfl | rfl | rfl | rfl <;> (dsimp only; omega)))
          have hz6 := hb6.size
          clear hown6 hb6 S5 O5 P5 hx hy
          have O7 := Lib.hid (O6.out.alloc (.cells #[.slice ab bn bc] 25))
          have S7 := Lib.hid (S6.out.alloc (.cells #[.slice ab bn bc] 25))
          have Q7 := Lib.hid (row1 w6 (.cells #[.slice ab bn bc] 25))
          have hz7 : (w6.alloc (.cells #[.slice ab bn bc] 25)).heap.size = w6.heap.size + 1 := by simp
          have P7 := Lib.hid (Pc.one (g := (w6.alloc (.cells #[.slice ab bn bc] 25)).heap.size) (q := ⟨ab, bn, bc, bf⟩) Q7.out (by omega) (Nat.le_refl 1) (Sg.of_sl (HBB.out.below S7.out.bel) S7.out.bel.size S7.out.bel.size))
          go_upto_region 25 with (((with_reducible apply lay_append_pieces); (case hgd => exact rfl); (case ho => exact rfl); (case hs => exact rfl); (case hx => exact rfl); (case hown => exact O7.out); (case hS => exact P7.out); (case hn => omega); (case hbase => omega); intro _ _ _ _ _ _; go_simp))
          rename_i v8 w8 hown8 hb8 _ _
          obtain ⟨q, hq⟩ : ∃ q, catP p i (fun _ => ⟨ab, bn, bc, bf⟩) = q := ⟨_, rfl⟩
          rw [hq] at hown8
          have HQ := Lib.hid hq
          have O8 := Lib.hid hown8
          have S8 := Lib.hid ((S7.out.sub (l' := [(gf, .cells (HB (takeP zeroH p j)) 57), (gh, .cells (HB (takeP zeroH p j)) 57), (gg, .cells (HB (takeN (takeP zeroH p i) bf bn)) 57), (tb, TW)]) (fun z hz => .tail _ hz)).grow hb8 hbz5 (fun z hz => by
              simp only [List.mem_cons, List.not_mem_nil, or_false] at hz
              rcases hz with rfl | rfl | rfl | rfl <;> (dsimp only; omega)))
          have hz8 := hb8.size
          clear hown8 hb8 hq O6 S6 O7 S7 Q7 P7
          obtain ⟨_, hy⟩ := HC.out _ _ S8.out (by simp)
          go_wp2_with fail
          refine (read_any gh (takeP zeroH p j) t1 w8 (HT.out.below S8.out.bel) (by omega) (S8.out.get gh _ (by simp)) (Nat.le_of_lt (takeP_k _ _ (by decide) _)) (fun _ => takeP_k _ _ (by decide) _) (by omega)).mono ?_
          rintro e w9 ⟨v, rfl, b9, rfl, hb9, hr9, hs9⟩
          have hz9 := hs9.size
          have hl9 := hr9.lt
          have S9a := Lib.hid (S8.out.hs hs9 (by have := HTB.out; omega) (l' := [(gf, .cells (HB (takeP zeroH p j)) 57), (gg, .cells (HB (takeN (takeP zeroH p i) bf bn)) 57), (tb, TW)]) (fun z hz => by
              simp only [List.mem_cons, List.not_mem_nil, or_false] at hz
              rcases hz with rfl | rfl | rfl
              · exact ⟨by simp, by dsimp only; omega⟩
              · exact ⟨by simp, by dsimp only; omega⟩
              · exact ⟨by simp, by dsimp only; omega⟩))
          have O9 := Lib.hid (O8.out.hs hs9 (by omega))
          have S9 := Lib.hid (S9a.out.row hr9)
          clear hr9 hs9 S9a S8 O8 hy
          go_wp2_with fail
          refine (clone_any gf (takeP zeroH p j) w9 (S9.out.get gf _ (by simp))).mono ?_
          rintro e w10 ⟨rfl, rfl⟩
          have S10 := Lib.hid (S9.out.alloc (.cells (HB (takeP zeroH p j)) 57))
          have O10 := Lib.hid (O9.out.alloc (.cells (HB (takeP zeroH p j)) 57))
          obtain ⟨gi, hgi⟩ : ∃ gi, w9.heap.size = gi := ⟨_, rfl⟩
          rw [hgi] at S10 hz9 hl9 ⊢
          clear hgi S9 O9
          generalize w9.alloc (.cells (HB (takeP zeroH p j)) 57) = W10 at S10 O10 ⊢
          have hz10 := row_lt (S10.out.get _ _ (.head _))
          obtain ⟨_, hy⟩ := HC.out _ _ S10.out (by simp)
          go_wp2_with fail
          refine (read_any gf (takeP zeroH p j) t1 W10 (HT.out.below S10.out.bel) (by omega) (S10.out.get gf _ (by simp)) (Nat.le_of_lt (takeP_k _ _ (by decide) _)) (fun _ => takeP_k _ _ (by decide) _) (by omega)).mono ?_
          rintro e w11 ⟨v, rfl, b11, rfl, hb11, hr11, hs11⟩
          have hz11 := hs11.size
          have hl11 := hr11.lt
          have S11a := Lib.hid (S10.out.hs hs11 (by have := HTB.out; omega) (l' := [(gi, .cells (HB (takeP zeroH p j)) 57), (b9, .cells (AB t1 (tellB (takeP zeroH p j).opened)) 5), (gg, .cells (HB (takeN (takeP zeroH p i) bf bn)) 57), (tb, TW)]) (fun z hz => by
              simp only [List.mem_cons, List.not_mem_nil, or_false] at hz
              rcases hz with rfl | rfl | rfl | rfl
              · exact ⟨by simp, by dsimp only; omega⟩
              · exact ⟨by simp, by dsimp only; omega⟩
              · exact ⟨by simp, by dsimp only; omega⟩
              · exact ⟨by simp, by dsimp only; omega⟩))
          have O11 := Lib.hid (O10.out.hs hs11 (by omega))
          have S11 := Lib.hid (S11a.out.row hr11)
          clear hr11 hs11 S11a S10 O10 hy
          obtain ⟨_, hy⟩ := HC.out _ _ S11.out (by simp)
          go_wp2_with fail
          refine (read_any gg (takeN (takeP zeroH p i) bf bn) t1 w11 (HT.out.below S11.out.bel) (by omega) (S11.out.get gg _ (by simp)) (Nat.le_of_lt (takeN_k _ _ (takeP_k _ _ (by decide) _) _)) (fun _ => takeN_k _ _ (takeP_k _ _ (by decide) _) _) (by omega)).mono ?_
          rintro e w12 ⟨v, rfl, b12, rfl, hb12, hr12, hs12⟩
          have hz12 := hs12.size
          have hl12 := hr12.lt
          have S12a := Lib.hid (S11.out.hs hs12 (by have := HTB.out; omega) (l' := [(b11, .cells (AB t1 (tellB (takeP zeroH p j).opened)) 5), (gi, .cells (HB (takeP zeroH p j)) 57), (b9, .cells (AB t1 (tellB (takeP zeroH p j).opened)) 5), (tb, TW)]) (fun z hz => by
              simp only [List.mem_cons, List.not_mem_nil, or_false] at hz
              rcases hz with rfl | rfl | rfl | rfl
              · exact ⟨by simp, by dsimp only; omega⟩
              · exact ⟨by simp, by dsimp only; omega⟩
              · exact ⟨by simp, by dsimp only; omega⟩
              · exact ⟨by simp, by dsimp only; omega⟩))
          have O12 := Lib.hid (O11.out.hs hs12 (by omega))
          have S12 := Lib.hid (S12a.out.row hr12)
          clear hr12 hs12 S12a S11 O11 hy
          obtain ⟨_, hy⟩ := HC.out _ _ S12.out (by simp)
          go_wp2_with fail
          refine (sum_any a j c p t1 w12 (HT.out.below S12.out.bel) (HP.out.move S12.out.bel w12.heap.size S12.out.bel.size) (by omega) (by omega)).mono ?_
          rintro e w13 ⟨v, rfl, b13, rfl, hb13, hr13, hbel13⟩
          have S13 := Lib.hid ((S12.out.call hbel13).row hr13)
          have O13 := Lib.hid (O12.out.below hbel13)
          have hz13 := hbel13.size
          clear hr13 hbel13 S12 O12 hy
          obtain ⟨_, hy⟩ := HC.out _ _ S13.out (by simp)
          obtain ⟨a8, c8, rfl, hpc8⟩ := O13.out.pc (fun x hx => by
              rw [← HQ.out]
              unfold catP
              by_cases hxi : x < i
              · rw [if_pos hxi]
                exact ((HP.out.each x (by omega)).sl.below S13.out.bel).more S13.out.bel.size
              · rw [if_neg hxi]
                exact (HBB.out.below S13.out.bel).more S13.out.bel.size)
          have PC8 := Lib.hid hpc8
          clear hpc8 O13
          go_wp2_with fail
          refine (sum_any a8 (i + 1) c8 q t1 w13 (HT.out.below S13.out.bel) PC8.out (by omega) (by omega)).mono ?_
          rintro e w14 ⟨v, rfl, b14, rfl, hb14, hr14, hbel14⟩
          have hqG : takeP zeroH q (i + 1) = takeN (takeP zeroH p i) bf bn := by
            show takeN (takeP zeroH q i) (q i).f (q i).n = _
            rw [takeP_congr zeroH (p := q) (q := p) i (fun x hx => by rw [← HQ.out]; unfold catP; rw [if_pos hx])]
            have hqi : q i = ⟨ab, bn, bc, bf⟩ := by rw [← HQ.out]; unfold catP; rw [if_neg (by omega)]
            rw [hqi]
          rw [hqG] at hr14
          have S14 := Lib.hid ((S13.out.call hbel14).row hr14)
          have hz14 := hbel14.size
          clear hr14 hbel14 S13 PC8 hy hqG
          go_wp2_with fail
          refine (same_any (some ⟨b9, 0, none⟩) (some ⟨b13, 0, none⟩) t1 t1 t1 (tellB (takeP zeroH p j).opened) (tellB (takeP zeroH p j).opened) w14 (by omega) (RowB.sl (S14.out.get b9 _ (by simp))) (RowB.sl (S14.out.get b13 _ (by simp))) (fun _ _ => rfl)).mono ?_
          rintro e w15 ⟨rfl, hb15⟩
          have S15 := Lib.hid (S14.out.call hb15)
          clear hb15 S14
          go_wp2_with fail
          refine (same_any (some ⟨b11, 0, none⟩) (some ⟨b13, 0, none⟩) t1 t1 t1 (tellB (takeP zeroH p j).opened) (tellB (takeP zeroH p j).opened) w15 (by omega) (RowB.sl (S15.out.get b11 _ (by simp))) (RowB.sl (S15.out.get b13 _ (by simp))) (fun _ _ => rfl)).mono ?_
          rintro e w16 ⟨rfl, hb16⟩
          have S16 := Lib.hid (S15.out.call hb16)
          clear hb16 S15
          go_wp2_with fail
          refine (same_any (some ⟨b12, 0, none⟩) (some ⟨b14, 0, none⟩) t1 t1 t1 (tellB (takeN (takeP zeroH p i) bf bn).opened) (tellB (takeN (takeP zeroH p i) bf bn).opened) w16 (by omega) (RowB.sl (S16.out.get b12 _ (by simp))) (RowB.sl (S16.out.get b14 _ (by simp))) (fun _ _ => rfl)).mono ?_
          rintro e w17 ⟨rfl, hb17⟩
          have S17 := Lib.hid (S16.out.call hb17)
          clear hb17 S16
          go_wp2_with fail
          refine (write_any gi (takeP zeroH p j) ab bn bc bf w17 (HT.out.below S17.out.bel) (by omega) (S17.out.get gi _ (by simp)) (takeP_k _ _ (by decide) _) (takeP_tl _ _ _) (Sg.of_sl (HBB.out.below S17.out.bel) (by have := HTB.out; omega) S17.out.bel.size)).mono ?_
          rintro e w18 ⟨rfl, hs18⟩
          have B18 := Lib.hid (S17.out.bel.trans (hs18.below (by have := HTB.out; omega) S17.out.bel.size))
          clear hs18 S17
          go_wp2_with fail
          refine (awake_any _ (HT.out.below B18.out)).mono ?_
          rintro e w19 ⟨rfl, hb19⟩
          have B19 := Lib.hid (B18.out.trans (hb19.mono B18.out.size))
          clear hb19
          go_wp2_with fail
          go_ret
          exact ⟨rfl, B19.out⟩
end Go.Proofs.YtjppmeihobcenaaDoor
