/-
  The contract of the reference's Sum.
-/
import Derived.Test.YtjppmeihobcenaaDoorShRefM
import Derived.WalkLawsBesides
import Derived.StillTailTactics
namespace Go.Proofs.YtjppmeihobcenaaDoor
open Go.RowKit

theorem allN_mono (p : Nat → Piece) (i : Nat) : ∀ n, i ≤ n → allN p i ≤ allN p n
  | 0, h => by
    obtain rfl : i = 0 := by omega
    exact Nat.le_refl _
  | n + 1, h => by
    by_cases e : i = n + 1
    · rw [e]; exact Nat.le_refl _
    · exact Nat.le_trans (allN_mono p i n (by omega)) (Nat.le_add_right _ _)
section
variable {w : World} {ops : Array Oper} {rest : List Oper} {o : Oper} {act : Act} {Q : Exit → Act → World → Prop}
/-- append onto a row of the call's own: what lies in other blocks stays. -/
theorem lay_append_more (hgd : o.guard = none) {s x : Operand} (ho : o.op = .call { callee := .builtin .append, args := #[s, x], argTypes := #[25, 25] }) {v : Value} (hs : act.eval s = v)
    {ad : Addr} {m c : Nat} (hx : act.eval x = .slice (some ad) m c) {base n : Nat} {f g : Nat → BitVec 8} (hown : OwnB w base v n f) (hS : Sl w w.heap.size (some ad) m c g) (hn : n + m ≤ 100000) (hbase : base ≤ w.heap.size)
    (h : ∀ v' w', OwnB w' base v' (n + m) (cat f n g) → Below base w w' → (∀ k, k < w.heap.size → some k ≠ v.ownBlock → w'.heap[k]? = w.heap[k]?) → ∀ K : Act → World → Prop, (∀ a w, wpList Tryd.prog ops Q rest a w → K a w) → K (act.put o.dst v') w') : wpList Tryd.prog ops Q (o :: rest) act w := by
  obtain ⟨i, hi, hz, hsz, hby⟩ := info_u8
  refine wpList_append_own w hgd s x _ ho base 5 i (.int .u8 0) 1 1 Tryd.underlying25 hi hz hsz hby rfl (by omega) v n _ hs hown
    ad m c ((List.range m).map fun i => U (g i)) hx (by simp) (fun j u hu => ?_) (fun u hu => ?_) (by unfold maxLen; omega) (by omega) hbase ?_
  · obtain ⟨hj, rfl⟩ := newsB_get m g j u hu
    obtain ⟨b, off, rfl, hb, hc⟩ := hS.low ad rfl (by omega)
    rw [Addr.add_mid]
    exact hc j hj
  · obtain ⟨i, _, rfl⟩ := List.mem_map.1 hu
    rfl
  · intro v' w' ho' hgrow _
    refine h v' w' ?_ ((Below.refl _ _).grown hgrow hbase fun k hk => ?_) hgrow.block _ fun _ _ h => h
    · unfold OwnB
      rw [← cat_map]
      exact ho'
    · obtain ⟨_, hv⟩ := hown
      rcases hv with ⟨rfl, _⟩ | ⟨g, cap, cur, rfl, hg, _⟩
      · cases hk
      · have : g = k := by simpa [Value.ownBlock] using hk
        omega
end
theorem OwnB.blockLt {w : World} {base : Nat} {v : Value} {n : Nat} {f : Nat → BitVec 8} (h : OwnB w base v n f) (k : Nat) (hk : v.ownBlock = some k) : k < w.heap.size := by
  obtain ⟨_, hv⟩ := h
  rcases hv with ⟨rfl, _⟩ | ⟨g, cap, cur, rfl, hg, hrow, _⟩
  · cases hk
  · have : g = k := by simpa [Value.ownBlock] using hk
    rw [← this]
    exact row_lt hrow

set_option maxHeartbeats 3200000 in
set_option maxRecDepth 100000 in
theorem refSum_any (a : Option Addr) (n c : Nat) (p : Nat → Piece) (m : Nat) (w : World) (hp : Pc w w.heap.size a n c p) (hn : n ≤ 12) (hall : allN p n ≤ 20000) (hm : m ≤ 60000) :
    Calls Tryd.prog 12 #[.int .i64 m, .slice a n c] w fun e w' => ∃ v, e = .returned v ∧ OwnB w' w.heap.size v m (tellB (takeP zeroH p n).opened) ∧ Below w.heap.size w w' := by
  have HP := Lib.hid hp
  clear hp
  go_enter Tryd.func12, Tryd.ntmps12
  go_wp2_with fail
  go_loopg [5, 6] n (fun gk v5 v6 wr => ∃ i : Nat, i + gk = n ∧ v6 = .int .i64 i ∧ OwnB wr w.heap.size v5 (allN p i) (allF p i) ∧ Below w.heap.size w wr)
  case atStart => exact ⟨0, by omega, rfl, OwnB.nil _ _ _, Below.refl _ _⟩
  case round =>
    obtain ⟨i, hig, rfl, hown, hbel⟩ := hrel
    cases gk with
    | succ go =>
      have hid : decide ((i : Int) < (n : Int)) = true := by simp; omega
      have hlt' : (i : Int) < (n : Int) := by omega
      have hP1 := HP.out.move hbel wr.heap.size hbel.size
      obtain ⟨b, o, rfl, hb, hbg, hc⟩ := hP1.get i (by omega)
      have HSg := Lib.hid (hP1.each i (by omega)).sl
      have hle := allN_mono p (i + 1) n (by omega)
      have hle' : allN p i + (p i).n ≤ 20000 := Nat.le_trans hle hall
      have HO := Lib.hid hown
      have HB0 := Lib.hid hbel
      have hbz := hbel.size
      obtain ⟨pa, hpa⟩ : ∃ x, (p i).a = x := ⟨_, rfl⟩
      obtain ⟨pn, hpn⟩ : ∃ x, (p i).n = x := ⟨_, rfl⟩
      obtain ⟨pc, hpc⟩ : ∃ x, (p i).c = x := ⟨_, rfl⟩
      obtain ⟨pf, hpf⟩ : ∃ x, (p i).f = x := ⟨_, rfl⟩
      rw [hpa, hpn, hpc] at hc
      rw [hpa, hpn, hpc, hpf] at HSg
      rw [hpn] at hle'
      have Hpn := Lib.hid hpn
      have Hpf := Lib.hid hpf
      clear hpa hpn hpc hpf hown hbel hP1 hle
      go_wp2_with ((with_reducible apply lay_append_many); (case hgd => exact rfl); (case ho => exact rfl); (case hs => exact rfl); (case hx => exact rfl); (case hown => exact HO.out); (case hS => exact HSg.out); (case hn => omega); (case hbase => exact hbz); intro _ _ _ _ _ _; go_simp)
      rename_i v' w3 hown3 hb3
      go_roundg go
      case measure => omega
      case rel =>
        refine ⟨i + 1, by omega, by first | rfl | simp, ?_, HB0.out.trans hb3⟩
        show OwnB _ _ _ (allN p i + (p i).n) (cat (allF p i) (allN p i) (p i).f)
        rw [Hpn.out, Hpf.out]
        exact hown3
    | zero =>
      obtain rfl : i = n := by omega
      obtain ⟨a5, c5, rfl, hs5, _⟩ := hown.any
      have hX0 : takeN zeroH (allF p i) (allN p i) = takeP zeroH p i := take_all _ _ _
      obtain ⟨N5, hN5⟩ : ∃ N, allN p i = N := ⟨_, rfl⟩
      obtain ⟨F5, hF5⟩ : ∃ F, allF p i = F := ⟨_, rfl⟩
      rw [hN5, hF5] at hs5 hX0
      rw [hN5] at hall ⊢
      have S5 := Lib.hid hs5
      have B5 := Lib.hid hbel
      have hfill := filled_fill F5 N5
      rw [hX0] at hfill
      obtain ⟨X, hX⟩ : ∃ X, (takeP zeroH p i).opened = X := ⟨_, rfl⟩
      have hXf : X = (takeP zeroH p i).fill := by
        rw [← hX]
        unfold HS.opened
        rw [takeP_tl]
        rfl
      obtain ⟨J, hJ⟩ : ∃ J, J = N5 / 136 + 1 := ⟨_, rfl⟩
      obtain ⟨N, hN⟩ : ∃ N, filledN N5 = N := ⟨_, rfl⟩
      have hNJ : N = 136 * J := by rw [← hN, hJ]; rfl
      obtain ⟨F, hF⟩ : ∃ F, filledF F5 N5 = F := ⟨_, rfl⟩
      have hXs : X.s = (blkS F J).s := by
        rw [hXf, hfill, hN, hF, hNJ]
        rfl
      have hXk : X.k = 0 := by
        rw [hXf]
        exact fill_k _ (takeP_k _ _ (by decide) _)
      have hN2 : N ≤ 21000 := by omega
      have HX := Lib.hid hX
      have HXs := Lib.hid hXs
      have HXk := Lib.hid hXk
      have HNJ := Lib.hid hNJ
      clear hs5 hbel hown hX0 hfill hX hXf hXs hXk hN5 hF5 hJ hNJ
      go_wp2_with fail
      refine (filled_any a5 N5 c5 F5 wr (by omega) S5.out).mono ?_
      rintro e w6 ⟨ga, ca, rfl, hga, hca, hwa, hb6⟩
      rw [hN] at hwa hca ⊢
      rw [hF] at hwa
      have B6 := Lib.hid (B5.out.trans (hb6.mono B5.out.size))
      have hbz6 := B6.out.size
      have A6 := Lib.hid (hwa.below ((Below.refl w6.heap.size w6).alloc (Nat.le_refl _) (.cells (AB 200 fun _ => 0) 5)))
      have B6' := Lib.hid (B6.out.alloc B6.out.size (.cells (AB 200 fun _ => 0) 5))
      have R6 := Lib.hid (show RowB (w6.alloc (.cells (AB 200 fun _ => 0) 5)) w6.heap.size 200 (fun _ => 0) from row1 _ _)
      have hal := hwa.lt
      clear hwa hb6 B5 S5 hN hF
      go_wp2_with ((with_reducible apply lay_make (l := 200) (c := 200)); (case hgd => exact rfl); (case ho => exact rfl); (case hx => exact rfl); (case hy => exact rfl); (case hl => exact Nat.le_refl _); (case hc => omega); intro _ _; go_simp)
      go_loopg [7, 8] J (fun gk v7 v8 wq => ∃ (j gs cs : Nat), j + gk = J ∧ v8 = .int .i64 ((136 * j : Nat) : Int) ∧ v7 = .slice (some ⟨gs, 0, none⟩) 200 cs ∧ 200 ≤ cs ∧ gs ≠ ga ∧ w.heap.size ≤ gs ∧ Wn wq gs 200 (bytesF (blkS F j).s) ∧ Wn wq ga N F ∧ Below w.heap.size w wq)
      case atStart =>
        refine ⟨0, w6.heap.size, 200, by omega, rfl, rfl, by omega, by omega, by omega, ⟨_, R6.out, fun q hq => ?_⟩, A6.out, B6'.out⟩
        rw [AB_get _ _ _ hq]
        show some (U 0) = some (U (bytesF (fun _ => 0) q))
        rw [zero_bytes]
      case round =>
        clear R6 A6 B6' B6
        obtain ⟨j, gs, cs, hjg, rfl, rfl, hcs, hne, hgs, hws, hwa, hbq⟩ := hrel
        have HS7 := Lib.hid hws
        have HA7 := Lib.hid hwa
        have HB7 := Lib.hid hbq
        clear hws hwa hbq
        cases gk with
        | succ go =>
          have hj1 : 136 * j + 136 ≤ N := by have := HNJ.out; omega
          obtain ⟨q, hq⟩ : ∃ q, 136 * j = q := ⟨_, rfl⟩
          rw [hq] at hj1 ⊢
          have HQ := Lib.hid hq
          have hqi : decide ((q : Int) < (N : Int)) = true := by simp; omega
          have hqz : (q : Int) ≤ 21000 := by omega
          have hql : (q : Int) < (N : Int) := by omega
          have hqn : q < N := by omega
          clear hq
          go_wp2_with fail
          go_loopg [9] 136 (fun g2 v9 wy => ∃ k : Nat, k + g2 = 136 ∧ v9 = .int .i64 k ∧ Wn wy gs 200 (sx (blkS F j).s F j k) ∧ Wn wy ga N F ∧ Below w.heap.size w wy)
          case atStart => exact ⟨0, by omega, rfl, by rw [sx_zero]; exact HS7.out, HA7.out, HB7.out⟩
          case round =>
            clear HS7 HA7 HB7
            obtain ⟨k, hkg, rfl, hws, hwa, hbq⟩ := hrel
            cases gk with
            | succ g2 =>
              have hid : decide ((k : Int) < 136) = true := by simp; omega
              have HS7 := Lib.hid hws
              have HA7 := Lib.hid hwa
              have HB7 := Lib.hid hbq
              clear hws hwa hbq
              go_wp2_with fail
              refine wp_region_still_tail 14 (by kernel_rfl) (by kernel_rfl) ?_
              change wpStill _ _ wr.drew (fun a' => wpList _ _ _ _ a' wr.drew) _ _
              have HS8 := Lib.hid HS7.out.drew
              have HA8 := Lib.hid HA7.out.drew
              have HB8 := Lib.hid HB7.out.drew
              clear HS7 HA7 HB7
              generalize wr.drew = w2 at *
              have hc1 := HS8.out.cell k (by omega)
              have hz1 := HS8.out.thaw k
              have hc2 := HA8.out.cell (q + k) (by omega)
              have k200 : (k : Int) < 200 := by omega
              have e1 : IntKind.i64.wrap ((q : Int) + (k : Int)) = ((q + k : Nat) : Int) := (IntWalk.i64_in _ (by omega)).trans (by omega)
              obtain ⟨qk, hqk⟩ : ∃ x, q + k = x := ⟨_, rfl⟩
              rw [hqk] at hc2 e1
              have hqN : (qk : Int) < (N : Int) := by omega
              have HQK := Lib.hid hqk
              clear hqk
              simp only [List.take_succ_cons, List.take_zero, List.drop_succ_cons, List.drop_zero]
              iterate 14 still_step
              refine wpStill_nil ?_
              clear e1
              go_wp2_with fail
              go_roundg g2
              case measure => omega
              case rel =>
                refine ⟨k + 1, by omega, by first | rfl | simp, ?_, HA8.out.block (Below.heap_setCell _ _ _ _ (fun e => hne e.symm)), HB8.out.setCell hgs _⟩
                have h9 := HS8.out.set k (sx (blkS F j).s F j k k ^^^ F qk)
                rw [show qk = 136 * j + k by have := HQK.out; have := HQ.out; omega, sx_succ] at h9
                rw [show qk = 136 * j + k by have := HQK.out; have := HQ.out; omega]
                exact h9
            | zero =>
              obtain rfl : k = 136 := by omega
              rw [show ((136 : Nat) : Int) = 136 from rfl]
              have HS7 := Lib.hid hws
              have HA7 := Lib.hid hwa
              have HB7 := Lib.hid hbq
              clear hws hwa hbq
              go_wp2_with fail
              refine (refOf_any (some ⟨gs, 0, none⟩) cs _ wr (HS7.out.sl hcs)).mono ?_
              rintro e w8 ⟨rfl, hb8⟩
              have HA8 := Lib.hid (HA7.out.below hb8)
              have HB8 := Lib.hid (HB7.out.trans (hb8.mono HB7.out.size))
              clear hb8 HA7 HB7 HS7
              go_wp2_with fail
              refine (refPerm_any _ w8).mono ?_
              rintro e w9 ⟨rfl, hb9⟩
              have HA9 := Lib.hid (HA8.out.below hb9)
              have HB9 := Lib.hid (HB8.out.trans (hb9.mono HB8.out.size))
              clear hb9 HA8 HB8
              go_wp2_with fail
              refine (refBytes_any _ w9).mono ?_
              rintro e w10 ⟨⟨g', c', cur, rfl, hg', hcur, hsl⟩, hb10⟩
              have HA10 := Lib.hid (HA9.out.below hb10)
              have HB10 := Lib.hid (HB9.out.trans (hb10.mono HB9.out.size))
              have HS10 := Lib.hid ((Wn.of_sl hcur hsl (by omega)).congr (blk_next F j))
              have hga9 := HA9.out.lt
              have hb9z := HB9.out.size
              have hcc := hsl.le
              clear hb10 HA9 HB9 hcur hsl
              go_wp2_with fail
              go_roundg go
              case measure => omega
              case rel => exact ⟨j + 1, g', c', by omega, by first | (congr 1; have := HQ.out; omega) | (simp; have := HQ.out; omega), rfl, hcc, by omega, by omega, HS10.out, HA10.out, HB10.out⟩
        | zero =>
          obtain rfl : j = J := by omega
          rw [← HNJ.out]
          have hNN : decide ((N : Int) < (N : Int)) = false := by simp
          have hs0 : Wn wr gs 200 (bytesF (eS X.s 0)) := HS7.out.congr fun q _ => by
            show _ = bytesF X.s q
            rw [HXs.out]
          have HS0 := Lib.hid hs0
          clear hs0 HS7 HA7 hca
          go_wp2_with fail
          go_loopg [7, 10] m (fun g2 v7 v10 wq => ∃ (j T gs cs : Nat), T + g2 = m ∧ (T = 136 * j ∨ (T = m ∧ T ≤ 136 * j)) ∧ v7 = .slice (some ⟨gs, 0, none⟩) 200 cs ∧ 200 ≤ cs ∧ some gs ≠ v10.ownBlock ∧ Wn wq gs 200 (bytesF (eS X.s j)) ∧ OwnB wq w.heap.size v10 T (tellB X) ∧ Below w.heap.size w wq)
          case atStart => exact ⟨0, 0, gs, cs, by omega, .inl rfl, rfl, hcs, (fun e => by cases e), HS0.out, OwnB.nil _ _ _, HB7.out⟩
          case round =>
            clear HS0 HB7 hcs hne hgs
            obtain ⟨j', T, gs', cs', hTg, hTj, rfl, hcs, hnb, hws, hown, hbq⟩ := hrel
            cases gk with
            | zero =>
              obtain rfl : T = m := by omega
              obtain ⟨a10, c10, rfl, _, _⟩ := hown.any
              have HO := Lib.hid hown
              have HB9 := Lib.hid hbq
              clear hws hown hbq hnb
              have hTT : decide ((T : Int) < (T : Int)) = false := by simp
              go_wp2_with fail
              go_ret
              exact ⟨_, rfl, by rw [HX.out]; exact HO.out, HB9.out⟩
            | succ g2 =>
              have hT1 : T = 136 * j' := by omega
              obtain ⟨a10, c10, hv10, _, _⟩ := hown.any
              have hTm : decide ((T : Int) < (m : Int)) = true := by simp; omega
              have hTm' : (T : Int) < (m : Int) := by omega
              obtain ⟨r, hr⟩ : ∃ r, T + r = m := ⟨g2 + 1, by omega⟩
              have e1 : (m : Int) - (T : Int) = (r : Int) := by omega
              have hr0 : r ≠ 0 := by omega
              have HT1 := Lib.hid hT1
              clear hTj hT1
              subst hv10
              have HS8 := Lib.hid hws
              have HO8 := Lib.hid hown
              have HB8 := Lib.hid hbq
              have hbz := hbq.size
              have HR := Lib.hid hr
              clear hws hown hbq hr
              by_cases hle : 136 ≤ r
              · have hle1 : (136 : Int) ≤ (r : Int) := by omega
                have hmn : min (136 : Int) (r : Int) = 136 := by omega
                have hcs1 : (136 : Int) ≤ (cs' : Int) := by omega
                have hSl := Lib.hid (show Sl wr wr.heap.size (some ⟨gs', 0, none⟩) 136 cs' (bytesF (eS X.s j')) from ⟨by omega, (fun e => by cases e), fun ad e _ => ⟨gs', 0, (Option.some.inj e).symm, HS8.out.lt, fun q hq => by rw [Nat.zero_add]; exact HS8.out.cell q (by omega)⟩⟩)
                go_wp2_with ((with_reducible apply lay_append_more); (case hgd => exact rfl); (case ho => exact rfl); (case hs => exact rfl); (case hx => exact rfl); (case hown => exact HO8.out); (case hS => exact hSl.out); (case hn => have := HR.out; omega); (case hbase => exact hbz); intro _ _ _ _ _ _ _; go_simp)
                rename_i v' w11 hown11 hb11 hblk11 _ _
                have HS11 := Lib.hid (HS8.out.block (hblk11 gs' HS8.out.lt hnb))
                have HO11 := Lib.hid hown11
                have HB11 := Lib.hid (HB8.out.trans hb11)
                clear hown11 hb11 hblk11 HS8 HO8 HB8 hSl
                refine (refOf_any (some ⟨gs', 0, none⟩) cs' _ w11 (HS11.out.sl hcs)).mono ?_
                rintro e w12 ⟨rfl, hb12⟩
                have HO12 := Lib.hid (HO11.out.below hb12)
                have HB12 := Lib.hid (HB11.out.trans (hb12.mono HB11.out.size))
                clear hb12 HO11 HB11 HS11
                go_wp2_with fail
                refine (refPerm_any _ w12).mono ?_
                rintro e w13 ⟨rfl, hb13⟩
                have HO13 := Lib.hid (HO12.out.below hb13)
                have HB13 := Lib.hid (HB12.out.trans (hb13.mono HB12.out.size))
                clear hb13 HO12 HB12
                go_wp2_with fail
                refine (refBytes_any _ w13).mono ?_
                rintro e w14 ⟨⟨g', c', cur, rfl, hg', hcur, hsl⟩, hb14⟩
                have HO14 := Lib.hid (HO13.out.below hb14)
                have HB14 := Lib.hid (HB13.out.trans (hb14.mono HB13.out.size))
                have HS14 := Lib.hid ((Wn.of_sl hcur hsl (by omega)).congr (show ∀ q, q < 200 → _ = bytesF (eS X.s (j' + 1)) q from ref_step fun _ _ => rfl))
                have hnb14 : some g' ≠ v'.ownBlock := fun e => by
                  have := HO13.out.blockLt g' e.symm
                  omega
                have hcc := hsl.le
                clear hb14 HO13 HB13 hcur hsl
                go_wp2_with fail
                go_roundg (r - 136)
                case measure => have := HR.out; omega
                case rel =>
                  refine ⟨j' + 1, T + 136, g', c', by have := HR.out; omega, by have := HT1.out; have := HR.out; omega, rfl, hcc, hnb14, HS14.out, HO14.out.congr fun q hq => ?_, HB14.out⟩
                  unfold cat
                  by_cases h1 : q < T
                  · rw [if_pos h1]
                  · rw [if_neg h1, ← tell_byte X HXk.out j' (q - T) (by omega)]
                    congr 1
                    have := HT1.out
                    omega
              · have hle1 : ¬ ((136 : Int) ≤ (r : Int)) := by omega
                have hmn : min (136 : Int) (r : Int) = (r : Int) := by omega
                have hr2 : (r : Int) ≤ 200 := by omega
                have hcr : r ≤ cs' := by omega
                have hcr' : (r : Int) ≤ (cs' : Int) := by omega
                have hcs1 : (136 : Int) ≤ (cs' : Int) := by omega
                have hSl := Lib.hid (show Sl wr wr.heap.size (some ⟨gs', 0, none⟩) r cs' (bytesF (eS X.s j')) from ⟨by omega, (fun e => by cases e), fun ad e _ => ⟨gs', 0, (Option.some.inj e).symm, HS8.out.lt, fun q hq => by rw [Nat.zero_add]; exact HS8.out.cell q (by omega)⟩⟩)
                go_wp2_with ((with_reducible apply lay_append_more); (case hgd => exact rfl); (case ho => exact rfl); (case hs => exact rfl); (case hx => exact rfl); (case hown => exact HO8.out); (case hS => exact hSl.out); (case hn => have := HR.out; omega); (case hbase => exact hbz); intro _ _ _ _ _ _ _; go_simp)
                rename_i v' w11 hown11 hb11 hblk11 _ _
                have HS11 := Lib.hid (HS8.out.block (hblk11 gs' HS8.out.lt hnb))
                have HO11 := Lib.hid hown11
                have HB11 := Lib.hid (HB8.out.trans hb11)
                clear hown11 hb11 hblk11 HS8 HO8 HB8 hSl
                refine (refOf_any (some ⟨gs', 0, none⟩) cs' _ w11 (HS11.out.sl hcs)).mono ?_
                rintro e w12 ⟨rfl, hb12⟩
                have HO12 := Lib.hid (HO11.out.below hb12)
                have HB12 := Lib.hid (HB11.out.trans (hb12.mono HB11.out.size))
                clear hb12 HO11 HB11 HS11
                go_wp2_with fail
                refine (refPerm_any _ w12).mono ?_
                rintro e w13 ⟨rfl, hb13⟩
                have HO13 := Lib.hid (HO12.out.below hb13)
                have HB13 := Lib.hid (HB12.out.trans (hb13.mono HB12.out.size))
                clear hb13 HO12 HB12
                go_wp2_with fail
                refine (refBytes_any _ w13).mono ?_
                rintro e w14 ⟨⟨g', c', cur, rfl, hg', hcur, hsl⟩, hb14⟩
                have HO14 := Lib.hid (HO13.out.below hb14)
                have HB14 := Lib.hid (HB13.out.trans (hb14.mono HB13.out.size))
                have HS14 := Lib.hid ((Wn.of_sl hcur hsl (by omega)).congr (show ∀ q, q < 200 → _ = bytesF (eS X.s (j' + 1)) q from ref_step fun _ _ => rfl))
                have hnb14 : some g' ≠ v'.ownBlock := fun e => by
                  have := HO13.out.blockLt g' e.symm
                  omega
                have hcc := hsl.le
                clear hb14 HO13 HB13 hcur hsl
                go_wp2_with fail
                go_roundg (r - r)
                case measure => have := HR.out; omega
                case rel =>
                  refine ⟨j' + 1, T + r, g', c', by have := HR.out; omega, by have := HT1.out; have := HR.out; omega, rfl, hcc, hnb14, HS14.out, HO14.out.congr fun q hq => ?_, HB14.out⟩
                  unfold cat
                  by_cases h1 : q < T
                  · rw [if_pos h1]
                  · rw [if_neg h1, ← tell_byte X HXk.out j' (q - T) (by omega)]
                    congr 1
                    have := HT1.out
                    omega
end Go.Proofs.YtjppmeihobcenaaDoor
