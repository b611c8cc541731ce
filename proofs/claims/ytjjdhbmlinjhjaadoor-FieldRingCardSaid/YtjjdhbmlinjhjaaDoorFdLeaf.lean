/-
  The contracts of the small functions of field; its types as rows of words.
-/
import Derived.Test.YtjjdhbmlinjhjaaDoorRf4Ops
import Derived.Laws.BitsAllLaws
import Derived.Laws.Bits64b
namespace Go.Proofs.YtjjdhbmlinjhjaaDoor
open Go.RowKit

theorem rowL : IsRow Tryd.prog 25 8 := ⟨⟨_, Tryd.underlying25, rfl⟩, by kernel_rfl⟩
theorem zeroL : AZ .u64 8 (fun _ => 0) = #[.int .u64 0, .int .u64 0, .int .u64 0, .int .u64 0, .int .u64 0, .int .u64 0, .int .u64 0, .int .u64 0] := by
  unfold AZ
  rfl
theorem nilL (w : World) : (zeroValue 25).run Tryd.prog w = .ok (.agg (AZ .u64 8 fun _ => 0)) w := by rw [zeroL]; exact Tryd.zeroValue25 w
theorem rowE : IsRow Tryd.prog 27 8 := ⟨⟨_, Tryd.underlying27, rfl⟩, by kernel_rfl⟩
theorem zeroE : AZ .u64 8 (fun _ => 0) = #[.int .u64 0, .int .u64 0, .int .u64 0, .int .u64 0, .int .u64 0, .int .u64 0, .int .u64 0, .int .u64 0] := by
  unfold AZ
  rfl
theorem nilE (w : World) : (zeroValue 27).run Tryd.prog w = .ok (.agg (AZ .u64 8 fun _ => 0)) w := by rw [zeroE]; exact Tryd.zeroValue27 w
theorem rowS : IsRow Tryd.prog 83 30 := ⟨⟨_, Tryd.underlying83, rfl⟩, by kernel_rfl⟩
theorem zeroS : AZ .u64 30 (fun _ => 0) = #[.int .u64 0, .int .u64 0, .int .u64 0, .int .u64 0, .int .u64 0, .int .u64 0, .int .u64 0, .int .u64 0, .int .u64 0, .int .u64 0, .int .u64 0, .int .u64 0, .int .u64 0, .int .u64 0, .int .u64 0, .int .u64 0, .int .u64 0, .int .u64 0, .int .u64 0, .int .u64 0, .int .u64 0, .int .u64 0, .int .u64 0, .int .u64 0, .int .u64 0, .int .u64 0, .int .u64 0, .int .u64 0, .int .u64 0, .int .u64 0] := by
  unfold AZ
  rfl
theorem nilS (w : World) : (zeroValue 83).run Tryd.prog w = .ok (.agg (AZ .u64 30 fun _ => 0)) w := by rw [zeroS]; exact Tryd.zeroValue83 w
theorem rowR : IsRow Tryd.prog 86 16 := ⟨⟨_, Tryd.underlying86, rfl⟩, by kernel_rfl⟩
theorem zeroR : AZ .u64 16 (fun _ => 0) = #[.int .u64 0, .int .u64 0, .int .u64 0, .int .u64 0, .int .u64 0, .int .u64 0, .int .u64 0, .int .u64 0, .int .u64 0, .int .u64 0, .int .u64 0, .int .u64 0, .int .u64 0, .int .u64 0, .int .u64 0, .int .u64 0] := by
  unfold AZ
  rfl
theorem nilR (w : World) : (zeroValue 86).run Tryd.prog w = .ok (.agg (AZ .u64 16 fun _ => 0)) w := by rw [zeroR]; exact Tryd.zeroValue86 w
theorem rowP : IsRow Tryd.prog 82 2 := ⟨⟨_, Tryd.underlying82, rfl⟩, by kernel_rfl⟩
theorem zeroP : AZ .u64 2 (fun _ => 0) = #[.int .u64 0, .int .u64 0] := by
  unfold AZ
  rfl
theorem nilP (w : World) : (zeroValue 82).run Tryd.prog w = .ok (.agg (AZ .u64 2 fun _ => 0)) w := by rw [zeroP]; exact Tryd.zeroValue82 w
theorem oneW : IsOne Tryd.prog 24 .u64 := ⟨Tryd.underlying24, by kernel_rfl⟩
/-- Numbers as what a row holds. -/
def NZ (f : Nat → Nat) : Nat → Int := fun i => ((f i : Nat) : Int)
theorem and_full (a : Nat) (ha : a < 18446744073709551616) : bits .and .u64 (a : Int) 72057594037927935 = ((a % 72057594037927936 : Nat) : Int) := by
  have h := bits_and_u64_nat a 72057594037927935 ha (by omega)
  have e : a &&& 72057594037927935 = a % 72057594037927936 := Nat.and_two_pow_sub_one_eq_mod a 56
  rw [e] at h
  exact h
theorem up_any (i : Nat) (w : World) (hi : i ≤ 10000000) (k : Nat) (hk : i % 7 * 8 = k) :
    Calls Tryd.prog 41 #[.int .i64 i] w fun e w' => e = .returned (.int .i64 (k : Int)) ∧ w' = w := by
  go_enter Tryd.func41, Tryd.ntmps41
  go_wp2
  go_ret
  exact ⟨congrArg (fun n => Ending.returned (.int .i64 n)) (by subst hk; show (i : Int) % 7 * 8 = _; simp), rfl⟩
/-- part: what stays in a limb, and what is too great. -/
theorem part_any (x o : Nat) (w : World) (h : x + o < 18446744073709551616) :
    Calls Tryd.prog 53 #[.int .u64 x, .int .u64 o] w fun e w' => e = .returned (.tuple #[.int .u64 (((x + o) % 72057594037927936 : Nat) : Int), .int .u64 (((x + o) / 72057594037927936 : Nat) : Int)]) ∧ w' = w := by
  obtain ⟨s, hs⟩ : ∃ s, x + o = s := ⟨_, rfl⟩
  have e1 : (x : Int) + (o : Int) = (s : Int) := by omega
  have e2 : IntKind.u64.wrap (s : Int) = (s : Int) := by rw [IntKind.wrap_u64]; omega
  have e3 := and_full s (by omega)
  obtain ⟨q, hq⟩ : ∃ q, s / 72057594037927936 = q := ⟨_, rfl⟩
  obtain ⟨r, hr⟩ : ∃ r, s % 72057594037927936 = r := ⟨_, rfl⟩
  have e4 : (s : Int) / 72057594037927936 = (q : Int) := by omega
  rw [hr] at e3
  rw [hs, hq, hr]
  clear hs h hq hr
  go_enter Tryd.func53, Tryd.ntmps53
  go_wp2
  go_ret2
  exact ⟨rfl, rfl⟩
/-- each: limbs are turned, one by one. -/
theorem each_any (fn : FuncId) (cap : Array Value) (f g : Nat → Nat) (w : World) (hF : ∀ args w, (callFunc fn args).run Tryd.prog w = .ok (.enter fn args) w)
    (HC : ∀ i W, i < 8 → Below w.heap.size w W → Calls Tryd.prog fn (#[.int .i64 (i : Int), .int .u64 (NZ f i)] ++ cap) W fun e W' => e = .returned (.int .u64 (NZ g i)) ∧ Below W.heap.size W W') :
    Calls Tryd.prog 51 #[.agg (AZ .u64 8 (NZ f)), .func (.func fn) #[] cap] w fun e w' => e = .returned (.agg (AZ .u64 8 (NZ g))) ∧ Below w.heap.size w w' := by
  replace HC := Lib.hid HC
  have H := Lib.hid (Ow.start w)
  go_enter Tryd.func51, Tryd.ntmps51
  go_wp2_with (first
    | ((fail_if_success have := g1); (with_reducible apply own_box H); (case hgd => exact rfl); (case ho => exact rfl); (case hx => exact rfl); intro w1 g1 H' _ _; replace H := H'; clear H'; go_simp)
    | ((fail_if_success have := g2); (with_reducible apply own_alloc nilL H); (case hgd => exact rfl); (case ho => exact rfl); intro w2 g2 H' _ _; replace H := H'; clear H'; go_simp)
    | ((with_reducible apply own_load rowL H); (case hgd => exact rfl); (case ho => exact rfl); (case hx => exact rfl); (case hi => first | exact at0 | exact at1 | exact at2 | exact at3 | exact at4 | exact at5 | exact at6); intro _ _; go_simp))
  go_loopw [8] (fun v wr => ∃ i : Nat, i ≤ 8 ∧ v = .int .i64 i ∧ Ow w wr [(g2, Blk 25 .u64 8 (mixZ i (NZ g) fun _ => 0)), (g1, Blk 25 .u64 8 (NZ f))]) (fun v _ => 8 - (intOf v).toNat)
  case atStart => exact ⟨0, by omega, rfl, by rw [mixZ_zero]; exact H.out⟩
  case round =>
    clear H
    obtain ⟨i, hi, rfl, HR⟩ := hrel
    by_cases hlt : i < 8
    · have hid : decide ((i : Int) < 8) = true := by simp; omega
      have iN : (i : Int) < 8 := by omega
      have H := Lib.hid HR
      clear HR
      go_wp2_with (first
        | ((with_reducible apply own_index Tryd.underlying25 oneW); (case hgd => exact rfl); (case ho => exact rfl); (case hx => exact rfl); (case hy => exact rfl); (case hi => omega); intro _ _; go_simp)
        | ((with_reducible refine (HC.out i _ hlt H.out.bel).mono ?_); rintro e wc ⟨rfl, hb⟩; replace H := Lib.hid (H.out.call hb); clear hb)
        | ((with_reducible apply own_put oneW H); (case hgd => exact rfl); (case ho => exact rfl); (case hx => exact rfl); (case hy => exact rfl); (case hi => first | exact at0 | exact at1 | exact at2 | exact at3 | exact at4 | exact at5 | exact at6); (case hj => omega); intro ws H' _ _; replace H := H'; clear H'; simp only [List.set_cons_zero] at H; go_simp))
      rw [mixZ_upd] at H
      go_roundw
      case rel => exact ⟨i + 1, by omega, by go_num, H.out⟩
      case measure => simp [intOf]; omega
    · obtain rfl : i = 8 := by omega
      clear hlt hi
      rw [show ((8 : Nat) : Int) = 8 from rfl]
      have H := Lib.hid (HR.like 0 (g := NZ g) rfl fun k hk => mixZ_all _ _ _ _ hk)
      simp only [List.set_cons_zero] at H
      clear HR
      go_wp2_with (first
        | ((with_reducible apply own_load rowL H); (case hgd => exact rfl); (case ho => exact rfl); (case hx => exact rfl); (case hi => first | exact at0 | exact at1 | exact at2 | exact at3 | exact at4 | exact at5 | exact at6); intro _ _; go_simp)
        | ((with_reducible apply own_store rowL H); (case hgd => exact rfl); (case ho => exact rfl); (case hx => exact rfl); (case hy => exact rfl); (case hi => first | exact at0 | exact at1 | exact at2 | exact at3 | exact at4 | exact at5 | exact at6); intro ws H' _ _; replace H := H'; clear H'; simp only [List.set_cons_zero] at H; go_simp))
      exact bodyPost_ret (own_result 0 rowL rfl _ H rfl rfl) rfl ⟨rfl, H.out.bel⟩
/-- What goes over to the i-th limb, b coming in at the first one, and at the fifth one; what stays. -/
def ovC (f : Nat → Nat) (b : Nat) : Nat → Nat
  | 0 => b
  | i + 1 => (f i + ovC f b i) / 72057594037927936 + if i = 3 then b else 0
def dgC (f : Nat → Nat) (b i : Nat) : Nat := (f i + ovC f b i) % 72057594037927936
set_option maxRecDepth 8000 in
set_option maxHeartbeats 1000000 in
theorem carry_any (f : Nat → Nat) (b : Nat) (w : World) (hb : ∀ i, i < 8 → f i + ovC f b i < 18446744073709551616) (hb4 : ovC f b 4 < 18446744073709551616) :
    Calls Tryd.prog 50 #[.agg (AZ .u64 8 (NZ f)), .int .u64 (b : Int), .func (.func 53) #[] #[]] w fun e w' => e = .returned (.tuple #[.agg (AZ .u64 8 (NZ (dgC f b))), .int .u64 (ovC f b 8 : Int)]) ∧ Below w.heap.size w w' := by
  have HB := Lib.hid hb
  have HB4 := Lib.hid hb4
  clear hb hb4
  have H := Lib.hid (Ow.start w)
  go_enter Tryd.func50, Tryd.ntmps50
  go_wp2_with (first
    | ((fail_if_success have := g1); (with_reducible apply own_box H); (case hgd => exact rfl); (case ho => exact rfl); (case hx => exact rfl); intro w1 g1 H' _ _; replace H := H'; clear H'; go_simp)
    | ((fail_if_success have := g2); (with_reducible apply own_alloc nilL H); (case hgd => exact rfl); (case ho => exact rfl); intro w2 g2 H' _ _; replace H := H'; clear H'; go_simp)
    | ((with_reducible apply own_load rowL H); (case hgd => exact rfl); (case ho => exact rfl); (case hx => exact rfl); (case hi => first | exact at0 | exact at1 | exact at2 | exact at3 | exact at4 | exact at5 | exact at6); intro _ _; go_simp))
  go_step3
  go_wp2_with fail
  go_step3
  go_wp2_with (first
    | ((with_reducible apply own_load rowL H); (case hgd => exact rfl); (case ho => exact rfl); (case hx => exact rfl); (case hi => first | exact at0 | exact at1 | exact at2 | exact at3 | exact at4 | exact at5 | exact at6); intro _ _; go_simp))
  go_loopg [7, 12] 8 (fun gk v7 v12 wr => ∃ i : Nat, i + gk = 8 ∧ v12 = .int .i64 i ∧ v7 = .int .u64 (ovC f b i : Int) ∧ Ow w wr [(g2, Blk 25 .u64 8 (mixZ i (NZ (dgC f b)) fun _ => 0)), (g1, Blk 25 .u64 8 (NZ f))])
  case atStart => exact ⟨0, by omega, rfl, rfl, by rw [mixZ_zero]; exact H.out⟩
  case round =>
    clear H
    obtain ⟨i, hig, rfl, rfl, HR⟩ := hrel
    cases gk with
    | zero =>
      obtain rfl : i = 8 := by omega
      clear hig
      rw [show ((8 : Nat) : Int) = 8 from rfl]
      have H := Lib.hid (HR.like 0 (g := NZ (dgC f b)) rfl fun k hk => mixZ_all _ _ _ _ hk)
      simp only [List.set_cons_zero] at H
      obtain ⟨v, hv⟩ : ∃ v, ovC f b 8 = v := ⟨_, rfl⟩
      rw [hv]
      have HW := Lib.hid hv
      clear HR hv
      go_wp2_with (first
        | ((with_reducible apply own_load rowL H); (case hgd => exact rfl); (case ho => exact rfl); (case hx => exact rfl); (case hi => first | exact at0 | exact at1 | exact at2 | exact at3 | exact at4 | exact at5 | exact at6); intro _ _; go_simp)
        | ((with_reducible apply own_store rowL H); (case hgd => exact rfl); (case ho => exact rfl); (case hx => exact rfl); (case hy => exact rfl); (case hi => first | exact at0 | exact at1 | exact at2 | exact at3 | exact at4 | exact at5 | exact at6); intro ws H' _ _; replace H := H'; clear H'; simp only [List.set_cons_zero] at H; go_simp))
      rw [Exit.noGoto_ret]
      exact bodyPost_ret (own_result_slot 0 rowL rfl _ H rfl rfl rfl) rfl ⟨by rw [HW.out]; rfl, H.out.bel⟩
    | succ go =>
      have hlt : i < 8 := by omega
      have hid : decide ((i : Int) < 8) = true := by simp; omega
      have iN : (i : Int) < 8 := by omega
      have hx8 := HB.out i hlt
      have hdg : NZ (dgC f b) i = (((f i + ovC f b i) % 72057594037927936 : Nat) : Int) := rfl
      have hov : ovC f b (i + 1) = (f i + ovC f b i) / 72057594037927936 + if i = 3 then b else 0 := rfl
      have h4 : i = 3 → ovC f b (i + 1) < 18446744073709551616 := fun e => by subst e; exact HB4.out
      obtain ⟨o, ho⟩ : ∃ o, ovC f b i = o := ⟨_, rfl⟩
      obtain ⟨x, hx⟩ : ∃ x, f i = x := ⟨_, rfl⟩
      have hN : NZ f i = (x : Int) := by rw [← hx]; rfl
      rw [ho, hx] at hx8 hdg hov
      rw [ho]
      have HP := Lib.hid (fun w => part_any x o w hx8)
      obtain ⟨r, hr⟩ : ∃ r, (x + o) % 72057594037927936 = r := ⟨_, rfl⟩
      obtain ⟨q, hq⟩ : ∃ q, (x + o) / 72057594037927936 = q := ⟨_, rfl⟩
      rw [hr, hq] at HP
      rw [hr] at hdg
      rw [hq] at hov
      have HDG := Lib.hid hdg
      have HOV := Lib.hid hov
      have H := Lib.hid HR
      clear HR ho hx hr hq hdg hov hx8
      by_cases h3 : i = 3
      · have d3 : ((i : Int) != 3) = false := by subst h3; rfl
        have hs := h4 h3
        rw [HOV.out, if_pos h3] at hs
        obtain ⟨s, hs'⟩ : ∃ s, q + b = s := ⟨_, rfl⟩
        have e1 : (q : Int) + (b : Int) = (s : Int) := by omega
        have e2 : IntKind.u64.wrap (s : Int) = (s : Int) := by rw [IntKind.wrap_u64]; omega
        have HS : Hid (ovC f b (i + 1) = s) := Lib.hid (by rw [HOV.out, if_pos h3]; exact hs')
        clear h4 hs hs' h3 HOV
        go_wp2_with (first
          | ((with_reducible apply own_index Tryd.underlying25 oneW); (case hgd => exact rfl); (case ho => exact rfl); (case hx => exact rfl); (case hy => exact rfl); (case hi => omega); intro _ _; go_simp)
          | ((with_reducible refine (HP.out _).mono ?_); rintro e wc ⟨rfl, rfl⟩)
          | ((with_reducible apply own_put oneW H); (case hgd => exact rfl); (case ho => exact rfl); (case hx => exact rfl); (case hy => exact rfl); (case hi => first | exact at0 | exact at1 | exact at2 | exact at3 | exact at4 | exact at5 | exact at6); (case hj => omega); intro ws H' _ _; replace H := H'; clear H'; simp only [List.set_cons_zero] at H; go_simp))
        rw [← HDG.out, mixZ_upd] at H
        go_roundg go
        case rel => exact ⟨i + 1, by omega, by go_num, by rw [HS.out], H.out⟩
        case measure => omega
      · have d3 : ((i : Int) != 3) = true := by rw [bne_iff_ne]; omega
        have HS : Hid (ovC f b (i + 1) = q) := Lib.hid (by rw [HOV.out, if_neg h3, Nat.add_zero])
        clear h4 h3 HOV
        go_wp2_with (first
          | ((with_reducible apply own_index Tryd.underlying25 oneW); (case hgd => exact rfl); (case ho => exact rfl); (case hx => exact rfl); (case hy => exact rfl); (case hi => omega); intro _ _; go_simp)
          | ((with_reducible refine (HP.out _).mono ?_); rintro e wc ⟨rfl, rfl⟩)
          | ((with_reducible apply own_put oneW H); (case hgd => exact rfl); (case ho => exact rfl); (case hx => exact rfl); (case hy => exact rfl); (case hi => first | exact at0 | exact at1 | exact at2 | exact at3 | exact at4 | exact at5 | exact at6); (case hj => omega); intro ws H' _ _; replace H := H'; clear H'; simp only [List.set_cons_zero] at H; go_simp))
        rw [← HDG.out, mixZ_upd] at H
        go_roundg go
        case rel => exact ⟨i + 1, by omega, by go_num, by rw [HS.out], H.out⟩
        case measure => omega
end Go.Proofs.YtjjdhbmlinjhjaaDoor
