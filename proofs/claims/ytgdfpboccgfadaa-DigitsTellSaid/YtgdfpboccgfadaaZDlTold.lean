/-
  The contract of what tells digits' number again. No statement is proved here: lemmas for the walks.
-/
import Derived.Test.YtgdfpboccgfadaaZDgMath
import Derived.Test.YtgdfpboccgfadaaZOwnZ
import Derived.Test.YtgdfpboccgfadaaZLaLeaf
import Derived.Test.YtgdfpboccgfadaaBuN
import Derived.Test.YtgdfpboccgfadaaZNuAdd
import Derived.Test.YtgdfpboccgfadaaZNuCmp
import Derived.Lib.MinMax
namespace Go.Proofs.Ytgdfpboccgfadaa
open Go.RowKit

theorem shf_up (x b : Nat) : shf x (b : Int) = x * 2 ^ b := by
  unfold shf
  rw [if_neg (by omega)]
  rfl
theorem dl_less {b x y : Nat} (hb : 0 < b) (h : x ≤ y) : dl b x ≤ dl b y := (dl_le b x _ hb).2 (Nat.lt_of_le_of_lt h (fits_dl b y hb))
theorem dl_some {x e K : Nat} (h : x + 256 ≤ 256 * 2 ^ e) (he : 8 + e ≤ 64 * K) : dl 64 x ≤ K := by
  have h1 : x < 2 ^ (8 + e) := by rw [Nat.pow_add]; omega
  exact (dl_le 64 x K (by omega)).2 (Nat.lt_of_lt_of_le h1 (Nat.pow_le_pow_right (by omega) he))
theorem dl_told {x b t m : Nat} (h : x + 256 ≤ 256 * 2 ^ (b * t)) (ht : t ≤ m) (hm : b * m ≤ 10000) : dl 64 x ≤ 200 := by
  have h1 := Nat.mul_le_mul_left b ht
  exact dl_some h (by omega)
theorem SlZ.at {w : World} {B b o n c : Nat} {f : Nat → Int} (h : SlZ w B (some ⟨b, o, none⟩) n c f) (i : Nat) (hi : i < n) : w.cell? ⟨b, o + i, none⟩ = some (.int .i64 (f i)) := by
  obtain ⟨b', o', e, _, hc⟩ := h.low _ rfl (by omega)
  cases e
  exact hc i hi
theorem lit_sw (w : World) (v : Nat) (hv : v ≤ 256) : Sw (w.alloc (.cells #[.int .u64 (v : Int)] 48)) (w.alloc (.cells #[.int .u64 (v : Int)] 48)).heap.size (some ⟨w.heap.size, 0, none⟩) 1 1 v := by
  have hv2 : v < 2 ^ (64 * 1) := Nat.lt_of_le_of_lt hv (by decide)
  refine ⟨Nat.le_refl _, (fun e => by cases e), (fun ad e _ => ⟨w.heap.size, 0, (Option.some.inj e).symm, by simp, fun i hi => ?_⟩), hv2⟩
  obtain rfl : i = 0 := by omega
  have e1 : V (wd v 0) = .int .u64 (v : Int) := V_eq (by rw [wd_nat, Nat.mul_zero, Nat.pow_zero, Nat.div_one]; exact Nat.mod_eq_of_lt hv2)
  rw [e1]
  simp
set_option maxRecDepth 8000 in
set_option maxHeartbeats 3200000 in
theorem told_v (a : Option Addr) (m c b : Nat) (f : Nat → Int) (a' : Option Addr) (n' c' x : Nat) (w : World) (hb1 : 1 ≤ b) (hb8 : b ≤ 8) (hm : m ≤ 10000) (hbm : b * m ≤ 10000) (hf : ∀ i, i < m → -256 ≤ f i ∧ f i ≤ 256) (hv : vl f b m = (x : Int))
    (hl : SlZ w w.heap.size a m c f) (hx : Sw w w.heap.size a' n' c' x) (hn : n' ≤ 1000) :
    Calls Try.prog 20 #[.slice a m c, .int .i64 (b : Int), .slice a' n' c'] w fun e w' => e = .returned (.bool true) ∧ Below w.heap.size w w' := by
  have HF := Lib.hid hf
  have HU : Hid (∀ t, t ≤ m → dl 64 (hiD f b m t) ≤ 200) := Lib.hid fun t ht => dl_told (hi_lt hb1 (fun i hi => (hf i hi).2) t ht) ht hbm
  have HV : Hid (∀ t, t ≤ m → dl 64 (loD f b m t) ≤ 200) := Lib.hid fun t ht => dl_told (lo_lt hb1 (fun i hi => (hf i hi).1) t ht) ht hbm
  have HE := Lib.hid (hi_lo_all hv)
  have HL0 := Lib.hid hl
  have H0 := Lib.hid ((((Lv.start w).addW hx).addW (Sw.zero w w.heap.size)).addW (Sw.zero w w.heap.size))
  clear hf hv hl hx hbm
  go_enter Try.func20, Try.ntmps20
  go_wp2_with fail
  go_loopw [7, 8, 9] (fun v7 v8 v9 wr => ∃ (t u : Nat) (au ad : Option Addr), t + u = m ∧ v9 = .int .i64 ((u : Int) - 1) ∧ v7 = .slice au (dl 64 (hiD f b m t)) (dl 64 (hiD f b m t)) ∧ v8 = .slice ad (dl 64 (loD f b m t)) (dl 64 (loD f b m t)) ∧ Lv w wr [(ad, dl 64 (loD f b m t), dl 64 (loD f b m t), loD f b m t), (au, dl 64 (hiD f b m t), dl 64 (hiD f b m t), hiD f b m t), (a', n', c', x)] [] ∧ SlZ wr wr.heap.size a m c f) (fun _ _ v9 _ => (intOf v9 + 1).toNat)
  case atStart => exact ⟨0, m, none, none, by omega, rfl, by rw [show hiD f b m 0 = 0 from rfl, dl_zero 64 (by omega)], by rw [show loD f b m 0 = 0 from rfl, dl_zero 64 (by omega)], by rw [show hiD f b m 0 = 0 from rfl, show loD f b m 0 = 0 from rfl, dl_zero 64 (by omega)]; exact H0.out, HL0.out⟩
  case round =>
    clear H0 HL0
    obtain ⟨t, u, au, ad, htu, rfl, rfl, rfl, HLv, HSl⟩ := hrel
    have L := Lib.hid HLv
    have HL := Lib.hid HSl
    clear HLv
    have hU := HU.out t (by omega)
    have hV := HV.out t (by omega)
    cases u with
    | zero =>
      obtain rfl : m = t := by omega
      have e0 : ((0 : Nat) : Int) - 1 = -1 := rfl
      have EE := Lib.hid HE.out
      obtain ⟨U, eU⟩ : ∃ U, hiD f b m m = U := ⟨_, rfl⟩
      obtain ⟨D, eD⟩ : ∃ D, loD f b m m = D := ⟨_, rfl⟩
      rw [eU, eD] at EE L
      rw [eU] at hU ⊢
      rw [eD] at hV ⊢
      have EC : Hid (cmp U (x + D) = 0) := Lib.hid (by rw [EE.out]; exact cmp_eq _)
      have HXD : Hid (dl 64 (x + D) ≤ 200) := Lib.hid (by rw [← EE.out]; exact hU)
      have HU1 := Lib.hid hU
      have HV1 := Lib.hid hV
      generalize hzU : dl 64 U = zU at *
      generalize hzD : dl 64 D = zD at *
      rw [e0]
      clear hzU hzD eU eD EE HSl HL htu hU hV HE
      go_wp2_with (first
        | ((with_reducible refine (nadd_any a' n' c' x ad zD zD D _ (by omega) (Nat.le_trans HV1.out (by omega)) (L.out.gw 2 rfl) (L.out.gw 0 rfl)).mono ?_); rintro e w1 ⟨v, rfl, hv⟩; obtain ⟨a1, rfl, S1, B1⟩ := hv.open; replace L := Lib.hid ((L.out.call B1).addW S1); clear hv S1 B1)
        | ((with_reducible refine (compare_any au zU zU U a1 (dl 64 (x + D)) (dl 64 (x + D)) (x + D) _ (Nat.le_trans HU1.out (by omega)) (Nat.le_trans HXD.out (by omega)) (L.out.gw 2 rfl) (L.out.gw 0 rfl)).mono ?_); rintro e w2 ⟨rfl, rfl⟩; rw [EC.out]))
      go_ret
      exact ⟨rfl, L.out.bel⟩
    | succ u =>
      have e0 : ((u + 1 : Nat) : Int) - 1 = (u : Int) := by omega
      have hu : u < m := by omega
      have h1 := HU.out (t + 1) (by omega)
      have h2 := HV.out (t + 1) (by omega)
      have hd := HF.out u hu
      obtain ⟨bb, o, rfl, _, hc⟩ := HSl.get u hu
      have EH : hiD f b m (t + 1) = hiD f b m t * 2 ^ b + (max (f u) 0).toNat := by rw [hiD, show m - 1 - t = u by omega]
      have EL : loD f b m (t + 1) = loD f b m t * 2 ^ b + (max (-f u) 0).toNat := by rw [loD, show m - 1 - t = u by omega]
      obtain ⟨U', eU'⟩ : ∃ U', hiD f b m (t + 1) = U' := ⟨_, rfl⟩
      obtain ⟨D', eD'⟩ : ∃ D', loD f b m (t + 1) = D' := ⟨_, rfl⟩
      obtain ⟨U, eU⟩ : ∃ U, hiD f b m t = U := ⟨_, rfl⟩
      obtain ⟨D, eD⟩ : ∃ D, loD f b m t = D := ⟨_, rfl⟩
      obtain ⟨d, ed⟩ : ∃ d, f u = d := ⟨_, rfl⟩
      obtain ⟨p, ep⟩ : ∃ p : Nat, (max d 0).toNat = p := ⟨_, rfl⟩
      obtain ⟨q, eq⟩ : ∃ q : Nat, (max (-d) 0).toNat = q := ⟨_, rfl⟩
      rw [ed] at hd hc EH EL
      rw [eU, ep] at EH
      rw [eD, eq] at EL
      rw [eU] at L hU ⊢
      rw [eD] at L hV ⊢
      rw [eU'] at EH h1
      rw [eD'] at EL h2
      have hp : p ≤ 256 := by omega
      have hq : q ≤ 256 := by omega
      have ep' : max d 0 = (p : Int) := by omega
      have eq' : max (-d) 0 = (q : Int) := by omega
      have ewp : IntKind.u64.wrap (p : Int) = (p : Int) := by rw [IntKind.wrap_u64]; omega
      have ewq : IntKind.u64.wrap (q : Int) = (q : Int) := by rw [IntKind.wrap_u64]; omega
      have dd1 : decide (d < -256) = false := by simp; omega
      have dd2 : decide (256 < d) = false := by simp; omega
      have hd1 := hd.1
      have hd2 := hd.2
      have hum : (u : Int) < (m : Int) := by omega
      obtain ⟨X, eX⟩ : ∃ X, U * 2 ^ b = X := ⟨_, rfl⟩
      obtain ⟨Y, eY⟩ : ∃ Y, D * 2 ^ b = Y := ⟨_, rfl⟩
      rw [eX] at EH
      rw [eY] at EL
      have SX : Hid (shf U (b : Int) = X) := Lib.hid ((shf_up U b).trans eX)
      have SY : Hid (shf D (b : Int) = Y) := Lib.hid ((shf_up D b).trans eY)
      have KX : Hid (dl 64 X ≤ 200) := Lib.hid (Nat.le_trans (dl_less (by omega) (by omega : X ≤ U')) h1)
      have KY : Hid (dl 64 Y ≤ 200) := Lib.hid (Nat.le_trans (dl_less (by omega) (by omega : Y ≤ D')) h2)
      have EXP : Hid (X + p = U') := Lib.hid EH.symm
      have EYQ : Hid (Y + q = D') := Lib.hid EL.symm
      have HU1 := Lib.hid hU
      have HV1 := Lib.hid hV
      have HEU := Lib.hid eU'
      have HED := Lib.hid eD'
      have HFD := Lib.hid ed
      have HAT : Hid (∀ w' : World, SlZ w' w'.heap.size (some ⟨bb, o, none⟩) m c f → w'.cell? ⟨bb, o + u, none⟩ = some (.int .i64 d)) := Lib.hid fun w' h => by rw [h.at u hu, ed]
      generalize hzU : dl 64 U = zU at *
      generalize hzD : dl 64 D = zD at *
      rw [e0]
      clear hzU hzD eU eD eU' eD' ed EH EL ep eq hd h1 h2 eX eY hU hV e0
      go_wp2_with (first
        | ((with_reducible refine (shift_any au zU zU U (b : Int) _ (Nat.le_trans HU1.out (by omega)) (by omega) (by omega) (L.out.gw 1 rfl)).mono ?_); rintro e w1 ⟨v, rfl, hv⟩; rw [SX.out] at hv; obtain ⟨a1, rfl, S1, B1⟩ := hv.open; replace L := Lib.hid ((L.out.call B1).addW S1); replace HL := Lib.hid (HL.out.call B1); clear hc hv S1 B1; have hc := HAT.out _ HL.out)
        | ((with_reducible refine (shift_any ad zD zD D (b : Int) _ (Nat.le_trans HV1.out (by omega)) (by omega) (by omega) (L.out.gw 1 rfl)).mono ?_); rintro e w2 ⟨v, rfl, hv⟩; rw [SY.out] at hv; obtain ⟨a2, rfl, S2, B2⟩ := hv.open; replace L := Lib.hid ((L.out.call B2).addW S2); replace HL := Lib.hid (HL.out.call B2); clear hc hv S2 B2; have hc := HAT.out _ HL.out)
        | ((with_reducible refine (nadd_any a1 (dl 64 X) (dl 64 X) X (some ⟨w2.heap.size, 0, none⟩) 1 1 p _ (Nat.le_trans KX.out (by omega)) (by omega) ((L.out.alloc (.cells #[.int .u64 (p : Int)] 48)).gw 1 rfl) (lit_sw w2 p hp)).mono ?_); rintro e w3 ⟨v, rfl, hv⟩; rw [EXP.out] at hv; obtain ⟨a3, rfl, S3, B3⟩ := hv.open; replace L := Lib.hid (((L.out.alloc (.cells #[.int .u64 (p : Int)] 48)).call B3).addW S3); replace HL := Lib.hid ((HL.out.call (below_alloc _ _)).call B3); clear hc hv S3 B3; have hc := HAT.out _ HL.out)
        | ((with_reducible refine (nadd_any a2 (dl 64 Y) (dl 64 Y) Y (some ⟨w3.heap.size, 0, none⟩) 1 1 q _ (Nat.le_trans KY.out (by omega)) (by omega) ((L.out.alloc (.cells #[.int .u64 (q : Int)] 48)).gw 1 rfl) (lit_sw w3 q hq)).mono ?_); rintro e w4 ⟨v, rfl, hv⟩; rw [EYQ.out] at hv; obtain ⟨a4, rfl, S4, B4⟩ := hv.open; replace L := Lib.hid (((L.out.alloc (.cells #[.int .u64 (q : Int)] 48)).call B4).addW S4); replace HL := Lib.hid ((HL.out.call (below_alloc _ _)).call B4); clear hc hv S4 B4; have hc := HAT.out _ HL.out))
      go_roundw
      case rel =>
        refine ⟨t + 1, u, a3, a4, by omega, rfl, by rw [HEU.out], by rw [HED.out], ?_, HL.out⟩
        rw [HEU.out, HED.out]
        exact ⟨L.out.bel, (fun z hz => by
          simp only [List.mem_cons, List.not_mem_nil, or_false] at hz
          rcases hz with rfl | rfl | rfl
          · exact L.out.gw 0 rfl
          · exact L.out.gw 1 rfl
          · exact L.out.gw 6 rfl), fun _ h => by cases h⟩
      case measure => simp [intOf]
end Go.Proofs.Ytgdfpboccgfadaa
