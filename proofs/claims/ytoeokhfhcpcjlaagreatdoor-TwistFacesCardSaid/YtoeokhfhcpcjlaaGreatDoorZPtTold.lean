/-
 The contract of package point's told. No statement is proved here: lemmas for the walks.
-/
import Derived.Test.YtoeokhfhcpcjlaaGreatDoorBuH
import Derived.Test.YtoeokhfhcpcjlaaGreatDoorBuE
import Derived.Test.YtoeokhfhcpcjlaaGreatDoorBuS
import Derived.Test.YtoeokhfhcpcjlaaGreatDoorBuL
import Derived.Laws.BitsAllLaws
import Derived.Deep.LoopGhost
set_option maxRecDepth 8000
set_option maxHeartbeats 3200000
namespace Go.Proofs.YtoeokhfhcpcjlaaGreatDoor
open Go.RowKit
def tgF (d : Nat → Nat) (i j : Nat) : Nat := (if 2 * j < i then d (2 * j) else 0) + (if 2 * j + 1 < i then 16 * d (2 * j + 1) else 0)
theorem tgF_zero (d : Nat → Nat) (j : Nat) : tgF d 0 j = 0 := by
 unfold tgF
 rw [if_neg (by omega), if_neg (by omega)]
theorem tgF_lt {d : Nat → Nat} (hd : ∀ k, d k < 16) (i j : Nat) : tgF d i j < 256 := by
 have h1 := hd (2 * j)
 have h2 := hd (2 * j + 1)
 unfold tgF
 split <;> split <;> omega
theorem tgF_or {d : Nat → Nat} (hd : ∀ k, d k < 16) (i : Nat) : tgF d i (i / 2) ||| d i * 2 ^ (i % 2 * 4) = tgF d (i + 1) (i / 2) := by
 rcases (by omega : i % 2 = 0 ∨ i % 2 = 1) with h | h
 ·obtain ⟨q, rfl⟩ : ∃ q, i = 2 * q := ⟨i / 2, by omega⟩
  have e : 2 * q / 2 = q := by omega
  rw [h, e]
  unfold tgF
  rw [if_neg (by omega), if_neg (by omega), if_pos (by omega), if_neg (by omega)]
  simp
 ·obtain ⟨q, rfl⟩ : ∃ q, i = 2 * q + 1 := ⟨i / 2, by omega⟩
  have e : (2 * q + 1) / 2 = q := by omega
  rw [h, e]
  unfold tgF
  rw [if_pos (by omega), if_neg (by omega), if_pos (by omega), if_pos (by omega)]
  have hl : d (2 * q) < 2 ^ 4 := hd _
  rw [Nat.add_zero, Nat.or_comm, Nat.mul_comm, show 1 * 4 = 4 from rfl, ← Nat.two_pow_add_eq_or_of_lt hl, Nat.add_comm]
theorem tgF_step {d : Nat → Nat} (hd : ∀ k, d k < 16) (i : Nat) : updN (tgF d i) (i / 2) (tgF d i (i / 2) ||| d i * 2 ^ (i % 2 * 4)) = tgF d (i + 1) := by
 funext j
 unfold updN
 by_cases h : j = i / 2
 ·rw [if_pos h, tgF_or hd, h]
 ·rw [if_neg h]
  unfold tgF
  have e1 : (2 * j < i) ↔ (2 * j < i + 1) := by omega
  have e2 : (2 * j + 1 < i) ↔ (2 * j + 1 < i + 1) := by omega
  simp only [e1, e2]
structure Hex (S : ByteArray) (c : Nat → Nat) (x : Nat) : Prop where
 size : S.size = 112
 has : ∀ i, i < 112 → S[i]? = some (UInt8.ofNat (c i))
 ok : ∀ i, i < 112 → (48 ≤ c i ∧ c i < 58) ∨ (97 ≤ c i ∧ c i < 103)
 pair : ∀ k, k < 56 → 16 * hxd (c (110 - 2 * k)) + hxd (c (111 - 2 * k)) = dg x k
 lt : x < pN
def hxD (c : Nat → Nat) (i : Nat) : Nat := if i < 112 then hxd (c (111 - i)) else 0
theorem Hex.digit {S : ByteArray} {c : Nat → Nat} {x : Nat} (h : Hex S c x) (k : Nat) : hxD c k < 16 := by
 unfold hxD
 split
 ·have := h.ok (111 - k) (by omega)
  unfold hxd
  split <;> omega
 ·omega
theorem Hex.all {S : ByteArray} {c : Nat → Nat} {x : Nat} (h : Hex S c x) (j : Nat) (hj : j < 56) : tgF (hxD c) 112 j = dg x j := by
 have := h.pair j hj
 unfold tgF hxD
 rw [if_pos (by omega), if_pos (by omega), if_pos (by omega), if_pos (by omega), show 111 - (2 * j + 1) = 110 - 2 * j by omega]
 omega
theorem Hex.nB {S : ByteArray} {c : Nat → Nat} {x : Nat} (h : Hex S c x) : nB (bt x) 56 = x := by
 rw [← bX_bt, nB_bX]
 exact Nat.mod_eq_of_lt (Nat.lt_trans h.lt pN_256)
theorem nilB56 (w : World) : (zeroValue 150).run Tryz.prog w = .ok (.agg (AZ .u8 56 fun _ => 0)) w :=
 (show AZ .u8 56 (fun _ => 0) = Array.replicate 56 (.int .u8 0) by unfold AZ; rfl) ▸ (zero_of_info (show (Tryz.prog.info? 150).map (fun i => (i.zero, i.size)) = some (some (.agg (Array.replicate 56 (.int .u8 0))), 56) by kernel_rfl)).1 w
section
variable {ops : Array Oper} {rest : List Oper} {o : Oper} {a : Act} {w : World} {Q : Exit → Act → World → Prop}
theorem z9g (hgd : o.guard = none) {x y : Operand} (ho : o.op = .index 9 x y) {S : ByteArray} {k : IntKind} {i n : Nat} (hx : a.eval x = .string S) (hy : a.eval y = .int k (i : Int)) (hs : S[i]? = some (UInt8.ofNat n)) (hn : n < 256)
  (h : ∀ K : Act → World → Prop, (∀ a w, wpList Tryz.prog ops Q rest a w → K a w) → K (a.put o.dst (.int .u8 (n : Int))) w) : wpList Tryz.prog ops Q (o :: rest) a w :=
 wpList_plain hgd fun K hK => by
  unfold Oper.wp
  rw [z5r (e := a.eval) ho hx hy hs hn w]
  exact h K hK
end
theorem told_v {S : ByteArray} {c : Nat → Nat} {x : Nat} (w : World) (hX : Hex S c x) :
  Calls Tryz.prog 83 #[.string S] w fun e w' => ∃ h, e = .returned (EV h) ∧ EK h (cN pN x) ∧ Below w.heap.size w w' := by
 have HX := Lib.hid hX
 have HE : Hid (EK (oF (bt x) 56) (cN pN x)) := Lib.hid (by
  have := of_v (bt x)
  rw [hX.nB] at this
  exact this)
 have HN : Hid (nB (bt x) 56 < pN) := Lib.hid (by rw [hX.nB]; exact hX.lt)
 have hsz := hX.size
 clear hX
 have H := Lib.hid (Ow.start w)
 go_enter Tryz.func83, Tryz.ntmps83
 go_wp2_with (first
  | ((fail_if_success have := g2); (with_reducible apply z0b nilE H); (case hgd | ho => exact rfl); clear H; intro w2 g2 H _ _; go_simp)
  | ((fail_if_success have := g3); (fail_if_success have := g3); (with_reducible apply z0b nilB56 H); (case hgd | ho => exact rfl); clear H; intro w3 g3 H _ _; go_simp))
 go_step3
 go_wp2_with (first
  | ((fail_if_success have := g2); (with_reducible apply z0b nilE H); (case hgd | ho => exact rfl); clear H; intro w2 g2 H _ _; go_simp)
  | ((fail_if_success have := g3); (fail_if_success have := g3); (with_reducible apply z0b nilB56 H); (case hgd | ho => exact rfl); clear H; intro w3 g3 H _ _; go_simp))
 go_step3
 go_wp2_with fail
 replace H := Lib.hid (H.out.like 0 (g := NZ (tgF (hxD c) 0)) rfl fun j _ => by unfold NZ; rw [tgF_zero]; rfl)
 simp only [qb] at H
 go_loopg [11] 112 (fun gk v11 wr => ∃ i : Nat, i + gk = 112 ∧ v11 = .int .i64 i ∧ Ow w wr [(g3, Blk 150 .u8 56 (NZ (tgF (hxD c) i))), (g2, Blk 29 .u64 8 fun _ => 0)])
 case atStart => exact ⟨0, by omega, rfl, H.out⟩
 case round =>
  clear H
  obtain ⟨i, hig, rfl, HR⟩ := hrel
  cases gk with
  | zero =>
   obtain rfl : i = 112 := by omega
   clear hig
   rw [show ((112 : Nat) : Int) = 112 from rfl]
   have H := Lib.hid (HR.like 0 (g := UB (bt x)) rfl fun j hj => by
    show ((tgF (hxD c) 112 j : Nat) : Int) = U8 (bt x j)
    rw [HX.out.all j hj, U8_bt])
   simp only [qb] at H
   clear HR hsz
   go_wp2_with (first
    | ((with_reducible refine (z5t (some ⟨g3, 0, none⟩) 56 (bt x) _ (rawSl (H.out.row 0 rfl)) HN.out).mono ?_); rintro e wc ⟨rfl, hb⟩; replace H := hcall H hb; clear hb)
    | ((fail_if_success have := g7); (fail_if_success have := g7); (with_reducible apply z0b nilE H); (case hgd | ho => exact rfl); clear H; intro w7 g7 H _ _; go_simp)
    | ((with_reducible apply z0g rowE H); (case hgd | ho | hx => exact rfl); (case hi => repeat first|exact at0|apply atS); intro _ _; go_simp)
    | ((with_reducible apply z0e rowE H); (case hgd | ho | hx | hy => exact rfl); (case hi => repeat first|exact at0|apply atS); clear H; intro ws H _ _; simp only [qb, qc] at H; go_simp))
   try rw [Exit.noGoto_ret]
   exact bodyPost_ret (z0i 2 rowE rfl _ H rfl rfl) rfl ⟨_, rfl, HE.out, H.out.bel⟩
  | succ go =>
   have hlt : i < 112 := by omega
   have hid : decide ((i : Int) < 112) = true := by simp; omega
   have iN : (i : Int) < 112 := by omega
   obtain ⟨m, hm⟩ : ∃ m, 111 - i = m := ⟨_, rfl⟩
   have em : (111 : Int) - (i : Int) = (m : Int) := by omega
   have m112 : (m : Int) < 112 := by omega
   have q1 := HX.out.has m (by omega)
   have ok := HX.out.ok m (by omega)
   have hDi : hxD c i = hxd (c m) := by unfold hxD; rw [if_pos hlt, hm]
   obtain ⟨u, hu⟩ : ∃ u, c m = u := ⟨_, rfl⟩
   rw [hu] at q1 ok hDi
   have Q1 := Lib.hid q1
   have TU : Hid (u < 256) := Lib.hid (by omega)
   obtain ⟨d, hd⟩ : ∃ d, hxD c i = d := ⟨_, rfl⟩
   rw [hd] at hDi
   have hs := tgF_step HX.out.digit i
   have hz := tgF_or HX.out.digit i
   have hl := tgF_lt HX.out.digit i (i / 2)
   have hl2 := tgF_lt HX.out.digit (i + 1) (i / 2)
   have hd16 := HX.out.digit i
   rw [← hz] at hl2
   rw [hd] at hs hl2 hd16
   obtain ⟨q, hq⟩ : ∃ q, i / 2 = q := ⟨_, rfl⟩
   obtain ⟨r, hr⟩ : ∃ r, i % 2 = r := ⟨_, rfl⟩
   obtain ⟨s, hs4⟩ : ∃ s, r * 4 = s := ⟨_, rfl⟩
   have eq1 : (i : Int) / 2 = (q : Int) := by omega
   have er1 : (i : Int) % 2 = (r : Int) := by omega
   have es1 : (r : Int) * 4 = (s : Int) := by omega
   have fs : IntKind.i64.wrap (s : Int) = (s : Int) := IntWalk.i64_in _ (by omega)
   have fm : IntKind.i64.wrap (m : Int) = (m : Int) := IntWalk.i64_in _ (by omega)
   have fq : IntKind.i64.wrap (q : Int) = (q : Int) := IntWalk.i64_in _ (by omega)
   have fr : IntKind.i64.wrap (r : Int) = (r : Int) := IntWalk.i64_in _ (by omega)
   have q56 : (q : Int) < 56 := by omega
   have q56' : q < 56 := by omega
   have s4 : (s : Int) ≤ 4 := by omega
   rw [hq, hr, hs4] at hs hl2
   rw [hq] at hl
   obtain ⟨y, hy⟩ : ∃ y, tgF (hxD c) i q = y := ⟨_, rfl⟩
   rw [hy] at hl hl2 hs
   obtain ⟨z, hz'⟩ : ∃ z, d * 2 ^ s = z := ⟨_, rfl⟩
   have hzl : z < 256 := by
    rcases (by omega : s = 0 ∨ s = 4) with e | e <;> subst e <;> simp at hz' <;> omega
   rw [hz'] at hl2 hs
   have e1 : (d : Int) * 2 ^ s = (z : Int) := by rw [← hz', Int.natCast_mul, Int.natCast_pow]; rfl
   have e2 : IntKind.u8.wrap (z : Int) = (z : Int) := by rw [IntKind.wrap_u8]; omega
   have e0 : IntKind.u8.wrap (d : Int) = (d : Int) := by rw [IntKind.wrap_u8]; omega
   have e3 := u8_or_nat y z hl hzl
   obtain ⟨v, hv⟩ : ∃ v, y ||| z = v := ⟨_, rfl⟩
   rw [hv] at e3 hl2 hs
   have sm : min s 8 = s := by omega
   have HS := Lib.hid hs
   have HY : Hid (NZ (tgF (hxD c) i) q = (y : Int)) := Lib.hid (by rw [← hy]; rfl)
   have H1 := Lib.hid HR
   have HG := Lib.hid hig
   clear HR hz hl hl2 hq hr hs4 hy hz' hv hs hm hlt hig hu hd hzl q1
   rcases ok with ok | ok
   ·have dl : decide ((u : Int) ≤ 57) = true := by simp; omega
    have ed : (u : Int) - 48 = (d : Int) := by rw [hDi]; unfold hxd; rw [if_neg (by omega)]; omega
    clear hDi ok hd16
    go_wp2_with (first
     | ((with_reducible apply z9g); (case hgd | ho | hx | hy => exact rfl); (case hs => exact Q1.out); (case hn => exact TU.out); intro _ _; go_simp))
    refine wp_region_still_tail 10 (by kernel_rfl) (by kernel_rfl) ?_
    change wpStill _ _ wr.drew (fun a' => wpList _ _ _ _ a' wr.drew) _ _
    have D := Lib.hid H1.out.drew
    clear H1
    generalize wr.drew = w8 at *
    have hc := D.out.cell 0 rfl q q56'
    have hz := D.out.thaw 0 rfl q
    rw [HY.out] at hc
    have HU := Lib.hid (D.out.setCell 0 rfl q (v : Int))
    rw [y1m, HS.out] at HU
    clear D
    simp only [List.take_succ_cons, List.take_zero, List.drop_succ_cons, List.drop_zero]
    iterate 10 still_step
    refine wpStill_nil ?_
    clear e0 e1 e2 e3 sm
    go_wp2_with fail
    go_roundg go
    case rel => exact ⟨i + 1, by have := HG.out; omega, by go_num, HU.out⟩
    case measure => omega
   ·have dl : decide ((u : Int) ≤ 57) = false := by simp; omega
    obtain ⟨t, ht⟩ : ∃ t, u - 97 = t := ⟨_, rfl⟩
    have et : (u : Int) - 97 = (t : Int) := by omega
    have ft : IntKind.u8.wrap (t : Int) = (t : Int) := by rw [IntKind.wrap_u8]; omega
    have ed : (t : Int) + 10 = (d : Int) := by rw [hDi]; unfold hxd; rw [if_pos ok.1]; omega
    clear hDi ok hd16 ht
    go_wp2_with (first
     | ((with_reducible apply z9g); (case hgd | ho | hx | hy => exact rfl); (case hs => exact Q1.out); (case hn => exact TU.out); intro _ _; go_simp))
    refine wp_region_still_tail 11 (by kernel_rfl) (by kernel_rfl) ?_
    change wpStill _ _ wr.drew (fun a' => wpList _ _ _ _ a' wr.drew) _ _
    have D := Lib.hid H1.out.drew
    clear H1
    generalize wr.drew = w8 at *
    have hc := D.out.cell 0 rfl q q56'
    have hz := D.out.thaw 0 rfl q
    rw [HY.out] at hc
    have HU := Lib.hid (D.out.setCell 0 rfl q (v : Int))
    rw [y1m, HS.out] at HU
    clear D
    simp only [List.take_succ_cons, List.take_zero, List.drop_succ_cons, List.drop_zero]
    iterate 11 still_step
    refine wpStill_nil ?_
    clear e0 e1 e2 e3 sm
    go_wp2_with fail
    go_roundg go
    case rel => exact ⟨i + 1, by have := HG.out; omega, by go_num, HU.out⟩
    case measure => omega
end Go.Proofs.YtoeokhfhcpcjlaaGreatDoor
