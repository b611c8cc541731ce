/- Lemmas; no statement is proved here. -/
import Derived.Test.YtgjbonikbmgfmaaGreatDoorZPtAdd
import Derived.Test.YtgjbonikbmgfmaaGreatDoorQM
set_option maxRecDepth 8000
set_option maxHeartbeats 3200000
namespace Go.Proofs.YtgjbonikbmgfmaaGreatDoor
open Go.RowKit
def tgF (d : Nat → Nat) (i j : Nat) : Nat := (if 2 * j < i then d (2 * j) else 0) + (if 2 * j + 1 < i then 16 * d (2 * j + 1) else 0)
theorem tgF_zero (d : Nat → Nat) (j : Nat) : tgF d 0 j = 0 := by
 unfold tgF
 rw [if_neg (by omega), if_neg (by omega)]
theorem tgF_lt {d : Nat → Nat} (hd : ∀ k, d k < 16) (i j : Nat) : tgF d i j < 256 := by
 have h1 := hd (2 * j)
 have h2 := hd (2 * j + 1)
 unfold tgF
 split <;> split <;> omega
theorem tgF_or {d : Nat → Nat} (hd : ∀ k, d k < 16) (i : Nat) : tgF d i (i / 2) ||| d i * 2 ^ (i % 2 * 4) = tgF d (i + 1) (i / 2) := by
 rcases (by omega : i % 2 = 0 ∨ i % 2 = 1) with h | h
 ·obtain ⟨q, rfl⟩ : ∃ q, i = 2 * q := ⟨i / 2, by omega⟩
  have e : 2 * q / 2 = q := by omega
  rw [h, e]
  unfold tgF
  rw [if_neg (by omega), if_neg (by omega), if_pos (by omega), if_neg (by omega)]
  simp
 ·obtain ⟨q, rfl⟩ : ∃ q, i = 2 * q + 1 := ⟨i / 2, by omega⟩
  have e : (2 * q + 1) / 2 = q := by omega
  rw [h, e]
  unfold tgF
  rw [if_pos (by omega), if_neg (by omega), if_pos (by omega), if_pos (by omega)]
  have hl : d (2 * q) < 2 ^ 4 := hd _
  rw [Nat.add_zero, Nat.or_comm, Nat.mul_comm, show 1 * 4 = 4 from rfl, ← Nat.two_pow_add_eq_or_of_lt hl, Nat.add_comm]
theorem tgF_step {d : Nat → Nat} (hd : ∀ k, d k < 16) (i : Nat) : updN (tgF d i) (i / 2) (tgF d i (i / 2) ||| d i * 2 ^ (i % 2 * 4)) = tgF d (i + 1) := by
 funext j
 unfold updN
 by_cases h : j = i / 2
 ·rw [if_pos h, tgF_or hd, h]
 ·rw [if_neg h]
  unfold tgF
  have e1 : (2 * j < i) ↔ (2 * j < i + 1) := by omega
  have e2 : (2 * j + 1 < i) ↔ (2 * j + 1 < i + 1) := by omega
  simp only [e1, e2]
structure Hex (S : ByteArray) (c : Nat → Nat) (x : Nat) : Prop where
 size : S.size = 112
 has : ∀ i, i < 112 → S[i]? = some (UInt8.ofNat (c i))
 ok : ∀ i, i < 112 → (48 ≤ c i ∧ c i < 58) ∨ (97 ≤ c i ∧ c i < 103)
 pair : ∀ k, k < 56 → 16 * hxd (c (110 - 2 * k)) + hxd (c (111 - 2 * k)) = dg x k
 lt : x < pN
def hxD (c : Nat → Nat) (i : Nat) : Nat := if i < 112 then hxd (c (111 - i)) else 0
theorem Hex.digit {S : ByteArray} {c : Nat → Nat} {x : Nat} (h : Hex S c x) (k : Nat) : hxD c k < 16 := by
 unfold hxD
 split
 ·have := h.ok (111 - k) (by omega)
  unfold hxd
  split <;> omega
 ·omega
theorem Hex.all {S : ByteArray} {c : Nat → Nat} {x : Nat} (h : Hex S c x) (j : Nat) (hj : j < 56) : tgF (hxD c) 112 j = dg x j := by
 have := h.pair j hj
 unfold tgF hxD
 rw [if_pos (by omega), if_pos (by omega), if_pos (by omega), if_pos (by omega), show 111 - (2 * j + 1) = 110 - 2 * j by omega]
 omega
theorem Hex.nB {S : ByteArray} {c : Nat → Nat} {x : Nat} (h : Hex S c x) : nB (bt x) 56 = x := by
 rw [← y4l, nB_bX]
 exact Nat.mod_eq_of_lt (Nat.lt_trans h.lt pN_256)
theorem nilB56 (w : World) : (zeroValue 177).run Tryz.prog w = .ok (.agg (AZ .u8 56 fun _ => 0)) w :=
 (show AZ .u8 56 (fun _ => 0) = Array.replicate 56 (.int .u8 0) by unfold AZ; rfl) ▸ (zero_of_info (show (Tryz.prog.info? 177).map (fun i => (i.zero, i.size)) = some (some (.agg (Array.replicate 56 (.int .u8 0))), 56) by kernel_rfl)).1 w
section
variable {ops : Array Oper} {rest : List Oper} {o : Oper} {a : Act} {w : World} {Q : Exit → Act → World → Prop}
theorem y5y (hgd : o.guard = none) {x y : Operand} (ho : o.op = .index 9 x y) {S : ByteArray} {k : IntKind} {i n : Nat} (hx : a.eval x = .string S) (hy : a.eval y = .int k (i : Int)) (hs : S[i]? = some (UInt8.ofNat n)) (hn : n < 256)
  (h : ∀ K : Act → World → Prop, (∀ a w, wpList Tryz.prog ops Q rest a w → K a w) → K (a.put o.dst (.int .u8 (n : Int))) w) : wpList Tryz.prog ops Q (o :: rest) a w :=
 wpList_plain hgd fun K hK => by
  unfold Oper.wp
  rw [z50 (e := a.eval) ho hx hy hs hn w]
  exact h K hK
end
theorem told_v {S : ByteArray} {c : Nat → Nat} {x : Nat} (w : World) (hX : Hex S c x) :
  Calls Tryz.prog 116 #[.string S] w fun e w' => ∃ h, e = .returned (EV h) ∧ EK h (cN pN x) ∧ Below w.heap.size w w' := by
 have HX := za hX
 have HE : Hid (EK (oF (bt x) 56) (cN pN x)) := za (by
  have := of_v (bt x)
  rw [hX.nB] at this
  exact this)
 have HN : Hid (nB (bt x) 56 < pN) := za (by rw [hX.nB]; exact hX.lt)
 have hsz := hX.size
 clear hX
 have H := za (Ow.start w)
 go_enter Tryz.func116, Tryz.ntmps116
 go_wp2_with (first
  | ((fail_if_success have := g2); (with_reducible apply ze z9 H); (case hgd | ho => exact rfl); clear H; intro w2 g2 H _ _; go_simp)
  | ((fail_if_success have := g3); (with_reducible apply ze nilB56 H); (case hgd | ho => exact rfl); clear H; intro w3 g3 H _ _; go_simp))
 go_step3
 go_wp2_with (first
  | ((fail_if_success have := g2); (with_reducible apply ze z9 H); (case hgd | ho => exact rfl); clear H; intro w2 g2 H _ _; go_simp)
  | ((fail_if_success have := g3); (with_reducible apply ze nilB56 H); (case hgd | ho => exact rfl); clear H; intro w3 g3 H _ _; go_simp))
 go_step3
 go_wp2_with fail
 replace H := za (H.out.like 0 (g := NZ (tgF (hxD c) 0)) rfl fun j _ => by unfold NZ; rw [tgF_zero]; rfl)
 simp only [qb] at H
 go_loopg [11] 112 (fun gk v11 wr => ∃ i : Nat, i + gk = 112 ∧ v11 = .int .i64 i ∧ Ow w wr [(g3, zv 177 .u8 56 (NZ (tgF (hxD c) i))), (g2, zv 30 .u64 8 fun _ => 0)])
 case atStart => exact ⟨0, by omega, rfl, H.out⟩
 case round =>
  clear H
  obtain ⟨i, hig, rfl, HR⟩ := hrel
  cases gk with
  | zero =>
   obtain rfl : i = 112 := by omega
   clear hig
   rw [show ((112 : Nat) : Int) = 112 from rfl]
   have H := za (HR.like 0 (g := UB (bt x)) rfl fun j hj => by
    show ((tgF (hxD c) 112 j : Nat) : Int) = U8 (bt x j)
    rw [HX.out.all j hj, y2d])
   simp only [qb] at H
   clear HR hsz
   go_wp2_with (first
    | ((with_reducible refine (z5g (some ⟨g3, 0, none⟩) 56 (bt x) _ (rawSl (H.out.row 0 rfl)) HN.out).mono ?_); rintro e wc ⟨rfl, hb⟩; replace H := zd H hb; clear hb)
    | ((with_reducible apply ze z9 H); (case hgd | ho => exact rfl); clear H; intro _ _ H _ _; go_simp)
    | ((with_reducible apply zr zt H); (case hgd | ho | hx => exact rfl); (case hi => repeat first|exact z5|apply z8); intro _ _; go_simp)
    | ((with_reducible apply zj zt H); (case hgd | ho | hx | hy => exact rfl); (case hi => repeat first|exact z5|apply z8); clear H; intro ws H _ _; simp only [qb, qc] at H; go_simp))
   try rw [Exit.noGoto_ret]
   exact bodyPost_ret (zy 2 zt rfl _ H rfl rfl) rfl ⟨_, rfl, HE.out, H.out.bel⟩
  | succ go =>
   have hlt : i < 112 := by omega
   have hid : decide ((i : Int) < 112) = true := by simp; omega
   have iN : (i : Int) < 112 := by omega
   obtain ⟨m, hm⟩ : ∃ m, 111 - i = m := ⟨_, rfl⟩
   have em : (111 : Int) - (i : Int) = (m : Int) := by omega
   have m112 : (m : Int) < 112 := by omega
   have q1 := HX.out.has m (by omega)
   have ok := HX.out.ok m (by omega)
   have hDi : hxD c i = hxd (c m) := by unfold hxD; rw [if_pos hlt, hm]
   obtain ⟨u, hu⟩ : ∃ u, c m = u := ⟨_, rfl⟩
   rw [hu] at q1 ok hDi
   have Q1 := za q1
   have TU : Hid (u < 256) := za (by omega)
   obtain ⟨d, hd⟩ : ∃ d, hxD c i = d := ⟨_, rfl⟩
   rw [hd] at hDi
   have hs := tgF_step HX.out.digit i
   have hz := tgF_or HX.out.digit i
   have hl := tgF_lt HX.out.digit i (i / 2)
   have hl2 := tgF_lt HX.out.digit (i + 1) (i / 2)
   have hd16 := HX.out.digit i
   rw [← hz] at hl2
   rw [hd] at hs hl2 hd16
   obtain ⟨q, hq⟩ : ∃ q, i / 2 = q := ⟨_, rfl⟩
   obtain ⟨r, hr⟩ : ∃ r, i % 2 = r := ⟨_, rfl⟩
   obtain ⟨s, hs4⟩ : ∃ s, r * 4 = s := ⟨_, rfl⟩
   have eq1 : (i : Int) / 2 = (q : Int) := by omega
   have er1 : (i : Int) % 2 = (r : Int) := by omega
   have es1 : (r : Int) * 4 = (s : Int) := by omega
   have fs : IntKind.i64.wrap (s : Int) = (s : Int) := IntWalk.i64_in _ (by omega)
   have fm : IntKind.i64.wrap (m : Int) = (m : Int) := IntWalk.i64_in _ (by omega)
   have fq : IntKind.i64.wrap (q : Int) = (q : Int) := IntWalk.i64_in _ (by omega)
   have fr : IntKind.i64.wrap (r : Int) = (r : Int) := IntWalk.i64_in _ (by omega)
   have q56 : (q : Int) < 56 := by omega
   have q56' : q < 56 := by omega
   have s4 : (s : Int) ≤ 4 := by omega
   rw [hq, hr, hs4] at hs hl2
   rw [hq] at hl
   obtain ⟨y, hy⟩ : ∃ y, tgF (hxD c) i q = y := ⟨_, rfl⟩
   rw [hy] at hl hl2 hs
   obtain ⟨z, hz'⟩ : ∃ z, d * 2 ^ s = z := ⟨_, rfl⟩
   have hzl : z < 256 := by
    rcases (by omega : s = 0 ∨ s = 4) with e | e <;> subst e <;> simp at hz' <;> omega
   rw [hz'] at hl2 hs
   have e1 : (d : Int) * 2 ^ s = (z : Int) := by rw [← hz', Int.natCast_mul, Int.natCast_pow]; rfl
   have e2 : IntKind.u8.wrap (z : Int) = (z : Int) := by rw [IntKind.wrap_u8]; omega
   have e0 : IntKind.u8.wrap (d : Int) = (d : Int) := by rw [IntKind.wrap_u8]; omega
   have e3 := u8_or_nat y z hl hzl
   obtain ⟨v, hv⟩ : ∃ v, y ||| z = v := ⟨_, rfl⟩
   rw [hv] at e3 hl2 hs
   have sm : min s 8 = s := by omega
   have HS := za hs
   have HY : Hid (NZ (tgF (hxD c) i) q = (y : Int)) := za (by rw [← hy]; rfl)
   have H1 := za HR
   have HG := za hig
   clear HR hz hl hl2 hq hr hs4 hy hz' hv hs hm hlt hig hu hd hzl q1
   rcases ok with ok | ok
   ·have dl : decide ((u : Int) ≤ 57) = true := by simp; omega
    have ed : (u : Int) - 48 = (d : Int) := by rw [hDi]; unfold hxd; rw [if_neg (by omega)]; omega
    clear hDi ok hd16
    go_wp2_with (first
     | ((with_reducible apply y5y); (case hgd | ho | hx | hy => exact rfl); (case hs => exact Q1.out); (case hn => exact TU.out); intro _ _; go_simp))
    refine wp_region_still_tail 10 (by kernel_rfl) (by kernel_rfl) ?_
    change wpStill _ _ wr.drew (fun a' => wpList _ _ _ _ a' wr.drew) _ _
    have D := za H1.out.drew
    clear H1
    generalize wr.drew = w8 at *
    have hc := D.out.cell 0 rfl q q56'
    have hz := D.out.thaw 0 rfl q
    rw [HY.out] at hc
    have HU := za (D.out.setCell 0 rfl q (v : Int))
    rw [y9z, HS.out] at HU
    clear D
    simp only [List.take_succ_cons, List.take_zero, List.drop_succ_cons, List.drop_zero]
    iterate 10 still_step
    refine wpStill_nil ?_
    clear e0 e1 e2 e3 sm
    go_wp2_with fail
    go_roundg go
    case rel => exact ⟨i + 1, by have := HG.out; omega, by go_num, HU.out⟩
    case measure => omega
   ·have dl : decide ((u : Int) ≤ 57) = false := by simp; omega
    obtain ⟨t, ht⟩ : ∃ t, u - 97 = t := ⟨_, rfl⟩
    have et : (u : Int) - 97 = (t : Int) := by omega
    have ft : IntKind.u8.wrap (t : Int) = (t : Int) := by rw [IntKind.wrap_u8]; omega
    have ed : (t : Int) + 10 = (d : Int) := by rw [hDi]; unfold hxd; rw [if_pos ok.1]; omega
    clear hDi ok hd16 ht
    go_wp2_with (first
     | ((with_reducible apply y5y); (case hgd | ho | hx | hy => exact rfl); (case hs => exact Q1.out); (case hn => exact TU.out); intro _ _; go_simp))
    refine wp_region_still_tail 11 (by kernel_rfl) (by kernel_rfl) ?_
    change wpStill _ _ wr.drew (fun a' => wpList _ _ _ _ a' wr.drew) _ _
    have D := za H1.out.drew
    clear H1
    generalize wr.drew = w8 at *
    have hc := D.out.cell 0 rfl q q56'
    have hz := D.out.thaw 0 rfl q
    rw [HY.out] at hc
    have HU := za (D.out.setCell 0 rfl q (v : Int))
    rw [y9z, HS.out] at HU
    clear D
    simp only [List.take_succ_cons, List.take_zero, List.drop_succ_cons, List.drop_zero]
    iterate 11 still_step
    refine wpStill_nil ?_
    clear e0 e1 e2 e3 sm
    go_wp2_with fail
    go_roundg go
    case rel => exact ⟨i + 1, by have := HG.out; omega, by go_num, HU.out⟩
    case measure => omega
def chX : List Nat := [52, 102, 49, 57, 55, 48, 99, 54, 54, 98, 101, 100, 48, 100, 101, 100, 50, 50, 49, 100, 49, 53, 97, 54, 50, 50, 98, 102, 51, 54, 100, 97, 57, 101, 49, 52, 54, 53, 55, 48, 52, 55, 48, 102, 49, 55, 54, 55, 101, 97, 54, 100, 101, 51, 50, 52, 97, 51, 100, 51, 97, 52, 54, 52, 49, 50, 97, 101, 49, 97, 102, 55, 50, 97, 98, 54, 54, 53, 49, 49, 52, 51, 51, 98, 56, 48, 101, 49, 56, 98, 48, 48, 57, 51, 56, 101, 50, 54, 50, 54, 97, 56, 50, 98, 99, 55, 48, 99, 99, 48, 53, 101]
def txX : ByteArray := ⟨#[52, 102, 49, 57, 55, 48, 99, 54, 54, 98, 101, 100, 48, 100, 101, 100, 50, 50, 49, 100, 49, 53, 97, 54, 50, 50, 98, 102, 51, 54, 100, 97, 57, 101, 49, 52, 54, 53, 55, 48, 52, 55, 48, 102, 49, 55, 54, 55, 101, 97, 54, 100, 101, 51, 50, 52, 97, 51, 100, 51, 97, 52, 54, 52, 49, 50, 97, 101, 49, 97, 102, 55, 50, 97, 98, 54, 54, 53, 49, 49, 52, 51, 51, 98, 56, 48, 101, 49, 56, 98, 48, 48, 57, 51, 56, 101, 50, 54, 50, 54, 97, 56, 50, 98, 99, 55, 48, 99, 99, 48, 53, 101]⟩
theorem hexX : Hex txX (fun i => chX.getD i 0) bxN := ⟨by decide +kernel, by decide +kernel, by decide +kernel, by decide +kernel, by decide +kernel⟩
def chY : List Nat := [54, 57, 51, 102, 52, 54, 55, 49, 54, 101, 98, 54, 98, 99, 50, 52, 56, 56, 55, 54, 50, 48, 51, 55, 53, 54, 99, 57, 99, 55, 54, 50, 52, 98, 101, 97, 55, 51, 55, 51, 54, 99, 97, 51, 57, 56, 52, 48, 56, 55, 55, 56, 57, 99, 49, 101, 48, 53, 97, 48, 99, 50, 100, 55, 51, 97, 100, 51, 102, 102, 49, 99, 101, 54, 55, 99, 51, 57, 99, 52, 102, 100, 98, 100, 49, 51, 50, 99, 52, 101, 100, 55, 99, 56, 97, 100, 57, 56, 48, 56, 55, 57, 53, 98, 102, 50, 51, 48, 102, 97, 49, 52]
def txY : ByteArray := ⟨#[54, 57, 51, 102, 52, 54, 55, 49, 54, 101, 98, 54, 98, 99, 50, 52, 56, 56, 55, 54, 50, 48, 51, 55, 53, 54, 99, 57, 99, 55, 54, 50, 52, 98, 101, 97, 55, 51, 55, 51, 54, 99, 97, 51, 57, 56, 52, 48, 56, 55, 55, 56, 57, 99, 49, 101, 48, 53, 97, 48, 99, 50, 100, 55, 51, 97, 100, 51, 102, 102, 49, 99, 101, 54, 55, 99, 51, 57, 99, 52, 102, 100, 98, 100, 49, 51, 50, 99, 52, 101, 100, 55, 99, 56, 97, 100, 57, 56, 48, 56, 55, 57, 53, 98, 102, 50, 51, 48, 102, 97, 49, 52]⟩
theorem hexY : Hex txY (fun i => chY.getD i 0) byN := ⟨by decide +kernel, by decide +kernel, by decide +kernel, by decide +kernel, by decide +kernel⟩
theorem y6n (n : Nat) (w : World) (h : (48 ≤ n ∧ n < 58) ∨ (97 ≤ n ∧ n < 103)) :
  Calls Tryz.prog 177 #[.int .u8 (n : Int)] w fun e w' => e = .returned (.int .i64 ((hxd n : Nat) : Int)) ∧ w' = w := by
 rcases h with ⟨h1, h2⟩ | ⟨h1, h2⟩
 ·have d1 : decide ((97 : Int) ≤ (n : Int)) = false := by simp; omega
  have HE : Hid (((hxd n : Nat) : Int) = (n : Int) - 48) := za (by unfold hxd; rw [if_neg (by omega)]; omega)
  have f1 : IntKind.u8.wrap ((n : Int) - 48) = (n : Int) - 48 := by rw [IntKind.wrap_u8]; omega
  go_enter Tryz.func177, Tryz.ntmps177
  go_wp2
  go_ret
  exact ⟨by rw [HE.out]; rfl, rfl⟩
 ·have d1 : decide ((97 : Int) ≤ (n : Int)) = true := by simp; omega
  have HE : Hid (((hxd n : Nat) : Int) = (n : Int) - 97 + 10) := za (by unfold hxd; rw [if_pos h1]; omega)
  have f1 : IntKind.u8.wrap ((n : Int) - 97) = (n : Int) - 97 := by rw [IntKind.wrap_u8]; omega
  go_enter Tryz.func177, Tryz.ntmps177
  go_wp2
  go_ret
  exact ⟨by rw [HE.out]; rfl, rfl⟩
theorem hex_v {S : ByteArray} {c : Nat → Nat} {x : Nat} (w : World) (hX : Hex S c x) :
  Calls Tryz.prog 142 #[.string S] w fun e w' => e = .returned (FV (cN pN x).val) ∧ Below w.heap.size w w' := by
 have HX := za hX
 have HN : Hid (nB (bt x) 56 % pN = (cN pN x).val) := za (by rw [hX.nB]; rfl)
 have hsz := hX.size
 clear hX
 have H := za (Ow.start w)
 go_enter Tryz.func142, Tryz.ntmps142
 go_wp2_with (first
  | ((fail_if_success have := g1); (with_reducible apply ze zA.zero H); (case hgd | ho => exact rfl); clear H; intro w1 g1 H _ _; go_simp))
 clear hsz
 go_loopw [3, 4] (fun v3 v4 wr => ∃ k : Nat, k ≤ 56 ∧ v4 = .int .i64 (110 - 2 * (k : Int)) ∧ OwnB wr w1.heap.size v3 k (bt x) ∧ Below w1.heap.size w1 wr) (fun _ v4 _ => (intOf v4 + 2).toNat)
 case atStart => exact ⟨0, by omega, by go_num, OwnB.nil _ _ _, Below.refl _ _⟩
 case round =>
  obtain ⟨k, hk, rfl, HO, HB⟩ := hrel
  have HO := za HO
  have HB := za HB
  by_cases hlt : k < 56
  ·obtain ⟨i, hi⟩ : ∃ i, 110 - 2 * k = i := ⟨_, rfl⟩
   have ei : 110 - 2 * (k : Int) = (i : Int) := by omega
   rw [ei]
   have hid : decide ((0 : Int) ≤ (i : Int)) = true := by simp
   have q1 := HX.out.has i (by omega)
   have q2 := HX.out.has (i + 1) (by omega)
   have o1 := HX.out.ok i (by omega)
   have o2 := HX.out.ok (i + 1) (by omega)
   have pr := HX.out.pair k hlt
   rw [hi, show 111 - 2 * k = i + 1 by omega] at pr
   obtain ⟨c1, h1⟩ : ∃ u, c i = u := ⟨_, rfl⟩
   obtain ⟨c2, h2⟩ : ∃ u, c (i + 1) = u := ⟨_, rfl⟩
   rw [h1] at q1 o1 pr
   rw [h2] at q2 o2 pr
   have HD1 := za (fun w => y6n c1 w o1)
   have HD2 := za (fun w => y6n c2 w o2)
   have T1 : Hid (c1 < 256) := za (by omega)
   have T2 : Hid (c2 < 256) := za (by omega)
   have Q1 := za q1
   have Q2 := za q2
   clear q1 q2
   obtain ⟨d1, hd1⟩ : ∃ d, hxd c1 = d := ⟨_, rfl⟩
   obtain ⟨d2, hd2⟩ : ∃ d, hxd c2 = d := ⟨_, rfl⟩
   rw [hd1] at pr HD1
   rw [hd2] at pr HD2
   have hg := z80 x k
   obtain ⟨y, hy⟩ : ∃ y, dg x k = y := ⟨_, rfl⟩
   rw [hy] at pr hg
   have HY : Hid (U8 (bt x k) = (y : Int)) := za (by rw [← hy]; exact y2d x k)
   have f0 : IntKind.i64.wrap ((i : Int) + 1) = ((i + 1 : Nat) : Int) := (IntWalk.i64_in _ (by omega)).trans (by omega)
   have f1 : IntKind.i64.wrap (16 * (d1 : Int)) = 16 * (d1 : Int) := IntWalk.i64_in _ (by omega)
   have f2 : IntKind.i64.wrap (16 * (d1 : Int) + (d2 : Int)) = (y : Int) := (IntWalk.i64_in _ (by omega)).trans (by omega)
   have f3 : IntKind.u8.wrap (y : Int) = (y : Int) := by rw [IntKind.wrap_u8]; omega
   have Hi : Hid ((i : Int) - 2 = 110 - 2 * ((k + 1 : Nat) : Int)) := za (by omega)
   have i54 : (i : Int) ≤ 110 := by omega
   have e1 : (i : Int) < 112 := by omega
   have Hk : Hid (k + 1 ≤ 56) := za (by omega)
   have k28 : k ≤ 100000 := by omega
   clear o1 o2 h1 h2 hd1 hd2 hy pr hg ei hi hlt hk
   go_wp2_with fail
   refine wp_region_noPanic ?_
   refine wp_region_held_drew (S := fun _ => True) (by kernel_rfl) trivial (fun hH => ?_)
   replace HO := za HO.out.drew
   replace HB := za (Below.drew HB.out)
   generalize World.drew _ = w8 at *
   have hz : w1.heap.size ≤ w8.heap.size := HB.out.size
   refine zh 0 12 (u3) hH ?_
   refine zh 1 13 (.string S) hH ?_
   refine zh 2 14 (.int .i64 i) hH ?_
   refine z0h 3 15 (.int .u8 (c1 : Int)) rfl rfl rfl hH (fun w hw => by exact z50 rfl rfl rfl Q1.out T1.out w) ?_
   refine zh 6 18 (.string S) hH ?_
   refine zh 7 19 (.int .i64 i) hH ?_
   refine zh 8 20 (.int .i64 ((i + 1 : Nat) : Int)) hH ?_
   refine z0h 9 21 (.int .u8 (c2 : Int)) rfl rfl rfl hH (fun w hw => by exact z50 rfl rfl rfl Q2.out T2.out w) ?_
   refine zn 4 rfl fun K hK => ?_
   go_simp
   refine (HD1.out _).mono ?_
   rintro e wc ⟨rfl, rfl⟩
   refine zc hK (trivial) fun hH => ?_
   refine zh 5 17 (.int .i64 (16 * (d1 : Int))) hH ?_
   refine zn 10 rfl fun K hK => ?_
   go_simp
   refine (HD2.out _).mono ?_
   rintro e wc ⟨rfl, rfl⟩
   refine zc hK (trivial) fun hH => ?_
   refine zh 11 23 (.int .i64 (y : Int)) hH ?_
   refine z0h 12 24 (U (bt x k)) rfl rfl rfl hH (fun w hw => by (go_simp; exact HY.out.symm)) ?_
   refine zn 13 rfl fun K hK => ?_
   refine y0k 25 rfl (v := bt x k) rfl rfl ?_
   intro wb gb hc he
   replace HO := za (HO.out.made he)
   replace HB := za (Below.made HB.out hz he)
   have HC := za hc
   clear hc he hz
   refine zc hK (trivial) fun hH => zn 14 rfl fun K hK => ?_
   refine y0l 26 rfl rfl rfl rfl HC.out HO.out k28 HB.out.size ?_
   intro v' wq ho hb
   refine zc hK (trivial) fun hH => ?_
   try simp only [Act.put, qa, qb, qc]
   refine zh 15 3 (v') hH ?_
   refine zm ?_
   clear f0 f1 f2 f3
   go_wp2_with fail
   go_roundw
   case rel => exact ⟨k + 1, Hk.out, congrArg (Value.int .i64) Hi.out, ho, HB.out.trans hb⟩
   case measure => (simp [intOf] <;> omega)
  ·obtain rfl : k = 56 := by omega
   obtain ⟨a2, c2, rfl, hsl⟩ := HO.out.any
   have HS := za hsl
   replace H := za (H.out.call HB.out)
   clear hsl hlt hk HO HB
   rw [show 110 - 2 * ((56 : Nat) : Int) = -2 from rfl]
   go_wp2_with (first
    | ((with_reducible refine (y2m a2 c2 (bt x) _ HS.out).mono ?_); rintro e wc ⟨rfl, hb⟩; replace H := zd H hb; clear hb)
    | ((with_reducible apply zj z4 H); (case hgd | ho | hx | hy => exact rfl); (case hi => repeat first|exact z5|apply z8); clear H; intro ws H _ _; simp only [qb] at H; go_simp))
   rw [HN.out] at H
   exact bodyPost_ret (zy 0 z4 rfl _ H rfl rfl) rfl ⟨rfl, H.out.bel⟩
theorem base_k (w : World) (hT : Tp w) :
  Calls Tryz.prog 46 #[] w fun e w' => ∃ r, e = .returned (PO r) ∧ PtK r pB ∧ Below w.heap.size w w' := by
 have HT := za hT
 clear hT
 obtain ⟨S1, h1⟩ : ∃ S, txX = S := ⟨_, rfl⟩
 obtain ⟨S2, h2⟩ : ∃ S, txY = S := ⟨_, rfl⟩
 have HX := za hexX
 have HY := za hexY
 rw [h1] at HX
 rw [h2] at HY
 unfold txX at h1
 unfold txY at h2
 have H := za (Ow.start w)
 go_enter Tryz.func46, Tryz.ntmps46
 go_wp2_with (first
  | ((with_reducible apply ze z1d H); (case hgd | ho => exact rfl); clear H; intro _ _ H _ _; go_simp)
  | ((fail_if_success have := V1); (with_reducible refine (told_v _ HX.out).mono ?_); rintro e wc ⟨k1, rfl, hv, hb⟩; replace H := zd H hb; clear hb; have V1 := za hv; clear hv)
  | ((fail_if_success have := V2); (with_reducible refine (told_v _ HY.out).mono ?_); rintro e wc ⟨k2, rfl, hv, hb⟩; replace H := zd H hb; clear hb; have V2 := za hv; clear hv)
  | ((fail_if_success have := V3); (with_reducible refine (z3w 1 _ (HT.out.below H.out.bel) (by omega) (by omega)).mono ?_); rintro e wc ⟨k3, rfl, hv, hb⟩; replace H := zd H hb; clear hb; have V3 := za hv; clear hv)
  | ((with_reducible apply z8q); (case hgd | ho | hx | hy | hz => exact rfl); intro _ _; go_simp)
  | ((with_reducible apply zj zH H); (case hgd | ho | hx | hy => exact rfl); (case hi => repeat first|exact z5|apply z8); clear H; intro ws H _ _; simp only [qb] at H; go_simp))
 exact bodyPost_ret (zy 0 zH rfl _ H rfl rfl) rfl ⟨_, rfl, ⟨_, _, _, _, _, _, rfl, V1.out, V2.out, V3.out.eq z00, Rp.one zB pB⟩, H.out.bel⟩
theorem y2n (w : World) :
  Calls Tryz.prog 82 #[] w fun e w' => ∃ r, e = .returned (QO r) ∧ RfK r pB ∧ Below w.heap.size w w' := by
 obtain ⟨S1, h1⟩ : ∃ S, txX = S := ⟨_, rfl⟩
 obtain ⟨S2, h2⟩ : ∃ S, txY = S := ⟨_, rfl⟩
 have HX := za hexX
 have HY := za hexY
 rw [h1] at HX
 rw [h2] at HY
 unfold txX at h1
 unfold txY at h2
 have H := za (Ow.start w)
 go_enter Tryz.func82, Tryz.ntmps82
 go_wp2_with (first
  | ((with_reducible apply ze z0w H); (case hgd | ho => exact rfl); clear H; intro _ _ H _ _; go_simp)
  | ((with_reducible refine (hex_v _ HX.out).mono ?_); rintro e wc ⟨rfl, hb⟩; replace H := zd H hb; clear hb)
  | ((with_reducible refine (hex_v _ HY.out).mono ?_); rintro e wc ⟨rfl, hb⟩; replace H := zd H hb; clear hb)
  | ((with_reducible refine (z0p _ 1 (by omega) (by omega)).mono ?_); rintro e wc ⟨rfl, hb⟩; replace H := zd H hb; clear hb)
  | ((with_reducible apply z2t); (case hgd | ho | hx | hy | hz => exact rfl); intro _ _; go_simp)
  | ((with_reducible apply zj zD H); (case hgd | ho | hx | hy => exact rfl); (case hi => repeat first|exact z5|apply z8); clear H; intro ws H _ _; simp only [qb] at H; go_simp))
 exact bodyPost_ret (zy 0 zD rfl _ H rfl rfl) rfl ⟨_, rfl, ⟨_, _, _, rfl, by rw [z00]; exact Rp.one zB pB⟩, H.out.bel⟩
theorem made11_far {a : Option Addr} {n c : Nat} {z : Int} (w : World) (hT : Tp w) (hn : 57 < n) :
  Calls Tryz.prog 18 #[.agg #[.slice a n c, .int .i64 z]] w fun e w' => ∃ v r P, e = .returned (.tuple #[PO v, QO r, .bool false]) ∧ PtK v P ∧ RfK r P ∧ Below w.heap.size w w' := by
 have d1 : decide ((57 : Int) < (n : Int)) = true := by simp; omega
 clear hn
 have HT := za hT
 clear hT
 have H := za (Ow.start w)
 go_enter Tryz.func18, Tryz.ntmps18
 go_wp2_with (first
  | ((with_reducible apply z0g H); (case hgd | ho | hx => exact rfl); clear H; intro _ _ H _ _; go_simp)
  | ((with_reducible apply ze z1d H); (case hgd | ho => exact rfl); clear H; intro _ _ H _ _; go_simp)
  | ((with_reducible apply ze z0w H); (case hgd | ho => exact rfl); clear H; intro _ _ H _ _; go_simp)
  | ((with_reducible apply z0m z27 H); (case hgd | ho | hx => exact rfl); (case hi => repeat first|exact z5|apply z8); (case hj => exact rfl); intro _ _; go_simp)
  | ((with_reducible apply z0m z25 H); (case hgd | ho | hx => exact rfl); (case hi => repeat first|exact z5|apply z8); (case hj => exact rfl); intro _ _; go_simp)
  | ((with_reducible apply z6e z25 H); (case hw | ho | hx => exact rfl); (case hi => repeat first|exact z5|apply z8); (case hj => exact rfl); intro _ _; go_simp)
  | ((with_reducible refine z1y ?hw ?h); (case hw => exact rfl); intro _ _; go_simp)
  | ((fail_if_success have := mk1); (with_reducible refine (z2k _ (HT.out.below H.out.bel)).mono ?_); rintro e wc ⟨k1, rfl, hv, hb⟩; replace H := zd H hb; have V1 := za hv; have mk1 := trivial; clear hb hv)
  | ((fail_if_success have := mk2); (with_reducible refine (z1e _).mono ?_); rintro e wc ⟨r1, rfl, hv, hb⟩; replace H := zd H hb; have W1 := za hv; have mk2 := trivial; clear hb hv)
  | ((with_reducible apply zj zH H); (case hgd | ho | hx | hy => exact rfl); (case hi => repeat first|exact z5|apply z8); clear H; intro ws H _ _; simp only [qb, qc] at H; go_simp)
  | ((with_reducible apply zj zD H); (case hgd | ho | hx | hy => exact rfl); (case hi => repeat first|exact z5|apply z8); clear H; intro ws H _ _; simp only [qb] at H; go_simp))
 exact bodyPost_ret (z1f 1 0 zH zD rfl _ H rfl rfl rfl rfl rfl) rfl ⟨_, _, _, rfl, V1.out, W1.out, H.out.bel⟩
theorem made11_low {a : Option Addr} {n c : Nat} {z : Int} (w : World) (hT : Tp w) (hn : n ≤ 57) (hz : z < 0) :
  Calls Tryz.prog 18 #[.agg #[.slice a n c, .int .i64 z]] w fun e w' => ∃ v r P, e = .returned (.tuple #[PO v, QO r, .bool false]) ∧ PtK v P ∧ RfK r P ∧ Below w.heap.size w w' := by
 have d1 : decide ((57 : Int) < (n : Int)) = false := by simp; omega
 have d2 : decide (z < 0) = true := by simp; omega
 clear hn hz
 have HT := za hT
 clear hT
 have H := za (Ow.start w)
 go_enter Tryz.func18, Tryz.ntmps18
 go_wp2_with (first
  | ((with_reducible apply z0g H); (case hgd | ho | hx => exact rfl); clear H; intro _ _ H _ _; go_simp)
  | ((with_reducible apply ze z1d H); (case hgd | ho => exact rfl); clear H; intro _ _ H _ _; go_simp)
  | ((with_reducible apply ze z0w H); (case hgd | ho => exact rfl); clear H; intro _ _ H _ _; go_simp)
  | ((with_reducible apply z0m z27 H); (case hgd | ho | hx => exact rfl); (case hi => repeat first|exact z5|apply z8); (case hj => exact rfl); intro _ _; go_simp)
  | ((with_reducible apply z0m z25 H); (case hgd | ho | hx => exact rfl); (case hi => repeat first|exact z5|apply z8); (case hj => exact rfl); intro _ _; go_simp)
  | ((with_reducible apply z6e z25 H); (case hw | ho | hx => exact rfl); (case hi => repeat first|exact z5|apply z8); (case hj => exact rfl); intro _ _; go_simp)
  | ((with_reducible refine z1y ?hw ?h); (case hw => exact rfl); intro _ _; go_simp)
  | ((fail_if_success have := mk1); (with_reducible refine (z2k _ (HT.out.below H.out.bel)).mono ?_); rintro e wc ⟨k1, rfl, hv, hb⟩; replace H := zd H hb; have V1 := za hv; have mk1 := trivial; clear hb hv)
  | ((fail_if_success have := mk2); (with_reducible refine (z1e _).mono ?_); rintro e wc ⟨r1, rfl, hv, hb⟩; replace H := zd H hb; have W1 := za hv; have mk2 := trivial; clear hb hv)
  | ((with_reducible apply zj zH H); (case hgd | ho | hx | hy => exact rfl); (case hi => repeat first|exact z5|apply z8); clear H; intro ws H _ _; simp only [qb, qc] at H; go_simp)
  | ((with_reducible apply zj zD H); (case hgd | ho | hx | hy => exact rfl); (case hi => repeat first|exact z5|apply z8); clear H; intro ws H _ _; simp only [qb] at H; go_simp))
 exact bodyPost_ret (z1f 1 0 zH zD rfl _ H rfl rfl rfl rfl rfl) rfl ⟨_, _, _, rfl, V1.out, W1.out, H.out.bel⟩
theorem made11_high {a : Option Addr} {n c : Nat} {z : Int} (w : World) (hT : Tp w) (hn : n ≤ 57) (h0 : 0 ≤ z) (hz : 3 < z) :
  Calls Tryz.prog 18 #[.agg #[.slice a n c, .int .i64 z]] w fun e w' => ∃ v r P, e = .returned (.tuple #[PO v, QO r, .bool false]) ∧ PtK v P ∧ RfK r P ∧ Below w.heap.size w w' := by
 have d1 : decide ((57 : Int) < (n : Int)) = false := by simp; omega
 have d2 : decide (z < 0) = false := by simp; omega
 have d3 : decide (3 < z) = true := by simp; omega
 clear hn h0 hz
 have HT := za hT
 clear hT
 have H := za (Ow.start w)
 go_enter Tryz.func18, Tryz.ntmps18
 go_wp2_with (first
  | ((with_reducible apply z0g H); (case hgd | ho | hx => exact rfl); clear H; intro _ _ H _ _; go_simp)
  | ((with_reducible apply ze z1d H); (case hgd | ho => exact rfl); clear H; intro _ _ H _ _; go_simp)
  | ((with_reducible apply ze z0w H); (case hgd | ho => exact rfl); clear H; intro _ _ H _ _; go_simp)
  | ((with_reducible apply z0m z27 H); (case hgd | ho | hx => exact rfl); (case hi => repeat first|exact z5|apply z8); (case hj => exact rfl); intro _ _; go_simp)
  | ((with_reducible apply z0m z25 H); (case hgd | ho | hx => exact rfl); (case hi => repeat first|exact z5|apply z8); (case hj => exact rfl); intro _ _; go_simp)
  | ((with_reducible apply z6e z25 H); (case hw | ho | hx => exact rfl); (case hi => repeat first|exact z5|apply z8); (case hj => exact rfl); intro _ _; go_simp)
  | ((with_reducible refine z1y ?hw ?h); (case hw => exact rfl); intro _ _; go_simp)
  | ((fail_if_success have := mk1); (with_reducible refine (z2k _ (HT.out.below H.out.bel)).mono ?_); rintro e wc ⟨k1, rfl, hv, hb⟩; replace H := zd H hb; have V1 := za hv; have mk1 := trivial; clear hb hv)
  | ((fail_if_success have := mk2); (with_reducible refine (z1e _).mono ?_); rintro e wc ⟨r1, rfl, hv, hb⟩; replace H := zd H hb; have W1 := za hv; have mk2 := trivial; clear hb hv)
  | ((with_reducible apply zj zH H); (case hgd | ho | hx | hy => exact rfl); (case hi => repeat first|exact z5|apply z8); clear H; intro ws H _ _; simp only [qb, qc] at H; go_simp)
  | ((with_reducible apply zj zD H); (case hgd | ho | hx | hy => exact rfl); (case hi => repeat first|exact z5|apply z8); clear H; intro ws H _ _; simp only [qb] at H; go_simp))
 exact bodyPost_ret (z1f 1 0 zH zD rfl _ H rfl rfl rfl rfl rfl) rfl ⟨_, _, _, rfl, V1.out, W1.out, H.out.bel⟩
theorem y5q {a : Option Addr} {n c x : Nat} {z : Int} (w : World) (hT : Tp w) (hs : Sb w w.heap.size a n c x) (hn : n ≤ 57) (h0 : 0 ≤ z) (hz : z ≤ 3) :
  Calls Tryz.prog 18 #[.agg #[.slice a n c, .int .i64 z]] w fun e w' => ∃ v r, e = .returned (.tuple #[PO v, QO r, .bool true]) ∧ PtK v (spot x z.toNat) ∧ RfK r (spot x z.toNat) ∧ Below w.heap.size w w' := by
 have d1 : decide ((57 : Int) < (n : Int)) = false := by simp; omega
 have d2 : decide (z < 0) = false := by simp; omega
 have d3 : decide (3 < z) = false := by simp; omega
 have HS := za hs
 have HN := za hn
 have H0 := za h0
 have HZ := za hz
 clear hs hn h0 hz
 have HT := za hT
 clear hT
 have H := za (Ow.start w)
 go_enter Tryz.func18, Tryz.ntmps18
 go_upto_region 3 with (first
  | ((fail_if_success have := g1); (with_reducible apply z0g H); (case hgd | ho | hx => exact rfl); clear H; intro w1 g1 H _ _; go_simp)
  | ((fail_if_success have := g2); (with_reducible apply ze z1d H); (case hgd | ho => exact rfl); clear H; intro w2 g2 H _ _; go_simp)
  | ((fail_if_success have := g3); (with_reducible apply ze z0w H); (case hgd | ho => exact rfl); clear H; intro w3 g3 H _ _; go_simp)
  | ((with_reducible apply z0m z27 H); (case hgd | ho | hx => exact rfl); (case hi => repeat first|exact z5|apply z8); (case hj => exact rfl); intro _ _; go_simp)
  | ((with_reducible apply z0m z25 H); (case hgd | ho | hx => exact rfl); (case hi => repeat first|exact z5|apply z8); (case hj => exact rfl); intro _ _; go_simp)
  | ((with_reducible apply z6e z25 H); (case hw | ho | hx => exact rfl); (case hi => repeat first|exact z5|apply z8); (case hj => exact rfl); intro _ _; go_simp)
  | ((with_reducible refine z1y ?hw ?h); (case hw => exact rfl); intro _ _; go_simp))
 go_cut [5] from 24 to 31 (fun v5 wx => ∃ g5 r31, v5 = .pointer (some ⟨g5, 0, none⟩) ∧ RfK r31 (spot x z.toNat) ∧ Ow w wx [(g5, zv 38 .i64 48 (r31)), (g3, zv 38 .i64 48 fun _ => 0), (g2, zv 32 .u64 24 fun _ => 0), (g1, Cs 24 #[.slice a n c, .int .i64 z])])
 case first =>
  go_wp2_with fail
  refine wp_region_noPanic ?_
  refine wp_region_held_drew (S := fun W => W.heap[g1]? = some (Cs 24 #[.slice a n c, .int .i64 z])) (by kernel_rfl) (H.out.drew.row 2 rfl) (fun hH => ?_)
  replace H := za H.out.drew
  generalize World.drew _ = w8 at *
  refine zh 0 24 (.pointer (some ⟨g1, 0, none⟩)) hH ?_
  refine y26 1 25 z27 rfl rfl rfl hH rfl rfl (fun _ h => h) rfl ?_
  refine zh 4 28 (.pointer (some ⟨g1, 1, none⟩)) hH ?_
  refine y26 5 29 z25 rfl rfl rfl hH rfl rfl (fun _ h => h) rfl ?_
  refine zK [2, 8] (zG rfl (fun K hK => ?_) (zG rfl (fun K hK => ?_) zJ))
  ·skip
   go_simp
   refine (y2n _).mono ?_
   rintro e wc ⟨r26, rfl, hv, hb⟩
   replace H := zd H hb
   have HV26 := za hv
   refine zc hK (zb H 2) fun hH => zK [3, 8] (zG rfl (fun K hK => ?_) (zG rfl (fun K hK => ?_) zJ))
   ·skip
    go_simp
    refine (z1a _ _ _ _ _ (Nat.le_trans HN.out (by omega)) ((HS.out.below H.out.bel).more H.out.bel.size) HV26.out).mono ?_
    rintro e wc ⟨r27, rfl, hv, hb⟩
    replace H := zd H hb
    have HV27 := za hv
    refine zc hK (zb H 2) fun hH => ?_
    try simp only [Act.put, qa, qb, qc]
    refine zK [6, 8] (zG rfl (fun K hK => ?_) (zG rfl (fun K hK => ?_) zJ))
    ·skip
     go_simp
     refine (tor_z _ _ H0.out HZ.out).mono ?_
     rintro e wc ⟨r30, rfl, hv, hb⟩
     replace H := zd H hb
     have HV30 := za hv
     refine zc hK (zb H 2) fun hH => zK [7, 8] (zG rfl (fun K hK => ?_) (zG rfl (fun K hK => ?_) zJ))
     ·skip
      go_simp
      refine (z1b _ HV27.out HV30.out).mono ?_
      rintro e wc ⟨r31, rfl, hv, hb⟩
      replace H := zd H hb
      have HV31 := za hv
      refine zc hK (zb H 2) fun hH => zn 8 rfl fun K hK => ?_
      refine zg 5 rfl z0w H.out rfl ?_
      intro w5 g5 H3 hb
      replace H := za H3
      refine zc hK (zb H 3) fun hH => ?_
      try simp only [Act.put, qa, qb, qc]
      refine zn 9 rfl fun K hK => ?_
      refine zu 0 rfl zD H.out rfl rfl rfl rfl ?_
      intro ws HS
      simp only [qb] at HS
      replace H := za HS
      refine zc hK (zb H 3) fun hH => ?_
      try simp only [qa]
      try simp only [Act.put]
      refine zm ?_
      clear HS HN H0 HZ HT
      go_wp2_with fail
      go_meet
      exact ⟨g5, r31, rfl, HV31.out, H.out⟩
     ·skip
      refine zg 5 rfl z0w H.out rfl ?_
      intro w5 g5 H3 hb
      replace H := za H3
      refine zc hK (zb H 3) fun hH => zn 7 rfl fun K hK => ?_
      go_simp
      refine (z1b _ HV27.out HV30.out).mono ?_
      rintro e wc ⟨r31, rfl, hv, hb⟩
      replace H := zd H hb
      have HV31 := za hv
      refine zc hK (zb H 3) fun hH => zn 9 rfl fun K hK => ?_
      refine zu 0 rfl zD H.out rfl rfl rfl rfl ?_
      intro ws HS
      simp only [qb] at HS
      replace H := za HS
      refine zc hK (zb H 3) fun hH => ?_
      try simp only [qa]
      try simp only [Act.put]
      refine zm ?_
      clear HS HN H0 HZ HT
      go_wp2_with fail
      go_meet
      exact ⟨g5, r31, rfl, HV31.out, H.out⟩
    ·skip
     refine zg 5 rfl z0w H.out rfl ?_
     intro w5 g5 H3 hb
     replace H := za H3
     refine zc hK (zb H 3) fun hH => ?_
     try simp only [Act.put, qa, qb, qc]
     refine zn 6 rfl fun K hK => ?_
     go_simp
     refine (tor_z _ _ H0.out HZ.out).mono ?_
     rintro e wc ⟨r30, rfl, hv, hb⟩
     replace H := zd H hb
     have HV30 := za hv
     refine zc hK (zb H 3) fun hH => zn 7 rfl fun K hK => ?_
     go_simp
     refine (z1b _ HV27.out HV30.out).mono ?_
     rintro e wc ⟨r31, rfl, hv, hb⟩
     replace H := zd H hb
     have HV31 := za hv
     refine zc hK (zb H 3) fun hH => zn 9 rfl fun K hK => ?_
     refine zu 0 rfl zD H.out rfl rfl rfl rfl ?_
     intro ws HS
     simp only [qb] at HS
     replace H := za HS
     refine zc hK (zb H 3) fun hH => ?_
     try simp only [qa]
     try simp only [Act.put]
     refine zm ?_
     clear HS HN H0 HZ HT
     go_wp2_with fail
     go_meet
     exact ⟨g5, r31, rfl, HV31.out, H.out⟩
   ·skip
    refine zg 5 rfl z0w H.out rfl ?_
    intro w5 g5 H3 hb
    replace H := za H3
    refine zc hK (zb H 3) fun hH => ?_
    try simp only [Act.put, qa, qb, qc]
    refine zn 3 rfl fun K hK => ?_
    go_simp
    refine (z1a _ _ _ _ _ (Nat.le_trans HN.out (by omega)) ((HS.out.below H.out.bel).more H.out.bel.size) HV26.out).mono ?_
    rintro e wc ⟨r27, rfl, hv, hb⟩
    replace H := zd H hb
    have HV27 := za hv
    refine zc hK (zb H 3) fun hH => zn 6 rfl fun K hK => ?_
    go_simp
    refine (tor_z _ _ H0.out HZ.out).mono ?_
    rintro e wc ⟨r30, rfl, hv, hb⟩
    replace H := zd H hb
    have HV30 := za hv
    refine zc hK (zb H 3) fun hH => zn 7 rfl fun K hK => ?_
    go_simp
    refine (z1b _ HV27.out HV30.out).mono ?_
    rintro e wc ⟨r31, rfl, hv, hb⟩
    replace H := zd H hb
    have HV31 := za hv
    refine zc hK (zb H 3) fun hH => ?_
    try simp only [Act.put, qa, qb, qc]
    refine zn 9 rfl fun K hK => ?_
    refine zu 0 rfl zD H.out rfl rfl rfl rfl ?_
    intro ws HS
    simp only [qb] at HS
    replace H := za HS
    refine zc hK (zb H 3) fun hH => ?_
    try simp only [qa]
    try simp only [Act.put]
    refine zm ?_
    clear HS HN H0 HZ HT
    go_wp2_with fail
    go_meet
    exact ⟨g5, r31, rfl, HV31.out, H.out⟩
  ·skip
   refine zg 5 rfl z0w H.out rfl ?_
   intro w5 g5 H3 hb
   replace H := za H3
   refine zc hK (zb H 3) fun hH => zn 2 rfl fun K hK => ?_
   go_simp
   refine (y2n _).mono ?_
   rintro e wc ⟨r26, rfl, hv, hb⟩
   replace H := zd H hb
   have HV26 := za hv
   refine zc hK (zb H 3) fun hH => zn 3 rfl fun K hK => ?_
   go_simp
   refine (z1a _ _ _ _ _ (Nat.le_trans HN.out (by omega)) ((HS.out.below H.out.bel).more H.out.bel.size) HV26.out).mono ?_
   rintro e wc ⟨r27, rfl, hv, hb⟩
   replace H := zd H hb
   have HV27 := za hv
   refine zc hK (zb H 3) fun hH => ?_
   try simp only [Act.put, qa, qb, qc]
   refine zn 6 rfl fun K hK => ?_
   go_simp
   refine (tor_z _ _ H0.out HZ.out).mono ?_
   rintro e wc ⟨r30, rfl, hv, hb⟩
   replace H := zd H hb
   have HV30 := za hv
   refine zc hK (zb H 3) fun hH => zn 7 rfl fun K hK => ?_
   go_simp
   refine (z1b _ HV27.out HV30.out).mono ?_
   rintro e wc ⟨r31, rfl, hv, hb⟩
   replace H := zd H hb
   have HV31 := za hv
   refine zc hK (zb H 3) fun hH => zn 9 rfl fun K hK => ?_
   refine zu 0 rfl zD H.out rfl rfl rfl rfl ?_
   intro ws HS
   simp only [qb] at HS
   replace H := za HS
   refine zc hK (zb H 3) fun hH => ?_
   try simp only [qa]
   try simp only [Act.put]
   refine zm ?_
   clear HS HN H0 HZ HT
   go_wp2_with fail
   go_meet
   exact ⟨g5, r31, rfl, HV31.out, H.out⟩
 clear H
 obtain ⟨g5, r31, rfl, hv31, HRR⟩ := hcut
 have HV31 := za hv31
 have H := za HRR
 clear HRR hv31
 go_upto_region 5 with (first
  | ((with_reducible apply zr zD H); (case hgd | ho | hx => exact rfl); (case hi => repeat first|exact z5|apply z8); intro _ _; go_simp)
  | ((fail_if_success have := mk1); (with_reducible refine (refEncode_k _ HV31.out).mono ?_); rintro e wc ⟨ge, ce, rfl, hs, hb⟩; replace H := zd H hb; have SE := za hs; have mk1 := trivial; clear hb hs)
  | ((fail_if_success have := mk2); (with_reducible refine (decode_on _ (HT.out.below H.out.bel) SE.out rfl).mono ?_); rintro e wc ⟨k1, rfl, hv, hb⟩; replace H := zd H hb; have V1 := za hv; have mk2 := trivial; clear hb hv)
  | ((fail_if_success have := g6); (with_reducible apply ze z1d H); (case hgd | ho => exact rfl); clear H; intro w6 g6 H _ _; go_simp)
  | ((with_reducible apply zj zH H); (case hgd | ho | hx | hy => exact rfl); (case hi => repeat first|exact z5|apply z8); clear H; intro ws H _ _; simp only [qb] at H; go_simp))
 clear SE mk1 mk2
 refine wp_region_noPanic ?_
 refine wp_region_held_drew (S := fun W => W.heap[g6]? = some (zv 32 .u64 24 (k1)) ∧ W.heap[g5]? = some (zv 38 .i64 48 (r31))) (by kernel_rfl) (⟨H.out.drew.row 0 rfl, H.out.drew.row 1 rfl⟩) (fun hH => ?_)
 replace H := za H.out.drew
 generalize World.drew _ = w8 at *
 refine zk 0 38 zH rfl rfl rfl hH rfl rfl (fun _ h => h.1) ?_
 try simp only [Act.put, qa, qb, qc]
 refine zk 1 39 zD rfl rfl rfl hH rfl rfl (fun _ h => h.2) ?_
 refine zh 2 40 (.int .i64 0) hH ?_
 refine zh 3 41 (.bool true) hH ?_
 refine zn 4 rfl fun K hK => ?_
 refine zu 3 rfl zH H.out rfl rfl rfl rfl ?_
 intro ws HS
 simp only [qb, qc] at HS
 replace H := za HS
 refine zc hK ⟨zb H 0, zb H 1⟩ fun hH => ?_
 try simp only [qa]
 refine zn 5 rfl fun K hK => ?_
 refine zu 2 rfl zD H.out rfl rfl rfl rfl ?_
 intro ws HS
 simp only [qb, qc] at HS
 replace H := za HS
 refine zc hK ⟨zb H 0, zb H 1⟩ fun hH => ?_
 try simp only [qa]
 refine zh 6 4 (.bool true) hH ?_
 refine zm ?_
 go_wp2_with fail
 exact bodyPost_ret (z1f 3 2 zH zD rfl _ H rfl rfl rfl rfl rfl) rfl ⟨_, _, rfl, V1.out, HV31.out, H.out.bel⟩
theorem made11_k {a : Option Addr} {n c x : Nat} {z : Int} (w : World) (hT : Tp w) (hs : Sb w w.heap.size a n c x) (hn : n ≤ 57) (h0 : 0 ≤ z) (hz : z ≤ 3) :
  Calls Tryz.prog 18 #[.agg #[.slice a n c, .int .i64 z]] w fun e w' => ∃ v r P, e = .returned (.tuple #[PO v, QO r, .bool true]) ∧ PtK v P ∧ RfK r P ∧ Below w.heap.size w w' :=
 (y5q w hT hs hn h0 hz).mono fun _ _ ⟨v, r, he, hv, hr, hb⟩ => ⟨v, r, _, he, hv, hr, hb⟩
def okS (n : Nat) (z : Int) : Bool := decide (n ≤ 57 ∧ 0 ≤ z ∧ z ≤ 3)
theorem made11_any {a : Option Addr} {n c x : Nat} {z : Int} {b : Bool} (hb : okS n z = b) (w : World) (hT : Tp w) (hs : Sb w w.heap.size a n c x) :
  Calls Tryz.prog 18 #[.agg #[.slice a n c, .int .i64 z]] w fun e w' => ∃ v r P, e = .returned (.tuple #[PO v, QO r, .bool b]) ∧ PtK v P ∧ RfK r P ∧ Below w.heap.size w w' := by
 by_cases h1 : 57 < n
 ·have e : okS n z = false := by unfold okS; exact decide_eq_false (by omega)
  rw [e] at hb
  subst hb
  exact made11_far w hT h1
 by_cases h2 : z < 0
 ·have e : okS n z = false := by unfold okS; exact decide_eq_false (by omega)
  rw [e] at hb
  subst hb
  exact made11_low w hT (by omega) h2
 by_cases h3 : 3 < z
 ·have e : okS n z = false := by unfold okS; exact decide_eq_false (by omega)
  rw [e] at hb
  subst hb
  exact made11_high w hT (by omega) (by omega) h3
 have e : okS n z = true := by unfold okS; exact decide_eq_true (by omega)
 rw [e] at hb
 subst hb
 exact made11_k w hT hs (by omega) (by omega) (by omega)
theorem z12 {a : Option Addr} {n c x : Nat} {z : Int} {b : Bool} (hb : okS n z = b) (w : World) (hT : Tp w) (hs : Sb w w.heap.size a n c x) :
  Calls Tryz.prog 18 #[.agg #[.slice a n c, .int .i64 z]] w fun e w' => ∃ v r P, e = .returned (.tuple #[PO v, QO r, .bool b]) ∧ PtK v P ∧ RfK r P ∧ (b = true → P = spot x z.toNat) ∧ Below w.heap.size w w' := by
 cases b with
 | false => exact (made11_any hb w hT hs).mono fun _ _ ⟨v, r, P, he, hv, hr, hb⟩ => ⟨v, r, P, he, hv, hr, (fun h => by cases h), hb⟩
 | true =>
  have h : n ≤ 57 ∧ 0 ≤ z ∧ z ≤ 3 := of_decide_eq_true hb
  exact (y5q w hT hs h.1 h.2.1 h.2.2).mono fun _ _ ⟨v, r, he, hv, hr, hb⟩ => ⟨v, r, _, he, hv, hr, (fun _ => rfl), hb⟩
end Go.Proofs.YtgjbonikbmgfmaaGreatDoor
