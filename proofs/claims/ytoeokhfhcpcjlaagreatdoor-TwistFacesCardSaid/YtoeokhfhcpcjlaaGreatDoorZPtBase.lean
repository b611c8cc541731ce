/-
 The base's texts: the contracts of package point's Base and of the reference's hex and Base. No statement is proved here: lemmas for the walks.
-/
import Derived.Test.YtoeokhfhcpcjlaaGreatDoorZPtTold
import Derived.Test.YtoeokhfhcpcjlaaGreatDoorZRfPt
import Derived.Deep.LoopGhost
set_option maxRecDepth 8000
set_option maxHeartbeats 3200000
namespace Go.Proofs.YtoeokhfhcpcjlaaGreatDoor
open Go.RowKit
def chX : List Nat := [52, 102, 49, 57, 55, 48, 99, 54, 54, 98, 101, 100, 48, 100, 101, 100, 50, 50, 49, 100, 49, 53, 97, 54, 50, 50, 98, 102, 51, 54, 100, 97, 57, 101, 49, 52, 54, 53, 55, 48, 52, 55, 48, 102, 49, 55, 54, 55, 101, 97, 54, 100, 101, 51, 50, 52, 97, 51, 100, 51, 97, 52, 54, 52, 49, 50, 97, 101, 49, 97, 102, 55, 50, 97, 98, 54, 54, 53, 49, 49, 52, 51, 51, 98, 56, 48, 101, 49, 56, 98, 48, 48, 57, 51, 56, 101, 50, 54, 50, 54, 97, 56, 50, 98, 99, 55, 48, 99, 99, 48, 53, 101]
def txX : ByteArray := ⟨#[52, 102, 49, 57, 55, 48, 99, 54, 54, 98, 101, 100, 48, 100, 101, 100, 50, 50, 49, 100, 49, 53, 97, 54, 50, 50, 98, 102, 51, 54, 100, 97, 57, 101, 49, 52, 54, 53, 55, 48, 52, 55, 48, 102, 49, 55, 54, 55, 101, 97, 54, 100, 101, 51, 50, 52, 97, 51, 100, 51, 97, 52, 54, 52, 49, 50, 97, 101, 49, 97, 102, 55, 50, 97, 98, 54, 54, 53, 49, 49, 52, 51, 51, 98, 56, 48, 101, 49, 56, 98, 48, 48, 57, 51, 56, 101, 50, 54, 50, 54, 97, 56, 50, 98, 99, 55, 48, 99, 99, 48, 53, 101]⟩
theorem hexX : Hex txX (fun i => chX.getD i 0) bxN := ⟨by decide +kernel, by decide +kernel, by decide +kernel, by decide +kernel, by decide +kernel⟩
def chY : List Nat := [54, 57, 51, 102, 52, 54, 55, 49, 54, 101, 98, 54, 98, 99, 50, 52, 56, 56, 55, 54, 50, 48, 51, 55, 53, 54, 99, 57, 99, 55, 54, 50, 52, 98, 101, 97, 55, 51, 55, 51, 54, 99, 97, 51, 57, 56, 52, 48, 56, 55, 55, 56, 57, 99, 49, 101, 48, 53, 97, 48, 99, 50, 100, 55, 51, 97, 100, 51, 102, 102, 49, 99, 101, 54, 55, 99, 51, 57, 99, 52, 102, 100, 98, 100, 49, 51, 50, 99, 52, 101, 100, 55, 99, 56, 97, 100, 57, 56, 48, 56, 55, 57, 53, 98, 102, 50, 51, 48, 102, 97, 49, 52]
def txY : ByteArray := ⟨#[54, 57, 51, 102, 52, 54, 55, 49, 54, 101, 98, 54, 98, 99, 50, 52, 56, 56, 55, 54, 50, 48, 51, 55, 53, 54, 99, 57, 99, 55, 54, 50, 52, 98, 101, 97, 55, 51, 55, 51, 54, 99, 97, 51, 57, 56, 52, 48, 56, 55, 55, 56, 57, 99, 49, 101, 48, 53, 97, 48, 99, 50, 100, 55, 51, 97, 100, 51, 102, 102, 49, 99, 101, 54, 55, 99, 51, 57, 99, 52, 102, 100, 98, 100, 49, 51, 50, 99, 52, 101, 100, 55, 99, 56, 97, 100, 57, 56, 48, 56, 55, 57, 53, 98, 102, 50, 51, 48, 102, 97, 49, 52]⟩
theorem hexY : Hex txY (fun i => chY.getD i 0) byN := ⟨by decide +kernel, by decide +kernel, by decide +kernel, by decide +kernel, by decide +kernel⟩
theorem z9p (n : Nat) (w : World) (h : (48 ≤ n ∧ n < 58) ∨ (97 ≤ n ∧ n < 103)) :
  Calls Tryz.prog 116 #[.int .u8 (n : Int)] w fun e w' => e = .returned (.int .i64 ((hxd n : Nat) : Int)) ∧ w' = w := by
 rcases h with ⟨h1, h2⟩ | ⟨h1, h2⟩
 ·have d1 : decide ((97 : Int) ≤ (n : Int)) = false := by simp; omega
  have HE : Hid (((hxd n : Nat) : Int) = (n : Int) - 48) := Lib.hid (by unfold hxd; rw [if_neg (by omega)]; omega)
  have f1 : IntKind.u8.wrap ((n : Int) - 48) = (n : Int) - 48 := by rw [IntKind.wrap_u8]; omega
  go_enter Tryz.func116, Tryz.ntmps116
  go_wp2
  go_ret
  exact ⟨by rw [HE.out]; rfl, rfl⟩
 ·have d1 : decide ((97 : Int) ≤ (n : Int)) = true := by simp; omega
  have HE : Hid (((hxd n : Nat) : Int) = (n : Int) - 97 + 10) := Lib.hid (by unfold hxd; rw [if_pos h1]; omega)
  have f1 : IntKind.u8.wrap ((n : Int) - 97) = (n : Int) - 97 := by rw [IntKind.wrap_u8]; omega
  go_enter Tryz.func116, Tryz.ntmps116
  go_wp2
  go_ret
  exact ⟨by rw [HE.out]; rfl, rfl⟩
theorem hex_v {S : ByteArray} {c : Nat → Nat} {x : Nat} (w : World) (hX : Hex S c x) :
  Calls Tryz.prog 87 #[.string S] w fun e w' => e = .returned (FV (cN pN x).val) ∧ Below w.heap.size w w' := by
 have HX := Lib.hid hX
 have HN : Hid (nB (bt x) 56 % pN = (cN pN x).val) := Lib.hid (by rw [hX.nB]; rfl)
 have hsz := hX.size
 clear hX
 have H := Lib.hid (Ow.start w)
 go_enter Tryz.func87, Tryz.ntmps87
 go_wp2_with (first
  | ((fail_if_success have := g1); (fail_if_success have := g1); (with_reducible apply z0b intsF.zero H); (case hgd | ho => exact rfl); clear H; intro w1 g1 H _ _; go_simp))
 clear hsz
 go_loopw [3, 4] (fun v3 v4 wr => ∃ k : Nat, k ≤ 56 ∧ v4 = .int .i64 (110 - 2 * (k : Int)) ∧ OwnB wr w1.heap.size v3 k (bt x) ∧ Below w1.heap.size w1 wr) (fun _ v4 _ => (intOf v4 + 2).toNat)
 case atStart => exact ⟨0, by omega, by go_num, OwnB.nil _ _ _, Below.refl _ _⟩
 case round =>
  obtain ⟨k, hk, rfl, HO, HB⟩ := hrel
  have HO := Lib.hid HO
  have HB := Lib.hid HB
  by_cases hlt : k < 56
  ·obtain ⟨i, hi⟩ : ∃ i, 110 - 2 * k = i := ⟨_, rfl⟩
   have ei : 110 - 2 * (k : Int) = (i : Int) := by omega
   rw [ei]
   have hid : decide ((0 : Int) ≤ (i : Int)) = true := by simp
   have q1 := HX.out.has i (by omega)
   have q2 := HX.out.has (i + 1) (by omega)
   have o1 := HX.out.ok i (by omega)
   have o2 := HX.out.ok (i + 1) (by omega)
   have pr := HX.out.pair k hlt
   rw [hi, show 111 - 2 * k = i + 1 by omega] at pr
   obtain ⟨c1, h1⟩ : ∃ u, c i = u := ⟨_, rfl⟩
   obtain ⟨c2, h2⟩ : ∃ u, c (i + 1) = u := ⟨_, rfl⟩
   rw [h1] at q1 o1 pr
   rw [h2] at q2 o2 pr
   have HD1 := Lib.hid (fun w => z9p c1 w o1)
   have HD2 := Lib.hid (fun w => z9p c2 w o2)
   have T1 : Hid (c1 < 256) := Lib.hid (by omega)
   have T2 : Hid (c2 < 256) := Lib.hid (by omega)
   have Q1 := Lib.hid q1
   have Q2 := Lib.hid q2
   clear q1 q2
   obtain ⟨d1, hd1⟩ : ∃ d, hxd c1 = d := ⟨_, rfl⟩
   obtain ⟨d2, hd2⟩ : ∃ d, hxd c2 = d := ⟨_, rfl⟩
   rw [hd1] at pr HD1
   rw [hd2] at pr HD2
   have hg := dg_lt x k
   obtain ⟨y, hy⟩ : ∃ y, dg x k = y := ⟨_, rfl⟩
   rw [hy] at pr hg
   have HY : Hid (U8 (bt x k) = (y : Int)) := Lib.hid (by rw [← hy]; exact U8_bt x k)
   have f0 : IntKind.i64.wrap ((i : Int) + 1) = ((i + 1 : Nat) : Int) := (IntWalk.i64_in _ (by omega)).trans (by omega)
   have f1 : IntKind.i64.wrap (16 * (d1 : Int)) = 16 * (d1 : Int) := IntWalk.i64_in _ (by omega)
   have f2 : IntKind.i64.wrap (16 * (d1 : Int) + (d2 : Int)) = (y : Int) := (IntWalk.i64_in _ (by omega)).trans (by omega)
   have f3 : IntKind.u8.wrap (y : Int) = (y : Int) := by rw [IntKind.wrap_u8]; omega
   have Hi : Hid ((i : Int) - 2 = 110 - 2 * ((k + 1 : Nat) : Int)) := Lib.hid (by omega)
   have i54 : (i : Int) ≤ 110 := by omega
   have e1 : (i : Int) < 112 := by omega
   have Hk : Hid (k + 1 ≤ 56) := Lib.hid (by omega)
   have k28 : k ≤ 100000 := by omega
   clear o1 o2 h1 h2 hd1 hd2 hy pr hg ei hi hlt hk
   go_wp2_with fail
   refine wp_region_noPanic ?_
   refine wp_region_held_drew (S := fun _ => True) (by kernel_rfl) trivial (fun hH => ?_)
   replace HO := Lib.hid HO.out.drew
   replace HB := Lib.hid (Below.drew HB.out)
   generalize World.drew _ = w8 at *
   have hz : w1.heap.size ≤ w8.heap.size := HB.out.size
   refine z0a 0 12 (u3) rfl rfl rfl hH (fun w hw => by go_simp) ?_
   try simp only [Act.put, qa, qb, qc]
   refine z0a 1 13 (.string S) rfl rfl rfl hH (fun w hw => by go_simp) ?_
   try simp only [Act.put, qa, qb, qc]
   refine z0a 2 14 (.int .i64 i) rfl rfl rfl hH (fun w hw => by go_simp) ?_
   try simp only [Act.put, qa, qb, qc]
   refine z0a 3 15 (.int .u8 (c1 : Int)) rfl rfl rfl hH (fun w hw => by exact z5r rfl rfl rfl Q1.out T1.out w) ?_
   try simp only [Act.put, qa, qb, qc]
   refine z0a 6 18 (.string S) rfl rfl rfl hH (fun w hw => by go_simp) ?_
   try simp only [Act.put, qa, qb, qc]
   refine z0a 7 19 (.int .i64 i) rfl rfl rfl hH (fun w hw => by go_simp) ?_
   try simp only [Act.put, qa, qb, qc]
   refine z0a 8 20 (.int .i64 ((i + 1 : Nat) : Int)) rfl rfl rfl hH (fun w hw => by go_simp) ?_
   try simp only [Act.put, qa, qb, qc]
   refine z0a 9 21 (.int .u8 (c2 : Int)) rfl rfl rfl hH (fun w hw => by exact z5r rfl rfl rfl Q2.out T2.out w) ?_
   try simp only [Act.put, qa, qb, qc]
   refine rd1 4 rfl fun K hK => ?_
   go_simp
   refine (HD1.out _).mono ?_
   rintro e wc ⟨rfl, rfl⟩
   clear hH
   refine hK.out _ _ (trivial) fun hH => ?_
   clear hK K
   try simp only [Act.put, qa, qb, qc]
   refine z0a 5 17 (.int .i64 (16 * (d1 : Int))) rfl rfl rfl hH (fun w hw => by go_simp) ?_
   try simp only [Act.put, qa, qb, qc]
   refine rd1 10 rfl fun K hK => ?_
   go_simp
   refine (HD2.out _).mono ?_
   rintro e wc ⟨rfl, rfl⟩
   clear hH
   refine hK.out _ _ (trivial) fun hH => ?_
   clear hK K
   try simp only [Act.put, qa, qb, qc]
   refine z0a 11 23 (.int .i64 (y : Int)) rfl rfl rfl hH (fun w hw => by go_simp) ?_
   try simp only [Act.put, qa, qb, qc]
   refine z0a 12 24 (U (bt x k)) rfl rfl rfl hH (fun w hw => by (go_simp; exact HY.out.symm)) ?_
   try simp only [Act.put, qa, qb, qc]
   refine rd1 13 rfl fun K hK => ?_
   refine wp_oneByte 25 rfl (v := bt x k) rfl rfl ?_
   intro wb gb hc he
   replace HO := Lib.hid (HO.out.made he)
   replace HB := Lib.hid (Below.made HB.out hz he)
   have HC := Lib.hid hc
   clear hc he hz
   clear hH
   refine hK.out _ _ (trivial) fun hH => ?_
   clear hK K
   try simp only [Act.put, qa, qb, qc]
   refine rd1 14 rfl fun K hK => ?_
   refine wp_appendB 26 rfl rfl rfl rfl HC.out HO.out k28 HB.out.size ?_
   intro v' wq ho hb
   clear hH
   refine hK.out _ _ (trivial) fun hH => ?_
   clear hK K
   try simp only [Act.put, qa, qb, qc]
   refine z0a 15 3 (v') rfl rfl rfl hH (fun w hw => by go_simp) ?_
   try simp only [Act.put, qa, qb, qc]
   try simp only [Act.put]
   refine wpAnyH_done (by kernel_rfl) ?_ _
   refine NoPanic.normal ?_
   clear hH
   clear f0 f1 f2 f3
   go_wp2_with fail
   go_roundw
   case rel => exact ⟨k + 1, Hk.out, congrArg (Value.int .i64) Hi.out, ho, HB.out.trans hb⟩
   case measure => (simp [intOf] <;> omega)
  ·obtain rfl : k = 56 := by omega
   obtain ⟨a2, c2, rfl, hsl⟩ := HO.out.any
   have HS := Lib.hid hsl
   replace H := Lib.hid (H.out.call HB.out)
   clear hsl hlt hk HO HB
   rw [show 110 - 2 * ((56 : Nat) : Int) = -2 from rfl]
   go_wp2_with (first
    | ((with_reducible refine (refOf_any a2 c2 (bt x) _ HS.out).mono ?_); rintro e wc ⟨rfl, hb⟩; replace H := hcall H hb; clear hb)
    | ((with_reducible apply z0e rowF H); (case hgd | ho | hx | hy => exact rfl); (case hi => repeat first|exact at0|apply atS); clear H; intro ws H _ _; simp only [qb] at H; go_simp))
   rw [HN.out] at H
   exact bodyPost_ret (z0i 0 rowF rfl _ H rfl rfl) rfl ⟨rfl, H.out.bel⟩
theorem base_k (w : World) (hT : Tp w) :
  Calls Tryz.prog 43 #[] w fun e w' => ∃ r, e = .returned (PO r) ∧ PtK r pB ∧ Below w.heap.size w w' := by
 have HT := Lib.hid hT
 clear hT
 obtain ⟨S1, h1⟩ : ∃ S, txX = S := ⟨_, rfl⟩
 obtain ⟨S2, h2⟩ : ∃ S, txY = S := ⟨_, rfl⟩
 have HX := Lib.hid hexX
 have HY := Lib.hid hexY
 rw [h1] at HX
 rw [h2] at HY
 unfold txX at h1
 unfold txY at h2
 have H := Lib.hid (Ow.start w)
 go_enter Tryz.func43, Tryz.ntmps43
 go_wp2_with (first
  | ((fail_if_success have := g1); (with_reducible apply z0b nilPt H); (case hgd | ho => exact rfl); clear H; intro w1 g1 H _ _; go_simp)
  | ((fail_if_success have := V1); (with_reducible refine (told_v _ HX.out).mono ?_); rintro e wc ⟨k1, rfl, hv, hb⟩; replace H := hcall H hb; clear hb; have V1 := Lib.hid hv; clear hv)
  | ((fail_if_success have := V2); (with_reducible refine (told_v _ HY.out).mono ?_); rintro e wc ⟨k2, rfl, hv, hb⟩; replace H := hcall H hb; clear hb; have V2 := Lib.hid hv; clear hv)
  | ((fail_if_success have := V3); (with_reducible refine (int_k 1 _ (HT.out.below H.out.bel) (by omega) (by omega)).mono ?_); rintro e wc ⟨k3, rfl, hv, hb⟩; replace H := hcall H hb; clear hb; have V3 := Lib.hid hv; clear hv)
  | ((with_reducible apply z4v); (case hgd | ho | hx | hy | hz => exact rfl); intro _ _; go_simp)
  | ((with_reducible apply z0e rowPt H); (case hgd | ho | hx | hy => exact rfl); (case hi => repeat first|exact at0|apply atS); clear H; intro ws H _ _; simp only [qb] at H; go_simp))
 exact bodyPost_ret (z0i 0 rowPt rfl _ H rfl rfl) rfl ⟨_, rfl, ⟨_, _, _, _, _, _, rfl, V1.out, V2.out, V3.out.eq z0t, Rp.one edK pB⟩, H.out.bel⟩
theorem z67 (w : World) :
  Calls Tryz.prog 47 #[] w fun e w' => ∃ r, e = .returned (QO r) ∧ RfK r pB ∧ Below w.heap.size w w' := by
 obtain ⟨S1, h1⟩ : ∃ S, txX = S := ⟨_, rfl⟩
 obtain ⟨S2, h2⟩ : ∃ S, txY = S := ⟨_, rfl⟩
 have HX := Lib.hid hexX
 have HY := Lib.hid hexY
 rw [h1] at HX
 rw [h2] at HY
 unfold txX at h1
 unfold txY at h2
 have H := Lib.hid (Ow.start w)
 go_enter Tryz.func47, Tryz.ntmps47
 go_wp2_with (first
  | ((fail_if_success have := g1); (with_reducible apply z0b nilQt H); (case hgd | ho => exact rfl); clear H; intro w1 g1 H _ _; go_simp)
  | ((with_reducible refine (hex_v _ HX.out).mono ?_); rintro e wc ⟨rfl, hb⟩; replace H := hcall H hb; clear hb)
  | ((with_reducible refine (hex_v _ HY.out).mono ?_); rintro e wc ⟨rfl, hb⟩; replace H := hcall H hb; clear hb)
  | ((with_reducible refine (z1d _ 1 (by omega) (by omega)).mono ?_); rintro e wc ⟨rfl, hb⟩; replace H := hcall H hb; clear hb)
  | ((with_reducible apply z1h); (case hgd | ho | hx | hy | hz => exact rfl); intro _ _; go_simp)
  | ((with_reducible apply z0e rowQt H); (case hgd | ho | hx | hy => exact rfl); (case hi => repeat first|exact at0|apply atS); clear H; intro ws H _ _; simp only [qb] at H; go_simp))
 exact bodyPost_ret (z0i 0 rowQt rfl _ H rfl rfl) rfl ⟨_, rfl, ⟨_, _, _, rfl, by rw [z0t]; exact Rp.one edK pB⟩, H.out.bel⟩
end Go.Proofs.YtoeokhfhcpcjlaaGreatDoor
