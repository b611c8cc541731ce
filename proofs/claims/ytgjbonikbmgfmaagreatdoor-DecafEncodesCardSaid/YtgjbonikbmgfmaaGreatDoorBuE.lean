/- Lemmas; no statement is proved here. -/
import Derived.Test.YtgjbonikbmgfmaaGreatDoorBuD
set_option maxRecDepth 8000
set_option maxHeartbeats 1600000
namespace Go.Proofs.YtgjbonikbmgfmaaGreatDoor
open Go.RowKit
theorem y03 {w : World} {B : Nat} {a : Option Addr} {n c : Nat} {f : Nat → BitVec 8} (hs : Sl w B a n c f) (hn : 0 < n) : ∃ b o, a = some ⟨b, o, none⟩ ∧ b < B ∧ ∀ i, i < n → w.cell? ⟨b, o + i, none⟩ = some (U (f i)) := by
 obtain ⟨b, o, rfl, hb, _⟩ := hs.get 0 hn
 refine ⟨b, o, rfl, hb, fun i hi => ?_⟩
 obtain ⟨b', o', e, _, hc⟩ := hs.get i hi
 have := Option.some.inj e
 injection this with e1 e2
 subst e1 e2
 exact hc
def oF (f : Nat → BitVec 8) (t k : Nat) : Nat := nB (fun j => f (7 * k + j)) (min 7 (t - 7 * k))
theorem oF_zero (f : Nat → BitVec 8) (k : Nat) : oF f 0 k = 0 := by
 unfold oF
 rw [Nat.zero_sub, Nat.min_zero]
 rfl
theorem oF_step (f : Nat → BitVec 8) (t : Nat) : updN (oF f t) (t / 7) (oF f t (t / 7) ||| (f t).toNat * 2 ^ (t % 7 * 8)) = oF f (t + 1) := by
 funext k
 unfold updN
 by_cases e : k = t / 7
 ·subst e
  rw [if_pos rfl]
  have e1 : min 7 (t - 7 * (t / 7)) = t % 7 := by omega
  have e2 : min 7 (t + 1 - 7 * (t / 7)) = t % 7 + 1 := by omega
  have e3 : 7 * (t / 7) + t % 7 = t := by omega
  unfold oF
  rw [e1, e2]
  rw [show nB (fun j => f (7 * (t / 7) + j)) (t % 7 + 1) = nB (fun j => f (7 * (t / 7) + j)) (t % 7) + (f (7 * (t / 7) + t % 7)).toNat * 256 ^ (t % 7) from rfl, e3]
  have hl := y4d (fun j => f (7 * (t / 7) + j)) (t % 7)
  rw [show (256 : Nat) = 2 ^ 8 from rfl, ← Nat.pow_mul, Nat.mul_comm 8] at hl ⊢
  rw [Nat.or_comm, Nat.mul_comm, ← Nat.two_pow_add_eq_or_of_lt hl, Nat.add_comm]
 ·rw [if_neg e]
  unfold oF
  congr 1
  omega
theorem oF_lt (f : Nat → BitVec 8) (t k : Nat) : oF f t k < 72057594037927936 :=
 Nat.lt_of_lt_of_le (y4d _ _) (Nat.pow_le_pow_right (n := 256) (by omega) (Nat.min_le_left 7 _))
theorem lv_oF (f : Nat → BitVec 8) : ∀ n, n ≤ 8 → lv (oF f 56) n = nB f (7 * n)
 | 0, _ => rfl
 | n + 1, hn => by
  rw [show lv (oF f 56) (n + 1) = lv (oF f 56) n + oF f 56 n * 72057594037927936 ^ n from rfl, lv_oF f n (by omega), show 7 * (n + 1) = 7 * n + 7 by omega, z7o, pow_56]
  unfold oF
  rw [show min 7 (56 - 7 * n) = 7 by omega]
  congr 1
  exact Nat.mul_comm _ _
theorem y9z (f : Nat → Nat) (i v : Nat) : updZ (NZ f) i (v : Int) = NZ (updN f i v) := by
 funext k
 unfold updZ NZ updN
 split <;> rfl
theorem y8y (f : Nat → BitVec 8) (t : Nat) : Lim (oF f t) := fun k _ => Nat.lt_of_lt_of_le (oF_lt f t k) (by omega)
theorem of_any (a : Option Addr) (c : Nat) (f : Nat → BitVec 8) (w : World) (hs : Sl w w.heap.size a 56 c f) :
  Calls Tryz.prog 120 #[.slice a 56 c] w fun e w' => e = .returned (.tuple #[EV (oF f 56), .int .i64 0]) ∧ Below w.heap.size w w' := by
 obtain ⟨b, o, rfl, hb, hcell⟩ := y03 hs (by omega)
 have HC := za hcell
 have Hb := za hb
 clear hs hcell hb
 have H := za (Ow.start w)
 go_enter Tryz.func120, Tryz.ntmps120
 go_wp2_with (first
  | ((fail_if_success have := g1); (with_reducible apply ze z9 H); (case hgd | ho => exact rfl); clear H; intro w1 g1 H _ _; go_simp)
  | ((fail_if_success have := g2); (with_reducible apply ze z9 H); (case hgd | ho => exact rfl); clear H; intro w2 g2 H _ _; go_simp))
 replace H := za (H.out.like 0 (g := NZ (oF f 0)) rfl fun k _ => by unfold NZ; rw [oF_zero]; rfl)
 simp only [qb] at H
 go_loopw [13] (fun v wr => ∃ i : Nat, i ≤ 56 ∧ v = .int .i64 i ∧ Ow w wr [(g2, zv 30 .u64 8 (NZ (oF f i))), (g1, zv 30 .u64 8 fun _ => 0)]) (fun v _ => 56 - (intOf v).toNat)
 case atStart => exact ⟨0, by omega, rfl, H.out⟩
 case round =>
  clear H
  obtain ⟨i, hi, rfl, HR⟩ := hrel
  by_cases hlt : i < 56
  ·have hid : decide ((i : Int) < 56) = true := by simp; omega
   have iN : (i : Int) < 56 := by omega
   have hc1 : wr.cell? ⟨b, o + i, none⟩ = some (U (f i)) := (HR.bel.cell (p := ⟨b, o + i, none⟩) Hb.out).trans (HC.out i hlt)
   obtain ⟨y, hy, hy2, hy3⟩ := y6t (f i)
   rw [show U (f i) = .int .u8 (y : Int) from congrArg (Value.int .u8) hy] at hc1
   have HY := za hy2
   have H1 := za HR
   clear HR hy hy2
   go_wp2_with fail
   refine wp_region_still_tail 13 (by kernel_rfl) (by kernel_rfl) ?_
   change wpStill _ _ wr.drew (fun a' => wpList _ _ _ _ a' wr.drew) _ _
   have D := za H1.out.drew
   clear H1 hc1
   generalize wr.drew = w8 at *
   have HS := za (oF_step f i)
   have hl := oF_lt f i (i / 7)
   have hl2 := oF_lt f (i + 1) (i / 7)
   rw [← HS.out, show updN (oF f i) (i / 7) (oF f i (i / 7) ||| (f i).toNat * 2 ^ (i % 7 * 8)) (i / 7) = oF f i (i / 7) ||| (f i).toNat * 2 ^ (i % 7 * 8) by unfold updN; rw [if_pos rfl]] at hl2
   rw [← HY.out] at HS hl2
   have hp : y * 2 ^ (i % 7 * 8) < 18446744073709551616 := by
    have h1 : 2 ^ (i % 7 * 8) ≤ 2 ^ 48 := Nat.pow_le_pow_right (by omega) (by omega)
    have h2 := Nat.mul_le_mul (show y ≤ 255 by omega) h1
    omega
   obtain ⟨q, hq⟩ : ∃ q, i / 7 = q := ⟨_, rfl⟩
   obtain ⟨s, hs⟩ : ∃ s, i % 7 * 8 = s := ⟨_, rfl⟩
   have eq1 : (i : Int) / 7 = (q : Int) := by omega
   have q8 : (q : Int) < 8 := by omega
   have q8' : q < 8 := by omega
   have f1 : IntKind.i64.wrap (q : Int) = (q : Int) := IntWalk.i64_in _ (by omega)
   rw [hq, hs] at HS hl2
   rw [hq] at hl
   rw [hs] at hp
   have hc := D.out.cell 0 rfl q q8'
   have hz := D.out.thaw 0 rfl q
   obtain ⟨x, hx⟩ : ∃ x, oF f i q = x := ⟨_, rfl⟩
   have nx : NZ (oF f i) q = (x : Int) := by rw [← hx]; rfl
   rw [nx] at hc
   rw [hx] at hl HS hl2
   obtain ⟨z, hz'⟩ : ∃ z, y * 2 ^ s = z := ⟨_, rfl⟩
   rw [hz'] at hp HS hl2
   have e1 : (y : Int) * 2 ^ s = (z : Int) := by rw [← hz', Int.natCast_mul, Int.natCast_pow]; rfl
   have e2 : IntKind.u64.wrap (z : Int) = (z : Int) := by rw [IntKind.wrap_u64]; omega
   have e0 : IntKind.u64.wrap (y : Int) = (y : Int) := by rw [IntKind.wrap_u64]; omega
   have e3 := u64_or_nat x z (by omega) hp
   obtain ⟨r, hr⟩ : ∃ r, x ||| z = r := ⟨_, rfl⟩
   rw [hr] at e3 HS hl2
   have sm : min s 64 = s := by omega
   have HU := za (D.out.setCell 0 rfl q (r : Int))
   rw [y9z, HS.out] at HU
   have HSs := za hs
   clear D hl hl2 hp hq hs hx nx hz' hr HS
   simp only [List.take_succ_cons, List.take_zero, List.drop_succ_cons, List.drop_zero]
   iterate 8 still_step
   still_call (up_any i _ (by omega) s HSs.out)
   iterate 4 still_step
   refine wpStill_nil ?_
   clear e0 e1 e2 e3 sm
   go_wp2_with fail
   go_roundw
   case rel => exact ⟨i + 1, by omega, by go_num, HU.out⟩
   case measure => simp [intOf]; omega
  ·obtain rfl : i = 56 := by omega
   clear hlt hi
   rw [show ((56 : Nat) : Int) = 56 from rfl]
   have H := za HR
   clear HR
   go_wp2_with (first
    | ((with_reducible apply zr zt H); (case hgd | ho | hx => exact rfl); (case hi => repeat first|exact z5|apply z8); intro _ _; go_simp)
    | ((with_reducible apply zj zt H); (case hgd | ho | hx | hy => exact rfl); (case hi => repeat first|exact z5|apply z8); clear H; intro ws H _ _; simp only [qb, qc] at H; go_simp))
   exact bodyPost_ret (z0c 1 zt rfl _ H rfl rfl rfl) rfl ⟨rfl, H.out.bel⟩
theorem lv_of (f : Nat → BitVec 8) : lv (oF f 56) 8 = nB f 56 := lv_oF f 8 (by omega)
theorem y1b (a : Option Addr) (c : Nat) (f : Nat → BitVec 8) (w : World) (hs : Sl w w.heap.size a 56 c f) (hp : pN ≤ nB f 56) :
  Calls Tryz.prog 58 #[.slice a 56 c] w fun e w' => e = .returned (.tuple #[EV fun _ => 0, .int .i64 12]) ∧ Below w.heap.size w w' := by
 have HS := za hs
 have HX := za (fun w => z6l (oF f 56) w (y8y f 56))
 have hx : exN (oF f 56) = 1 := by unfold exN; rw [lv_of, if_neg (by omega)]
 rw [hx] at HX
 clear hs hp hx
 have H := za (Ow.start w)
 go_enter Tryz.func58, Tryz.ntmps58
 go_wp2_with (first
  | ((with_reducible apply ze z9 H); (case hgd | ho => exact rfl); clear H; intro _ _ H _ _; go_simp)
  | ((with_reducible refine (of_any a c f _ ((HS.out.below H.out.bel).more H.out.bel.size)).mono ?_); rintro e wc ⟨rfl, hb⟩; replace H := zd H hb; clear hb)
  | ((with_reducible apply z2b); (case hgd | ho => exact rfl); intro _ _; go_simp)
  | ((with_reducible apply zj zt H); (case hgd | ho | hx | hy => exact rfl); (case hi => repeat first|exact z5|apply z8); clear H; intro ws H _ _; simp only [qb, qc] at H; go_simp)
  | ((with_reducible apply zr zt H); (case hgd | ho | hx => exact rfl); (case hi => repeat first|exact z5|apply z8); intro _ _; go_simp)
  | ((with_reducible refine (HX.out _).mono ?_); rintro e wc ⟨rfl, hb⟩; replace H := zd H hb; clear hb))
 exact bodyPost_ret (z0c 1 zt rfl _ H rfl rfl rfl) rfl ⟨rfl, H.out.bel⟩
theorem z5g (a : Option Addr) (c : Nat) (f : Nat → BitVec 8) (w : World) (hs : Sl w w.heap.size a 56 c f) (hp : nB f 56 < pN) :
  Calls Tryz.prog 58 #[.slice a 56 c] w fun e w' => e = .returned (.tuple #[EV (oF f 56), .int .i64 0]) ∧ Below w.heap.size w w' := by
 have HS := za hs
 have HX := za (fun w => z6l (oF f 56) w (y8y f 56))
 have hx : exN (oF f 56) = 0 := by unfold exN; rw [lv_of, if_pos hp]
 rw [hx] at HX
 clear hs hp hx
 have H := za (Ow.start w)
 go_enter Tryz.func58, Tryz.ntmps58
 go_wp2_with (first
  | ((with_reducible apply ze z9 H); (case hgd | ho => exact rfl); clear H; intro _ _ H _ _; go_simp)
  | ((with_reducible refine (of_any a c f _ ((HS.out.below H.out.bel).more H.out.bel.size)).mono ?_); rintro e wc ⟨rfl, hb⟩; replace H := zd H hb; clear hb)
  | ((with_reducible apply zj zt H); (case hgd | ho | hx | hy => exact rfl); (case hi => repeat first|exact z5|apply z8); clear H; intro ws H _ _; simp only [qb, qc] at H; go_simp)
  | ((with_reducible apply zr zt H); (case hgd | ho | hx => exact rfl); (case hi => repeat first|exact z5|apply z8); intro _ _; go_simp)
  | ((with_reducible refine (HX.out _).mono ?_); rintro e wc ⟨rfl, hb⟩; replace H := zd H hb; clear hb))
 exact bodyPost_ret (z0c 1 zt rfl _ H rfl rfl rfl) rfl ⟨rfl, H.out.bel⟩
def oneN (i : Nat) : Nat := if i = 0 then 1 else 0
theorem built_L1 (w : World) : (Instr.build 28 #[(0, .int .u64 1)]).run Tryz.prog w = .ok (.agg (AZ .u64 8 (NZ oneN))) w := by
 rw [y2e]
 go_simp
 simp [NZ, oneN]
section
variable {ops : Array Oper} {rest : List Oper} {o : Oper} {a : Act} {w : World} {Q : Exit → Act → World → Prop}
theorem lay_build_L1 (hgd : o.guard = none) {x : Operand} (ho : o.op = .build 28 #[(0, x)]) (hx : a.eval x = .int .u64 1)
  (k : ∀ K : Act → World → Prop, (∀ a w, wpList Tryz.prog ops Q rest a w → K a w) → K (a.put o.dst (.agg (AZ .u64 8 (NZ oneN)))) w) : wpList Tryz.prog ops Q (o :: rest) a w :=
 wpList_plain hgd fun K hK => by
  unfold Oper.wp execOp
  simp only [ho, List.map_toArray, List.map_cons, List.map_nil, hx, Sem.run_bind, built_L1, Result.andThen_ok]
  exact k K hK
end
theorem lim_one : Lim oneN := fun i _ => by unfold oneN; split <;> omega
theorem lv_one : lv oneN 8 = 1 := by decide +kernel
theorem int_any (n : Int) (w : World) (hT : Tp w) (h1 : -9223372036854775808 ≤ n) (h2 : n ≤ 9223372036854775807) :
  Calls Tryz.prog 75 #[.int .i64 n] w fun e w' => ∃ h, e = .returned (EV h) ∧ Lim h ∧ lv h 8 % pN = (n % pZ).toNat ∧ Below w.heap.size w w' := by
 have HT := za hT
 have HI := za (And.intro h1 h2)
 clear hT h1 h2
 have H := za (Ow.start w)
 go_enter Tryz.func75, Tryz.ntmps75
 go_wp2_with (first
  | ((with_reducible apply ze z9 H); (case hgd | ho => exact rfl); clear H; intro _ _ H _ _; go_simp)
  | ((with_reducible apply lay_build_L1); (case hgd | ho | hx => exact rfl); intro _ _; go_simp)
  | ((with_reducible apply z63); (case hgd | ho | hx => exact rfl); intro _ _; go_simp))
 refine (y2g oneN n _ (HT.out.below H.out.bel) lim_one HI.out.1 HI.out.2).mono ?_
 rintro e wc ⟨h, rfl, hl, hv, hb⟩
 replace H := zd H hb
 have HV := za (And.intro hl hv)
 clear hb hl hv
 go_wp2_with (first
  | ((with_reducible apply zj zt H); (case hgd | ho | hx | hy => exact rfl); (case hi => repeat first|exact z5|apply z8); clear H; intro ws H _ _; simp only [qb] at H; go_simp))
 refine bodyPost_ret (zy 0 zt rfl _ H rfl rfl) rfl ⟨h, rfl, HV.out.1, ?_, H.out.bel⟩
 rw [HV.out.2, lv_one, Nat.one_mul]
 refine Nat.mod_eq_of_lt ?_
 have h1 := Int.emod_lt_of_pos n (show (0 : Int) < pZ by decide)
 have h2 := Int.emod_nonneg n (show pZ ≠ 0 by decide)
 rw [y64] at h1 h2 ⊢
 omega
def Val (f : Nat → Nat) (x : Nat) : Prop := Lim f ∧ lv f 8 % pN = x
theorem Val.lt {f : Nat → Nat} {x : Nat} (h : Val f x) : x < pN := by rw [← h.2]; exact Nat.mod_lt _ z9y
theorem add_v {f g : Nat → Nat} {x y : Nat} (w : World) (hf : Val f x) (hg : Val g y) :
  Calls Tryz.prog 72 #[EV f, EV g] w fun e w' => ∃ h, e = .returned (EV h) ∧ Val h ((x + y) % pN) ∧ Below w.heap.size w w' :=
 (add_any f g w hf.1 hg.1).mono fun e w' ⟨h, he, hl, hv, hb⟩ => ⟨h, he, ⟨hl, by rw [hv, Nat.add_mod, hf.2, hg.2]⟩, hb⟩
theorem sub_p {a x y c b : Nat} (hc : c % pN = y) (hb : b % pN = x) (h : (a + c) % pN = b % pN) : a % pN = (x + (pN - y)) % pN := by
 subst hc hb
 unfold pN at *
 omega
theorem sub_v {f g : Nat → Nat} {x y : Nat} (w : World) (hT : Tp w) (hf : Val f x) (hg : Val g y) :
  Calls Tryz.prog 73 #[EV f, EV g] w fun e w' => ∃ h, e = .returned (EV h) ∧ Val h ((x + (pN - y)) % pN) ∧ Below w.heap.size w w' :=
 (y3v f g w hT hf.1 hg.1).mono fun _e _w' ⟨h, he, hl, hv, hb⟩ => ⟨h, he, ⟨hl, sub_p hg.2 hf.2 hv⟩, hb⟩
theorem neg_v {f : Nat → Nat} {x : Nat} (w : World) (hT : Tp w) (hf : Val f x) :
  Calls Tryz.prog 113 #[EV f] w fun e w' => ∃ h, e = .returned (EV h) ∧ Val h ((pN - x) % pN) ∧ Below w.heap.size w w' :=
 (y8n f w hT hf.1).mono fun e w' ⟨h, he, hl, hv, hb⟩ => ⟨h, he, ⟨hl, by
  have := sub_p (b := 0) hf.2 (x := 0) (Nat.zero_mod _) (by rw [hv, Nat.zero_mod])
  rwa [Nat.zero_add] at this⟩, hb⟩
theorem mul_v {f g : Nat → Nat} {x y : Nat} (w : World) (hf : Val f x) (hg : Val g y) :
  Calls Tryz.prog 71 #[EV f, EV g] w fun e w' => ∃ h, e = .returned (EV h) ∧ Val h (x * y % pN) ∧ Below w.heap.size w w' :=
 (mul_any f g w hf.1 hg.1).mono fun e w' ⟨h, he, hl, hv, hb⟩ => ⟨h, he, ⟨hl, by rw [hv, Nat.mul_mod, hf.2, hg.2]⟩, hb⟩
theorem square_v {f : Nat → Nat} {x : Nat} (w : World) (hf : Val f x) :
  Calls Tryz.prog 88 #[EV f] w fun e w' => ∃ h, e = .returned (EV h) ∧ Val h (x * x % pN) ∧ Below w.heap.size w w' :=
 (square_any f w hf.1).mono fun e w' ⟨h, he, hl, hv, hb⟩ => ⟨h, he, ⟨hl, by rw [hv, Nat.mul_mod, hf.2]⟩, hb⟩
theorem times_v {f : Nat → Nat} {x : Nat} (n : Int) (w : World) (hT : Tp w) (hf : Val f x) (h1 : -9223372036854775808 ≤ n) (h2 : n ≤ 9223372036854775807) :
  Calls Tryz.prog 76 #[EV f, .int .i64 n] w fun e w' => ∃ h, e = .returned (EV h) ∧ Val h (x * (n % pZ).toNat % pN) ∧ Below w.heap.size w w' :=
 (y2g f n w hT hf.1 h1 h2).mono fun e w' ⟨h, he, hl, hv, hb⟩ => ⟨h, he, ⟨hl, by rw [hv, ← Nat.mod_mul_mod, hf.2]⟩, hb⟩
theorem int_v (n : Int) (w : World) (hT : Tp w) (h1 : -9223372036854775808 ≤ n) (h2 : n ≤ 9223372036854775807) :
  Calls Tryz.prog 75 #[.int .i64 n] w fun e w' => ∃ h, e = .returned (EV h) ∧ Val h (n % pZ).toNat ∧ Below w.heap.size w w' :=
 (int_any n w hT h1 h2).mono fun _e _w' ⟨h, he, hl, hv, hb⟩ => ⟨h, he, ⟨hl, hv⟩, hb⟩
theorem equal_v {f g : Nat → Nat} {x y : Nat} (w : World) (hT : Tp w) (hf : Val f x) (hg : Val g y) :
  Calls Tryz.prog 122 #[EV f, EV g] w fun e w' => e = .returned (.bool (decide (x = y))) ∧ Below w.heap.size w w' :=
 (equal_any f g w hT hf.1 hg.1).mono fun e w' ⟨he, hb⟩ => ⟨by rw [he, hf.2, hg.2], hb⟩
theorem zero_v {f : Nat → Nat} {x : Nat} (w : World) (hf : Val f x) :
  Calls Tryz.prog 115 #[EV f] w fun e w' => e = .returned (.bool (decide (x = 0))) ∧ Below w.heap.size w w' :=
 (y4q f w hf.1).mono fun e w' ⟨he, hb⟩ => ⟨by rw [he, hf.2], hb⟩
theorem bytes_v {f : Nat → Nat} {x : Nat} (w : World) (hf : Val f x) :
  Calls Tryz.prog 80 #[EV f] w fun e w' => ∃ a c, e = .returned (.slice a 56 c) ∧ Sl w' w'.heap.size a 56 c (bX x) ∧ Below w.heap.size w w' :=
 (y1c f w hf.1).mono fun e w' ⟨v, he, ⟨g, c, hv, _, hs⟩, hb⟩ => ⟨some ⟨g, 0, none⟩, c, by rw [he, hv], by rw [hf.2] at hs; exact hs, hb⟩
theorem of_v (f : Nat → BitVec 8) : Val (oF f 56) (nB f 56 % pN) := ⟨y8y f 56, by rw [lv_of]⟩
theorem zero_val : Val (fun _ => 0) 0 := ⟨y5u, by rw [z8e, Nat.zero_mod]⟩
theorem rawSl {w : World} {g : Nat} {f : Nat → BitVec 8} {t : TypeId} (h : w.heap[g]? = some (zv t .u8 56 (UB f))) : Sl w w.heap.size (some ⟨g, 0, none⟩) 56 56 f := by
 have hr : w.heap[g]? = some (.cells (AZ .u8 56 (UB f)) t) := h
 refine ⟨Nat.le_refl _, (fun e => by cases e), fun ad e _ => ⟨g, 0, (Option.some.inj e).symm, z01 h, fun i hi => ?_⟩⟩
 rw [Nat.zero_add, cell_of_row _ _ _ _ _ _ hr, z1c _ _ _ _ hi]
 rfl
def eqZ (n : Nat) (f g : Nat → Int) : Bool := (List.range' 0 n).all fun i => f i == g i
section
variable {P : Program} {t e : TypeId} {n : Nat} {k : IntKind}
theorem z8m (hE : IsOne P e k) (f : Nat → Int) (i : Nat) (hi : i < n) (w : World) : (part e (AZ k n f) (i * 1)).run P w = .ok (.int k (f i)) w := by
 have hagg : (isAgg e).run P w = .ok false w := by
  unfold isAgg
  rw [Sem.run_bind, run_underlying hE.under w]
  rfl
 simp [part, Sem.run_bind, hagg, z1c k n f i hi]
theorem run_equal_ints (hu : P.underlying t = some (.array n e)) (hE : IsOne P e k) (d : Nat) (f g : Nat → Int) (w : World) :
  (Op.equalIn (d + 1 + 1) t (.agg (AZ k n f)) (.agg (AZ k n g))).run P w = .ok (eqZ n f g) w := by
 rw [Op.equalIn]
 simp only [Sem.run_bind, run_underlying hu, Result.andThen_ok]
 cases hq : P.info? e with
 | none => have := hE.size; simp [hq] at this
 | some q =>
  have hs : q.size = 1 := by have := hE.size; simpa [hq] using this
  have hz : ∀ w, (sizeOf e).run P w = .ok 1 w := fun w => by simp [sizeOf, typeInfo, hq, hs]
  simp only [hz, Result.andThen_ok, Std.Legacy.Range.forIn_eq_forIn_range', Std.Legacy.Range.size, Nat.sub_zero, Nat.add_sub_cancel, Nat.div_one]
  unfold eqZ
  have hall : ∀ i, i ∈ List.range' 0 n → i < n := fun i hi => by have := (List.mem_range'_1.1 hi).2; omega
  revert hall
  generalize List.range' 0 n = l
  intro hall
  induction l with
  | nil => simp
  | cons i l ih =>
   have hi : i < n := hall i (by simp)
   have ih' := ih fun j hj => hall j (by simp [hj])
   have he : (Op.equalIn (d + 1) e (.int k (f i)) (.int k (g i))).run P w = .ok (f i == g i) w := by
    rw [run_equalIn_int w d _ _ _ _ _ hE.under]
   simp only [List.forIn_cons, Sem.run_bind, z8m hE f i hi, z8m hE g i hi, Result.andThen_ok, he, List.all_cons]
   cases hb : (f i == g i)
   ·simp
   ·simp only [Bool.not_true, Bool.false_eq_true, if_false, Sem.run_pure, Result.andThen_ok, Bool.true_and]
    simpa using ih'
end
theorem eqF (f g : Nat → Int) (w : World) : (Op.equalIn 10000 36 (.agg (AZ .i64 16 f)) (.agg (AZ .i64 16 g))).run Tryz.prog w = .ok (eqZ 16 f g) w := run_equal_ints Tryz.underlying36 oneI 9998 f g w
attribute [local go_sem] eqF
theorem zero_dF : AZ .i64 16 (fun _ => 0) = AZ .i64 16 (dF 0) := z1w fun i _ => by unfold dF; rw [Nat.zero_div, Nat.zero_mod]; rfl
theorem built_F0 (w : World) : (Instr.build 36 #[]).run Tryz.prog w = .ok (.agg (AZ .i64 16 (dF 0))) w := by
 rw [← zero_dF, zeroF]
 exact run_build w 36 _ _ (by kernel_rfl)
section
variable {ops : Array Oper} {rest : List Oper} {o : Oper} {a : Act} {w : World} {Q : Exit → Act → World → Prop}
theorem z2u (hgd : o.guard = none) (ho : o.op = .build 36 #[])
  (k : ∀ K : Act → World → Prop, (∀ a w, wpList Tryz.prog ops Q rest a w → K a w) → K (a.put o.dst (.agg (AZ .i64 16 (dF 0)))) w) : wpList Tryz.prog ops Q (o :: rest) a w :=
 wpList_plain hgd fun K hK => by
  unfold Oper.wp execOp
  simp only [ho, Array.map_empty, Sem.run_bind, built_F0, Result.andThen_ok]
  exact k K hK
end
end Go.Proofs.YtgjbonikbmgfmaaGreatDoor
