/- Lemmas; no statement is proved here. -/
import Derived.Test.YtgjbonikbmgfmaaGreatDoorQO
import Derived.Test.YtgjbonikbmgfmaaGreatDoorQK
import Derived.Test.YtgjbonikbmgfmaaGreatDoorQAdem2
import Derived.Test.YtgjbonikbmgfmaaGreatDoorZElB
set_option maxRecDepth 20000
set_option maxHeartbeats 1600000
namespace Go.Proofs.YtgjbonikbmgfmaaGreatDoor
open Go.ChangeShapes Go.WideShapes Go.ChangeAt Go.RowKit
section
variable {H : Type} {enc : TypeId × Value → H} {P : Program}
theorem open_bytes {t e : TypeId} (ht : P.underlying t = some (.slice e)) (he : P.underlying e = some (.int .u8)) (hce : P.cellsOf e = 1) {W : World} {base : Nat} {v : Value} {d : DataW H} {p : List MemPlace}
  (hv : Value.okWide P W .any base t v) (h : DataW.Trod enc P W 0 (fun _ => true) true t v d p) : ∃ a n c g, v = .slice a n c ∧ n ≤ maxLen ∧ Sl W W.heap.size a n c g := by
 obtain ⟨a0, len, cap, rfl⟩ := okWide_slice ht hv
 obtain ⟨fuel, hf⟩ := h
 rcases open_ints ht he hce hf with ⟨hcs, _⟩ | ⟨a, len', cap', zs, hcs, _, hl, hm, hz, _, hcell, hwz⟩
 ·simp [Value.cells] at hcs
  obtain ⟨rfl, rfl, rfl⟩ := hcs
  exact ⟨none, 0, 0, fun _ => 0, rfl, Nat.zero_le _, Nat.le_refl _, fun _ => rfl, fun _ e _ => by cases e⟩
 ·simp [Value.cells] at hcs
  obtain ⟨rfl, rfl, rfl⟩ := hcs
  simp only [if_true] at hz
  refine ⟨some a, len, cap, fun i => BitVec.ofInt 8 (zs.getD i 0), rfl, Nat.le_trans hl hm, hl, (fun e => by cases e), fun ad e h0 => ?_⟩
  obtain rfl := Option.some.inj e
  have c0 := hcell 0 (by omega)
  obtain ⟨b, o, sp⟩ := a
  have hsp : sp = none := by
   cases sp with
   | none => rfl
   | some k =>
    exfalso
    unfold World.cell? at c0
    simp [Addr.add] at c0
    split at c0 <;> simp_all
  subst hsp
  refine ⟨b, o, rfl, ?_, fun i hi => ?_⟩
  ·have := block_lt_of_cell c0
   simpa [Addr.add] using this
  ·have hc := hcell i (by omega)
   have hadd : (⟨b, o, none⟩ : Addr).add i = ⟨b, o + i, none⟩ := by unfold Addr.add; split <;> simp_all
   rw [hadd] at hc
   rw [hc]
   have hw := hwz (zs.getD i 0) (by rw [List.getD_eq_getElem?_getD, List.getElem?_eq_getElem (by omega)]; exact List.getElem_mem _)
   have hb := bounds_u8 hw
   obtain ⟨k, hk⟩ := Int.eq_ofNat_of_zero_le hb.1
   show some (Value.int .u8 (zs.getD i 0)) = some (Value.int .u8 (U8 (BitVec.ofInt 8 (zs.getD i 0))))
   rw [hk, U8, BitVec.ofInt_natCast, BitVec.toNat_ofNat, Nat.mod_eq_of_lt (by omega)]
end
open Go.RowKit
section
variable {P : Program} {ops : Array Oper} {rest : List Oper} {o : Oper} {a : Act} {w w0 : World} {l : List (Nat × Obj)} {Q : Exit → Act → World → Prop} {t ty : TypeId} {k : IntKind} {n : Nat}
theorem z91 {i : Nat} (hT : IsRow P ty n) (H : Hid (Ow w0 w l)) (hw : Region.wanted o (yielded ops a.tmps) = true) {x : Operand} (ho : o.op = .load ty x) {g : Nat} (hx : a.eval x = .pointer (some ⟨g, 0, none⟩)) {f : Nat → Int}
  (hi : l[i]? = some (g, zv t k n f)) (h : ∀ K : Act → World → Prop, (∀ a w, wpList P ops Q rest a w → K a w) → K (a.put o.dst (.agg (AZ k n f))) w) : wpList P ops Q (o :: rest) a w :=
 z60 hw fun K hK => by
  unfold Oper.wp execOp
  simp only [ho, hx, Sem.run_bind, z4i hT (H.out.row i hi), Result.andThen_ok]
  exact h K hK
end
theorem of_bad (a : Option Addr) (n c : Nat) (w : World) (hn : n ≠ 56) :
  Calls Tryz.prog 120 #[.slice a n c] w fun e w' => e = .returned (.tuple #[EV fun _ => 0, .int .i64 11]) ∧ Below w.heap.size w w' := by
 have hd : ((n : Int) != 56) = true := by rw [bne_iff_ne]; omega
 clear hn
 have H := za (Ow.start w)
 go_enter Tryz.func120, Tryz.ntmps120
 go_wp2_with (first
  | ((with_reducible apply ze z9 H); (case hgd | ho => exact rfl); clear H; intro _ _ H _ _; go_simp)
  | ((with_reducible apply z2b); (case hgd | ho => exact rfl); intro _ _; go_simp)
  | ((with_reducible apply zj zt H); (case hgd | ho | hx | hy => exact rfl); (case hi => repeat first|exact z5|apply z8); clear H; intro ws H _ _; simp only [qb] at H; go_simp))
 exact bodyPost_ret (z0c 0 zt rfl _ H rfl rfl rfl) rfl ⟨rfl, H.out.bel⟩
theorem decode_bad (a : Option Addr) (n c : Nat) (w : World) (hn : n ≠ 56) :
  Calls Tryz.prog 58 #[.slice a n c] w fun e w' => e = .returned (.tuple #[EV fun _ => 0, .int .i64 11]) ∧ Below w.heap.size w w' := by
 have HO := za (fun w => of_bad a n c w hn)
 clear hn
 have H := za (Ow.start w)
 go_enter Tryz.func58, Tryz.ntmps58
 go_wp2_with (first
  | ((with_reducible apply ze z9 H); (case hgd | ho => exact rfl); clear H; intro _ _ H _ _; go_simp)
  | ((with_reducible refine (HO.out _).mono ?_); rintro e wc ⟨rfl, hb⟩; replace H := zd H hb; clear hb)
  | ((with_reducible apply z2b); (case hgd | ho => exact rfl); intro _ _; go_simp)
  | ((with_reducible apply zj zt H); (case hgd | ho | hx | hy => exact rfl); (case hi => repeat first|exact z5|apply z8); clear H; intro ws H _ _; simp only [qb, qc] at H; go_simp))
 exact bodyPost_ret (z0c 1 zt rfl _ H rfl rfl rfl) rfl ⟨rfl, H.out.bel⟩
section
variable {f g : Nat → Nat} {a b : K}
theorem equal_kf (w : World) (hT : Tp w) (hf : EK f a) (hg : EK g b) (h : a ≠ b) :
  Calls Tryz.prog 122 #[EV f, EV g] w fun e w' => e = .returned (.bool false) ∧ Below w.heap.size w w' :=
 (z8g w hT hf hg).mono fun _ _ ⟨he, hb⟩ => ⟨by rw [he, decide_eq_false h], hb⟩
end
theorem built_pt0 (w : World) : (Instr.build 32 #[]).run Tryz.prog w = .ok (.agg (AZ .u64 24 fun _ => 0)) w :=
 run_build w _ _ _ (by kernel_rfl)
section
variable {ops : Array Oper} {rest : List Oper} {o : Oper} {a : Act} {w : World} {Q : Exit → Act → World → Prop}
theorem lay_build_pt0 (hgd : o.guard = none) (ho : o.op = .build 32 #[])
  (k : ∀ K : Act → World → Prop, (∀ a w, wpList Tryz.prog ops Q rest a w → K a w) → K (a.put o.dst (.agg (AZ .u64 24 fun _ => 0))) w) : wpList Tryz.prog ops Q (o :: rest) a w :=
 wpList_plain hgd fun K hK => by
  unfold Oper.wp execOp
  simp only [ho, Array.map_empty, Sem.run_bind, built_pt0, Result.andThen_ok]
  exact k K hK
end
section
variable {p c : Nat} [NeZero p] {d n s e f : Fin p}
theorem dfE_back (h : DfF p c d n s e f) {t : Fin p} (ok : dfOk c d t) (ht : t.val % 2 = 0) : dfE c n e f (dfX c d e f t) (dfY c d t) = t := by
 have hp := h.tw.ed.pr
 have n0 := df_n h
 have hn := h.tw.eq
 by_cases t0 : t = 0
 ·subst t0
  have hx : dfX c d e f (0 : Fin p) = 0 := by
   have k := (y3g h ok).2.1
   rw [show (1 + (0 : Fin p) * 0) * (1 + 0 * 0) = 1 by grind] at k
   rcases z02 hp (show dfX c d e f (0 : Fin p) * dfX c d e f (0 : Fin p) = 0 by grind) with k1 | k1 <;> exact k1
  rw [hx, y15]
 obtain ⟨_, hx, hy⟩ := y3g h ok
 have hX : dfX c d e f t = dfW c d e t * dfQ c d t * (dfV d t * f) := rfl
 have hY : dfY c d t = (1 - t * t) * dfQ c d t * (1 + t * t) := rfl
 have hV : dfV d t = (1 + t * t) * (1 + t * t) - 4 * (d * (t * t)) := rfl
 have hW : dfW c d e t = ab (2 * t * dfQ c d t * ((1 + t * t) * e)) := rfl
 unfold dfOk at ok
 generalize dfX c d e f t = x at *
 generalize dfY c d t = y at *
 generalize dfW c d e t = W at *
 generalize dfQ c d t = r at *
 generalize dfV d t = v at *
 obtain ⟨u, hu⟩ : ∃ u, 1 + t * t = u := ⟨_, rfl⟩
 rw [hu] at hx hY hV hW ok
 have u0 : u ≠ 0 := fun k => z06 hp (by rw [← ok, k]; clear ok hV hW hu hx hy hX hY; grind)
 have v0 : v ≠ 0 := fun k => z06 hp (by rw [← ok, k]; clear ok hV hW hu hx hy hX hY; grind)
 have r0 : r ≠ 0 := fun k => z06 hp (by rw [← ok, k]; clear ok hV hW hu hx hy hX hY; grind)
 have two := y6k h.tw.ed
 have x0 : x ≠ 0 := fun k => z0e hp (y4h h) (z0e hp t0 t0) (by rw [← hx, k]; clear ok hV hW hu hx hy hX hY; grind)
 -- v (1 less y y) = 4 n t t
 have h1 : v * (1 - y * y) = 4 * (n * (t * t)) := by
  rw [show v * (1 - y * y) = v - v * (y * y) by clear ok hV hW hu hx hy hX hY; grind, hy, hV, ← hu, hn]
  clear ok hV hW hu hx hy hX hY
  grind
 have hU : v * ((x + x * y) * (x - x * y)) = x * x * (4 * (n * (t * t))) := by
  rw [← h1]
  clear ok hV hW hu hx hy hX hY h1
  grind
 have hN : n * ((x + x * y) * (x - x * y) * (x * x)) = 2 * n * t * (x * x) * (r * u) * (2 * n * t * (x * x) * (r * u)) := by
  refine z0u hp v0 ?_
  rw [show v * (n * ((x + x * y) * (x - x * y) * (x * x))) = n * (v * ((x + x * y) * (x - x * y))) * (x * x) by clear ok hV hW hu hx hy hX hY h1 hU; grind, hU,
   show v * (2 * n * t * (x * x) * (r * u) * (2 * n * t * (x * x) * (r * u))) = 4 * (n * n) * (t * t) * (x * x) * (x * x) * (v * (u * u) * (r * r)) by clear ok hV hW hu hx hy hX hY h1 hU; grind, ok]
  clear ok hV hW hu hx hy hX hY h1 hU
  grind
 have w0 : 2 * n * t * (x * x) * (r * u) ≠ 0 := z0e hp (z0e hp (z0e hp (z0e hp two n0) t0) (z0e hp x0 x0)) (z0e hp r0 u0)
 have hr := y6o h hN w0
 unfold dfE
 simp only []
 generalize dfR c (n * ((x + x * y) * (x - x * y) * (x * x))) = k at *
 rw [hN] at hr
 obtain ⟨q, hqq, hq⟩ := z99 hp (a := 2 * n * t * (x * x) * (r * u) * k) (b := 1) (by
  rw [show 2 * n * t * (x * x) * (r * u) * k * (2 * n * t * (x * x) * (r * u) * k) = 2 * n * t * (x * x) * (r * u) * (2 * n * t * (x * x) * (r * u)) * (k * k) by clear ok hV hW hu hx hy hX hY h1 hU hN hr; grind, hr]
  clear ok hV hW hu hx hy hX hY h1 hU hN hr
  grind)
 have hw : ab (k * ((x + x * y) * (x - x * y)) * e) = W := by
  rw [hW]
  refine z5i hp (y1a h) ?_
  refine z0u hp (z0e hp v0 v0) ?_
  rw [show v * v * (k * ((x + x * y) * (x - x * y)) * e * (k * ((x + x * y) * (x - x * y)) * e)) = k * k * (e * e) * (v * ((x + x * y) * (x - x * y)) * (v * ((x + x * y) * (x - x * y)))) by clear ok hV hW hu hx hy hX hY h1 hU hN hr hq; grind, hU,
   show k * k * (e * e) * (x * x * (4 * (n * (t * t))) * (x * x * (4 * (n * (t * t))))) = 4 * (e * e) * (t * t) * (4 * (n * n) * (t * t) * (x * x) * (x * x) * 1 * (k * k)) by clear ok hV hW hu hx hy hX hY h1 hU hN hr hq; grind, ← ok,
   show 4 * (e * e) * (t * t) * (4 * (n * n) * (t * t) * (x * x) * (x * x) * (v * (u * u) * (r * r)) * (k * k)) = 4 * (e * e) * (t * t) * v * (2 * n * t * (x * x) * (r * u) * (2 * n * t * (x * x) * (r * u)) * (k * k)) by clear ok hV hW hu hx hy hX hY h1 hU hN hr hq; grind, hr,
   show v * v * (2 * t * r * (u * e) * (2 * t * r * (u * e))) = 4 * (e * e) * (t * t) * v * (v * (u * u) * (r * r)) by clear ok hV hW hu hx hy hX hY h1 hU hN hr hq; grind, ok]
 rw [hw]
 -- f W = x r u u
 have hfW : f * W = x * r * (u * u) := by
  rw [show f * W = f * W * 1 by clear ok hV hW hu hx hy hX hY h1 hU hN hr hq hw; grind, ← ok, show f * W * (v * (u * u) * (r * r)) = W * r * (v * f) * r * (u * u) by clear ok hV hW hu hx hy hX hY h1 hU hN hr hq hw; grind, ← hX]
 have hv : f * W - x * y = 2 * (t * t) * x * r * u := by
  have key : ∀ a b g : Fin p, a * b * ((1 + g * g) * (1 + g * g)) - a * ((1 - g * g) * b * (1 + g * g)) = 2 * (g * g) * a * b * (1 + g * g) := fun a b g => by grind
  rw [hfW, hY, ← hu]
  exact key x r t
 rw [hv, show n * k * (x * (2 * (t * t) * x * r * u)) = 2 * n * t * (x * x) * (r * u) * k * t by clear ok hV hW hu hx hy hX hY h1 hU hN hr hq hw hfW hv; grind, hq]
 have h3 := y9x hp (y1a h) (a := t) (b := q * 1 * t) (by
  rw [show q * 1 * t * (q * 1 * t) = q * q * (t * t) by clear ok hV hW hu hx hy hX hY h1 hU hN hr hq hw hfW hv; grind, hqq]
  clear ok hV hW hu hx hy hX hY h1 hU hN hr hq hw hfW hv
  grind) ht
 exact h3.symm
end
theorem enc_dec (t : K) (ok : dfOk eC dK t) (h : t.val % 2 = 0) : encK (decK t ok) = t := dfE_back dfK ok h
theorem df_4d : (zC 156324 : K) = -(4 * dK) := by decide +kernel
theorem dfr_v (t : K) : (zC 1 + t) * (zC 1 + t) + zC 156324 * t = (1 + t) * (1 + t) - 4 * (dK * t) := by
 rw [z3o, df_4d]
 generalize dK = d
 grind
theorem dfr_ok (s : K) : ((((zC 1 + s * s) * (zC 1 + s * s) + zC 156324 * (s * s)) * ((zC 1 + s * s) * (zC 1 + s * s))) * (zL eC (zC 1) (((zC 1 + s * s) * (zC 1 + s * s) + zC 156324 * (s * s)) * ((zC 1 + s * s) * (zC 1 + s * s))) * zL eC (zC 1) (((zC 1 + s * s) * (zC 1 + s * s) + zC 156324 * (s * s)) * ((zC 1 + s * s) * (zC 1 + s * s)))) = zC 1) = dfOk eC dK s := by
 rw [dfr_v, z3o]
 unfold dfOk dfQ dfR
 rw [y2c]
 rfl
theorem dfr_q (s : K) : ab (zL eC (zC 1) (((zC 1 + s * s) * (zC 1 + s * s) + zC 156324 * (s * s)) * ((zC 1 + s * s) * (zC 1 + s * s)))) = dfQ eC dK s := by
 rw [dfr_v, z3o]
 rfl
theorem dfr_w (s r : K) (h : dfQ eC dK s = r) : ab (zC 2 * s * (r * ((zC 1 + s * s) * eR))) = dfW eC dK eR s := by
 unfold dfW
 rw [h, y9e, z3o]
 generalize eR = e
 rw [show 2 * s * (r * ((1 + s * s) * e)) = 2 * s * r * ((1 + s * s) * e) by grind]
theorem dfr_x (s r w : K) (h : dfQ eC dK s = r) (hw : dfW eC dK eR s = w) : w * (r * (((zC 1 + s * s) * (zC 1 + s * s) + zC 156324 * (s * s)) * fR)) = dfX eC dK eR fR s := by
 unfold dfX
 rw [h, hw, dfr_v]
 show w * (r * (dfV dK s * fR)) = w * r * (dfV dK s * fR)
 generalize dfV dK s = v
 generalize fR = f
 grind
theorem k_assoc (a b c : K) : a * (b * c) = a * b * c := by grind
theorem dfr_y (s r : K) (h : dfQ eC dK s = r) : (zC 1 - s * s) * (r * (zC 1 + s * s)) = dfY eC dK s := by
 subst h
 rw [z3o]
 exact k_assoc _ _ _
theorem dfr_on {s x y : K} (ok : dfOk eC dK s) (hx : x = dfX eC dK eR fR s) (hy : y = dfY eC dK s) : x * x + y * y = zC 1 - zC 39081 * (x * x * (y * y)) := by
 have h := (y3g dfK ok).1
 rw [← hx, ← hy] at h
 rw [h, z3o, df_81]
 clear h hx hy ok
 generalize dK = d
 generalize x * x * (y * y) = q
 grind
theorem y31 {a : Option Addr} {c y : Nat} (w : World) (hs : Sb w w.heap.size a 56 c y) :
  Calls Tryz.prog 65 #[.slice a 56 c] w fun e w' => e = .returned (FV (cN pN y).val) ∧ Below w.heap.size w w' :=
 (y2m a c (bt y) w hs.sl).mono fun _ _ ⟨he, hb⟩ => ⟨by rw [he, y2y, Nat.mod_eq_of_lt hs.fits]; rfl, hb⟩
theorem cellsPair14 : Tryz.prog.cellsOf 25 = 2 := by kernel_rfl
section
variable {H : Type} {enc : TypeId × Value → H}
theorem open_pair14 {W : World} {base b : Nat} {sp : Nat → Bool} {held : Bool} {v : Value} {d : DataW H} {p : List MemPlace}
  (hv : Value.okWide Tryz.prog W .any base 25 v) (h : DataW.Trod enc Tryz.prog W b sp held 25 v d p) : ∃ x y, v = .agg #[.int .i64 x, .int .i64 y] := by
 obtain ⟨cs, rfl, hsz, _⟩ : ∃ cs, v = .agg cs ∧ cs.size = Tryz.prog.cellsOf 25 ∧ Row.okWide Tryz.prog W .any base 25 cs := by
  simpa [Value.okWide, Tryz.underlying25] using hv
 rw [cellsPair14] at hsz
 obtain ⟨fuel, hf⟩ := h
 obtain ⟨xs, m, _, _, _, hxl, hel⟩ := DataW.trod_array Tryz.underlying25 hf
 have get : ∀ i, i < 2 → ∃ z, cs[i]? = some (.int .i64 z) := fun i hi => by
  have h1 := hel i hi
  rw [cells3, Nat.mul_one, List.getElem?_eq_getElem (by omega)] at h1
  obtain ⟨z, hc, _, _⟩ := DataW.trod_int Tryz.underlying3 h1
  refine ⟨z, ?_⟩
  have := congrArg (·[0]?) hc
  simpa [Value.cells, List.getElem?_take, List.getElem?_drop] using this
 obtain ⟨x, hx⟩ := get 0 (by omega)
 obtain ⟨y, hy⟩ := get 1 (by omega)
 refine ⟨x, y, ?_⟩
 congr 1
 apply Array.ext_getElem?
 intro i
 rcases (by omega : i = 0 ∨ i = 1 ∨ 2 ≤ i) with rfl | rfl | h2
 ·rw [hx]; rfl
 ·rw [hy]; rfl
 ·rw [Array.getElem?_eq_none (by omega), Array.getElem?_eq_none (by simpa using h2)]
end
end Go.Proofs.YtgjbonikbmgfmaaGreatDoor
