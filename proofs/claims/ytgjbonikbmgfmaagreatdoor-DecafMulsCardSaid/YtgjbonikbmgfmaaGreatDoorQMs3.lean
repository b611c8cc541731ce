/- Lemmas; no statement is proved here. -/
import Derived.Test.YtgjbonikbmgfmaaGreatDoorQMs1
import Derived.Test.YtgjbonikbmgfmaaGreatDoorQGms8
set_option maxRecDepth 8000
set_option maxHeartbeats 3200000
namespace Go.Proofs.YtgjbonikbmgfmaaGreatDoor
open Go.ChangeShapes Go.WideShapes Go.ChangeAt Go.RowKit
theorem cellsE14 : Tryz.prog.cellsOf 210 = 4 := by kernel_rfl
theorem gRst14 : Tryz.prog.globalNamed "chicory/scalar.rest" = some 2 := by kernel_rfl
theorem gRstT14 : (Tryz.prog.globals[2]?).map (·.type) = some 210 := by kernel_rfl
theorem rstZ14_at : ∀ i, i < 4 → y70.getD i 0 = L (wd rN i) := by decide +kernel
abbrev z4y : List (String × DataW Unit) := [("chicory/field.prime", Rows.laid_chicory_field_prime), ("chicory/scalar.order", Rows.laid_chicory_scalar_order), ("chicory/scalar.rest", Rows.laid_chicory_scalar_rest)]
section
variable {P : Program} {W : World} {name : String} {k : IntKind} {zs : List Int} {rest : List (String × DataW Unit)} {x y : String × DataW Unit} {g : Nat} {t e : TypeId} {n : Nat}
theorem tab_third (hg : P.globalNamed name = some g) (hty : (P.globals[g]?).map (·.type) = some t) (ht : P.underlying t = some (.array n e)) (he : P.underlying e = some (.int k)) (hce : P.cellsOf e = 1) (hct : P.cellsOf t = n)
  (h : laidMet P (x :: y :: (name, Lib.tabData k zs) :: rest) W) : Lib.TabIs P W name k zs := by
 obtain ⟨ps, ⟨_, _, _, _, _, _, _, _, _, _, h5, _⟩, _⟩ := h
 obtain ⟨_, _, _, _, _, _, _, _, _, _, h6, _⟩ := h5
 obtain ⟨g', t', cs, fuel, p, q, hg', ht', hvar, hd, _, _⟩ := h6
 obtain rfl := Option.some.inj (hg.symm.trans hg')
 obtain rfl := Option.some.inj (hty.symm.trans ht')
 unfold Lib.TabIs
 rw [hvar, ← Lib.cells_of_tab ht he hce hct hd]
end
theorem rst_met14 {rest : List (String × DataW Unit)} {x y : String × DataW Unit} {W : World} (h : laidMet Tryz.prog (x :: y :: ("chicory/scalar.rest", Rows.laid_chicory_scalar_rest) :: rest) W) : ∀ i, i < 4 → W.cell? ⟨2, i, none⟩ = some (V (wd rN i)) := by
 have h2 : Lib.TabIs Tryz.prog W "chicory/scalar.rest" .u64 y70 := tab_third (rest := rest) (x := x) (y := y) gRst14 gRstT14 Tryz.underlying210 Tryz.underlying27 y17 cellsE14 h
 exact fun i hi => by rw [h2.cell gRst14 i hi, rstZ14_at i hi]
theorem y7h {W : World} (h : laidMetH Tryz.prog z4y W) : Tp W := y41 (rest := z4y.tail) (show laidMet Tryz.prog z4y W from h)
theorem y7l {W : World} (h : laidMetH Tryz.prog z4y W) : Tl true W :=
 ⟨y2v (show laidMet Tryz.prog z4y W from h), fun _ => rst_met14 (show laidMet Tryz.prog z4y W from h)⟩
open Go.RowKit
def Asks (w : World) (v : Value) (f g : Int) : Prop := ∃ gf gg, v = .func (.func 178) #[] #[.pointer (some ⟨gf, 0, none⟩), .pointer (some ⟨gg, 0, none⟩)] ∧ w.cell? ⟨gf, 0, none⟩ = some (.int .i64 f) ∧ w.cell? ⟨gg, 0, none⟩ = some (.int .i64 g)
theorem sized_v (f g : Int) (w : World) :
  Calls Tryz.prog 151 #[.int .i64 f, .int .i64 g] w fun e w' => ∃ v, e = .returned v ∧ Asks w' v f g ∧ Below w.heap.size w w' := by
 go_enter Tryz.func151, Tryz.ntmps151
 go_wp2
 go_ret
 exact ⟨_, rfl, ⟨_, _, rfl, by simp, by simp⟩, ((Below.refl _ _).alloc (Nat.le_refl _) _).alloc (by simp) _⟩
def szE (n : Nat) (f g : Int) : Int := if (n : Int) < f ∨ g < (n : Int) then 11 else 0
theorem szE_ok {n : Nat} {f g : Int} (h1 : f ≤ (n : Int)) (h2 : (n : Int) ≤ g) : szE n f g = 0 := by unfold szE; rw [if_neg (by omega)]
theorem ask_v (n c : Nat) (a : Option Addr) (gf gg : Nat) (f g : Int) (w : World) (hf : w.cell? ⟨gf, 0, none⟩ = some (.int .i64 f)) (hg : w.cell? ⟨gg, 0, none⟩ = some (.int .i64 g)) :
  Calls Tryz.prog 178 #[.slice a n c, .pointer (some ⟨gf, 0, none⟩), .pointer (some ⟨gg, 0, none⟩)] w fun e w' => e = .returned (.int .i64 (szE n f g)) ∧ w' = w := by
 by_cases h1 : (n : Int) < f
 ·have d1 : decide ((n : Int) < f) = true := by simpa using h1
  have HE : Hid (szE n f g = 11) := za (by unfold szE; rw [if_pos (.inl h1)])
  clear h1
  go_enter Tryz.func178, Tryz.ntmps178
  go_wp2
  go_ret
  exact ⟨by rw [HE.out]; rfl, rfl⟩
 ·have d1 : decide ((n : Int) < f) = false := by simpa using h1
  by_cases h2 : g < (n : Int)
  ·have d2 : decide (g < (n : Int)) = true := by simpa using h2
   have HE : Hid (szE n f g = 11) := za (by unfold szE; rw [if_pos (.inr h2)])
   clear h1 h2
   go_enter Tryz.func178, Tryz.ntmps178
   go_wp2
   go_ret
   exact ⟨by rw [HE.out]; rfl, rfl⟩
  ·have d2 : decide (g < (n : Int)) = false := by simpa using h2
   have HE : Hid (szE n f g = 0) := za (by unfold szE; rw [if_neg (by omega)])
   clear h1 h2
   go_enter Tryz.func178, Tryz.ntmps178
   go_wp2
   go_ret
   exact ⟨by rw [HE.out]; rfl, rfl⟩
theorem bd_128 {n x : Nat} (hn : n ≤ 128) (h : x < 2 ^ (8 * n)) : Bd 3 x := by
 unfold Bd
 rw [if_neg (by decide)]
 rw [show 64 * (7 + 3 * 3) = 64 * 16 from rfl]
 exact (z87 128 16 rfl).1 (z2e (b := 8) (n := n) (m := 128) h hn)
theorem reduce_ok (a : Option Addr) (n c x : Nat) (w : World) (hT : Tl true w) (hn : n ≤ 128) (hs : Sb w w.heap.size a n c x) :
  Calls Tryz.prog 96 #[.slice a n c] w fun e w' => e = .returned (.tuple #[W7 (x % lN), .int .i64 0]) ∧ Below w.heap.size w w' := by
 have HE : Hid (szE n 0 128 = 0) := za (szE_ok (by omega) (by omega))
 have HN := za hn
 have HX := za (bd_128 hn hs.fits)
 have HS := za hs
 have HT := za hT
 clear hn hs hT
 have H := za (Ow.start w)
 go_enter Tryz.func96, Tryz.ntmps96
 go_wp2_with (first
  | ((with_reducible apply ze z3u H); (case hgd | ho => exact rfl); clear H; intro _ _ H _ _; go_simp)
  | ((with_reducible refine (sized_v 0 128 _).mono ?_); rintro e wc ⟨v, rfl, hq, hb⟩; obtain ⟨gf, gg, rfl, hf, hg⟩ := hq; have HQ1 := za hf; have HQ2 := za hg; replace H := zd H hb; clear hb hf hg)
  | ((with_reducible refine (ask_v n c a gf gg 0 128 _ HQ1.out HQ2.out).mono ?_); rintro e wc ⟨rfl, rfl⟩; rw [HE.out])
  | ((with_reducible refine (read_v a n c x _ HN.out (HS.out.call H.out.bel)).mono ?_); rintro e wc ⟨rfl, hb⟩; replace H := zd H hb; clear hb)
  | ((with_reducible refine (y5c x _ (HT.out.below H.out.bel) HX.out).mono ?_); rintro e wc ⟨rfl, hb⟩; replace H := zd H hb; clear hb)
  | ((with_reducible apply zj z1g H); (case hgd | ho | hx | hy => exact rfl); (case hi => repeat first|exact z5|apply z8); clear H; intro ws H _ _; simp only [qb] at H; go_simp))
 exact bodyPost_ret (z0c 0 z1g rfl _ H rfl rfl rfl) rfl ⟨rfl, H.out.bel⟩
theorem r6reduce_v (a : Option Addr) (n c x : Nat) (w : World) (hn : n ≤ 1000) (hs : Sb w w.heap.size a n c x) :
  Calls Tryz.prog 98 #[.slice a n c] w fun e w' => ∃ v, e = .returned v ∧ GotB w w' v (x % lN) := by
 have HD : Hid (dl 8 x ≤ 1000) := za (Nat.le_trans ((z5f 8 x n (by omega)).2 hs.fits) hn)
 have HN : Hid (n ≤ 1000000) := za (by omega)
 have HP := za z8s
 have HS := za hs
 clear hs hn
 have H := za (Ow.start w)
 go_enter Tryz.func98, Tryz.ntmps98
 go_wp2_with (first
  | ((with_reducible refine (z8j a n c x _ HN.out HS.out).mono ?_); rintro e wc ⟨rfl, rfl⟩; replace HS := za HS.out.cut)
  | ((with_reducible refine (y0w _).mono ?_); rintro e wc ⟨a1, c1, rfl, hs, hb⟩; replace HS := za (HS.out.call hb); replace H := zd H hb; have S1 := za hs; clear hs; clear hb)
  | ((with_reducible refine (refDiv_any a (dl 8 x) c x a1 56 c1 lN _ HD.out (by omega) HS.out S1.out HP.out).mono ?_); rintro e wc ⟨v, v', rfl, hq, hr⟩; have HR := za hr; clear hq hr))
 go_ret
 obtain ⟨a3, c3, hv, hs3, hb3⟩ := HR.out
 exact ⟨_, rfl, a3, c3, hv, hs3, H.out.bel.trans (hb3.mono H.out.bel.size)⟩
section
variable {w w0 : World} {l : List (Nat × Obj)} {ops : Array Oper} {rest : List Oper} {o : Oper} {a : Act} {Q : Exit → Act → World → Prop}
theorem lay_nilB (hgd : o.guard = none) {s x : Operand} (ho : o.op = .call { callee := .builtin .append, args := #[s, x], argTypes := #[22, 22] }) (hs : a.eval s = .slice none 0 0)
  {ad : Option Addr} {n c : Nat} {f : Nat → BitVec 8} (hx : a.eval x = .slice ad n c) (hS : Sl w w.heap.size ad n c f) (hn : n ≤ 1000)
  (h : ∀ v' w', OwnB w' w.heap.size v' n f → Below w.heap.size w w' → ∀ K : Act → World → Prop, (∀ a w, wpList Tryz.prog ops Q rest a w → K a w) → K (a.put o.dst v') w') : wpList Tryz.prog ops Q (o :: rest) a w := by
 obtain ⟨i, hi, hz, hsz, hby⟩ := z66
 cases ad with
 | none =>
  have hc := hS.nil rfl
  have hle := hS.le
  obtain rfl : n = 0 := by omega
  subst hc
  exact wpList_append_own_none hgd s x _ ho w.heap.size 5 i 1 Tryz.underlying22 hi (.slice none 0 0) 0 [] hs ⟨rfl, .inl ⟨rfl, rfl⟩⟩ hx
   (h _ w (OwnB.nil _ _ _) (Below.refl _ _) _ fun _ _ h => h)
 | some ad =>
  refine wpList_append_own w hgd s x _ ho w.heap.size 5 i (.int .u8 0) 1 1 Tryz.underlying22 hi hz hsz hby rfl (by omega) (.slice none 0 0) 0 [] hs ⟨rfl, .inl ⟨rfl, rfl⟩⟩
   ad n c ((List.range n).map fun i => U (f i)) hx (by simp) (fun j u hu => ?_) (fun u hu => ?_) (by unfold maxLen; omega) (by omega) (Nat.le_refl _) ?_
  ·obtain ⟨hj, rfl⟩ := newsB_get n f j u hu
   obtain ⟨b, off, rfl, hb, hc⟩ := hS.low ad rfl (by omega)
   rw [Addr.add_mid]
   exact hc j hj
  ·obtain ⟨i, _, rfl⟩ := List.mem_map.1 hu
   rfl
  ·intro v' w' hown hgrow _
   have hbel : Below w.heap.size w w' := (Below.refl _ _).grown hgrow (Nat.le_refl _) (fun k hk => by cases hk)
   rw [Nat.zero_add, List.nil_append] at hown
   exact h _ _ hown hbel _ fun _ _ h => h
end
theorem r6bytes_g (a : Option Addr) (n c x : Nat) (w : World) (hn : n ≤ 57) (hs : Sb w w.heap.size a n c x) :
  Calls Tryz.prog 97 #[.slice a n c] w fun e w' => ∃ g c' cur, e = .returned (.slice (some ⟨g, 0, none⟩) 57 c') ∧ w.heap.size ≤ g ∧ w'.heap[g]? = some (.cells cur 5) ∧ Sb w' w'.heap.size (some ⟨g, 0, none⟩) 57 c' x ∧ Below w.heap.size w w' := by
 have HF : Hid (x < 2 ^ (8 * 57)) := za (z2e (b := 8) (n := n) (m := 57) hs.fits hn)
 have HZ : Hid (∀ j, n ≤ j → bt x j = 0) := za fun j hj => z7a hs.fits hj
 have HS := za hs
 clear hs
 go_enter Tryz.func97, Tryz.ntmps97
 go_wp2_with (first
  | ((with_reducible apply lay_nilB); (case hgd | ho | hs | hx => exact rfl); (case hS => exact HS.out.sl); (case hn => omega); intro v1 w1 ho hb _ _; have HO := za ho; have HB := za hb; clear ho hb; go_simp))
 go_loopw [3] (fun v3 wr => ∃ k : Nat, n ≤ k ∧ k ≤ 57 ∧ (∃ a c, v3 = .slice a k c) ∧ OwnB wr w.heap.size v3 k (bt x) ∧ Below w.heap.size w wr) (fun v3 _ => 57 - (match v3 with | .slice _ k _ => k | _ => 0))
 case atStart => exact ⟨n, Nat.le_refl _, hn, by obtain ⟨a', c', e, _⟩ := HO.out.any; exact ⟨a', c', e⟩, HO.out, HB.out⟩
 case round =>
  clear HO HB
  obtain ⟨k, hk, hk57, ⟨ak, ck, rfl⟩, HO, HB⟩ := hrel
  have H1 := za HO
  have H2 := za HB
  have hz : w.heap.size ≤ wr.heap.size := HB.size
  clear HO HB
  by_cases hlt : k < 57
  ·have hid : decide ((k : Int) < 57) = true := by simp; omega
   have HK : Hid (U8 (bt x k) = 0) := za (by rw [HZ.out k hk]; rfl)
   go_wp2_with (first
    | ((with_reducible apply z0y); (case hgd | ho | hs | hx => exact rfl); (case hown => exact H1.out.alloc _); (case hc => exact z4k _ _ _ HK.out); (case hn => omega); (case hbase => simp; omega); intro v' w' ho' hb' _ _; go_simp))
   obtain ⟨a', c', rfl, _⟩ := ho'.any
   go_roundw
   case rel => exact ⟨k + 1, by omega, by omega, ⟨a', c', rfl⟩, ho', (H2.out.alloc hz _).trans hb'⟩
   case measure => (simp <;> omega)
  ·obtain rfl : k = 57 := by omega
   obtain ⟨g', c', cur', e, hge, hrw, hsl⟩ := H1.out.sl (by omega)
   cases e
   have HSL := za hsl
   have HGE := za hge
   have HRW := za hrw
   clear hsl hlt hk hk57 hge hrw
   go_wp2_with fail
   go_ret
   exact ⟨_, _, _, rfl, HGE.out, HRW.out, ⟨HSL.out, HF.out⟩, H2.out⟩
theorem dl57k (k : KL) : dl 8 k.val ≤ 57 := (z5f 8 _ 57 (by omega)).2 (Nat.lt_of_lt_of_le k.isLt (by decide +kernel))
theorem reduce14 {a : Option Addr} {n c x : Nat} {k : KL} (hk : k.val = x % lN) (w : World) (hT : Tl true w) (hn : n ≤ 128) (hs : Sb w w.heap.size a n c x) :
  Calls Tryz.prog 96 #[.slice a n c] w fun e w' => e = .returned (.tuple #[W7 k.val, .int .i64 0]) ∧ Below w.heap.size w w' := hk ▸ reduce_ok a n c x w hT hn hs
theorem rreduce14 {a : Option Addr} {n c x : Nat} {k : KL} (hk : k.val = x % lN) (w : World) (hn : n ≤ 1000) (hs : Sb w w.heap.size a n c x) :
  Calls Tryz.prog 98 #[.slice a n c] w fun e w' => ∃ a' c', e = .returned (.slice a' (dl 8 k.val) c') ∧ Sb w' w'.heap.size a' (dl 8 k.val) c' k.val ∧ Below w.heap.size w w' := by
 rw [hk]
 exact (r6reduce_v a n c x w hn hs).mono fun _ _ ⟨v, he, a', c', hv, hs', hb⟩ => ⟨a', c', by rw [he, hv], hs', hb⟩
section
variable {P : Program} {w w0 : World} {l : List (Nat × Obj)} {t : TypeId} {k : IntKind} {n : Nat}
theorem z6r (i : Nat) (hT : IsRow P t n) {fn : Func} {p q s : Tmp} (h : fn.results = #[.cell p t, .tmp q, .tmp s]) (tmps : Array Value) {g : Nat} {tb : TypeId} {f : Nat → Int} {u v : Value}
  (H : Hid (Ow w0 w l)) (hi : l[i]? = some (g, zv tb k n f)) (hp : tmps.getD p undef = .pointer (some ⟨g, 0, none⟩)) (hq : tmps.getD q undef = u) (hs : tmps.getD s undef = v) : (results fn tmps).run P w = .ok (.tuple #[.agg (AZ k n f), u, v]) w := by
 obtain ⟨d, hd, hd'⟩ := hT.under
 have hr : w.heap[g]? = some (.cells (AZ k n f) tb) := H.out.row i hi
 have hp' : tmps[p]?.getD undef = .pointer (some ⟨g, 0, none⟩) := by simpa using hp
 have hq' : tmps[q]?.getD undef = u := by simpa using hq
 have hs' : tmps[s]?.getD undef = v := by simpa using hs
 simp [results, h, hp', hq', hs', asAddr, run_loadVar_row w g tb t _ (0, 0) d hr hd (by cases d <;> simp_all) (by rw [z0j]; exact hT.size)]
end
theorem scalar14_far {a : Option Addr} {n c : Nat} {r : Bool} (w : World) (hT : Tl r w) (hn : 60 < n) :
  Calls Tryz.prog 31 #[.slice a n c] w fun e w' => ∃ k : KL, e = .returned (.tuple #[W7 (k).val, .slice none 0 0, .bool false]) ∧ Below w.heap.size w w' := by
 have d1 : decide ((60 : Int) < (n : Int)) = true := by simp; omega
 clear hn
 have HT := za hT
 clear hT
 have H := za (Ow.start w)
 go_enter Tryz.func31, Tryz.ntmps31
 go_wp2_with (first
  | ((with_reducible apply ze z3u H); (case hgd | ho => exact rfl); clear H; intro _ _ H _ _; go_simp)
  | ((fail_if_success have := mk1); (with_reducible refine (int_s 0 _ (HT.out.below H.out.bel) (by omega) (by omega)).mono ?_); rintro e wc ⟨rfl, hb⟩; replace H := zd H hb; clear hb; have mk1 := trivial)
  | ((with_reducible apply zj z1g H); (case hgd | ho | hx | hy => exact rfl); (case hi => repeat first|exact z5|apply z8); clear H; intro ws H _ _; simp only [qb] at H; go_simp))
 exact bodyPost_ret (z6r 0 z1g rfl _ H rfl rfl rfl rfl) rfl ⟨_, rfl, H.out.bel⟩
theorem z4o {a : Option Addr} {n c x : Nat} {k : KL} (w : World) (hT : Tl true w) (hn : n ≤ 60) (hs : Sb w w.heap.size a n c x) (hk : k.val = x % lN) :
  Calls Tryz.prog 31 #[.slice a n c] w fun e w' => ∃ g c' cur, e = .returned (.tuple #[W7 (k).val, .slice (some ⟨g, 0, none⟩) 57 c', .bool true]) ∧ w.heap.size ≤ g ∧ w'.heap[g]? = some (.cells cur 5) ∧ Sb w' w'.heap.size (some ⟨g, 0, none⟩) 57 c' k.val ∧ Below w.heap.size w w' := by
 have d1 : decide ((60 : Int) < (n : Int)) = false := by simp; omega
 have HN := za hn
 have HK := za hk
 clear hn hk
 have HS := za hs
 clear hs
 have HT := za hT
 clear hT
 have H := za (Ow.start w)
 go_enter Tryz.func31, Tryz.ntmps31
 go_upto_region 4 with (first
  | ((fail_if_success have := g2); (with_reducible apply ze z3u H); (case hgd | ho => exact rfl); clear H; intro w2 g2 H _ _; go_simp)
  | ((fail_if_success have := mk1); (with_reducible refine (reduce14 HK.out _ (HT.out.below H.out.bel) (by have := HN.out; omega) ((HS.out.below H.out.bel).more H.out.bel.size)).mono ?_); rintro e wc ⟨rfl, hb⟩; replace H := zd H hb; clear hb; have mk1 := trivial)
  | ((fail_if_success have := g5); (with_reducible apply ze z3u H); (case hgd | ho => exact rfl); clear H; intro w5 g5 H _ _; go_simp)
  | ((with_reducible apply zj z1g H); (case hgd | ho | hx | hy => exact rfl); (case hi => repeat first|exact z5|apply z8); clear H; intro ws H _ _; simp only [qb] at H; go_simp))
 clear mk1
 refine wp_region_noPanic ?_
 refine wp_region_held_drew (S := fun W => W.heap[g5]? = some (WB 70 7 (wd (k).val))) (by kernel_rfl) (H.out.drew.row 0 rfl) (fun hH => ?_)
 replace H := za H.out.drew
 generalize World.drew _ = w8 at *
 refine zk 0 16 z1g rfl rfl rfl hH rfl rfl (fun _ h => h) ?_
 refine zh 1 17 (.slice a n c) hH ?_
 refine zh 4 20 (.int .i64 0) hH ?_
 refine zh 5 21 (.bool true) hH ?_
 refine zn 2 rfl fun K hK => ?_
 go_simp
 refine (rreduce14 HK.out _ (by have := HN.out; omega) ((HS.out.below H.out.bel).more H.out.bel.size)).mono ?_
 rintro e wc ⟨ag18, cg18, rfl, hs, hb⟩
 replace H := zd H hb
 have SG18 := za hs
 refine zc hK (zb H 0) fun hH => zn 3 rfl fun K hK => ?_
 go_simp
 refine (r6bytes_g _ _ _ _ _ (dl57k k) SG18.out).mono ?_
 rintro e wc ⟨ag19, cg19, cur19, rfl, hge, hr, hs, hb⟩
 replace SG18 := za (SG18.out.call hb)
 replace H := za (H.out.add hb hge hr)
 have SG19 := za hs
 have RG19 := za hr
 refine zc hK (zb H 1) fun hH => zn 6 rfl fun K hK => ?_
 refine zu 2 rfl z1g H.out rfl rfl rfl rfl ?_
 intro ws HS
 simp only [qb, qc] at HS
 replace H := za HS
 refine zc hK (zb H 1) fun hH => ?_
 try simp only [qa]
 refine zh 7 3 (.slice (some ⟨ag19, 0, none⟩) 57 cg19) hH ?_
 refine zh 8 4 (.bool true) hH ?_
 refine zm ?_
 have SGX := za (z2f RG19.out (H.out.row 0 rfl) SG19.out)
 go_wp2_with fail
 exact bodyPost_ret (z6r 2 z1g rfl _ H rfl rfl rfl rfl) rfl ⟨_, _, _, rfl, H.out.ge 0 rfl, H.out.row 0 rfl, SGX.out, H.out.bel⟩
theorem z03 {a : Option Addr} {n c x : Nat} {b : Bool} (hb : decide (n ≤ 60) = b) (w : World) (hT : Tl true w) (hs : Sb w w.heap.size a n c x) :
  Calls Tryz.prog 31 #[.slice a n c] w fun e w' => ∃ (k : KL) (v : Value), e = .returned (.tuple #[W7 (k).val, v, .bool b]) ∧ Below w.heap.size w w' := by
 subst hb
 by_cases h : n ≤ 60
 ·rw [decide_eq_true h]
  exact (z4o (k := ⟨x % lN, Nat.mod_lt _ z8s⟩) w hT h hs rfl).mono fun _ _ ⟨_, _, _, he, _, _, _, hb⟩ => ⟨_, _, he, hb⟩
 ·rw [decide_eq_false h]
  exact (scalar14_far w hT (by omega)).mono fun _ _ ⟨k, he, hb⟩ => ⟨k, _, he, hb⟩
end Go.Proofs.YtgjbonikbmgfmaaGreatDoor
