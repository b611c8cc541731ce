/- Lemmas; no statement is proved here. -/
import Derived.Test.YtgjbonikbmgfmaaGreatDoorBuL
import Derived.Test.YtgjbonikbmgfmaaGreatDoorZPtOf
set_option maxRecDepth 8000
set_option maxHeartbeats 3200000
namespace Go.Proofs.YtgjbonikbmgfmaaGreatDoor
open Go.RowKit
theorem y5o (b : Bool) : OneV (.bool b) := ⟨rfl, rfl⟩
theorem y6r : IsCell Tryz.prog 42 := ⟨fun w => by unfold isAgg; rw [Sem.run_bind, run_underlying Tryz.underlying42 w]; rfl, by kernel_rfl⟩
theorem y0e : IsCell Tryz.prog 4 := ⟨fun w => by unfold isAgg; rw [Sem.run_bind, run_underlying Tryz.underlying4 w]; rfl, by kernel_rfl⟩
theorem y67 : IsCell Tryz.prog 5 := ⟨fun w => by unfold isAgg; rw [Sem.run_bind, run_underlying Tryz.underlying5 w]; rfl, by kernel_rfl⟩
theorem nilEr (w : World) : (zeroValue 42).run Tryz.prog w = .ok (.int .i64 0) w := by kernel_rfl
theorem nilBo (w : World) : (zeroValue 4).run Tryz.prog w = .ok (.bool false) w := by kernel_rfl
theorem nil8' (w : World) : (zeroValue 5).run Tryz.prog w = .ok (.int .u8 0) w := by kernel_rfl
theorem Sl.first {w : World} {B : Nat} {a : Option Addr} {n m c c' : Nat} {f : Nat → BitVec 8} (h : Sl w B a n c f) (hm : m ≤ n) (hc : m ≤ c') (h0 : 0 < m) : Sl w B a m c' f := by
 obtain ⟨b, o, rfl, _, _⟩ := h.get 0 (by omega)
 refine ⟨hc, (fun e => by cases e), fun ad e _ => ?_⟩
 obtain ⟨b', o', e', hb, hx⟩ := h.low ad e (by omega)
 exact ⟨b', o', e', hb, fun i hi => hx i (by omega)⟩
theorem Sl.addr {w : World} {B : Nat} {a : Option Addr} {n c : Nat} {f : Nat → BitVec 8} (h : Sl w B a n c f) (hn : 0 < n) : ∃ b o, a = some ⟨b, o, none⟩ ∧ ∀ i, i < n → w.cell? ⟨b, o + i, none⟩ = some (U (f i)) := by
 obtain ⟨b, o, e, _, _⟩ := h.get 0 hn
 obtain ⟨b', o', e', _, hx⟩ := h.low _ e hn
 cases e'
 exact ⟨b, o, e, hx⟩
theorem Sb.first {w : World} {B : Nat} {a : Option Addr} {n m c c' x : Nat} (h : Sb w B a n c x) (hm : m ≤ n) (hc : m ≤ c') (h0 : 0 < m) : Sb w B a m c' (x % 2 ^ (8 * m)) :=
 ⟨(h.sl.first hm hc h0).congr fun i hi => (by
  apply BitVec.eq_of_getLsbD_eq
  intro j hj
  rw [z8x, z8x, Nat.testBit_mod_two_pow, decide_eq_true (show 8 * i + j < 8 * m by omega), Bool.true_and]), Nat.mod_lt _ (Nat.two_pow_pos _)⟩
section
variable {P : Program} {ops : Array Oper} {rest : List Oper} {o : Oper} {a : Act} {w w0 : World} {l : List (Nat × Obj)} {Q : Exit → Act → World → Prop} {ty : TypeId} {v : Value} {ad : Addr}
theorem run_load_cell (hT : IsCell P ty) (hc : w.cell? ad = some v) : (Instr.loadAt ty (.pointer (some ad))).run P w = .ok v w := by
 simp [Instr.loadAt, Instr.sureAddr, loadVar, Sem.run_bind, hT.agg w, hc]
theorem own_load_old (hT : IsCell P ty) (H : Hid (Ow w0 w l)) (hgd : o.guard = none) {x : Operand} (ho : o.op = .load ty x) (hx : a.eval x = .pointer (some ad)) (hc : w0.cell? ad = some v)
  (h : ∀ K : Act → World → Prop, (∀ a w, wpList P ops Q rest a w → K a w) → K (a.put o.dst v) w) : wpList P ops Q (o :: rest) a w :=
 wpList_plain hgd fun K hK => by
  unfold Oper.wp execOp
  simp only [ho, hx, Sem.run_bind, run_load_cell hT ((Below.cell H.out.bel (p := ad) (block_lt_of_cell hc)).trans hc), Result.andThen_ok]
  exact h K hK
end
theorem y6s {f : Nat → Nat} {x : K} (w : World) (hf : EK f x) :
  Calls Tryz.prog 80 #[EV f] w fun e w' => ∃ g c, e = .returned (.slice (some ⟨g, 0, none⟩) 56 c) ∧ Sb w' w'.heap.size (some ⟨g, 0, none⟩) 56 c x.val ∧ Below w.heap.size w w' :=
 (y1c f w hf.1).mono fun e w' ⟨v, he, ⟨g, c, hv, _, hs⟩, hb⟩ => ⟨g, c, by rw [he, hv], ⟨by rw [hf.2] at hs; rw [← y4l]; exact hs, y23 x⟩, hb⟩
theorem y2y (x : Nat) : nB (bt x) 56 = x % 2 ^ (8 * 56) := by rw [← y4l, nB_bX, show (256 : Nat) = 2 ^ 8 from rfl, ← Nat.pow_mul]
theorem fdec_k (x : Nat) : ∃ (y : K) (E : Int), ((E = 0 ∧ y.val = x % 2 ^ (8 * 56)) ∨ (E = 12 ∧ pN ≤ x % 2 ^ (8 * 56))) ∧ ∀ (w : World) (a : Option Addr) (c : Nat), Sl w w.heap.size a 56 c (bt x) →
  Calls Tryz.prog 58 #[.slice a 56 c] w fun e w' => ∃ g, e = .returned (.tuple #[EV g, .int .i64 E]) ∧ EK g y ∧ Below w.heap.size w w' := by
 by_cases h : x % 2 ^ (8 * 56) < pN
 ·refine ⟨⟨x % 2 ^ (8 * 56), h⟩, 0, .inl ⟨rfl, rfl⟩, fun w a c hs => (z5g a c _ w hs (by rw [y2y]; exact h)).mono fun e w' ⟨he, hb⟩ => ⟨_, he, ?_, hb⟩⟩
  have := of_v (bt x)
  rw [y2y, Nat.mod_eq_of_lt h] at this
  exact this
 ·exact ⟨0, 12, .inr ⟨rfl, by omega⟩, fun w a c hs => (y1b a c _ w hs (by rw [y2y]; omega)).mono fun e w' ⟨he, hb⟩ => ⟨_, he, zero_ek, hb⟩⟩
theorem sign_byte (x : K) : U8 (bt x.val 0) * 128 % 256 = U8 (sg x) := by
 have h1 : U8 (bt x.val 0) = ((x.val % 256 : Nat) : Int) := by
  show ((bt x.val 0).toNat : Int) = _
  rw [z52, Nat.mul_zero, Nat.pow_zero, Nat.div_one]
 rw [h1]
 rcases sg_or x with ⟨h2, h3⟩ | ⟨h2, h3⟩ <;> rw [h3]
 ·show _ = (128 : Int)
  omega
 ·show _ = (0 : Int)
  omega
theorem sign_k {f : Nat → Nat} {x : K} (w : World) (hf : EK f x) :
  Calls Tryz.prog 145 #[EV f] w fun e w' => e = .returned (U (sg x)) ∧ Below w.heap.size w w' := by
 have HF := za hf
 have HB := za (sign_byte x)
 clear hf
 have H := za (Ow.start w)
 go_enter Tryz.func145, Tryz.ntmps145
 go_wp2_with (first
  | ((with_reducible apply zw H); (case hgd | ho | hx => exact rfl); clear H; intro _ _ H _ _; go_simp)
  | ((with_reducible apply zr zt H); (case hgd | ho | hx => exact rfl); (case hi => repeat first|exact z5|apply z8); intro _ _; go_simp)
  | ((with_reducible refine (y6s _ HF.out).mono ?_); rintro e wc ⟨b4, c4, rfl, hs, hb⟩; replace H := zd H hb; clear hb; have hc := (hs.sl.addr (by omega)); obtain ⟨_, _, e4, hc⟩ := hc; cases e4; replace hc := hc 0 (by omega); rw [Nat.zero_add] at hc; clear hs))
 rw [HB.out]
 go_ret
 exact ⟨rfl, H.out.bel⟩
theorem z9v {f g : Nat → Nat} {y : K} (w : World) (hT : Tp w) (hf : EK f (cdU y)) (hg : EK g (cdV y)) :
  Calls Tryz.prog 74 #[EV f, EV g] w fun e w' => ∃ h, e = .returned (.tuple #[EV h, .bool (cdIs y)]) ∧ EK h (ab (cdQ y)) ∧ Below w.heap.size w w' := z9u w hT hf hg
theorem select_k {f g : Nat → Nat} {a b : K} (n : Int) (w : World) (hf : EK f a) (hg : EK g b) :
  Calls Tryz.prog 139 #[.int .i64 n, EV f, EV g] w fun e w' => ∃ h, e = .returned (EV h) ∧ EK h (if n % 2 = 0 then a else b) ∧ Below w.heap.size w w' :=
 (z56 n f g w hf.lim hg.lim).mono fun _ _ ⟨he, hb⟩ => ⟨_, he, y8b hf hg, hb⟩
theorem across_k {f : Nat → Nat} {y : K} (n : Int) (w : World) (hT : Tp w) (hf : EK f y) :
  Calls Tryz.prog 143 #[EV f, .int .i64 n] w fun e w' => ∃ h, e = .returned (.tuple #[EV h, .bool (cdIs y)]) ∧ EK h (cdX y n) ∧ Below w.heap.size w w' := by
 have HF := za hf
 clear hf
 have EU : Hid (y * y - zC 1 = cdU y) := za (by rw [z00]; rfl)
 have EW : Hid (y * y * zC (-39081) - zC 1 = cdV y) := za (by rw [z00, y3j, Fin.mul_comm _ dK]; rfl)
 have HT := za hT
 clear hT
 have H := za (Ow.start w)
 go_enter Tryz.func143, Tryz.ntmps143
 go_upto_region 2 with (first
  | ((fail_if_success have := g2); (with_reducible apply zw H); (case hgd | ho | hx => exact rfl); clear H; intro w2 g2 H _ _; go_simp)
  | ((fail_if_success have := g4); (with_reducible apply ze z9 H); (case hgd | ho => exact rfl); clear H; intro w4 g4 H _ _; go_simp)
  | ((with_reducible apply zr zt H); (case hgd | ho | hx => exact rfl); (case hi => repeat first|exact z5|apply z8); intro _ _; go_simp)
  | ((fail_if_success have := V11); (with_reducible refine (z0f _ HF.out).mono ?_); rintro e wc ⟨h11, rfl, hv, hb⟩; replace H := zd H hb; clear hb; have V11 := za hv; clear hv)
  | ((fail_if_success have := V12); (with_reducible refine (z3w 1 _ (HT.out.below H.out.bel) (by omega) (by omega)).mono ?_); rintro e wc ⟨h12, rfl, hv, hb⟩; replace H := zd H hb; clear hb; have V12 := za hv; clear hv)
  | ((fail_if_success have := g6); (with_reducible apply ze z9 H); (case hgd | ho => exact rfl); clear H; intro w6 g6 H _ _; go_simp)
  | ((fail_if_success have := g7); (with_reducible apply ze z9 H); (case hgd | ho => exact rfl); clear H; intro w7 g7 H _ _; go_simp)
  | ((with_reducible apply zj zt H); (case hgd | ho | hx | hy => exact rfl); (case hi => repeat first|exact z5|apply z8); clear H; intro ws H _ _; simp only [qb, qc] at H; go_simp))
 go_cut [8, 9] from 13 to 23 (fun v8 v9 wx => ∃ g8 h21, v8 = .pointer (some ⟨g8, 0, none⟩) ∧ v9 = .bool (cdIs y) ∧ EK h21 (ab (cdQ y)) ∧ Ow w wx [(g8, zv 30 .u64 8 (NZ h21)), (g7, zv 30 .u64 8 (NZ h12)), (g6, zv 30 .u64 8 (NZ h11)), (g4, zv 30 .u64 8 fun _ => 0), (g2, zv 30 .u64 8 (NZ f))])
 case first =>
  go_wp2_with fail
  refine wp_region_noPanic ?_
  refine wp_region_held_drew (S := fun W => W.heap[g6]? = some (zv 30 .u64 8 (NZ h11)) ∧ W.heap[g7]? = some (zv 30 .u64 8 (NZ h12))) (by kernel_rfl) (⟨H.out.drew.row 1 rfl, H.out.drew.row 0 rfl⟩) (fun hH => ?_)
  replace H := za H.out.drew
  generalize World.drew _ = w8 at *
  refine zk 0 14 zt rfl rfl rfl hH rfl rfl (fun _ h => h.1) ?_
  refine zk 1 15 zt rfl rfl rfl hH rfl rfl (fun _ h => h.2) ?_
  refine zk 3 17 zt rfl rfl rfl hH rfl rfl (fun _ h => h.1) ?_
  try simp only [Act.put, qa, qb, qc]
  refine zk 5 19 zt rfl rfl rfl hH rfl rfl (fun _ h => h.2) ?_
  refine zK [2, 11] (zG rfl (fun K hK => ?_) (zG rfl (fun K hK => ?_) zJ))
  ·skip
   go_simp
   refine (z1t _ (HT.out.below H.out.bel) V11.out V12.out).mono ?_
   rintro e wc ⟨h16, rfl, hv, hb⟩
   replace H := zd H hb
   have HV16 := za hv
   refine zc hK ⟨zb H 1, zb H 0⟩ fun hH => zK [4, 11] (zG rfl (fun K hK => ?_) (zG rfl (fun K hK => ?_) zJ))
   ·skip
    go_simp
    refine (z07 (-39081) _ (HT.out.below H.out.bel) V11.out (by omega) (by omega)).mono ?_
    rintro e wc ⟨h18, rfl, hv, hb⟩
    replace H := zd H hb
    have HV18 := za hv
    refine zc hK ⟨zb H 1, zb H 0⟩ fun hH => ?_
    try simp only [Act.put, qa, qb, qc]
    refine zK [6, 11] (zG rfl (fun K hK => ?_) (zG rfl (fun K hK => ?_) zJ))
    ·skip
     go_simp
     refine (z1t _ (HT.out.below H.out.bel) HV18.out V12.out).mono ?_
     rintro e wc ⟨h20, rfl, hv, hb⟩
     replace H := zd H hb
     have HV20 := za hv
     refine zc hK ⟨zb H 1, zb H 0⟩ fun hH => zK [7, 11] (zG rfl (fun K hK => ?_) (zG rfl (fun K hK => ?_) zJ))
     ·skip
      go_simp
      refine (z9v _ (HT.out.below H.out.bel) (HV16.out.eq EU.out) (HV20.out.eq EW.out)).mono ?_
      rintro e wc ⟨h21, rfl, hv, hb⟩
      replace H := zd H hb
      have HV21 := za hv
      refine zc hK ⟨zb H 1, zb H 0⟩ fun hH => ?_
      refine zh 8 13 (.tuple #[EV h21, .bool (cdIs y)]) hH ?_
      refine zh 9 22 (EV h21) hH ?_
      refine zh 10 23 (.bool (cdIs y)) hH ?_
      refine zn 11 rfl fun K hK => ?_
      refine zg 8 rfl z9 H.out rfl ?_
      intro w8 g8 H3 hb
      replace H := za H3
      refine zc hK ⟨zb H 2, zb H 1⟩ fun hH => zn 12 rfl fun K hK => ?_
      refine zl 0 zt H.out rfl rfl rfl rfl ?_
      intro ws HS
      simp only [qb] at HS
      replace H := za HS
      refine zc hK ⟨zb H 2, zb H 1⟩ fun hH => ?_
      try simp only [Act.put, qa]
      refine zh 13 9 (.bool (cdIs y)) hH ?_
      refine zm ?_
      go_wp2_with fail
      go_meet
      exact ⟨g8, h21, rfl, rfl, HV21.out, H.out⟩
     ·skip
      refine zg 8 rfl z9 H.out rfl ?_
      intro w8 g8 H3 hb
      replace H := za H3
      refine zc hK ⟨zb H 2, zb H 1⟩ fun hH => zn 7 rfl fun K hK => ?_
      go_simp
      refine (z9v _ (HT.out.below H.out.bel) (HV16.out.eq EU.out) (HV20.out.eq EW.out)).mono ?_
      rintro e wc ⟨h21, rfl, hv, hb⟩
      replace H := zd H hb
      have HV21 := za hv
      refine zc hK ⟨zb H 2, zb H 1⟩ fun hH => ?_
      refine zh 8 13 (.tuple #[EV h21, .bool (cdIs y)]) hH ?_
      refine zh 9 22 (EV h21) hH ?_
      refine zh 10 23 (.bool (cdIs y)) hH ?_
      refine zn 12 rfl fun K hK => ?_
      refine zl 0 zt H.out rfl rfl rfl rfl ?_
      intro ws HS
      simp only [qb] at HS
      replace H := za HS
      refine zc hK ⟨zb H 2, zb H 1⟩ fun hH => ?_
      try simp only [Act.put, qa]
      refine zh 13 9 (.bool (cdIs y)) hH ?_
      refine zm ?_
      go_wp2_with fail
      go_meet
      exact ⟨g8, h21, rfl, rfl, HV21.out, H.out⟩
    ·skip
     refine zg 8 rfl z9 H.out rfl ?_
     intro w8 g8 H3 hb
     replace H := za H3
     refine zc hK ⟨zb H 2, zb H 1⟩ fun hH => zn 6 rfl fun K hK => ?_
     go_simp
     refine (z1t _ (HT.out.below H.out.bel) HV18.out V12.out).mono ?_
     rintro e wc ⟨h20, rfl, hv, hb⟩
     replace H := zd H hb
     have HV20 := za hv
     refine zc hK ⟨zb H 2, zb H 1⟩ fun hH => zn 7 rfl fun K hK => ?_
     go_simp
     refine (z9v _ (HT.out.below H.out.bel) (HV16.out.eq EU.out) (HV20.out.eq EW.out)).mono ?_
     rintro e wc ⟨h21, rfl, hv, hb⟩
     replace H := zd H hb
     have HV21 := za hv
     refine zc hK ⟨zb H 2, zb H 1⟩ fun hH => ?_
     try simp only [Act.put, qa, qb, qc]
     refine zh 8 13 (.tuple #[EV h21, .bool (cdIs y)]) hH ?_
     refine zh 9 22 (EV h21) hH ?_
     refine zh 10 23 (.bool (cdIs y)) hH ?_
     refine zn 12 rfl fun K hK => ?_
     refine zl 0 zt H.out rfl rfl rfl rfl ?_
     intro ws HS
     simp only [qb] at HS
     replace H := za HS
     refine zc hK ⟨zb H 2, zb H 1⟩ fun hH => ?_
     try simp only [Act.put, qa]
     refine zh 13 9 (.bool (cdIs y)) hH ?_
     refine zm ?_
     go_wp2_with fail
     go_meet
     exact ⟨g8, h21, rfl, rfl, HV21.out, H.out⟩
   ·skip
    refine zg 8 rfl z9 H.out rfl ?_
    intro w8 g8 H3 hb
    replace H := za H3
    refine zc hK ⟨zb H 2, zb H 1⟩ fun hH => zn 4 rfl fun K hK => ?_
    go_simp
    refine (z07 (-39081) _ (HT.out.below H.out.bel) V11.out (by omega) (by omega)).mono ?_
    rintro e wc ⟨h18, rfl, hv, hb⟩
    replace H := zd H hb
    have HV18 := za hv
    refine zc hK ⟨zb H 2, zb H 1⟩ fun hH => zn 6 rfl fun K hK => ?_
    go_simp
    refine (z1t _ (HT.out.below H.out.bel) HV18.out V12.out).mono ?_
    rintro e wc ⟨h20, rfl, hv, hb⟩
    replace H := zd H hb
    have HV20 := za hv
    refine zc hK ⟨zb H 2, zb H 1⟩ fun hH => ?_
    try simp only [Act.put, qa, qb, qc]
    refine zn 7 rfl fun K hK => ?_
    go_simp
    refine (z9v _ (HT.out.below H.out.bel) (HV16.out.eq EU.out) (HV20.out.eq EW.out)).mono ?_
    rintro e wc ⟨h21, rfl, hv, hb⟩
    replace H := zd H hb
    have HV21 := za hv
    refine zc hK ⟨zb H 2, zb H 1⟩ fun hH => ?_
    refine zh 8 13 (.tuple #[EV h21, .bool (cdIs y)]) hH ?_
    refine zh 9 22 (EV h21) hH ?_
    refine zh 10 23 (.bool (cdIs y)) hH ?_
    refine zn 12 rfl fun K hK => ?_
    refine zl 0 zt H.out rfl rfl rfl rfl ?_
    intro ws HS
    simp only [qb] at HS
    replace H := za HS
    refine zc hK ⟨zb H 2, zb H 1⟩ fun hH => ?_
    try simp only [Act.put, qa]
    refine zh 13 9 (.bool (cdIs y)) hH ?_
    refine zm ?_
    go_wp2_with fail
    go_meet
    exact ⟨g8, h21, rfl, rfl, HV21.out, H.out⟩
  ·skip
   refine zg 8 rfl z9 H.out rfl ?_
   intro w8 g8 H3 hb
   replace H := za H3
   refine zc hK ⟨zb H 2, zb H 1⟩ fun hH => zn 2 rfl fun K hK => ?_
   go_simp
   refine (z1t _ (HT.out.below H.out.bel) V11.out V12.out).mono ?_
   rintro e wc ⟨h16, rfl, hv, hb⟩
   replace H := zd H hb
   have HV16 := za hv
   refine zc hK ⟨zb H 2, zb H 1⟩ fun hH => zn 4 rfl fun K hK => ?_
   go_simp
   refine (z07 (-39081) _ (HT.out.below H.out.bel) V11.out (by omega) (by omega)).mono ?_
   rintro e wc ⟨h18, rfl, hv, hb⟩
   replace H := zd H hb
   have HV18 := za hv
   refine zc hK ⟨zb H 2, zb H 1⟩ fun hH => ?_
   try simp only [Act.put, qa, qb, qc]
   refine zn 6 rfl fun K hK => ?_
   go_simp
   refine (z1t _ (HT.out.below H.out.bel) HV18.out V12.out).mono ?_
   rintro e wc ⟨h20, rfl, hv, hb⟩
   replace H := zd H hb
   have HV20 := za hv
   refine zc hK ⟨zb H 2, zb H 1⟩ fun hH => zn 7 rfl fun K hK => ?_
   go_simp
   refine (z9v _ (HT.out.below H.out.bel) (HV16.out.eq EU.out) (HV20.out.eq EW.out)).mono ?_
   rintro e wc ⟨h21, rfl, hv, hb⟩
   replace H := zd H hb
   have HV21 := za hv
   refine zc hK ⟨zb H 2, zb H 1⟩ fun hH => ?_
   refine zh 8 13 (.tuple #[EV h21, .bool (cdIs y)]) hH ?_
   refine zh 9 22 (EV h21) hH ?_
   refine zh 10 23 (.bool (cdIs y)) hH ?_
   refine zn 12 rfl fun K hK => ?_
   refine zl 0 zt H.out rfl rfl rfl rfl ?_
   intro ws HS
   simp only [qb] at HS
   replace H := za HS
   refine zc hK ⟨zb H 2, zb H 1⟩ fun hH => ?_
   try simp only [Act.put, qa]
   refine zh 13 9 (.bool (cdIs y)) hH ?_
   refine zm ?_
   go_wp2_with fail
   go_meet
   exact ⟨g8, h21, rfl, rfl, HV21.out, H.out⟩
 clear H
 obtain ⟨g8, h21, rfl, rfl, hv21, HRR⟩ := hcut
 have HV21 := za hv21
 have H := za HRR
 clear HRR hv21
 go_upto_region 3 with fail
 refine wp_region_noPanic ?_
 refine wp_region_held_drew (S := fun W => W.heap[g8]? = some (zv 30 .u64 8 (NZ h21))) (by kernel_rfl) (H.out.drew.row 0 rfl) (fun hH => ?_)
 replace H := za H.out.drew
 generalize World.drew _ = w8 at *
 refine zh 0 24 (.int .i64 n) hH ?_
 refine zk 1 25 zt rfl rfl rfl hH rfl rfl (fun _ h => h) ?_
 refine zk 2 26 zt rfl rfl rfl hH rfl rfl (fun _ h => h) ?_
 refine zh 5 29 (.bool (cdIs y)) hH ?_
 refine zn 3 rfl fun K hK => ?_
 go_simp
 refine (neg_k _ (HT.out.below H.out.bel) HV21.out).mono ?_
 rintro e wc ⟨h27, rfl, hv, hb⟩
 replace H := zd H hb
 have HV27 := za hv
 refine zc hK (zb H 0) fun hH => zn 4 rfl fun K hK => ?_
 go_simp
 refine (select_k n _ HV21.out HV27.out).mono ?_
 rintro e wc ⟨h28, rfl, hv, hb⟩
 replace H := zd H hb
 have HV28 := za hv
 refine zc hK (zb H 0) fun hH => zn 6 rfl fun K hK => ?_
 refine zl 3 zt H.out rfl rfl rfl rfl ?_
 intro ws HS
 simp only [qb, qc] at HS
 replace H := za HS
 refine zc hK (zb H 0) fun hH => ?_
 try simp only [Act.put, qa]
 refine zh 7 5 (.bool (cdIs y)) hH ?_
 refine zm ?_
 go_wp2_with fail
 exact bodyPost_ret (z0c 3 zt rfl _ H rfl rfl rfl) rfl ⟨_, rfl, HV28.out, H.out.bel⟩
theorem neq_sg (a b : BitVec 8) : (U8 a != U8 b) = !decide (a = b) := by
 rw [neq_U8]
 rfl
theorem wrong_far {h f : Nat → Nat} {x : K} {s : BitVec 8} (is : Bool) (g2 g4 g5 g6 g7 g8 : Nat) (W w : World) (h0 : Ow W w [(g8, Oc 4 (.bool is)), (g7, zv 30 .u64 8 (NZ h)), (g6, Oc 5 (U s)), (g5, Oc 42 (.int .i64 12)), (g4, zv 30 .u64 8 (NZ f)), (g2, zv 32 .u64 24 fun _ => 0)]) (hx : EK h x) :
  Calls Tryz.prog 144 #[.pointer (some ⟨g5, 0, none⟩), .pointer (some ⟨g8, 0, none⟩), .pointer (some ⟨g7, 0, none⟩), .pointer (some ⟨g6, 0, none⟩)] w fun e w' => e = .returned (.bool true) ∧ Ow W w' [(g8, Oc 4 (.bool is)), (g7, zv 30 .u64 8 (NZ h)), (g6, Oc 5 (U s)), (g5, Oc 42 (.int .i64 12)), (g4, zv 30 .u64 8 (NZ f)), (g2, zv 32 .u64 24 fun _ => 0)] := by
 have HV := za hx
 have H := za h0
 clear hx h0
 go_enter Tryz.func144, Tryz.ntmps144
 go_wp2_with fail
 refine wp_region_noPanic ?_
 refine wp_region_held_drew (S := fun W => W.heap[g5]? = some (Oc 42 (.int .i64 12)) ∧ W.heap[g8]? = some (Oc 4 (.bool is)) ∧ W.heap[g7]? = some (zv 30 .u64 8 (NZ h)) ∧ W.heap[g6]? = some (Oc 5 (U s))) (by kernel_rfl) (⟨H.out.drew.row 3 rfl, H.out.drew.row 0 rfl, H.out.drew.row 1 rfl, H.out.drew.row 2 rfl⟩) (fun hH => ?_)
 replace H := za H.out.drew
 generalize World.drew _ = w8 at *
 refine z3x 0 5 y6r rfl rfl rfl hH rfl rfl (fun _ h => h.1) ?_
 refine zh 1 6 (.bool true) hH ?_
 refine zh 2 7 (.bool true) hH ?_
 refine z2c 3 8 rfl rfl rfl hH ?_
 refine z2c 4 9 rfl rfl rfl hH ?_
 refine zh 5 10 (.bool true) hH ?_
 refine zh 6 11 (.bool true) hH ?_
 refine z2c 7 12 rfl rfl rfl hH ?_
 refine z2c 8 13 rfl rfl rfl hH ?_
 refine z2c 9 14 rfl rfl rfl hH ?_
 try simp only [Act.put, qa, qb, qc]
 refine z2c 10 15 rfl rfl rfl hH ?_
 refine zh 11 16 (.bool true) hH ?_
 refine zh 12 4 (.bool true) hH ?_
 refine zm ?_
 go_wp2_with fail
 go_ret
 exact ⟨rfl, H.out⟩
theorem wrong_none {h f : Nat → Nat} {x : K} {s : BitVec 8} (g2 g4 g5 g6 g7 g8 : Nat) (W w : World) (h0 : Ow W w [(g8, Oc 4 (.bool false)), (g7, zv 30 .u64 8 (NZ h)), (g6, Oc 5 (U s)), (g5, Oc 42 (.int .i64 0)), (g4, zv 30 .u64 8 (NZ f)), (g2, zv 32 .u64 24 fun _ => 0)]) (hx : EK h x) :
  Calls Tryz.prog 144 #[.pointer (some ⟨g5, 0, none⟩), .pointer (some ⟨g8, 0, none⟩), .pointer (some ⟨g7, 0, none⟩), .pointer (some ⟨g6, 0, none⟩)] w fun e w' => e = .returned (.bool true) ∧ Ow W w' [(g8, Oc 4 (.bool false)), (g7, zv 30 .u64 8 (NZ h)), (g6, Oc 5 (U s)), (g5, Oc 42 (.int .i64 0)), (g4, zv 30 .u64 8 (NZ f)), (g2, zv 32 .u64 24 fun _ => 0)] := by
 have HV := za hx
 have H := za h0
 clear hx h0
 go_enter Tryz.func144, Tryz.ntmps144
 go_wp2_with fail
 refine wp_region_noPanic ?_
 refine wp_region_held_drew (S := fun W => W.heap[g5]? = some (Oc 42 (.int .i64 0)) ∧ W.heap[g8]? = some (Oc 4 (.bool false)) ∧ W.heap[g7]? = some (zv 30 .u64 8 (NZ h)) ∧ W.heap[g6]? = some (Oc 5 (U s))) (by kernel_rfl) (⟨H.out.drew.row 3 rfl, H.out.drew.row 0 rfl, H.out.drew.row 1 rfl, H.out.drew.row 2 rfl⟩) (fun hH => ?_)
 replace H := za H.out.drew
 generalize World.drew _ = w8 at *
 refine z3x 0 5 y6r rfl rfl rfl hH rfl rfl (fun _ h => h.1) ?_
 refine zh 1 6 (.bool false) hH ?_
 refine zh 2 7 (.bool false) hH ?_
 refine z3x 3 8 y0e rfl rfl rfl hH rfl rfl (fun _ h => h.2.1) ?_
 refine zh 4 9 (.bool true) hH ?_
 refine zh 5 10 (.bool true) hH ?_
 refine zh 6 11 (.bool true) hH ?_
 refine z2c 7 12 rfl rfl rfl hH ?_
 refine z2c 8 13 rfl rfl rfl hH ?_
 refine z2c 9 14 rfl rfl rfl hH ?_
 try simp only [Act.put, qa, qb, qc]
 refine z2c 10 15 rfl rfl rfl hH ?_
 refine zh 11 16 (.bool true) hH ?_
 refine zh 12 4 (.bool true) hH ?_
 refine zm ?_
 go_wp2_with fail
 go_ret
 exact ⟨rfl, H.out⟩
theorem wrong_near {h f : Nat → Nat} {x : K} {s : BitVec 8} (g2 g4 g5 g6 g7 g8 : Nat) (W w : World) (h0 : Ow W w [(g8, Oc 4 (.bool true)), (g7, zv 30 .u64 8 (NZ h)), (g6, Oc 5 (U s)), (g5, Oc 42 (.int .i64 0)), (g4, zv 30 .u64 8 (NZ f)), (g2, zv 32 .u64 24 fun _ => 0)]) (hx : EK h x) :
  Calls Tryz.prog 144 #[.pointer (some ⟨g5, 0, none⟩), .pointer (some ⟨g8, 0, none⟩), .pointer (some ⟨g7, 0, none⟩), .pointer (some ⟨g6, 0, none⟩)] w fun e w' => e = .returned (.bool (!decide (sg x = s))) ∧ Ow W w' [(g8, Oc 4 (.bool true)), (g7, zv 30 .u64 8 (NZ h)), (g6, Oc 5 (U s)), (g5, Oc 42 (.int .i64 0)), (g4, zv 30 .u64 8 (NZ f)), (g2, zv 32 .u64 24 fun _ => 0)] := by
 have HV := za hx
 have H := za h0
 clear hx h0
 go_enter Tryz.func144, Tryz.ntmps144
 go_wp2_with fail
 refine wp_region_noPanic ?_
 refine wp_region_held_drew (S := fun W => W.heap[g5]? = some (Oc 42 (.int .i64 0)) ∧ W.heap[g8]? = some (Oc 4 (.bool true)) ∧ W.heap[g7]? = some (zv 30 .u64 8 (NZ h)) ∧ W.heap[g6]? = some (Oc 5 (U s))) (by kernel_rfl) (⟨H.out.drew.row 3 rfl, H.out.drew.row 0 rfl, H.out.drew.row 1 rfl, H.out.drew.row 2 rfl⟩) (fun hH => ?_)
 replace H := za H.out.drew
 generalize World.drew _ = w8 at *
 refine z3x 0 5 y6r rfl rfl rfl hH rfl rfl (fun _ h => h.1) ?_
 refine zh 1 6 (.bool false) hH ?_
 refine zh 2 7 (.bool false) hH ?_
 refine z3x 3 8 y0e rfl rfl rfl hH rfl rfl (fun _ h => h.2.1) ?_
 refine zh 4 9 (.bool false) hH ?_
 refine zh 5 10 (.bool false) hH ?_
 refine zh 6 11 (.bool false) hH ?_
 refine zk 7 12 zt rfl rfl rfl hH rfl rfl (fun _ h => h.2.2.1) ?_
 refine z3x 9 14 y67 rfl rfl rfl hH rfl rfl (fun _ h => h.2.2.2) ?_
 refine zn 8 rfl fun K hK => ?_
 go_simp
 refine (sign_k _ HV.out).mono ?_
 rintro e wc ⟨rfl, hb⟩
 replace H := zd H hb
 refine zc hK ⟨zb H 3, zb H 0, zb H 1, zb H 2⟩ fun hH => ?_
 try simp only [Act.put, qa, qb, qc]
 refine z0h 10 15 (.bool (!decide (sg x = s))) rfl rfl rfl hH (fun w hw => by rw [← neq_sg]; go_simp) ?_
 refine zh 11 16 (.bool (!decide (sg x = s))) hH ?_
 refine zh 12 4 (.bool (!decide (sg x = s))) hH ?_
 refine zm ?_
 go_wp2_with fail
 go_ret
 exact ⟨rfl, H.out⟩
theorem wrong_k {h f : Nat → Nat} {x : K} {s : BitVec 8} {is b : Bool} {Er : Int} (g2 g4 g5 g6 g7 g8 : Nat) (W w : World) (hE : Er = 0 ∨ Er = 12) (hb : (!decide (Er = 0) || !is || !decide (sg x = s)) = b) (h0 : Ow W w [(g8, Oc 4 (.bool is)), (g7, zv 30 .u64 8 (NZ h)), (g6, Oc 5 (U s)), (g5, Oc 42 (.int .i64 Er)), (g4, zv 30 .u64 8 (NZ f)), (g2, zv 32 .u64 24 fun _ => 0)]) (hx : EK h x) :
  Calls Tryz.prog 144 #[.pointer (some ⟨g5, 0, none⟩), .pointer (some ⟨g8, 0, none⟩), .pointer (some ⟨g7, 0, none⟩), .pointer (some ⟨g6, 0, none⟩)] w fun e w' => e = .returned (.bool b) ∧ Ow W w' [(g8, Oc 4 (.bool is)), (g7, zv 30 .u64 8 (NZ h)), (g6, Oc 5 (U s)), (g5, Oc 42 (.int .i64 Er)), (g4, zv 30 .u64 8 (NZ f)), (g2, zv 32 .u64 24 fun _ => 0)] := by
 subst hb
 rcases hE with rfl | rfl
 ·cases is with
  | false => exact wrong_none g2 g4 g5 g6 g7 g8 W w h0 hx
  | true => exact wrong_near g2 g4 g5 g6 g7 g8 W w h0 hx
 ·exact wrong_far is g2 g4 g5 g6 g7 g8 W w h0 hx
theorem sh7_val (s : BitVec 8) : wrap64 (U8 s / 128) = sh7 s := by
 have h := U8_bd s
 rw [IntWalk.wrap64_in _ ⟨by omega, by omega⟩]
 show ((s.toNat : Nat) : Int) / 128 = ((s.toNat / 128 : Nat) : Int)
 omega
theorem ptOf_pt {f g : Nat → Nat} {X Y : K} {P : Pt pN dK} (w : World) (hT : Tp w) (hf : EK f X) (hg : EK g Y) (hp : P.x = X ∧ P.y = Y) :
  Calls Tryz.prog 60 #[EV f, EV g] w fun e w' => ∃ r, e = .returned (.tuple #[PO r, .int .i64 0]) ∧ PtK r P ∧ Below w.heap.size w w' := by
 obtain ⟨rfl, rfl⟩ := hp
 exact y32 w hT hf hg P.on
theorem cdec_on {a : Option Addr} {c x : Nat} {y : K} {Er n : Int} {s : BitVec 8} (w : World) (hT : Tp w) (hs : Sb w w.heap.size a 57 c x) (h1 : bt x 56 = s) (hn : sh7 s = n) (hE : Er = 0 ∨ Er = 12)
  (hD : ∀ (w : World) (a : Option Addr) (c : Nat), Sl w w.heap.size a 56 c (bt x) → Calls Tryz.prog 58 #[.slice a 56 c] w fun e w' => ∃ g, e = .returned (.tuple #[EV g, .int .i64 Er]) ∧ EK g y ∧ Below w.heap.size w w')
  (hb : (!decide (Er = 0) || !cdIs y || !decide (sg (cdX y n) = s)) = false) {P : Pt pN dK} (hp : P.x = cdX y n ∧ P.y = y) :
  Calls Tryz.prog 84 #[.slice a 57 c] w fun e w' => ∃ r, e = .returned (.tuple #[PO r, .int .i64 0]) ∧ PtK r P ∧ Below w.heap.size w w' := by
 obtain ⟨b0, o0, rfl, hc⟩ := hs.sl.addr (by omega)
 have hc := hc 56 (by omega)
 rw [h1] at hc
 have HC := za hc
 have HS := za (hs.sl.first (m := 56) (c' := 56) (by omega) (by omega) (by omega))
 have le57 : (57 : Int) ≤ (c : Int) := Int.ofNat_le.2 hs.sl.le
 have HD := za hD
 have HE := za hE
 have HB := za hb
 have HN : wrap64 (U8 s / 128) = n := by rw [← hn]; exact sh7_val s
 have HP := za hp
 clear hs h1 hc hD hE hb hn hp
 have HT := za hT
 clear hT
 have H := za (Ow.start w)
 go_enter Tryz.func84, Tryz.ntmps84
 go_wp2_with (first
  | ((with_reducible apply ze z1d H); (case hgd | ho => exact rfl); clear H; intro _ _ H _ _; go_simp)
  | ((fail_if_success have := V1); (with_reducible refine (HD.out _ _ _ ((HS.out.below H.out.bel).more H.out.bel.size)).mono ?_); rintro e wc ⟨f1, rfl, hv, hb⟩; replace H := zd H hb; clear hb; have V1 := za hv; clear hv)
  | ((with_reducible apply ze z9 H); (case hgd | ho => exact rfl); clear H; intro _ _ H _ _; go_simp)
  | ((with_reducible apply z4v nilEr (z48 _ _) H); (case hgd | ho => exact rfl); clear H; intro _ _ H _ _; go_simp)
  | ((with_reducible apply z4v nil8' (z48 _ _) H); (case hgd | ho => exact rfl); clear H; intro _ _ H _ _; go_simp)
  | ((with_reducible apply z4v nilBo (y5o _) H); (case hgd | ho => exact rfl); clear H; intro _ _ H _ _; go_simp)
  | ((with_reducible apply zj zt H); (case hgd | ho | hx | hy => exact rfl); (case hi => repeat first|exact z5|apply z8); clear H; intro ws H _ _; simp only [qb, qc] at H; go_simp)
  | ((with_reducible apply z4t y6r (z48 _ _) H); (case hgd | ho | hx | hy => exact rfl); (case hi => repeat first|exact z5|apply z8); clear H; intro ws H _ _; simp only [qb] at H; go_simp)
  | ((with_reducible apply z4t y67 (z48 _ _) H); (case hgd | ho | hx | hy => exact rfl); (case hi => repeat first|exact z5|apply z8); clear H; intro ws H _ _; simp only [qb] at H; go_simp)
  | ((with_reducible apply z4t y0e (y5o _) H); (case hgd | ho | hx | hy => exact rfl); (case hi => repeat first|exact z5|apply z8); clear H; intro ws H _ _; simp only [qb] at H; go_simp)
  | ((with_reducible apply own_load_old y67 H); (case hgd | ho | hx => exact rfl); (case hc => exact HC.out); intro _ _; go_simp)
  | ((with_reducible apply zr zt H); (case hgd | ho | hx => exact rfl); (case hi => repeat first|exact z5|apply z8); intro _ _; go_simp)
  | ((with_reducible apply z4u y67 H); (case hgd | ho | hx => exact rfl); (case hi => repeat first|exact z5|apply z8); intro _ _; go_simp)
  | ((fail_if_success have := V2); (with_reducible refine (across_k n _ (HT.out.below H.out.bel) V1.out).mono ?_); rintro e wc ⟨f2, rfl, hv, hb⟩; replace H := zd H hb; clear hb; have V2 := za hv; clear hv)
  | ((with_reducible refine (wrong_k _ _ _ _ _ _ _ _ HE.out HB.out H.out V2.out).mono ?_); rintro e wc ⟨rfl, H2⟩; replace H := za H2; clear H2)
  | ((fail_if_success have := V3); (with_reducible refine (ptOf_pt _ (HT.out.below H.out.bel) V2.out V1.out HP.out).mono ?_); rintro e wc ⟨r3, rfl, hv, hb⟩; replace H := zd H hb; clear hb; have V3 := za hv; clear hv)
  | ((with_reducible apply zj zH H); (case hgd | ho | hx | hy => exact rfl); (case hi => repeat first|exact z5|apply z8); clear H; intro ws H _ _; simp only [qb, qc] at H; go_simp))
 exact bodyPost_ret (z0c 5 zH rfl _ H rfl rfl rfl) rfl ⟨_, rfl, V3.out, H.out.bel⟩
theorem decode_on {a : Option Addr} {c x : Nat} {P : Pt pN dK} (w : World) (hT : Tp w) (hs : Sb w w.heap.size a 57 c x) (hx : x = cdN P) :
  Calls Tryz.prog 84 #[.slice a 57 c] w fun e w' => ∃ r, e = .returned (.tuple #[PO r, .int .i64 0]) ∧ PtK r P ∧ Below w.heap.size w w' := by
 obtain ⟨y, Er, hE, hD⟩ := fdec_k x
 have hm : x % 2 ^ (8 * 56) = P.y.val := by rw [hx]; exact cdN_mod P
 have hy : Er = 0 ∧ y = P.y := by
  rcases hE with ⟨h1, h2⟩ | ⟨_, h2⟩
  ·exact ⟨h1, Fin.ext (h2.trans hm)⟩
  ·rw [hm] at h2
   exact absurd P.y.isLt (Nat.not_lt.2 h2)
 obtain ⟨rfl, rfl⟩ := hy
 have h1 : bt x 56 = sg P.x := by rw [hx]; exact y4j P
 refine cdec_on w hT hs h1 rfl (.inl rfl) hD ?_ ⟨(cdX_on P).symm, rfl⟩
 rw [cdX_on, cdIs_on, decide_eq_true rfl, decide_eq_true rfl]
 rfl
end Go.Proofs.YtgjbonikbmgfmaaGreatDoor
