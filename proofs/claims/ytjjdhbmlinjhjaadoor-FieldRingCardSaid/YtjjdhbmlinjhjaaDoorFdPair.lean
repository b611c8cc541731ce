/-
  The contracts of math/bits.Mul64 and Add64, and of field's pairs of words: add, plus, part.
-/
import Derived.Test.YtjjdhbmlinjhjaaDoorFdAdd
import Derived.Lib.Mul64
import Derived.Laws.Externs
namespace Go.Proofs.YtjjdhbmlinjhjaaDoor
open Go.RowKit

theorem maskN (a : Nat) (ha : a < 18446744073709551616) : bits .and .u64 (a : Int) 4294967295 = ((a % 4294967296 : Nat) : Int) := by
  have h := bits_and_u64_nat a 4294967295 ha (by omega)
  have e : a &&& 4294967295 = a % 4294967296 := Nat.and_two_pow_sub_one_eq_mod a 32
  rw [e] at h
  exact h
theorem divN (a : Nat) : (a : Int) / 4294967296 = ((a / 4294967296 : Nat) : Int) := by omega
theorem mulN (a b : Nat) : (a : Int) * (b : Int) = ((a * b : Nat) : Int) := (Int.natCast_mul a b).symm
theorem addN (a b : Nat) : (a : Int) + (b : Int) = ((a + b : Nat) : Int) := (Int.natCast_add a b).symm
theorem wrapN (a : Nat) (ha : a < 18446744073709551616) : IntKind.u64.wrap (a : Int) = (a : Int) := by rw [IntKind.wrap_u64]; omega
theorem wrapM (a : Nat) : IntKind.u64.wrap (a : Int) = ((a % 18446744073709551616 : Nat) : Int) := by rw [IntKind.wrap_u64]; omega
set_option maxHeartbeats 1000000 in
theorem mul64_nat (x y : Nat) (hx : x < 18446744073709551616) (hy : y < 18446744073709551616) (w : World) :
    Calls Tryd.prog 62 #[.int .u64 x, .int .u64 y] w fun e w' => e = .returned (.tuple #[.int .u64 ((x * y / 18446744073709551616 : Nat) : Int), .int .u64 ((x * y % 18446744073709551616 : Nat) : Int)]) ∧ w' = w := by
  obtain ⟨bd, bt, bw, hhi⟩ := Lib.mul64_hi x y hx hy
  have ba := Lib.half_mul_le (a := x / 4294967296) (b := y / 4294967296) (by omega) (by omega)
  have bb := Lib.half_mul_le (a := x / 4294967296) (b := y % 4294967296) (by omega) (by omega)
  have bc := Lib.half_mul_le (a := x % 4294967296) (b := y / 4294967296) (by omega) (by omega)
  have ba' : x / 4294967296 * (y / 4294967296) < 18446744073709551616 := by omega
  have bb' : x / 4294967296 * (y % 4294967296) < 18446744073709551616 := by omega
  have bc' : x % 4294967296 * (y / 4294967296) < 18446744073709551616 := by omega
  have bh1 : x / 4294967296 * (y / 4294967296) + (x / 4294967296 * (y % 4294967296) + x % 4294967296 * (y % 4294967296) / 4294967296) / 4294967296 < 18446744073709551616 := by omega
  have bh : x / 4294967296 * (y / 4294967296) + (x / 4294967296 * (y % 4294967296) + x % 4294967296 * (y % 4294967296) / 4294967296) / 4294967296 + ((x / 4294967296 * (y % 4294967296) + x % 4294967296 * (y % 4294967296) / 4294967296) % 4294967296 + x % 4294967296 * (y / 4294967296)) / 4294967296 < 18446744073709551616 := by omega
  go_enter Tryd.func62, Tryd.ntmps62
  go_wp2
  simp only [maskN x hx, maskN y hy, divN, mulN, addN, wrapN _ bd, wrapN _ bb', wrapN _ bt, maskN _ bt, wrapN _ bc', wrapN _ bw, wrapN _ ba', wrapN _ bh1, wrapN _ bh, wrapM (x * y)]
  rw [hhi]
  go_ret2
  exact ⟨rfl, rfl⟩
theorem add64_nat (x y k : Nat) (hx : x < 18446744073709551616) (hy : y < 18446744073709551616) (hk : k ≤ 1) (w : World) :
    (callFunc 66 #[.int .u64 x, .int .u64 y, .int .u64 k]).run Tryd.prog w = .ok (.value (.tuple #[.int .u64 (((x + y + k) % 18446744073709551616 : Nat) : Int), .int .u64 (((x + y + k) / 18446744073709551616 : Nat) : Int)])) w := by
  have h := run_callFunc_extern (P := Tryd.prog) Tryd.func66 (by kernel_rfl) (by kernel_rfl) (by kernel_rfl) (e := add64Entry) (by kernel_rfl) #[.int .u64 x, .int .u64 y, .int .u64 k] w
  rw [h]
  show (Sem.run Tryd.prog (add64Entry #[.int .u64 (x : Int), .int .u64 (y : Int), .int .u64 (k : Int)]) w).andThen _ = _
  rw [run_add64 _ _ _ (by omega) (by omega) (by omega) (by omega)]
  have e1 : ((x : Int) + y + k) % 18446744073709551616 = (((x + y + k) % 18446744073709551616 : Nat) : Int) := by omega
  have e2 : ((x : Int) + y + k) / 18446744073709551616 = (((x + y + k) / 18446744073709551616 : Nat) : Int) := by omega
  rw [e1, e2]
  rfl
/-- Two words as what a row of two holds; a number's two words. -/
def two (a b : Int) : Nat → Int := fun i => if i = 0 then a else b
def pz (n : Nat) : Nat → Int := two ((n / 18446744073709551616 : Nat) : Int) ((n % 18446744073709551616 : Nat) : Int)
abbrev PV (n : Nat) : Value := .agg (AZ .u64 2 (pz n))
theorem AZ_two (f : Nat → Int) : AZ .u64 2 f = #[.int .u64 (f 0), .int .u64 (f 1)] := by
  unfold AZ
  rfl
theorem built_P (a b : Int) (w : World) : (Instr.build 82 #[(0, .int .u64 a), (1, .int .u64 b)]).run Tryd.prog w = .ok (.agg (AZ .u64 2 (two a b))) w := by
  rw [AZ_two]
  go_simp
  simp [two]
theorem built_P0 (w : World) : (Instr.build 82 #[]).run Tryd.prog w = .ok (.agg (AZ .u64 2 (pz 0))) w := by
  rw [AZ_two]
  go_simp
  simp [pz, two]
section
variable {ops : Array Oper} {rest : List Oper} {o : Oper} {a : Act} {w : World} {Q : Exit → Act → World → Prop}
theorem lay_build_P (hgd : o.guard = none) {x y : Operand} (ho : o.op = .build 82 #[(0, x), (1, y)]) {f g : Int} (hx : a.eval x = .int .u64 f) (hy : a.eval y = .int .u64 g)
    (k : ∀ K : Act → World → Prop, (∀ a w, wpList Tryd.prog ops Q rest a w → K a w) → K (a.put o.dst (.agg (AZ .u64 2 (two f g)))) w) : wpList Tryd.prog ops Q (o :: rest) a w :=
  wpList_plain hgd fun K hK => by
    unfold Oper.wp execOp
    simp only [ho, List.map_toArray, List.map_cons, List.map_nil, hx, hy, Sem.run_bind, built_P, Result.andThen_ok]
    exact k K hK
theorem lay_build_P0 (hgd : o.guard = none) (ho : o.op = .build 82 #[])
    (k : ∀ K : Act → World → Prop, (∀ a w, wpList Tryd.prog ops Q rest a w → K a w) → K (a.put o.dst (.agg (AZ .u64 2 (pz 0)))) w) : wpList Tryd.prog ops Q (o :: rest) a w :=
  wpList_plain hgd fun K hK => by
    unfold Oper.wp execOp
    simp only [ho, Array.map_empty, Sem.run_bind, built_P0, Result.andThen_ok]
    exact k K hK
end
set_option maxRecDepth 8000 in
set_option maxHeartbeats 1000000 in
theorem padd_any (a b : Nat) (w : World) (h : a + b < 340282366920938463463374607431768211456) :
    Calls Tryd.prog 63 #[PV a, PV b] w fun e w' => e = .returned (PV (a + b)) ∧ Below w.heap.size w w' := by
  obtain ⟨ah, hah⟩ : ∃ ah, a / 18446744073709551616 = ah := ⟨_, rfl⟩
  obtain ⟨al, hal⟩ : ∃ al, a % 18446744073709551616 = al := ⟨_, rfl⟩
  obtain ⟨bh, hbh⟩ : ∃ bh, b / 18446744073709551616 = bh := ⟨_, rfl⟩
  obtain ⟨bl, hbl⟩ : ∃ bl, b % 18446744073709551616 = bl := ⟨_, rfl⟩
  have p1 : pz a 0 = (ah : Int) := by rw [← hah]; rfl
  have p2 : pz a 1 = (al : Int) := by rw [← hal]; rfl
  have p3 : pz b 0 = (bh : Int) := by rw [← hbh]; rfl
  have p4 : pz b 1 = (bl : Int) := by rw [← hbl]; rfl
  obtain ⟨r, hr⟩ : ∃ r, (al + bl + 0) % 18446744073709551616 = r := ⟨_, rfl⟩
  obtain ⟨c, hc⟩ : ∃ c, (al + bl + 0) / 18446744073709551616 = c := ⟨_, rfl⟩
  have A1 : ∀ w, (callFunc 66 #[.int .u64 al, .int .u64 bl, .int .u64 0]).run Tryd.prog w = .ok (.value (.tuple #[.int .u64 (((al + bl + 0) % 18446744073709551616 : Nat) : Int), .int .u64 (((al + bl + 0) / 18446744073709551616 : Nat) : Int)])) w := fun w => add64_nat al bl 0 (by omega) (by omega) (by omega) w
  have A2 := add64_nat ah bh c (by omega) (by omega) (by omega)
  obtain ⟨s, hs⟩ : ∃ s, (ah + bh + c) % 18446744073709551616 = s := ⟨_, rfl⟩
  obtain ⟨t, ht⟩ : ∃ t, (ah + bh + c) / 18446744073709551616 = t := ⟨_, rfl⟩
  rw [hr, hc] at A1
  rw [hs, ht] at A2
  have HE : Hid (two (s : Int) (r : Int) = pz (a + b)) := Lib.hid (by
    have h1 : s = (a + b) / 18446744073709551616 := by omega
    have h2 : r = (a + b) % 18446744073709551616 := by omega
    rw [h1, h2]
    rfl)
  clear hah hal hbh hbl hr hc hs ht h
  have H := Lib.hid (Ow.start w)
  go_enter Tryd.func63, Tryd.ntmps63
  go_wp2_with (first
    | ((fail_if_success have := g1); (with_reducible apply own_box H); (case hgd => exact rfl); (case ho => exact rfl); (case hx => exact rfl); intro w1 g1 H' _ _; replace H := H'; clear H'; go_simp)
    | ((fail_if_success have := g2); (with_reducible apply own_box H); (case hgd => exact rfl); (case ho => exact rfl); (case hx => exact rfl); intro w2 g2 H' _ _; replace H := H'; clear H'; go_simp)
    | ((fail_if_success have := g3); (with_reducible apply own_alloc nilP H); (case hgd => exact rfl); (case ho => exact rfl); intro w3 g3 H' _ _; replace H := H'; clear H'; go_simp)
    | ((with_reducible apply own_get oneW H); (case hgd => exact rfl); (case ho => exact rfl); (case hx => exact rfl); (case hi => first | exact at0 | exact at1 | exact at2 | exact at3 | exact at4 | exact at5 | exact at6); (case hj => omega); intro _ _; go_simp)
    | ((with_reducible apply lay_build_P); (case hgd => exact rfl); (case ho => exact rfl); (case hx => exact rfl); (case hy => exact rfl); intro _ _; go_simp)
    | ((with_reducible apply own_store rowP H); (case hgd => exact rfl); (case ho => exact rfl); (case hx => exact rfl); (case hy => exact rfl); (case hi => first | exact at0 | exact at1 | exact at2 | exact at3 | exact at4 | exact at5 | exact at6); intro ws H' _ _; replace H := H'; clear H'; simp only [List.set_cons_zero] at H; go_simp))
  rw [HE.out] at H
  exact bodyPost_ret (own_result 0 rowP rfl _ H rfl rfl) rfl ⟨rfl, H.out.bel⟩
set_option maxRecDepth 8000 in
set_option maxHeartbeats 1000000 in
theorem plus_any (a x y : Nat) (w : World) (hx : x < 18446744073709551616) (hy : y < 18446744073709551616) (h : a + x * y < 340282366920938463463374607431768211456) :
    Calls Tryd.prog 55 #[PV a, .int .u64 x, .int .u64 y] w fun e w' => e = .returned (PV (a + x * y)) ∧ Below w.heap.size w w' := by
  have HM := Lib.hid (fun w => mul64_nat x y hx hy w)
  have HA : Hid (∀ w, Calls Tryd.prog 63 #[.agg (AZ .u64 2 (pz a)), .agg (AZ .u64 2 (two ((x * y / 18446744073709551616 : Nat) : Int) ((x * y % 18446744073709551616 : Nat) : Int)))] w fun e w' => e = .returned (PV (a + x * y)) ∧ Below w.heap.size w w') := Lib.hid (fun w => padd_any a (x * y) w h)
  generalize x * y / 18446744073709551616 = u at *
  generalize x * y % 18446744073709551616 = v at *
  clear hx hy h
  have H := Lib.hid (Ow.start w)
  go_enter Tryd.func55, Tryd.ntmps55
  go_wp2_with (first
    | ((fail_if_success have := g1); (with_reducible apply own_box H); (case hgd => exact rfl); (case ho => exact rfl); (case hx => exact rfl); intro w1 g1 H' _ _; replace H := H'; clear H'; go_simp)
    | ((fail_if_success have := g2); (with_reducible apply own_alloc nilP H); (case hgd => exact rfl); (case ho => exact rfl); intro w2 g2 H' _ _; replace H := H'; clear H'; go_simp)
    | ((with_reducible refine (HM.out _).mono ?_); rintro e wc ⟨rfl, rfl⟩)
    | ((with_reducible apply own_load rowP H); (case hgd => exact rfl); (case ho => exact rfl); (case hx => exact rfl); (case hi => first | exact at0 | exact at1 | exact at2 | exact at3 | exact at4 | exact at5 | exact at6); intro _ _; go_simp)
    | ((with_reducible apply lay_build_P); (case hgd => exact rfl); (case ho => exact rfl); (case hx => exact rfl); (case hy => exact rfl); intro _ _; go_simp)
    | ((with_reducible refine (HA.out _).mono ?_); rintro e wc ⟨rfl, hb⟩; replace H := Lib.hid (H.out.call hb); clear hb)
    | ((with_reducible apply own_store rowP H); (case hgd => exact rfl); (case ho => exact rfl); (case hx => exact rfl); (case hy => exact rfl); (case hi => first | exact at0 | exact at1 | exact at2 | exact at3 | exact at4 | exact at5 | exact at6); intro ws H' _ _; replace H := H'; clear H'; simp only [List.set_cons_zero] at H; go_simp))
  exact bodyPost_ret (own_result 0 rowP rfl _ H rfl rfl) rfl ⟨rfl, H.out.bel⟩
set_option maxRecDepth 8000 in
set_option maxHeartbeats 1000000 in
theorem ppart_any (a o : Nat) (w : World) (ho : o < 18446744073709551616) (h : a + o < 1329227995784915872903807060280344576) :
    Calls Tryd.prog 65 #[PV a, .int .u64 o] w fun e w' => e = .returned (.tuple #[.int .u64 (((a + o) % 72057594037927936 : Nat) : Int), .int .u64 (((a + o) / 72057594037927936 : Nat) : Int)]) ∧ Below w.heap.size w w' := by
  have HE : two 0 (o : Int) = pz o := by
    unfold pz
    rw [Nat.div_eq_of_lt ho, Nat.mod_eq_of_lt ho]
    rfl
  have HA : Hid (∀ w, Calls Tryd.prog 63 #[.agg (AZ .u64 2 (pz a)), .agg (AZ .u64 2 (pz o))] w fun e w' => e = .returned (.agg (AZ .u64 2 (pz (a + o)))) ∧ Below w.heap.size w w') := Lib.hid (fun w => padd_any a o w (by omega))
  obtain ⟨n, hn⟩ : ∃ n, a + o = n := ⟨_, rfl⟩
  rw [hn] at HA h ⊢
  obtain ⟨u, hu⟩ : ∃ u, n / 18446744073709551616 = u := ⟨_, rfl⟩
  obtain ⟨v, hv⟩ : ∃ v, n % 18446744073709551616 = v := ⟨_, rfl⟩
  have P1 : Hid (pz n 0 = (u : Int)) := Lib.hid (by rw [← hu]; rfl)
  have P2 : Hid (pz n 1 = (v : Int)) := Lib.hid (by rw [← hv]; rfl)
  have e1 := and_full v (by omega)
  obtain ⟨r, hr⟩ : ∃ r, v % 72057594037927936 = r := ⟨_, rfl⟩
  obtain ⟨s, hs⟩ : ∃ s, u * 256 = s := ⟨_, rfl⟩
  obtain ⟨t, ht⟩ : ∃ t, v / 72057594037927936 = t := ⟨_, rfl⟩
  have e2 : (u : Int) * 256 = (s : Int) := by omega
  have e3 : IntKind.u64.wrap (s : Int) = (s : Int) := by rw [IntKind.wrap_u64]; omega
  have e4 : (v : Int) / 72057594037927936 = (t : Int) := by omega
  have e5 : bits .or .u64 (s : Int) (t : Int) = ((s + t : Nat) : Int) := by
    rw [u64_or_nat s t (by omega) (by omega)]
    congr 1
    rw [← hs, Nat.mul_comm, show 256 = 2 ^ 8 from rfl]
    exact (Nat.two_pow_add_eq_or_of_lt (by omega) u).symm
  have E1 : Hid (n % 72057594037927936 = r) := Lib.hid (by omega)
  have E2 : Hid (n / 72057594037927936 = s + t) := Lib.hid (by omega)
  obtain ⟨y, hy⟩ : ∃ y, s + t = y := ⟨_, rfl⟩
  rw [hr] at e1
  rw [hy] at e5 E2
  clear hn hu hv hr hs ht hy h ho
  have H := Lib.hid (Ow.start w)
  go_enter Tryd.func65, Tryd.ntmps65
  go_wp2_with (first
    | ((fail_if_success have := g1); (with_reducible apply own_box H); (case hgd => exact rfl); (case ho => exact rfl); (case hx => exact rfl); intro w1 g1 H' _ _; replace H := H'; clear H'; go_simp)
    | ((with_reducible apply own_load rowP H); (case hgd => exact rfl); (case ho => exact rfl); (case hx => exact rfl); (case hi => first | exact at0 | exact at1 | exact at2 | exact at3 | exact at4 | exact at5 | exact at6); intro _ _; go_simp)
    | ((with_reducible apply lay_build_P); (case hgd => exact rfl); (case ho => exact rfl); (case hx => exact rfl); (case hy => exact rfl); intro _ _; go_simp)
    | ((with_reducible refine (HA.out _).mono ?_); rintro e wc ⟨rfl, hb⟩; replace H := Lib.hid (H.out.call hb); clear hb)
    | ((with_reducible apply own_store rowP H); (case hgd => exact rfl); (case ho => exact rfl); (case hx => exact rfl); (case hy => exact rfl); (case hi => first | exact at0 | exact at1 | exact at2 | exact at3 | exact at4 | exact at5 | exact at6); intro ws H' _ _; replace H := H'; clear H'; simp only [List.set_cons_zero] at H; go_simp))
  refine wp_region_still_lit (by kernel_rfl) (by kernel_rfl) ?_
  have D := Lib.hid H.out.drew
  clear H HE
  change wpStill _ _ (World.drew _) (fun a' => Exit.then _ _ Exit.normal a' (World.drew _)) _ _
  have hc0 := D.out.cell 0 rfl 0 (by omega)
  have hc1 := D.out.cell 0 rfl 1 (by omega)
  rw [P1.out] at hc0
  rw [P2.out] at hc1
  generalize World.drew _ = w5 at *
  iterate 12 still_step
  refine wpStill_nil ?_
  clear hc0 hc1 e1 e2 e3 e4 e5
  go_wp2_with fail
  go_ret2
  exact ⟨by rw [E1.out, E2.out]; rfl, D.out.bel⟩
end Go.Proofs.YtjjdhbmlinjhjaaDoor
