/- Lemmas; no statement is proved here. -/
import Derived.Test.YtgjbonikbmgfmaaGreatDoorBuC
import Derived.Lib.Mul64
import Derived.Laws.Externs
set_option maxRecDepth 10000
set_option maxHeartbeats 3200000
namespace Go.Proofs.YtgjbonikbmgfmaaGreatDoor
open Go.RowKit
theorem maskN (a : Nat) (ha : a < 18446744073709551616) : bits .and .u64 (a : Int) 4294967295 = ((a % 4294967296 : Nat) : Int) := by
 have h := bits_and_u64_nat a 4294967295 ha (by omega)
 have e : a &&& 4294967295 = a % 4294967296 := Nat.and_two_pow_sub_one_eq_mod a 32
 rw [e] at h
 exact h
theorem divN (a : Nat) : (a : Int) / 4294967296 = ((a / 4294967296 : Nat) : Int) := by omega
theorem mulN (a b : Nat) : (a : Int) * (b : Int) = ((a * b : Nat) : Int) := (Int.natCast_mul a b).symm
theorem addN (a b : Nat) : (a : Int) + (b : Int) = ((a + b : Nat) : Int) := (Int.natCast_add a b).symm
theorem y2f (a : Nat) (ha : a < 18446744073709551616) : IntKind.u64.wrap (a : Int) = (a : Int) := by rw [IntKind.wrap_u64]; omega
theorem wrapM (a : Nat) : IntKind.u64.wrap (a : Int) = ((a % 18446744073709551616 : Nat) : Int) := by rw [IntKind.wrap_u64]; omega
theorem y2z (x y : Nat) (hx : x < 18446744073709551616) (hy : y < 18446744073709551616) (w : World) :
  Calls Tryz.prog 162 #[.int .u64 x, .int .u64 y] w fun e w' => e = .returned (.tuple #[.int .u64 ((x * y / 18446744073709551616 : Nat) : Int), .int .u64 ((x * y % 18446744073709551616 : Nat) : Int)]) ∧ w' = w := by
 obtain ⟨bd, bt, bw, hhi⟩ := Lib.mul64_hi x y hx hy
 have ba := Lib.half_mul_le (a := x / 4294967296) (b := y / 4294967296) (by omega) (by omega)
 have bb := Lib.half_mul_le (a := x / 4294967296) (b := y % 4294967296) (by omega) (by omega)
 have bc := Lib.half_mul_le (a := x % 4294967296) (b := y / 4294967296) (by omega) (by omega)
 have ba' : x / 4294967296 * (y / 4294967296) < 18446744073709551616 := by omega
 have bb' : x / 4294967296 * (y % 4294967296) < 18446744073709551616 := by omega
 have bc' : x % 4294967296 * (y / 4294967296) < 18446744073709551616 := by omega
 have bh1 : x / 4294967296 * (y / 4294967296) + (x / 4294967296 * (y % 4294967296) + x % 4294967296 * (y % 4294967296) / 4294967296) / 4294967296 < 18446744073709551616 := by omega
 have bh : x / 4294967296 * (y / 4294967296) + (x / 4294967296 * (y % 4294967296) + x % 4294967296 * (y % 4294967296) / 4294967296) / 4294967296 + ((x / 4294967296 * (y % 4294967296) + x % 4294967296 * (y % 4294967296) / 4294967296) % 4294967296 + x % 4294967296 * (y / 4294967296)) / 4294967296 < 18446744073709551616 := by omega
 go_enter Tryz.func162, Tryz.ntmps162
 go_wp2
 simp only [maskN x hx, maskN y hy, divN, mulN, addN, y2f _ bd, y2f _ bb', y2f _ bt, maskN _ bt, y2f _ bc', y2f _ bw, y2f _ ba', y2f _ bh1, y2f _ bh, wrapM (x * y)]
 rw [hhi]
 go_ret2
 exact ⟨rfl, rfl⟩
theorem y3n (x y k : Nat) (hx : x < 18446744073709551616) (hy : y < 18446744073709551616) (hk : k ≤ 1) (w : World) :
  (callFunc 161 #[.int .u64 x, .int .u64 y, .int .u64 k]).run Tryz.prog w = .ok (.value (.tuple #[.int .u64 (((x + y + k) % 18446744073709551616 : Nat) : Int), .int .u64 (((x + y + k) / 18446744073709551616 : Nat) : Int)])) w := by
 have h := run_callFunc_extern (P := Tryz.prog) Tryz.func161 (by kernel_rfl) (by kernel_rfl) (by kernel_rfl) (e := add64Entry) (by kernel_rfl) #[.int .u64 x, .int .u64 y, .int .u64 k] w
 rw [h]
 show (Sem.run Tryz.prog (add64Entry #[.int .u64 (x : Int), .int .u64 (y : Int), .int .u64 (k : Int)]) w).andThen _ = _
 rw [run_add64 _ _ _ (by omega) (by omega) (by omega) (by omega)]
 have e1 : ((x : Int) + y + k) % 18446744073709551616 = (((x + y + k) % 18446744073709551616 : Nat) : Int) := by omega
 have e2 : ((x : Int) + y + k) / 18446744073709551616 = (((x + y + k) / 18446744073709551616 : Nat) : Int) := by omega
 rw [e1, e2]
 rfl
def two (a b : Int) : Nat → Int := fun i => if i = 0 then a else b
def pz (n : Nat) : Nat → Int := two ((n / 18446744073709551616 : Nat) : Int) ((n % 18446744073709551616 : Nat) : Int)
abbrev PV (n : Nat) : Value := .agg (AZ .u64 2 (pz n))
theorem AZ_two (f : Nat → Int) : AZ .u64 2 f = #[.int .u64 (f 0), .int .u64 (f 1)] := by
 unfold AZ
 rfl
theorem built_P (a b : Int) (w : World) : (Instr.build 161 #[(0, .int .u64 a), (1, .int .u64 b)]).run Tryz.prog w = .ok (.agg (AZ .u64 2 (two a b))) w := by
 rw [AZ_two]
 go_simp
 simp [two]
theorem built_P0 (w : World) : (Instr.build 161 #[]).run Tryz.prog w = .ok (.agg (AZ .u64 2 (pz 0))) w := by
 rw [AZ_two]
 go_simp
 simp [pz, two]
section
variable {ops : Array Oper} {rest : List Oper} {o : Oper} {a : Act} {w : World} {Q : Exit → Act → World → Prop}
theorem z62 (hgd : o.guard = none) {x y : Operand} (ho : o.op = .build 161 #[(0, x), (1, y)]) {f g : Int} (hx : a.eval x = .int .u64 f) (hy : a.eval y = .int .u64 g)
  (k : ∀ K : Act → World → Prop, (∀ a w, wpList Tryz.prog ops Q rest a w → K a w) → K (a.put o.dst (.agg (AZ .u64 2 (two f g)))) w) : wpList Tryz.prog ops Q (o :: rest) a w :=
 wpList_plain hgd fun K hK => by
  unfold Oper.wp execOp
  simp only [ho, List.map_toArray, List.map_cons, List.map_nil, hx, hy, Sem.run_bind, built_P, Result.andThen_ok]
  exact k K hK
theorem lay_build_P0 (hgd : o.guard = none) (ho : o.op = .build 161 #[])
  (k : ∀ K : Act → World → Prop, (∀ a w, wpList Tryz.prog ops Q rest a w → K a w) → K (a.put o.dst (.agg (AZ .u64 2 (pz 0)))) w) : wpList Tryz.prog ops Q (o :: rest) a w :=
 wpList_plain hgd fun K hK => by
  unfold Oper.wp execOp
  simp only [ho, Array.map_empty, Sem.run_bind, built_P0, Result.andThen_ok]
  exact k K hK
end
theorem z89 (a b : Nat) (w : World) (h : a + b < 340282366920938463463374607431768211456) :
  Calls Tryz.prog 172 #[PV a, PV b] w fun e w' => e = .returned (PV (a + b)) ∧ Below w.heap.size w w' := by
 obtain ⟨ah, hah⟩ : ∃ ah, a / 18446744073709551616 = ah := ⟨_, rfl⟩
 obtain ⟨al, hal⟩ : ∃ al, a % 18446744073709551616 = al := ⟨_, rfl⟩
 obtain ⟨bh, hbh⟩ : ∃ bh, b / 18446744073709551616 = bh := ⟨_, rfl⟩
 obtain ⟨bl, hbl⟩ : ∃ bl, b % 18446744073709551616 = bl := ⟨_, rfl⟩
 have p1 : pz a 0 = (ah : Int) := by rw [← hah]; rfl
 have p2 : pz a 1 = (al : Int) := by rw [← hal]; rfl
 have p3 : pz b 0 = (bh : Int) := by rw [← hbh]; rfl
 have p4 : pz b 1 = (bl : Int) := by rw [← hbl]; rfl
 obtain ⟨r, hr⟩ : ∃ r, (al + bl + 0) % 18446744073709551616 = r := ⟨_, rfl⟩
 obtain ⟨c, hc⟩ : ∃ c, (al + bl + 0) / 18446744073709551616 = c := ⟨_, rfl⟩
 have A1 : ∀ w, (callFunc 161 #[.int .u64 al, .int .u64 bl, .int .u64 0]).run Tryz.prog w = .ok (.value (.tuple #[.int .u64 (((al + bl + 0) % 18446744073709551616 : Nat) : Int), .int .u64 (((al + bl + 0) / 18446744073709551616 : Nat) : Int)])) w := fun w => y3n al bl 0 (by omega) (by omega) (by omega) w
 have A2 := y3n ah bh c (by omega) (by omega) (by omega)
 obtain ⟨s, hs⟩ : ∃ s, (ah + bh + c) % 18446744073709551616 = s := ⟨_, rfl⟩
 obtain ⟨t, ht⟩ : ∃ t, (ah + bh + c) / 18446744073709551616 = t := ⟨_, rfl⟩
 rw [hr, hc] at A1
 rw [hs, ht] at A2
 have HE : Hid (two (s : Int) (r : Int) = pz (a + b)) := za (by
  have h1 : s = (a + b) / 18446744073709551616 := by omega
  have h2 : r = (a + b) % 18446744073709551616 := by omega
  rw [h1, h2]
  rfl)
 clear hah hal hbh hbl hr hc hs ht h
 have H := za (Ow.start w)
 go_enter Tryz.func172, Tryz.ntmps172
 go_wp2_with (first
  | ((with_reducible apply zw H); (case hgd | ho | hx => exact rfl); clear H; intro _ _ H _ _; go_simp)
  | ((with_reducible apply ze nilP H); (case hgd | ho => exact rfl); clear H; intro _ _ H _ _; go_simp)
  | ((with_reducible apply y1s oneW H); (case hgd | ho | hx => exact rfl); (case hi => repeat first|exact z5|apply z8); (case hj => omega); intro _ _; go_simp)
  | ((with_reducible apply z62); (case hgd | ho | hx | hy => exact rfl); intro _ _; go_simp)
  | ((with_reducible apply zj rowP H); (case hgd | ho | hx | hy => exact rfl); (case hi => repeat first|exact z5|apply z8); clear H; intro ws H _ _; simp only [qb] at H; go_simp))
 rw [HE.out] at H
 exact bodyPost_ret (zy 0 rowP rfl _ H rfl rfl) rfl ⟨rfl, H.out.bel⟩
theorem z88 (a x y : Nat) (w : World) (hx : x < 18446744073709551616) (hy : y < 18446744073709551616) (h : a + x * y < 340282366920938463463374607431768211456) :
  Calls Tryz.prog 127 #[PV a, .int .u64 x, .int .u64 y] w fun e w' => e = .returned (PV (a + x * y)) ∧ Below w.heap.size w w' := by
 have HM := za (fun w => y2z x y hx hy w)
 have HA : Hid (∀ w, Calls Tryz.prog 172 #[.agg (AZ .u64 2 (pz a)), .agg (AZ .u64 2 (two ((x * y / 18446744073709551616 : Nat) : Int) ((x * y % 18446744073709551616 : Nat) : Int)))] w fun e w' => e = .returned (PV (a + x * y)) ∧ Below w.heap.size w w') := za (fun w => z89 a (x * y) w h)
 generalize x * y / 18446744073709551616 = u at *
 generalize x * y % 18446744073709551616 = v at *
 clear hx hy h
 have H := za (Ow.start w)
 go_enter Tryz.func127, Tryz.ntmps127
 go_wp2_with (first
  | ((with_reducible apply zw H); (case hgd | ho | hx => exact rfl); clear H; intro _ _ H _ _; go_simp)
  | ((with_reducible apply ze nilP H); (case hgd | ho => exact rfl); clear H; intro _ _ H _ _; go_simp)
  | ((with_reducible refine (HM.out _).mono ?_); rintro e wc ⟨rfl, rfl⟩)
  | ((with_reducible apply zr rowP H); (case hgd | ho | hx => exact rfl); (case hi => repeat first|exact z5|apply z8); intro _ _; go_simp)
  | ((with_reducible apply z62); (case hgd | ho | hx | hy => exact rfl); intro _ _; go_simp)
  | ((with_reducible refine (HA.out _).mono ?_); rintro e wc ⟨rfl, hb⟩; replace H := zd H hb; clear hb)
  | ((with_reducible apply zj rowP H); (case hgd | ho | hx | hy => exact rfl); (case hi => repeat first|exact z5|apply z8); clear H; intro ws H _ _; simp only [qb] at H; go_simp))
 exact bodyPost_ret (zy 0 rowP rfl _ H rfl rfl) rfl ⟨rfl, H.out.bel⟩
theorem ppart_any (a o : Nat) (w : World) (ho : o < 18446744073709551616) (h : a + o < 1329227995784915872903807060280344576) :
  Calls Tryz.prog 174 #[PV a, .int .u64 o] w fun e w' => e = .returned (.tuple #[.int .u64 (((a + o) % 72057594037927936 : Nat) : Int), .int .u64 (((a + o) / 72057594037927936 : Nat) : Int)]) ∧ Below w.heap.size w w' := by
 have HE : two 0 (o : Int) = pz o := by
  unfold pz
  rw [Nat.div_eq_of_lt ho, Nat.mod_eq_of_lt ho]
  rfl
 have HA : Hid (∀ w, Calls Tryz.prog 172 #[.agg (AZ .u64 2 (pz a)), .agg (AZ .u64 2 (pz o))] w fun e w' => e = .returned (.agg (AZ .u64 2 (pz (a + o)))) ∧ Below w.heap.size w w') := za (fun w => z89 a o w (by omega))
 obtain ⟨n, hn⟩ : ∃ n, a + o = n := ⟨_, rfl⟩
 rw [hn] at HA h ⊢
 obtain ⟨u, hu⟩ : ∃ u, n / 18446744073709551616 = u := ⟨_, rfl⟩
 obtain ⟨v, hv⟩ : ∃ v, n % 18446744073709551616 = v := ⟨_, rfl⟩
 have P1 : Hid (pz n 0 = (u : Int)) := za (by rw [← hu]; rfl)
 have P2 : Hid (pz n 1 = (v : Int)) := za (by rw [← hv]; rfl)
 have e1 := y60 v (by omega)
 obtain ⟨r, hr⟩ : ∃ r, v % 72057594037927936 = r := ⟨_, rfl⟩
 obtain ⟨s, hs⟩ : ∃ s, u * 256 = s := ⟨_, rfl⟩
 obtain ⟨t, ht⟩ : ∃ t, v / 72057594037927936 = t := ⟨_, rfl⟩
 have e2 : (u : Int) * 256 = (s : Int) := by omega
 have e3 : IntKind.u64.wrap (s : Int) = (s : Int) := by rw [IntKind.wrap_u64]; omega
 have e4 : (v : Int) / 72057594037927936 = (t : Int) := by omega
 have e5 : bits .or .u64 (s : Int) (t : Int) = ((s + t : Nat) : Int) := by
  rw [u64_or_nat s t (by omega) (by omega)]
  congr 1
  rw [← hs, Nat.mul_comm, show 256 = 2 ^ 8 from rfl]
  exact (Nat.two_pow_add_eq_or_of_lt (by omega) u).symm
 have E1 : Hid (n % 72057594037927936 = r) := za (by omega)
 have E2 : Hid (n / 72057594037927936 = s + t) := za (by omega)
 obtain ⟨y, hy⟩ : ∃ y, s + t = y := ⟨_, rfl⟩
 rw [hr] at e1
 rw [hy] at e5 E2
 clear hn hu hv hr hs ht hy h ho
 have H := za (Ow.start w)
 go_enter Tryz.func174, Tryz.ntmps174
 go_wp2_with (first
  | ((with_reducible apply zw H); (case hgd | ho | hx => exact rfl); clear H; intro _ _ H _ _; go_simp)
  | ((with_reducible apply zr rowP H); (case hgd | ho | hx => exact rfl); (case hi => repeat first|exact z5|apply z8); intro _ _; go_simp)
  | ((with_reducible apply z62); (case hgd | ho | hx | hy => exact rfl); intro _ _; go_simp)
  | ((with_reducible refine (HA.out _).mono ?_); rintro e wc ⟨rfl, hb⟩; replace H := zd H hb; clear hb)
  | ((with_reducible apply zj rowP H); (case hgd | ho | hx | hy => exact rfl); (case hi => repeat first|exact z5|apply z8); clear H; intro ws H _ _; simp only [qb] at H; go_simp))
 refine wp_region_still_lit (by kernel_rfl) (by kernel_rfl) ?_
 have D := za H.out.drew
 clear H HE
 change wpStill _ _ (World.drew _) (fun a' => Exit.then _ _ Exit.normal a' (World.drew _)) _ _
 have hc0 := D.out.cell 0 rfl 0 (by omega)
 have hc1 := D.out.cell 0 rfl 1 (by omega)
 rw [P1.out] at hc0
 rw [P2.out] at hc1
 generalize World.drew _ = w5 at *
 iterate 12 still_step
 refine wpStill_nil ?_
 clear hc0 hc1 e1 e2 e3 e4 e5
 go_wp2_with fail
 go_ret2
 exact ⟨by rw [E1.out, E2.out]; rfl, D.out.bel⟩
def pr (s : Nat → Nat) : Nat → Int := fun k => pz (s (k / 2)) (k % 2)
def updN (s : Nat → Nat) (i v : Nat) : Nat → Nat := fun j => if j = i then v else s j
theorem y1n (s : Nat → Nat) (k j : Nat) (hj : j < 2) : pr s (k * 2 + j) = pz (s k) j := by
 unfold pr
 rw [show (k * 2 + j) / 2 = k by omega, show (k * 2 + j) % 2 = j by omega]
theorem pr_upd (s : Nat → Nat) (i v : Nat) : layZ (pr s) (i * 2) 2 (pz v) = pr (updN s i v) := by
 funext k
 unfold layZ pr updN
 by_cases h : i * 2 ≤ k ∧ k < i * 2 + 2
 ·rw [if_pos h, if_pos (by omega), show k - i * 2 = k % 2 by omega]
 ·rw [if_neg h, if_neg (by omega)]
theorem y34 : (fun _ => (0 : Int)) = pr fun _ => 0 := by
 funext k
 unfold pr pz two
 split <;> simp
theorem y35 (s : Nat → Nat) (k : Nat) : AZ .u64 2 (fun j => pr s (k * 2 + j)) = AZ .u64 2 (pz (s k)) := z1w fun j hj => y1n s k j hj
section
variable {P : Program} {ops : Array Oper} {rest : List Oper} {o : Oper} {a : Act} {w w0 : World} {l : List (Nat × Obj)} {Q : Exit → Act → World → Prop} {t ty e : TypeId} {kk : IntKind} {n z : Nat} {K : Act → World → Prop}
theorem y2t {i : Nat} (hT : IsRow P ty 2) (H : Hid (Ow w0 w l)) (hgd : o.guard = none) {x : Operand} (ho : o.op = .load ty x) {g k : Nat} (hx : a.eval x = .pointer (some ⟨g, k * 2, none⟩)) {s : Nat → Nat}
  (hi : l[i]? = some (g, zv t .u64 z (pr s))) (hj : k * 2 + 2 ≤ z) (h : ∀ K : Act → World → Prop, (∀ a w, wpList P ops Q rest a w → K a w) → K (a.put o.dst (.agg (AZ .u64 2 (pz (s k))))) w) : wpList P ops Q (o :: rest) a w :=
 z47 hT H hgd ho hx hi hj (by rw [y35]; exact h)
theorem z77 {i : Nat} (hT : IsRow P ty 2) (H : Hid (Ow w0 w l)) (hgd : o.guard = none) {x y : Operand} (ho : o.op = .store ty x y) {g k : Nat} (hx : a.eval x = .pointer (some ⟨g, k * 2, none⟩)) {s : Nat → Nat} {v : Nat} (hy : a.eval y = .agg (AZ .u64 2 (pz v)))
  (hi : l[i]? = some (g, zv t .u64 z (pr s))) (hj : k * 2 + 2 ≤ z) (h : ∀ w', Hid (Ow w0 w' (l.set i (g, zv t .u64 z (pr (updN s k v))))) → ∀ K : Act → World → Prop, (∀ a w, wpList P ops Q rest a w → K a w) → K (a.put o.dst undef) w') : wpList P ops Q (o :: rest) a w :=
 own_store_part hT H hgd ho hx hy hi hj (by rw [pr_upd]; exact h)
theorem y0y (hu : P.underlying t = some (.array n e)) (hE : IsRow P e 2) (hgd : o.guard = none) {x y : Operand} (ho : o.op = .index t x y) {s : Nat → Nat} (hx : a.eval x = .agg (AZ .u64 z (pr s))) {i : Nat} (hy : a.eval y = .int kk (i : Int)) (hi : i < n) (hz : i * 2 + 2 ≤ z)
  (h : ∀ K : Act → World → Prop, (∀ a w, wpList P ops Q rest a w → K a w) → K (a.put o.dst (.agg (AZ .u64 2 (pz (s i))))) w) : wpList P ops Q (o :: rest) a w :=
 own_index_row hu hE hgd ho hx hy hi hz (by rw [y35]; exact h)
theorem z5v (i : Nat) (dd : Tmp) (hd : o.dst = some dd) (hT : IsRow P ty 2) (H : Ow w0 w l) {x : Operand} (ho : o.op = .load ty x) {g k : Nat} (hx : a.eval x = .pointer (some ⟨g, k * 2, none⟩)) {s : Nat → Nat}
  (hi : l[i]? = some (g, zv t .u64 z (pr s))) (hj : k * 2 + 2 ≤ z) (h : K (a.put (some dd) (.agg (AZ .u64 2 (pz (s k))))) w) : o.wp P a w K Q := by
 unfold Oper.wp execOp
 have hl := z3p (o := k * 2) hT (H.row i hi) hj
 rw [y35] at hl
 simp only [ho, hx, Sem.run_bind, hl, Result.andThen_ok]
 show K (a.put o.dst _) w
 rw [hd]
 exact h
theorem z45 (i : Nat) (hT : IsRow P ty 2) (H : Ow w0 w l) {x y : Operand} (ho : o.op = .store ty x y) {g k : Nat} (hx : a.eval x = .pointer (some ⟨g, k * 2, none⟩)) {s : Nat → Nat} {v : Nat} (hy : a.eval y = .agg (AZ .u64 2 (pz v)))
  (hi : l[i]? = some (g, zv t .u64 z (pr s))) (hj : k * 2 + 2 ≤ z) (h : ∀ w', Ow w0 w' (l.set i (g, zv t .u64 z (pr (updN s k v)))) → K (a.put o.dst undef) w') : o.wp P a w K Q := by
 unfold Oper.wp execOp
 have hs := z1m (o := k * 2) (g := pz v) hT (H.row i hi) hj
 rw [pr_upd] at hs
 simp only [ho, hx, hy, Sem.run_bind, hs, Result.andThen_ok]
 exact h _ (H.setRow i hi _)
end
def mixN (i : Nat) (f g : Nat → Nat) : Nat → Nat := fun k => if k < i then f k else g k
theorem mixN_zero (f g : Nat → Nat) : mixN 0 f g = g := by funext k; simp [mixN]
theorem mixN_upd (i : Nat) (f g : Nat → Nat) : updN (mixN i f g) i (f i) = mixN (i + 1) f g := by
 funext k
 unfold updN mixN
 by_cases e : k = i
 ·subst e; simp
 ·by_cases h : k < i
  ·rw [if_neg e, if_pos h, if_pos (by omega)]
  ·rw [if_neg e, if_neg h, if_neg (by omega)]
theorem pr_mix (f g : Nat → Nat) (n k : Nat) (h : k < 2 * n) : pr (mixN n f g) k = pr f k := by
 unfold pr mixN
 rw [if_pos (by omega)]
theorem eachP_any (fn : FuncId) (cap : Array Value) (f g : Nat → Nat) (w : World) (hF : ∀ args w, (callFunc fn args).run Tryz.prog w = .ok (.enter fn args) w)
  (HC : ∀ i W, i < 8 → Below w.heap.size w W → Calls Tryz.prog fn (#[.int .i64 (i : Int), .int .u64 (NZ f i)] ++ cap) W fun e W' => e = .returned (.agg (AZ .u64 2 (pz (g i)))) ∧ Below W.heap.size W W') :
  Calls Tryz.prog 137 #[.agg (AZ .u64 8 (NZ f)), .func (.func fn) #[] cap] w fun e w' => e = .returned (.agg (AZ .u64 16 (pr g))) ∧ Below w.heap.size w w' := by
 replace HC := za HC
 have H := za (Ow.start w)
 go_enter Tryz.func137, Tryz.ntmps137
 go_wp2_with (first
  | ((fail_if_success have := g1); (with_reducible apply zw H); (case hgd | ho | hx => exact rfl); clear H; intro w1 g1 H _ _; go_simp)
  | ((fail_if_success have := g2); (with_reducible apply ze nilR H); (case hgd | ho => exact rfl); clear H; intro w2 g2 H _ _; go_simp)
  | ((with_reducible apply zr rowL H); (case hgd | ho | hx => exact rfl); (case hi => repeat first|exact z5|apply z8); intro _ _; go_simp))
 rw [y34] at H
 go_loopw [8] (fun v wr => ∃ i : Nat, i ≤ 8 ∧ v = .int .i64 i ∧ Ow w wr [(g2, zv 165 .u64 16 (pr (mixN i g fun _ => 0))), (g1, zv 28 .u64 8 (NZ f))]) (fun v _ => 8 - (intOf v).toNat)
 case atStart => exact ⟨0, by omega, rfl, by rw [mixN_zero]; exact H.out⟩
 case round =>
  clear H
  obtain ⟨i, hi, rfl, HR⟩ := hrel
  by_cases hlt : i < 8
  ·have hid : decide ((i : Int) < 8) = true := by simp; omega
   have iN : (i : Int) < 8 := by omega
   have H := za HR
   clear HR
   go_wp2_with (first
    | ((with_reducible apply z20 Tryz.underlying28 oneW); (case hgd | ho | hx | hy => exact rfl); (case hi => omega); intro _ _; go_simp)
    | ((with_reducible refine (HC.out i _ hlt H.out.bel).mono ?_); rintro e wc ⟨rfl, hb⟩; replace H := zd H hb; clear hb)
    | ((with_reducible apply z77 rowP H); (case hgd | ho | hx | hy => exact rfl); (case hi => repeat first|exact z5|apply z8); (case hj => omega); clear H; intro ws H _ _; simp only [qb] at H; go_simp))
   rw [mixN_upd] at H
   go_roundw
   case rel => exact ⟨i + 1, by omega, by go_num, H.out⟩
   case measure => simp [intOf]; omega
  ·obtain rfl : i = 8 := by omega
   clear hlt hi
   rw [show ((8 : Nat) : Int) = 8 from rfl]
   have H := za (HR.like 0 (g := pr g) rfl fun k hk => pr_mix _ _ _ _ (by omega))
   simp only [qb] at H
   clear HR
   go_wp2_with (first
    | ((with_reducible apply zr rowR H); (case hgd | ho | hx => exact rfl); (case hi => repeat first|exact z5|apply z8); intro _ _; go_simp)
    | ((with_reducible apply zj rowR H); (case hgd | ho | hx | hy => exact rfl); (case hi => repeat first|exact z5|apply z8); clear H; intro ws H _ _; simp only [qb] at H; go_simp))
   exact bodyPost_ret (zy 0 rowR rfl _ H rfl rfl) rfl ⟨rfl, H.out.bel⟩
theorem y4b {s : Nat → Nat} (h : ∀ i, i < 8 → s i < 664613997892467381184869269430599680) : ∀ i, i ≤ 8 → zN s 0 i ≤ 9223372036854907100
 | 0, _ => by simp [zN]
 | i + 1, hi => by
  have ih := y4b h i (by omega)
  have hf := h i (by omega)
  show (s i + zN s 0 i) / 72057594037927936 + (if i = 3 then 0 else 0) ≤ 9223372036854907100
  rw [show (if i = 3 then 0 else 0) = 0 by split <;> rfl]
  omega
theorem carryP_any (s : Nat → Nat) (w : World) (hs : ∀ i, i < 8 → s i < 664613997892467381184869269430599680) :
  Calls Tryz.prog 173 #[.agg (AZ .u64 16 (pr s)), .int .u64 0, .func (.func 174) #[] #[]] w fun e w' => e = .returned (.tuple #[.agg (AZ .u64 8 (NZ (dgC s 0))), .int .u64 (zN s 0 8 : Int)]) ∧ Below w.heap.size w w' := by
 have HS := za hs
 have HO := za (y4b hs)
 clear hs
 have H := za (Ow.start w)
 go_enter Tryz.func173, Tryz.ntmps173
 go_wp2_with (first
  | ((fail_if_success have := g1); (with_reducible apply zw H); (case hgd | ho | hx => exact rfl); clear H; intro w1 g1 H _ _; go_simp)
  | ((fail_if_success have := g2); (with_reducible apply ze nilL H); (case hgd | ho => exact rfl); clear H; intro w2 g2 H _ _; go_simp))
 go_step3
 go_wp2_with fail
 go_step3
 go_wp2_with (first
  | ((with_reducible apply zr rowR H); (case hgd | ho | hx => exact rfl); (case hi => repeat first|exact z5|apply z8); intro _ _; go_simp))
 go_loopg [7, 9, 12] 8 (fun gk v7 _ v12 wr => ∃ i : Nat, i + gk = 8 ∧ v12 = .int .i64 i ∧ v7 = .int .u64 (zN s 0 i : Int) ∧ Ow w wr [(g2, zv 28 .u64 8 (mixZ i (NZ (dgC s 0)) fun _ => 0)), (g1, zv 165 .u64 16 (pr s))])
 case atStart => exact ⟨0, by omega, rfl, rfl, by rw [z22]; exact H.out⟩
 case round =>
  clear H
  obtain ⟨i, hig, rfl, rfl, HR⟩ := hrel
  cases gk with
  | zero =>
   obtain rfl : i = 8 := by omega
   clear hig
   rw [show ((8 : Nat) : Int) = 8 from rfl]
   have H := za (HR.like 0 (g := NZ (dgC s 0)) rfl fun k hk => z3v _ _ _ _ hk)
   simp only [qb] at H
   obtain ⟨v, hv⟩ : ∃ v, zN s 0 8 = v := ⟨_, rfl⟩
   rw [hv]
   have HW := za hv
   clear HR hv
   go_wp2_with (first
    | ((with_reducible apply zr rowL H); (case hgd | ho | hx => exact rfl); (case hi => repeat first|exact z5|apply z8); intro _ _; go_simp)
    | ((with_reducible apply zj rowL H); (case hgd | ho | hx | hy => exact rfl); (case hi => repeat first|exact z5|apply z8); clear H; intro ws H _ _; simp only [qb] at H; go_simp))
   rw [Exit.noGoto_ret]
   exact bodyPost_ret (z0c 0 rowL rfl _ H rfl rfl rfl) rfl ⟨by rw [HW.out]; rfl, H.out.bel⟩
  | succ go =>
   have hlt : i < 8 := by omega
   have hid : decide ((i : Int) < 8) = true := by simp; omega
   have iN : (i : Int) < 8 := by omega
   have hx8 := HS.out i hlt
   have ho8 := HO.out i (by omega)
   have ho9 := HO.out (i + 1) (by omega)
   have hdg : NZ (dgC s 0) i = (((s i + zN s 0 i) % 72057594037927936 : Nat) : Int) := rfl
   have hov : zN s 0 (i + 1) = (s i + zN s 0 i) / 72057594037927936 := by
    show (s i + zN s 0 i) / 72057594037927936 + (if i = 3 then 0 else 0) = _
    rw [show (if i = 3 then 0 else 0) = 0 by split <;> rfl]
    rfl
   obtain ⟨o, ho⟩ : ∃ o, zN s 0 i = o := ⟨_, rfl⟩
   have HP := za (fun w => ppart_any (s i) o w (by omega) (by omega))
   rw [ho] at hdg hov ho8
   rw [ho]
   obtain ⟨r, hr⟩ : ∃ r, (s i + o) % 72057594037927936 = r := ⟨_, rfl⟩
   obtain ⟨q, hq⟩ : ∃ q, (s i + o) / 72057594037927936 = q := ⟨_, rfl⟩
   rw [hr, hq] at HP
   rw [hr] at hdg
   rw [hq] at hov
   rw [hov] at ho9
   have HDG := za hdg
   have HOV := za hov
   have H := za HR
   have HQ := za ho9
   clear HR ho hr hq hdg hov hx8 ho8 ho9
   by_cases h3 : i = 3
   ·have d3 : ((i : Int) != 3) = false := by subst h3; rfl
    have e2 : IntKind.u64.wrap (q : Int) = (q : Int) := by have := HQ.out; rw [IntKind.wrap_u64]; omega
    clear h3
    go_wp2_with (first
     | ((with_reducible apply y0y Tryz.underlying165 rowP); (case hgd | ho | hx | hy => exact rfl); (case hi => omega); (case hz => omega); intro _ _; go_simp)
     | ((with_reducible apply ze nilP H); (case hgd | ho => exact rfl); clear H; intro _ _ H _ _; go_simp)
     | ((with_reducible apply zj rowP H); (case hgd | ho | hx | hy => exact rfl); (case hi => repeat first|exact z5|apply z8); clear H; intro ws H _ _; simp only [qb] at H; go_simp)
     | ((with_reducible apply zr rowP H); (case hgd | ho | hx => exact rfl); (case hi => repeat first|exact z5|apply z8); intro _ _; go_simp)
     | ((with_reducible refine (HP.out _).mono ?_); rintro e wc ⟨rfl, hb⟩; replace H := zd H hb; clear hb)
     | ((with_reducible apply z2z oneW H); (case hgd | ho | hx | hy => exact rfl); (case hi => repeat first|exact z5|apply z8); (case hj => omega); clear H; intro ws H _ _; simp only [qb, qc] at H; go_simp))
    rw [← HDG.out, z2i] at H
    go_roundg go
    case rel => exact ⟨i + 1, by omega, by go_num, by rw [HOV.out], H.out.pop⟩
    case measure => omega
   ·have d3 : ((i : Int) != 3) = true := by rw [bne_iff_ne]; omega
    clear h3
    go_wp2_with (first
     | ((with_reducible apply y0y Tryz.underlying165 rowP); (case hgd | ho | hx | hy => exact rfl); (case hi => omega); (case hz => omega); intro _ _; go_simp)
     | ((with_reducible apply ze nilP H); (case hgd | ho => exact rfl); clear H; intro _ _ H _ _; go_simp)
     | ((with_reducible apply zj rowP H); (case hgd | ho | hx | hy => exact rfl); (case hi => repeat first|exact z5|apply z8); clear H; intro ws H _ _; simp only [qb] at H; go_simp)
     | ((with_reducible apply zr rowP H); (case hgd | ho | hx => exact rfl); (case hi => repeat first|exact z5|apply z8); intro _ _; go_simp)
     | ((with_reducible refine (HP.out _).mono ?_); rintro e wc ⟨rfl, hb⟩; replace H := zd H hb; clear hb)
     | ((with_reducible apply z2z oneW H); (case hgd | ho | hx | hy => exact rfl); (case hi => repeat first|exact z5|apply z8); (case hj => omega); clear H; intro ws H _ _; simp only [qb, qc] at H; go_simp))
    rw [← HDG.out, z2i] at H
    go_roundg go
    case rel => exact ⟨i + 1, by omega, by go_num, by rw [HOV.out], H.out.pop⟩
    case measure => omega
theorem two_cells {f : Nat → Int} {c k : Nat} (h0 : f (k * 2) = pz c 0) (h1 : f (k * 2 + 1) = pz c 1) : ∀ i, i < 2 → f (k * 2 + i) = pz c i := by
 intro i hi
 rcases (by omega : i = 0 ∨ i = 1) with rfl | rfl
 ·exact h0
 ·exact h1
section
variable {P : Program} {md : Region.Mode} {ops : Array Oper} {Q : Exit → Act → World → Prop} {S : World → Prop} {fuel : Nat} {listed : Array Bool} {a : Act} {w : World} {t ty : TypeId} {z : Nat}
theorem y25 (i : Nat) (d : Tmp) {oi : Oper} (hT : IsRow P ty 2) (hi : ops[i]? = some oi) (hd : oi.dst = some d) (hw : Region.wanted oi (yielded ops a.tmps) = true) (hS : S w) {x : Operand} (ho : oi.op = .load ty x) {g k c : Nat} (hx : a.eval x = .pointer (some ⟨g, k * 2, none⟩))
  (hrow : ∀ w, S w → ∃ f, w.heap[g]? = some (zv t .u64 z f) ∧ f (k * 2) = pz c 0 ∧ f (k * 2 + 1) = pz c 1) (hj : k * 2 + 2 ≤ z)
  (h : wpAnyH P md ops (NoPanic Q) S fuel (listed.setIfInBounds i true) (a.put (some d) (.agg (AZ .u64 2 (pz c)))) w) (hs : Region.noSelect ops = true := by kernel_rfl) (hf : Region.free md ops listed i = true := by kernel_rfl) (hr : (Region.ready md ops listed).contains i = true := by kernel_rfl) : wpAnyH P md ops (NoPanic Q) S (fuel + 1) listed a w :=
 z0h i d (.agg (AZ .u64 2 (pz c))) hi hd (hs := hs) (hf := hf) (hr := hr) hw hS (fun w hw' => by
  obtain ⟨f, hb, h0, h1⟩ := hrow w hw'
  have hl := z3p (P := P) (ty := ty) (o := k * 2) hT hb hj
  rw [z1w (g := pz c) (two_cells h0 h1)] at hl
  unfold execOp
  simp only [ho, hx, Sem.run_bind, hl, Result.andThen_ok]
  rfl) h
end
theorem y01 (f : Nat → Nat) (i v : Nat) : ∀ n, i < n → lv (updN f i (f i + v)) n = lv f n + v * 72057594037927936 ^ i
 | 0, h => by omega
 | n + 1, h => by
  unfold lv
  by_cases e : i = n
  ·subst e
   rw [z9a (g := f) i fun k hk => by unfold updN; rw [if_neg (by omega)], show updN f i (f i + v) i = f i + v by simp [updN], Nat.add_mul]
   omega
  ·rw [y01 f i v n (by omega), show updN f i (f i + v) n = f n by unfold updN; rw [if_neg (by omega)]]
   omega
def y65 (c : Nat → Nat) (k : Nat) : Nat → Nat := updN (updN c (k - 4) (c (k - 4) + c k)) (k - 8) (c (k - 8) + c k)
theorem y3a (c : Nat → Nat) (k : Nat) (hk : 8 ≤ k) : y65 c k = updN (updN c (k - 4) (c (k - 4) + c k)) (k - 8) (updN c (k - 4) (c (k - 4) + c k) (k - 8) + c k) := by
 unfold y65
 rw [show updN c (k - 4) (c (k - 4) + c k) (k - 8) = c (k - 8) by unfold updN; rw [if_neg (by omega)]]
theorem fold_gen {a d z x y p v : Nat} (hp : p + 1 + y = x) (hv : v = a + d * (z * y) + d * z) : a + d * (z * x) = v + d * z * p := by
 rw [hv, ← hp, Nat.mul_add, Nat.mul_add, Nat.mul_add, Nat.mul_add, Nat.mul_one, Nat.mul_assoc]
 omega
theorem lv_foldN (c : Nat → Nat) (k : Nat) (hk : 8 ≤ k) : lv c (k + 1) = lv (y65 c k) k + c k * 72057594037927936 ^ (k - 8) * pN := by
 obtain ⟨j, rfl⟩ : ∃ j, k = j + 8 := ⟨k - 8, by omega⟩
 rw [y3a _ _ hk, y01 _ _ _ _ (by omega), y01 _ _ _ _ (by omega)]
 rw [show lv c (j + 8 + 1) = lv c (j + 8) + c (j + 8) * 72057594037927936 ^ (j + 8) from rfl, show j + 8 - 8 = j by omega, show j + 8 - 4 = j + 4 by omega, Nat.pow_add, Nat.pow_add]
 exact fold_gen z7l rfl
def bdN (K j : Nat) : Nat := if 12 ≤ j then 1 else if 8 ≤ j then (if K ≤ j + 4 then 2 else 1) else if 4 ≤ j then (if K ≤ j + 4 then 4 else if K ≤ j + 8 then 2 else 1) else (if K ≤ j + 8 then 3 else 1)
theorem bdN_step : ∀ i, i < 15 → 8 ≤ i → ∀ j, j < 15 → (if j = i - 8 then bdN (i + 1) (i - 8) + bdN (i + 1) i else if j = i - 4 then bdN (i + 1) (i - 4) + bdN (i + 1) i else bdN (i + 1) j) ≤ bdN i j := by decide +kernel
theorem bdN_start : ∀ j, j < 15 → 1 ≤ bdN 15 j := by decide +kernel
theorem y6y (K j : Nat) : bdN K j ≤ 4 := by unfold bdN; repeat (first | split | omega)
theorem foldN_bd {c : Nat → Nat} {i : Nat} (hi : 8 ≤ i) (h15 : i < 15) (h : ∀ j, j < 15 → c j ≤ 83076749736557248974016968908603536 * bdN (i + 1) j) : ∀ j, j < 15 → y65 c i j ≤ 83076749736557248974016968908603536 * bdN i j := by
 intro j hj
 have hs := bdN_step i h15 hi j hj
 have h1 := h (i - 8) (by omega)
 have h2 := h (i - 4) (by omega)
 have h3 := h i h15
 have h4 := h j hj
 unfold y65 updN
 by_cases e1 : j = i - 8
 ·rw [if_pos e1] at hs ⊢
  omega
 ·rw [if_neg e1] at hs ⊢
  by_cases e2 : j = i - 4
  ·rw [if_pos e2] at hs ⊢
   omega
  ·rw [if_neg e2] at hs ⊢
   omega
theorem y6c (c0 : Nat → Nat) (w : World) (hc : ∀ j, j < 15 → c0 j ≤ 83076749736557248974016968908603536) :
  Calls Tryz.prog 129 #[.agg (AZ .u64 30 (pr c0))] w fun e w' => ∃ c q, e = .returned (.agg (AZ .u64 16 (pr c))) ∧ lv c0 15 = lv c 8 + q * pN ∧ (∀ i, i < 8 → c i < 664613997892467381184869269430599680) ∧ Below w.heap.size w w' := by
 have HC := za hc
 clear hc
 have H := za (Ow.start w)
 go_enter Tryz.func129, Tryz.ntmps129
 go_wp2_with (first
  | ((fail_if_success have := g1); (with_reducible apply zw H); (case hgd | ho | hx => exact rfl); clear H; intro w1 g1 H _ _; go_simp)
  | ((fail_if_success have := g2); (with_reducible apply ze nilR H); (case hgd | ho => exact rfl); clear H; intro w2 g2 H _ _; go_simp))
 go_loopw [3] (fun v3 wr => ∃ (K : Nat) (c : Nat → Nat) (q : Nat), 8 ≤ K ∧ K ≤ 15 ∧ v3 = .int .i64 ((K : Int) - 1) ∧ lv c0 15 = lv c K + q * pN ∧ (∀ j, j < 15 → c j ≤ 83076749736557248974016968908603536 * bdN K j) ∧ Ow w wr [(g2, zv 165 .u64 16 fun _ => 0), (g1, zv 162 .u64 30 (pr c))]) (fun v3 _ => (intOf v3 + 1).toNat)
 case atStart => exact ⟨15, c0, 0, by omega, by omega, rfl, by rw [Nat.zero_mul, Nat.add_zero], fun j hj => by have := HC.out j hj; have := bdN_start j hj; omega, H.out⟩
 case round =>
  clear H
  obtain ⟨K, c, q, hK1, hK2, rfl, hq, hb, HR⟩ := hrel
  by_cases hlt : 8 < K
  ·obtain ⟨k, rfl⟩ : ∃ k, K = k + 1 := ⟨K - 1, by omega⟩
   have e : (((k + 1 : Nat) : Int) - 1) = (k : Int) := by omega
   rw [e]
   have k8 : 8 ≤ k := by omega
   have k15 : k < 15 := by omega
   have hid : decide ((8 : Int) ≤ (k : Int)) = true := by simp; omega
   obtain ⟨m, hm⟩ : ∃ m, k - 4 = m := ⟨_, rfl⟩
   obtain ⟨j, hj⟩ : ∃ j, k - 8 = j := ⟨_, rfl⟩
   have em : (k : Int) - 4 = (m : Int) := by omega
   have ej : (k : Int) - 8 = (j : Int) := by omega
   have kI : (k : Int) < 15 := by omega
   have mI : (m : Int) < 15 := by omega
   have jI : (j : Int) < 15 := by omega
   have f1 : IntKind.i64.wrap (m : Int) = (m : Int) := IntWalk.i64_in _ (by omega)
   have f2 : IntKind.i64.wrap (j : Int) = (j : Int) := IntWalk.i64_in _ (by omega)
   have HQ := za hq
   have HFB := za (foldN_bd k8 k15 hb)
   have HFV := za (lv_foldN c k k8)
   have HFE := za (y3a c k k8)
   rw [hm, hj] at HFE
   have b1 := hb k k15
   have b2 := hb m (by omega)
   have b3 := hb j (by omega)
   have l1 := y6y (k + 1) k
   have l2 := y6y (k + 1) m
   have l3 := y6y (k + 1) j
   have hm' : updN c m (c m + c k) j = c j := by unfold updN; rw [if_neg (by omega)]
   have hmk : updN c m (c m + c k) k = c k := by unfold updN; rw [if_neg (by omega)]
   have hmj : updN (updN c m (c m + c k)) j (updN c m (c m + c k) j + c k) k = c k := by
    show (if k = j then _ else updN c m (c m + c k) k) = c k
    rw [if_neg (by omega), hmk]
   obtain ⟨ck, hck⟩ : ∃ x, c k = x := ⟨_, rfl⟩
   have HP1 := za (fun w => z89 (c m) ck w (by omega))
   have HP2 := za (fun w => z89 (updN c m (c m + ck) j) ck w (by rw [← hck, hm']; omega))
   have HCK := za hck
   rw [hck] at hmk hmj HFE
   have HK1 := za hmk
   have HK2 := za hmj
   have m15 : m < 15 := by omega
   have j15 : j < 15 := by omega
   have H := za HR
   have HE := za e
   clear HR hq hb b1 b2 b3 l1 l2 l3 hm' hmk hmj hck hlt hK1 hK2 hm hj e
   go_wp2_with fail
   have HPA := HP1
   refine wp_region_noPanic ?_
   refine wp_region_held_drew (S := fun W => ∃ f3, Ow w W [(g2, zv 165 .u64 16 fun _ => 0), (g1, zv 162 .u64 30 f3)] ∧ f3 (k * 2) = pz ck 0 ∧ f3 (k * 2 + 1) = pz ck 1) (by kernel_rfl) ⟨_, H.out.drew, (y1n _ k 0 (by omega)).trans (congrArg (fun x => pz x 0) HCK.out), (y1n _ k 1 (by omega)).trans (congrArg (fun x => pz x 1) HCK.out)⟩ (fun hH => ?_)
   replace H := za H.out.drew
   generalize World.drew _ = w8 at *
   refine zh 0 8 (.int .i64 k) hH ?_
   refine zh 1 9 (.int .i64 m) hH ?_
   refine zh 2 10 (.int .i64 k) hH ?_
   refine zh 3 11 (.int .i64 m) hH ?_
   refine zh 4 12 (.pointer (some ⟨g1, m * 2, none⟩)) hH ?_
   refine zh 6 14 (.int .i64 k) hH ?_
   refine zh 7 15 (.pointer (some ⟨g1, k * 2, none⟩)) hH ?_
   refine y25 8 16 rowP rfl rfl rfl hH rfl rfl (fun w hw => by obtain ⟨f3, h, h01⟩ := hw; exact ⟨f3, h.row 1 rfl, h01⟩) (by omega) ?_
   refine zn 5 rfl fun K hK => ?_
   refine z5v 1 13 rfl rowP H.out rfl rfl rfl (by omega) ?_
   refine hK.out _ _ hH (fun hN => ?_)
   refine zn 9 rfl fun K hK => ?_
   go_simp
   refine (HPA.out _).mono ?_
   rintro e wc ⟨rfl, hb⟩
   replace H := zd H hb
   refine hK.out _ _ (by obtain ⟨f3, h, h01⟩ := hH; exact ⟨f3, h.call hb, h01⟩) (fun hN => ?_)
   have hH := hN
   clear hN
   try simp only [Act.put, qa, qb, qc]
   refine zh 10 18 (.pointer (some ⟨g1, m * 2, none⟩)) hH ?_
   refine zn 11 rfl fun K hK => ?_
   refine z45 1 rowP H.out rfl rfl rfl rfl (by omega) ?_
   intro ws HS
   simp only [qb, qc] at HS
   replace H := za HS
   refine hK.out _ _ ⟨_, HS, (y1n _ k 0 (by omega)).trans (congrArg (fun x => pz x 0) HK1.out), (y1n _ k 1 (by omega)).trans (congrArg (fun x => pz x 1) HK1.out)⟩ (fun hN => ?_)
   try simp only [Act.put, qa]
   refine zm ?_
   clear HPA HP1
   have HCK := HK1
   have HPA := HP2
   go_wp2_with fail
   refine wp_region_noPanic ?_
   refine wp_region_held_drew (S := fun W => ∃ f3, Ow w W [(g2, zv 165 .u64 16 fun _ => 0), (g1, zv 162 .u64 30 f3)] ∧ f3 (k * 2) = pz ck 0 ∧ f3 (k * 2 + 1) = pz ck 1) (by kernel_rfl) ⟨_, H.out.drew, (y1n _ k 0 (by omega)).trans (congrArg (fun x => pz x 0) HCK.out), (y1n _ k 1 (by omega)).trans (congrArg (fun x => pz x 1) HCK.out)⟩ (fun hH => ?_)
   replace H := za H.out.drew
   generalize World.drew _ = w8 at *
   refine zh 0 19 (.int .i64 k) hH ?_
   refine zh 1 20 (.int .i64 j) hH ?_
   refine zh 2 21 (.int .i64 k) hH ?_
   refine zh 3 22 (.int .i64 j) hH ?_
   refine zh 4 23 (.pointer (some ⟨g1, j * 2, none⟩)) hH ?_
   refine zh 6 25 (.int .i64 k) hH ?_
   refine zh 7 26 (.pointer (some ⟨g1, k * 2, none⟩)) hH ?_
   refine y25 8 27 rowP rfl rfl rfl hH rfl rfl (fun w hw => by obtain ⟨f3, h, h01⟩ := hw; exact ⟨f3, h.row 1 rfl, h01⟩) (by omega) ?_
   refine zn 5 rfl fun K hK => ?_
   refine z5v 1 24 rfl rowP H.out rfl rfl rfl (by omega) ?_
   refine hK.out _ _ hH (fun hN => ?_)
   refine zn 9 rfl fun K hK => ?_
   go_simp
   refine (HPA.out _).mono ?_
   rintro e wc ⟨rfl, hb⟩
   replace H := zd H hb
   refine hK.out _ _ (by obtain ⟨f3, h, h01⟩ := hH; exact ⟨f3, h.call hb, h01⟩) (fun hN => ?_)
   have hH := hN
   clear hN
   try simp only [Act.put, qa, qb, qc]
   refine zh 10 29 (.pointer (some ⟨g1, j * 2, none⟩)) hH ?_
   refine zn 11 rfl fun K hK => ?_
   refine z45 1 rowP H.out rfl rfl rfl rfl (by omega) ?_
   intro ws HS
   simp only [qb, qc] at HS
   replace H := za HS
   refine hK.out _ _ ⟨_, HS, (y1n _ k 0 (by omega)).trans (congrArg (fun x => pz x 0) HK2.out), (y1n _ k 1 (by omega)).trans (congrArg (fun x => pz x 1) HK2.out)⟩ (fun hN => ?_)
   try simp only [Act.put, qa]
   refine zm ?_
   clear HPA HP2
   rw [← HFE.out] at H
   go_wp2_with fail
   go_roundw
   case rel => exact ⟨k, y65 c k, q + c k * 72057594037927936 ^ (k - 8), k8, by omega, by go_num, by rw [HQ.out, HFV.out, Nat.add_mul]; omega, HFB.out, H.out⟩
   case measure => (simp [intOf] <;> omega)
  ·obtain rfl : K = 8 := by omega
   have e : (((8 : Nat) : Int) - 1) = 7 := rfl
   rw [e]
   have hd : decide ((8 : Int) ≤ 7) = false := rfl
   have hat : ∀ w, (Instr.arrayAt 165 (.slice (some ⟨g1, 0, none⟩) 8 15)).run Tryz.prog w = .ok (.pointer (some ⟨g1, 0, none⟩)) w := fun w => run_arrayAt w _ _ 8 _ 8 15 Tryz.underlying165 (by omega)
   have HQ := za hq
   have HB : Hid (∀ i, i < 8 → c i < 664613997892467381184869269430599680) := za (fun i hi => by have h1 := hb i (by omega); have h2 := y6y 8 i; omega)
   have H := za HR
   clear HR hq hb e hlt hK1 hK2
   go_wp2_with (first
    | ((with_reducible apply z47 rowR H); (case hgd | ho | hx => exact rfl); (case hi => repeat first|exact z5|apply z8); (case hj => omega); intro _ _; go_simp)
    | ((with_reducible apply zj rowR H); (case hgd | ho | hx | hy => exact rfl); (case hi => repeat first|exact z5|apply z8); clear H; intro ws H _ _; simp only [qb] at H; go_simp))
   exact bodyPost_ret (zy 0 rowR rfl _ H rfl rfl) rfl ⟨c, q, rfl, HQ.out, HB.out, H.out.bel⟩
theorem ovC_again {d : Nat → Nat} {o : Nat} (hd : ∀ i, d i < 72057594037927936) (ho : o ≤ 9223372036854907100) : zN d o 1 ≤ 129 ∧ zN d o 2 ≤ 1 ∧ zN d o 3 ≤ 1 ∧ zN d o 4 ≤ o + 1 ∧ zN d o 5 ≤ 129 ∧ zN d o 6 ≤ 1 ∧ zN d o 7 ≤ 1 ∧ zN d o 8 ≤ 1 := by
 have e1 : zN d o 1 = (d 0 + o) / 72057594037927936 := rfl
 have e2 : zN d o 2 = (d 1 + zN d o 1) / 72057594037927936 := rfl
 have e3 : zN d o 3 = (d 2 + zN d o 2) / 72057594037927936 := rfl
 have e4 : zN d o 4 = (d 3 + zN d o 3) / 72057594037927936 + o := rfl
 have e5 : zN d o 5 = (d 4 + zN d o 4) / 72057594037927936 := rfl
 have e6 : zN d o 6 = (d 5 + zN d o 5) / 72057594037927936 := rfl
 have e7 : zN d o 7 = (d 6 + zN d o 6) / 72057594037927936 := rfl
 have e8 : zN d o 8 = (d 7 + zN d o 7) / 72057594037927936 := rfl
 have h0 := hd 0
 have h1 := hd 1
 have h2 := hd 2
 have h3 := hd 3
 have h4 := hd 4
 have h5 := hd 5
 have h6 := hd 6
 have h7 := hd 7
 have b1 : zN d o 1 ≤ 129 := by omega
 have b2 : zN d o 2 ≤ 1 := by omega
 have b3 : zN d o 3 ≤ 1 := by omega
 have b4 : zN d o 4 ≤ o + 1 := by omega
 have b5 : zN d o 5 ≤ 129 := by omega
 have b6 : zN d o 6 ≤ 1 := by omega
 have b7 : zN d o 7 ≤ 1 := by omega
 have b8 : zN d o 8 ≤ 1 := by omega
 exact ⟨b1, b2, b3, b4, b5, b6, b7, b8⟩
theorem narrow_gen {s d d2 o o2 p a b : Nat} (hp : p + 1 + a = b) (h1 : s = d + o * b) (h2 : d + o + o * a = d2 + o2 * b) : s = d2 + o2 * (1 + a) + (o2 + o) * p := by
 subst hp
 rw [Nat.mul_add, Nat.mul_add, Nat.mul_one] at h1 h2
 rw [Nat.mul_add, Nat.add_mul, Nat.mul_one]
 omega
theorem carry_zero {x y e : Nat} (h : x + 0 + e = y) (he : e = 0) : x = y := by omega
theorem carry_some {x o y e a : Nat} (h : x + o + e = y) (he : e = o * a) : x + o + o * a = y := by omega
theorem narrow_math (s : Nat → Nat) : lv s 8 = lv (z5m (dgC (dgC s 0) (zN s 0 8)) (zN (dgC s 0) (zN s 0 8) 8)) 8 + (zN (dgC s 0) (zN s 0 8) 8 + zN s 0 8) * pN := by
 have h1 := carry_zero (z6i s 0 8) (by rw [if_pos (by omega), Nat.zero_mul])
 have h2 := carry_some (a := 72057594037927936 ^ 4) (z6i (dgC s 0) (zN s 0 8) 8) (by rw [if_pos (by omega)])
 rw [y5r]
 exact narrow_gen z7l h1 h2
theorem z8c (s : Nat → Nat) (w : World) (hs : ∀ i, i < 8 → s i < 664613997892467381184869269430599680) :
  Calls Tryz.prog 128 #[.agg (AZ .u64 16 (pr s))] w fun e w' => ∃ h, e = .returned (EV h) ∧ Lim h ∧ lv h 8 % pN = lv s 8 % pN ∧ Below w.heap.size w w' := by
 have ho := y4b hs 8 (by omega)
 have hm := narrow_math s
 have HC := za (fun w => carryP_any s w hs)
 have hd : ∀ i, dgC s 0 i < 72057594037927936 := z8u s 0
 generalize dgC s 0 = d at *
 generalize zN s 0 8 = o at *
 obtain ⟨b1, b2, b3, b4, b5, b6, b7, b8⟩ := ovC_again hd ho
 have HC2 := za (fun w => z7s d o w (fun i hi => by
  have h := hd i
  have e0 : zN d o 0 = o := rfl
  rcases (by omega : i = 0 ∨ i = 1 ∨ i = 2 ∨ i = 3 ∨ i = 4 ∨ i = 5 ∨ i = 6 ∨ i = 7) with rfl | rfl | rfl | rfl | rfl | rfl | rfl | rfl <;> omega) (by omega))
 have hd2 : ∀ i, dgC d o i < 72057594037927936 := z8u d o
 generalize dgC d o = d2 at *
 generalize zN d o 8 = o2 at *
 have HW := za (fun w => y4s d2 o2 w (by have := hd2 0; omega) (by have := hd2 4; omega))
 have HL := za (y4r (o := o2) hd2 (by omega))
 have HV : Hid (lv (z5m d2 o2) 8 % pN = lv s 8 % pN) := za (by rw [hm, Nat.add_mul_mod_self_right])
 clear hs ho hm hd b1 b2 b3 b4 b5 b6 b7 b8 hd2
 have H := za (Ow.start w)
 go_enter Tryz.func128, Tryz.ntmps128
 go_wp2_with (first
  | ((with_reducible apply zw H); (case hgd | ho | hx => exact rfl); clear H; intro _ _ H _ _; go_simp)
  | ((with_reducible apply ze z9 H); (case hgd | ho => exact rfl); clear H; intro _ _ H _ _; go_simp)
  | ((with_reducible apply zr rowR H); (case hgd | ho | hx => exact rfl); (case hi => repeat first|exact z5|apply z8); intro _ _; go_simp)
  | ((with_reducible refine (HC.out _).mono ?_); rintro e wc ⟨rfl, hb⟩; replace H := zd H hb; clear hb)
  | ((with_reducible apply ze nilL H); (case hgd | ho => exact rfl); clear H; intro _ _ H _ _; go_simp)
  | ((with_reducible apply zj rowL H); (case hgd | ho | hx | hy => exact rfl); (case hi => repeat first|exact z5|apply z8); clear H; intro ws H _ _; simp only [qb] at H; go_simp)
  | ((with_reducible apply zr rowL H); (case hgd | ho | hx => exact rfl); (case hi => repeat first|exact z5|apply z8); intro _ _; go_simp)
  | ((with_reducible refine (HC2.out _).mono ?_); rintro e wc ⟨rfl, hb⟩; replace H := zd H hb; clear hb)
  | ((with_reducible refine (HW.out _).mono ?_); rintro e wc ⟨rfl, hb⟩; replace H := zd H hb; clear hb)
  | ((with_reducible apply zj zt H); (case hgd | ho | hx | hy => exact rfl); (case hi => repeat first|exact z5|apply z8); clear H; intro ws H _ _; simp only [qb, qc] at H; go_simp))
 exact bodyPost_ret (zy 1 zt rfl _ H rfl rfl) rfl ⟨_, rfl, HL.out, HV.out, H.out.bel⟩
def rowN (f g s : Nat → Nat) (i : Nat) : Nat → Nat → Nat
 | 0 => s
 | k + 1 => updN (rowN f g s i k) (i + k) (rowN f g s i k (i + k) + f i * g k)
def allN (f g : Nat → Nat) : Nat → Nat → Nat
 | 0 => fun _ => 0
 | i + 1 => rowN f g (allN f g i) i 8
theorem y71 {a fi g x y l : Nat} : a + fi * l * x + fi * g * (x * y) = a + fi * (l + g * y) * x := by
 rw [Nat.mul_add, Nat.add_mul, Nat.add_assoc, Nat.mul_assoc fi (g * y) x, Nat.mul_assoc fi g, Nat.mul_assoc g y x, Nat.mul_comm y x]
theorem y8v (f g s : Nat → Nat) (i : Nat) (hi : i < 8) : ∀ k, k ≤ 7 + 1 → lv (rowN f g s i k) 15 = lv s 15 + f i * lv g k * 72057594037927936 ^ i
 | 0, _ => by rw [show rowN f g s i 0 = s from rfl, show lv g 0 = 0 from rfl, Nat.mul_zero, Nat.zero_mul, Nat.add_zero]
 | k + 1, hk => by
  unfold rowN
  rw [y01 _ _ _ _ (by omega), y8v f g s i hi k (by omega), Nat.pow_add, show lv g (k + 1) = lv g k + g k * 72057594037927936 ^ k from rfl]
  exact y71
theorem y8x (f g : Nat → Nat) : ∀ i, i ≤ 8 → lv (allN f g i) 15 = lv f i * lv g 8
 | 0, _ => by rw [show allN f g 0 = fun _ => 0 from rfl, show lv f 0 = 0 from rfl, z8e, Nat.zero_mul]
 | i + 1, hi => by
  rw [show allN f g (i + 1) = rowN f g (allN f g i) i 8 from rfl, show lv f (i + 1) = lv f i + f i * 72057594037927936 ^ i from rfl, y8v _ _ _ _ (by omega) 8 (by omega), y8x f g i (by omega), Nat.add_mul, Nat.mul_assoc, Nat.mul_assoc, Nat.mul_comm (lv g 8)]
theorem z6y {x y : Nat} (hx : x < 72057594037927940) (hy : y < 72057594037927940) : x * y ≤ 5192296858534828060876060556787721 := by
 have h := Nat.mul_le_mul (show x ≤ 72057594037927939 by omega) (show y ≤ 72057594037927939 by omega)
 omega
theorem y3y {f g s : Nat → Nat} (hf : Lim f) (hg : Lim g) (i : Nat) (hi : i < 8) (hs : ∀ j, s j ≤ i * 5192296858534828060876060556787721) :
  ∀ k, k ≤ 8 → ∀ j, rowN f g s i k j ≤ i * 5192296858534828060876060556787721 + 5192296858534828060876060556787721 ∧ (i + k ≤ j → rowN f g s i k j = s j)
 | 0, _, j => by rw [show rowN f g s i 0 j = s j from rfl]; exact ⟨Nat.le_trans (hs j) (Nat.le_add_right _ _), fun _ => rfl⟩
 | k + 1, hk, j => by
  have ih := y3y hf hg i hi hs k (by omega)
  have hp := z6y (hf i hi) (hg k (by omega))
  unfold rowN updN
  by_cases e : j = i + k
  ·have h1 := ih (i + k)
   have h2 := h1.2 (Nat.le_refl _)
   have h3 := hs (i + k)
   rw [if_pos e, h2]
   exact ⟨by omega, fun h => by omega⟩
  ·rw [if_neg e]
   have h1 := ih j
   exact ⟨h1.1, fun h => h1.2 (by omega)⟩
theorem y9t {f g : Nat → Nat} (hf : Lim f) (hg : Lim g) : ∀ i, i ≤ 8 → ∀ j, allN f g i j ≤ i * 5192296858534828060876060556787721
 | 0, _, j => by simp [allN]
 | i + 1, hi, j => by
  have h := y3y hf hg i (by omega) (fun j => y9t hf hg i (by omega) j) 8 (by omega) j
  show rowN f g (allN f g i) i 8 j ≤ (i + 1) * _
  rw [Nat.add_mul]
  have := h.1
  omega
theorem mul_any (f g : Nat → Nat) (w : World) (hf : Lim f) (hg : Lim g) :
  Calls Tryz.prog 71 #[EV f, EV g] w fun e w' => ∃ h, e = .returned (EV h) ∧ Lim h ∧ lv h 8 % pN = lv f 8 * lv g 8 % pN ∧ Below w.heap.size w w' := by
 have hv := y8x f g 8 (by omega)
 have hb := y9t hf hg
 have HB := za hb
 have HF := za (And.intro hf hg)
 have HO := za (fun w => y6c (allN f g 8) w (fun j hj => by have := hb 8 (by omega) j; omega))
 have HV := za hv
 clear hb hf hg hv
 have H := za (Ow.start w)
 go_enter Tryz.func71, Tryz.ntmps71
 go_wp2_with (first
  | ((fail_if_success have := g1); (with_reducible apply zw H); (case hgd | ho | hx => exact rfl); clear H; intro w1 g1 H _ _; go_simp)
  | ((fail_if_success have := g2); (with_reducible apply zw H); (case hgd | ho | hx => exact rfl); clear H; intro w2 g2 H _ _; go_simp)
  | ((fail_if_success have := g3); (with_reducible apply ze z9 H); (case hgd | ho => exact rfl); clear H; intro w3 g3 H _ _; go_simp)
  | ((fail_if_success have := g4); (with_reducible apply ze nilS H); (case hgd | ho => exact rfl); clear H; intro w4 g4 H _ _; go_simp)
  | ((with_reducible apply zr rowL H); (case hgd | ho | hx => exact rfl); (case hi => repeat first|exact z5|apply z8); intro _ _; go_simp))
 replace H := za (H.out.like 0 (g := pr fun _ => 0) rfl fun k _ => congrFun y34 k)
 simp only [qb] at H
 go_loopw [12] (fun v12 wr => ∃ i : Nat, i ≤ 8 ∧ v12 = .int .i64 i ∧ Ow w wr [(g4, zv 162 .u64 30 (pr (allN f g i))), (g3, zv 30 .u64 8 fun _ => 0), (g2, zv 30 .u64 8 (NZ g)), (g1, zv 30 .u64 8 (NZ f))]) (fun v12 _ => 8 - (intOf v12).toNat)
 case atStart => exact ⟨0, by omega, rfl, H.out⟩
 case round =>
  clear H
  obtain ⟨i, hi, rfl, HR⟩ := hrel
  by_cases hlt : i < 8
  ·have hid : decide ((i : Int) < 8) = true := by simp; omega
   have i8 : (i : Int) < 8 := by omega
   have H := za HR
   clear HR
   obtain ⟨x, hx⟩ : ∃ x, f i = x := ⟨_, rfl⟩
   have nx : NZ f i = (x : Int) := by rw [← hx]; rfl
   have HX := za hx
   clear hx
   go_wp2_with (first
    | ((with_reducible apply z20 Tryz.underlying28 oneW); (case hgd | ho | hx | hy => exact rfl); (case hi => omega); intro _ _; go_simp)
    | ((with_reducible apply zr rowL H); (case hgd | ho | hx => exact rfl); (case hi => repeat first|exact z5|apply z8); intro _ _; go_simp))
   go_loopw [18] (fun v18 wr => ∃ k : Nat, k ≤ 8 ∧ v18 = .int .i64 k ∧ Ow w wr [(g4, zv 162 .u64 30 (pr (rowN f g (allN f g i) i k))), (g3, zv 30 .u64 8 fun _ => 0), (g2, zv 30 .u64 8 (NZ g)), (g1, zv 30 .u64 8 (NZ f))]) (fun v18 _ => 8 - (intOf v18).toNat)
   case atStart => exact ⟨0, by omega, rfl, H.out⟩
   case round =>
    clear H
    obtain ⟨k, hk, rfl, HR⟩ := hrel
    by_cases hlk : k < 8
    ·have hkd : decide ((k : Int) < 8) = true := by simp; omega
     have k8 : (k : Int) < 8 := by omega
     obtain ⟨y, hy⟩ : ∃ y, g k = y := ⟨_, rfl⟩
     have ny : NZ g k = (y : Int) := by rw [← hy]; rfl
     obtain ⟨p, hp⟩ : ∃ p, i + k = p := ⟨_, rfl⟩
     have pI : (i : Int) + (k : Int) = (p : Int) := by omega
     have p15 : (p : Int) < 15 := by omega
     have f1 : IntKind.i64.wrap (p : Int) = (p : Int) := IntWalk.i64_in _ (by omega)
     have bv := (y3y HF.out.1 HF.out.2 i hlt (HB.out i hi) k (by omega) p).1
     have bx := HF.out.1 i hlt
     have by' := HF.out.2 k hlk
     have bp := z6y bx by'
     have HE : Hid (updN (rowN f g (allN f g i) i k) p (rowN f g (allN f g i) i k p + x * y) = rowN f g (allN f g i) i (k + 1)) := za (by rw [← hp, ← hy, ← HX.out]; rfl)
     rw [HX.out] at bx bp
     rw [hy] at by' bp
     have HP := za (fun w => z88 (rowN f g (allN f g i) i k p) x y w (by omega) (by omega) (by omega))
     have H := za HR
     clear HR hy hp bv bx by' bp
     go_wp2_with (first
      | ((with_reducible apply z20 Tryz.underlying28 oneW); (case hgd | ho | hx | hy => exact rfl); (case hi => omega); intro _ _; go_simp)
      | ((with_reducible apply y2t rowP H); (case hgd | ho | hx => exact rfl); (case hi => repeat first|exact z5|apply z8); (case hj => omega); intro _ _; go_simp)
      | ((with_reducible refine (HP.out _).mono ?_); rintro e wc ⟨rfl, hb⟩; replace H := zd H hb; clear hb)
      | ((with_reducible apply z77 rowP H); (case hgd | ho | hx | hy => exact rfl); (case hi => repeat first|exact z5|apply z8); (case hj => omega); clear H; intro ws H _ _; simp only [qb] at H; go_simp))
     rw [HE.out] at H
     go_roundw
     case rel => exact ⟨k + 1, by omega, by go_num, H.out⟩
     case measure => simp [intOf]; omega
    ·obtain rfl : k = 8 := by omega
     clear hlk hk
     rw [show ((8 : Nat) : Int) = 8 from rfl]
     have H := za HR
     clear HR
     go_wp2_with fail
     go_roundw
     case rel => exact ⟨i + 1, by omega, by go_num, H.out⟩
     case measure => simp [intOf]; omega
  ·obtain rfl : i = 8 := by omega
   clear hlt hi
   rw [show ((8 : Nat) : Int) = 8 from rfl]
   have H := za HR
   clear HR
   go_wp2_with (first
    | ((with_reducible apply zr rowS H); (case hgd | ho | hx => exact rfl); (case hi => repeat first|exact z5|apply z8); intro _ _; go_simp)
    | ((with_reducible refine (HO.out _).mono ?_); rintro e wc ⟨c, q, rfl, hq, hc, hb⟩; replace H := zd H hb; clear hb; have HQ := za hq; have HN := za (fun w => z8c c w hc); clear hq hc)
    | ((with_reducible refine (HN.out _).mono ?_); rintro e wc ⟨h, rfl, hl, hw, hb⟩; replace H := zd H hb; clear hb; have HL := za (And.intro hl hw); clear hl hw)
    | ((with_reducible apply zj zt H); (case hgd | ho | hx | hy => exact rfl); (case hi => repeat first|exact z5|apply z8); clear H; intro ws H _ _; simp only [qb, qc] at H; go_simp))
   refine bodyPost_ret (zy 1 zt rfl _ H rfl rfl) rfl ⟨h, rfl, HL.out.1, ?_, H.out.bel⟩
   rw [HL.out.2, ← HV.out, HQ.out, Nat.add_mul_mod_self_right]
theorem i64_xor0 (n : Int) (h1 : -9223372036854775808 ≤ n) (h2 : n ≤ 9223372036854775807) : bits .xor .i64 n 0 = n := by
 show IntKind.i64.wrap ((BitVec.ofInt 64 n ^^^ BitVec.ofInt 64 0).toNat : Nat) = n
 rw [show BitVec.ofInt 64 0 = 0#64 from rfl, BitVec.xor_zero, BitVec.toNat_ofInt, IntKind.wrap_i64]
 omega
theorem i64_xor1 (n : Int) (h1 : -9223372036854775808 ≤ n) (h2 : n ≤ 9223372036854775807) : bits .xor .i64 n (-1) = -1 - n := by
 show IntKind.i64.wrap ((BitVec.ofInt 64 n ^^^ BitVec.ofInt 64 (-1)).toNat : Nat) = -1 - n
 rw [show BitVec.ofInt 64 (-1) = BitVec.allOnes 64 from rfl, BitVec.xor_allOnes, BitVec.toNat_not, BitVec.toNat_ofInt, IntKind.wrap_i64]
 omega
theorem times1_any (i x m g7 : Nat) (w : World) (hm : w.cell? ⟨g7, 0, none⟩ = some (.int .u64 (m : Int))) (hx : x < 72057594037927940) (hmm : m ≤ 9223372036854775808) :
  Calls Tryz.prog 138 #[.int .i64 i, .int .u64 x, .pointer (some ⟨g7, 0, none⟩)] w fun e w' => e = .returned (.agg (AZ .u64 2 (pz (x * m)))) ∧ Below w.heap.size w w' := by
 have hp := Nat.mul_le_mul (show x ≤ 72057594037927939 by omega) hmm
 have HP := za (fun w => z88 0 x m w (by omega) (by omega) (by omega))
 rw [Nat.zero_add] at HP
 have HM := za hm
 have hg := block_lt_of_cell hm
 clear hp hx hmm hm
 have H := za (Ow.start w)
 go_enter Tryz.func138, Tryz.ntmps138
 go_wp2_with (first
  | ((fail_if_success have := g1); (with_reducible apply ze nilP H); (case hgd | ho => exact rfl); clear H; intro w1 g1 H _ _; have hc : w1.cell? ⟨g7, 0, none⟩ = some (.int .u64 (m : Int)) := (H.out.bel.cell (p := ⟨g7, 0, none⟩) hg).trans HM.out; go_simp)
  | ((with_reducible apply lay_build_P0); (case hgd | ho => exact rfl); intro _ _; go_simp)
  | ((with_reducible refine (HP.out _).mono ?_); rintro e wc ⟨rfl, hb⟩; replace H := zd H hb; clear hb)
  | ((with_reducible apply zj rowP H); (case hgd | ho | hx | hy => exact rfl); (case hi => repeat first|exact z5|apply z8); clear H; intro ws H _ _; simp only [qb] at H; go_simp))
 exact bodyPost_ret (zy 0 rowP rfl _ H rfl rfl) rfl ⟨rfl, H.out.bel⟩
theorem y5s (f : Nat → Nat) (m : Nat) : ∀ n, lv (fun i => f i * m) n = lv f n * m
 | 0 => by rw [show lv (fun i => f i * m) 0 = 0 from rfl, show lv f 0 = 0 from rfl, Nat.zero_mul]
 | n + 1 => by
  unfold lv
  rw [y5s f m n, Nat.add_mul, Nat.mul_right_comm]
theorem less_same {a b c : Nat} (h1 : (a + c) % pN = 0) (h2 : (b + c) % pN = 0) : a % pN = b % pN := by
 unfold pN at *
 omega
theorem neg_mul_p (v m : Nat) : (v * ((pN - m % pN) % pN) + v * m) % pN = 0 := by
 have hm := Nat.mod_lt m z9y
 have e : (pN - m % pN + m) % pN = 0 := by
  have : pN - m % pN + m = pN * (m / pN + 1) := by
   have h := Nat.mod_add_div m pN
   rw [Nat.mul_add, Nat.mul_one]
   omega
  rw [this, Nat.mul_mod_right]
 rw [← Nat.mul_add, Nat.mul_mod, Nat.mod_add_mod, e, Nat.mul_zero, Nat.zero_mod]
theorem y0o (f : Nat → Nat) (n z y zz : Int) (m : Nat) (w : World) (hT : Tp w) (hf : Lim f) (hm : m ≤ 9223372036854775808) (e0 : n / 9223372036854775808 = z) (e1 : bits .xor .i64 n z = y) (e2 : IntKind.u64.wrap y = y) (e3 : IntKind.u64.wrap z = zz) (e4 : IntKind.u64.wrap (y - zz) = (m : Int)) :
  Calls Tryz.prog 76 #[EV f, .int .i64 n] w fun e w' => ∃ h k, e = .returned (EV (y37 z h k)) ∧ Lim h ∧ Lim k ∧ lv h 8 % pN = lv f 8 * m % pN ∧ (lv k 8 + lv h 8) % pN = 0 ∧ Below w.heap.size w w' := by
 have HT := za hT
 have HF := za hf
 have HM := za hm
 have HN := za (fun w => z8c (fun i => f i * m) w (fun i hi => by have := Nat.mul_le_mul (show f i ≤ 72057594037927939 from Nat.le_of_lt_succ (by have := hf i hi; omega)) hm; show f i * m < _; omega))
 rw [y5s] at HN
 clear hf hT hm
 have H := za (Ow.start w)
 go_enter Tryz.func76, Tryz.ntmps76
 go_wp2_with (first
  | ((fail_if_success have := g1); (with_reducible apply zw H); (case hgd | ho | hx => exact rfl); clear H; intro w1 g1 H _ _; go_simp)
  | ((fail_if_success have := g2); (with_reducible apply ze z9 H); (case hgd | ho => exact rfl); clear H; intro w2 g2 H _ _; go_simp)
  | ((fail_if_success have := g3); (with_reducible apply y8d nilW H); (case hgd | ho => exact rfl); clear H; intro w3 g3 H _ _; go_simp)
  | ((with_reducible apply z2z oneW H); (case hgd | ho | hx | hy => exact rfl); (case hi => repeat first|exact z5|apply z8); (case hj => omega); clear H; intro ws H _ _; simp only [qb] at H; go_simp)
  | ((with_reducible apply zr rowL H); (case hgd | ho | hx => exact rfl); (case hi => repeat first|exact z5|apply z8); intro _ _; go_simp))
 refine (eachP_any 138 #[.pointer (some ⟨g3, 0, none⟩)] f (fun i => f i * m) _ (z3g Tryz.func138 (by kernel_rfl) rfl) (fun i W hi hB => ?_)).mono ?_
 ·exact times1_any i (f i) m g3 W ((H.out.call hB).cell 0 rfl 0 (by omega)) (HF.out i hi) HM.out
 rintro e wc ⟨rfl, hb⟩
 replace H := zd H hb
 clear hb e0 e1 e2 e3 e4
 go_wp2_with (first
  | ((with_reducible refine (HN.out _).mono ?_); rintro e wc ⟨h, rfl, hl, hw, hb⟩; replace H := zd H hb; clear hb; have HL := za (And.intro hl hw); clear hl hw)
  | ((fail_if_success have := g4); (with_reducible apply ze z9 H); (case hgd | ho => exact rfl); clear H; intro w4 g4 H _ _; go_simp)
  | ((with_reducible apply zj zt H); (case hgd | ho | hx | hy => exact rfl); (case hi => repeat first|exact z5|apply z8); clear H; intro ws H _ _; simp only [qb] at H; go_simp))
 refine wp_region_noPanic ?_
 refine wp_region_held_drew (S := fun W => ∃ f3, Ow w W [(g4, zv 30 .u64 8 (NZ h)), (g3, zv 27 .u64 1 (updZ (fun _ => 0) 0 (m : Int))), (g2, zv 30 .u64 8 f3), (g1, zv 30 .u64 8 (NZ f))]) (by kernel_rfl) (⟨_, H.out.drew⟩) (fun hH => ?_)
 clear H
 refine zh 0 22 (.int .i64 z) hH ?_
 refine zk 1 23 zt rfl rfl rfl hH rfl rfl (fun _ h => by obtain ⟨f3, h⟩ := h; exact h.row 0 rfl) ?_
 simp only [Act.put, qa, qb, qc]
 refine zk 2 24 zt rfl rfl rfl hH rfl rfl (fun _ h => by obtain ⟨f3, h⟩ := h; exact h.row 0 rfl) ?_
 simp only [Act.put, qa, qb, qc]
 refine zn 3 rfl fun K hK => ?_
 go_simp
 refine (y8n h _ (by obtain ⟨f3, h⟩ := hH; exact HT.out.below h.bel) HL.out.1).mono ?_
 rintro e wc ⟨k, rfl, hkl, hkv, hb⟩
 refine hK.out _ _ (by obtain ⟨f3, h⟩ := hH; exact ⟨f3, h.call hb⟩) (fun hN => ?_)
 have hH := hN
 clear hN
 try simp only [Act.put, qa, qb, qc]
 have HK := za (And.intro hkl hkv)
 clear hkl hkv
 refine zn 4 rfl fun K hK => ?_
 go_simp
 refine (z56 z h k _ HL.out.1 HK.out.1).mono ?_
 rintro e wc ⟨rfl, hb⟩
 refine hK.out _ _ (by obtain ⟨f3, h⟩ := hH; exact ⟨f3, h.call hb⟩) (fun hN => ?_)
 have hH := hN
 clear hN
 try simp only [Act.put, qa, qb, qc]
 obtain ⟨f3, hH3⟩ := hH
 refine zn 5 rfl fun K hK => ?_
 refine zl 2 zt hH3 rfl rfl rfl rfl ?_
 intro ws HS
 simp only [qb, qc] at HS
 refine hK.out _ _ ⟨_, HS⟩ (fun hN => ?_)
 have H := za HS
 try simp only [Act.put, qa]
 refine zm ?_
 go_wp2_with fail
 exact bodyPost_ret (zy 2 zt rfl _ H rfl rfl) rfl ⟨h, k, rfl, HL.out.1, HK.out.1, HL.out.2, HK.out.2, H.out.bel⟩
theorem y2g (f : Nat → Nat) (n : Int) (w : World) (hT : Tp w) (hf : Lim f) (h1 : -9223372036854775808 ≤ n) (h2 : n ≤ 9223372036854775807) :
  Calls Tryz.prog 76 #[EV f, .int .i64 n] w fun e w' => ∃ h, e = .returned (EV h) ∧ Lim h ∧ lv h 8 % pN = lv f 8 * (n % pZ).toNat % pN ∧ Below w.heap.size w w' := by
 rcases (by omega : 0 ≤ n ∨ n < 0) with hn | hn
 ·obtain ⟨m, rfl⟩ : ∃ m : Nat, n = (m : Int) := ⟨n.toNat, by omega⟩
  refine (y0o f m 0 m 0 m w hT hf (by omega) (by omega) (i64_xor0 _ h1 h2) (by rw [IntKind.wrap_u64]; omega) rfl (by rw [IntKind.wrap_u64]; omega)).mono ?_
  rintro e w' ⟨h, k, rfl, hl, hk, hv, hw, hb⟩
  refine ⟨h, rfl, hl, ?_, hb⟩
  rw [hv, z8o, Nat.mul_mod_mod]
 ·obtain ⟨m, rfl⟩ : ∃ m : Nat, n = -(m : Int) := ⟨(-n).toNat, by omega⟩
  refine (y0o f (-(m : Int)) (-1) (m - 1) 18446744073709551615 m w hT hf (by omega) (by omega) (by rw [i64_xor1 _ h1 h2]; omega) (by rw [IntKind.wrap_u64]; omega) rfl (by rw [IntKind.wrap_u64]; omega)).mono ?_
  rintro e w' ⟨h, k, rfl, hl, hk, hv, hw, hb⟩
  refine ⟨k, rfl, hk, ?_, hb⟩
  rw [← neg_p]
  refine less_same hw ?_
  rw [Nat.add_mod, hv, ← Nat.add_mod]
  exact neg_mul_p _ _
section
variable {P : Program} {md : Region.Mode} {ops : Array Oper} {Q : Exit → Act → World → Prop} {S : World → Prop} {fuel : Nat} {listed : Array Bool} {a : Act} {w : World} {t ty : TypeId} {k : IntKind} {n : Nat}
theorem held_get (i : Nat) (d : Tmp) {oi : Oper} (hT : IsOne P ty k) (hi : ops[i]? = some oi) (hd : oi.dst = some d) (hw : Region.wanted oi (yielded ops a.tmps) = true) (hS : S w) {x : Operand} (ho : oi.op = .load ty x) {g j : Nat} (hx : a.eval x = .pointer (some ⟨g, j, none⟩))
  {f : Nat → Int} (hrow : ∀ w, S w → w.heap[g]? = some (zv t k n f)) (hj : j < n)
  (h : wpAnyH P md ops (NoPanic Q) S fuel (listed.setIfInBounds i true) (a.put (some d) (.int k (f j))) w) (hs : Region.noSelect ops = true := by kernel_rfl) (hf : Region.free md ops listed i = true := by kernel_rfl) (hr : (Region.ready md ops listed).contains i = true := by kernel_rfl) : wpAnyH P md ops (NoPanic Q) S (fuel + 1) listed a w :=
 z0h i d (.int k (f j)) hi hd (hs := hs) (hf := hf) (hr := hr) hw hS (fun w hw' => by
  unfold execOp
  simp only [ho, hx, Sem.run_bind, y3w hT (hrow w hw') hj, Result.andThen_ok]
  rfl) h
end
def rowQ (f s : Nat → Nat) (i : Nat) : Nat → Nat → Nat
 | 0 => s
 | k + 1 => updN (rowQ f s i k) (i + k) (rowQ f s i k (i + k) + 2 * f i * f k)
def allQ (f : Nat → Nat) : Nat → Nat → Nat
 | 0 => fun _ => 0
 | i + 1 => rowQ f (updN (allQ f i) (2 * i) (allQ f i (2 * i) + f i * f i)) i i
theorem y8u (f s : Nat → Nat) (i : Nat) (hi : i < 8) : ∀ k, k ≤ i → lv (rowQ f s i k) 15 = lv s 15 + 2 * f i * lv f k * 72057594037927936 ^ i
 | 0, _ => by rw [show rowQ f s i 0 = s from rfl, show lv f 0 = 0 from rfl, Nat.mul_zero, Nat.zero_mul, Nat.add_zero]
 | k + 1, hk => by
  unfold rowQ
  rw [y01 _ _ _ _ (by omega), y8u f s i hi k (by omega), Nat.pow_add, show lv f (k + 1) = lv f k + f k * 72057594037927936 ^ k from rfl]
  exact y71
theorem sq_gen {l c x : Nat} : l * l + c * c * (x * x) + 2 * c * l * x = (l + c * x) * (l + c * x) := by
 rw [Nat.add_mul, Nat.mul_add, Nat.mul_add, Nat.mul_mul_mul_comm c x c x, Nat.mul_comm (c * x) l]
 have e : 2 * c * l * x = l * (c * x) + l * (c * x) := by
  rw [Nat.mul_assoc 2 c l, Nat.mul_comm c l, Nat.mul_assoc 2, Nat.mul_assoc l c x]
  omega
 omega
theorem y8w (f : Nat → Nat) : ∀ i, i ≤ 8 → lv (allQ f i) 15 = lv f i * lv f i
 | 0, _ => by rw [show allQ f 0 = fun _ => 0 from rfl, show lv f 0 = 0 from rfl, z8e, Nat.zero_mul]
 | i + 1, hi => by
  rw [show allQ f (i + 1) = rowQ f (updN (allQ f i) (2 * i) (allQ f i (2 * i) + f i * f i)) i i from rfl, show lv f (i + 1) = lv f i + f i * 72057594037927936 ^ i from rfl, y8u _ _ _ (by omega) i (Nat.le_refl _), y01 _ _ _ _ (by omega), y8w f i (by omega), show 2 * i = i + i by omega, Nat.pow_add]
  exact sq_gen
theorem y3x {f s : Nat → Nat} (hf : Lim f) (i : Nat) (hi : i < 8) (B : Nat) (hs : ∀ j, j < 2 * i → s j ≤ B) :
  ∀ k, k ≤ i → ∀ j, rowQ f s i k j ≤ (if j < 2 * i then B + 2 * 5192296858534828060876060556787721 else s j) ∧ (i + k ≤ j → rowQ f s i k j = s j)
 | 0, _, j => by
  rw [show rowQ f s i 0 j = s j from rfl]
  refine ⟨?_, fun _ => rfl⟩
  by_cases h : j < 2 * i
  ·rw [if_pos h]; exact Nat.le_trans (hs j h) (Nat.le_add_right _ _)
  ·rw [if_neg h]; exact Nat.le_refl _
 | k + 1, hk, j => by
  have ih := y3x hf i hi B hs k (by omega)
  have hp := z6y (hf i hi) (hf k (by omega))
  rw [show rowQ f s i (k + 1) = updN (rowQ f s i k) (i + k) (rowQ f s i k (i + k) + 2 * f i * f k) from rfl]
  unfold updN
  by_cases e : j = i + k
  ·have h1 := ih (i + k)
   have h2 := h1.2 (Nat.le_refl _)
   have h3 := hs (i + k) (by omega)
   rw [if_pos e, h2, if_pos (by omega), Nat.mul_assoc]
   refine ⟨?_, fun h => by omega⟩
   generalize f i * f k = z at *
   omega
  ·rw [if_neg e]
   have h1 := ih j
   exact ⟨h1.1, fun h => h1.2 (by omega)⟩
theorem y9s {f : Nat → Nat} (hf : Lim f) : ∀ i, i ≤ 8 → (∀ j, allQ f i j ≤ i * (2 * 5192296858534828060876060556787721)) ∧ ∀ j, 2 * i ≤ j + 1 → allQ f i j = 0
 | 0, _ => ⟨fun j => Nat.zero_le _, fun j _ => rfl⟩
 | i + 1, hi => by
  obtain ⟨h1, h2⟩ := y9s hf i (by omega)
  have hp := z6y (hf i (by omega)) (hf i (by omega))
  have hz := h2 (2 * i) (by omega)
  have hr := y3x hf i (by omega) (s := updN (allQ f i) (2 * i) (allQ f i (2 * i) + f i * f i)) (i * (2 * 5192296858534828060876060556787721)) (fun j hj => by
   unfold updN
   rw [if_neg (by omega)]
   exact h1 j) i (Nat.le_refl _)
  rw [show allQ f (i + 1) = rowQ f (updN (allQ f i) (2 * i) (allQ f i (2 * i) + f i * f i)) i i from rfl]
  refine ⟨fun j => ?_, fun j hj => ?_⟩
  ·have h := (hr j).1
   by_cases hj : j < 2 * i
   ·rw [if_pos hj] at h
    rw [Nat.add_mul, Nat.one_mul]
    exact h
   ·rw [if_neg hj] at h
    refine Nat.le_trans h ?_
    unfold updN
    by_cases e : j = 2 * i
    ·rw [if_pos e, hz]
     rw [Nat.add_mul, Nat.one_mul]
     generalize f i * f i = z at *
     omega
    ·rw [if_neg e, h2 j (by omega)]
     exact Nat.zero_le _
  ·rw [(hr j).2 (by omega)]
   unfold updN
   rw [if_neg (by omega)]
   exact h2 j (by omega)
theorem square_any (f : Nat → Nat) (w : World) (hf : Lim f) :
  Calls Tryz.prog 88 #[EV f] w fun e w' => ∃ h, e = .returned (EV h) ∧ Lim h ∧ lv h 8 % pN = lv f 8 * lv f 8 % pN ∧ Below w.heap.size w w' := by
 have hv := y8w f 8 (by omega)
 have hb := y9s hf
 have HB := za hb
 have HF := za hf
 have HO := za (fun w => y6c (allQ f 8) w (fun j hj => by have := (hb 8 (by omega)).1 j; omega))
 have HV := za hv
 clear hb hf hv
 have H := za (Ow.start w)
 go_enter Tryz.func88, Tryz.ntmps88
 go_wp2_with (first
  | ((fail_if_success have := g1); (with_reducible apply zw H); (case hgd | ho | hx => exact rfl); clear H; intro w1 g1 H _ _; go_simp)
  | ((fail_if_success have := g2); (with_reducible apply ze z9 H); (case hgd | ho => exact rfl); clear H; intro w2 g2 H _ _; go_simp)
  | ((fail_if_success have := g3); (with_reducible apply ze nilS H); (case hgd | ho => exact rfl); clear H; intro w3 g3 H _ _; go_simp)
  | ((with_reducible apply zr rowL H); (case hgd | ho | hx => exact rfl); (case hi => repeat first|exact z5|apply z8); intro _ _; go_simp))
 replace H := za (H.out.like 0 (g := pr fun _ => 0) rfl fun k _ => congrFun y34 k)
 simp only [qb] at H
 go_loopw [9] (fun v9 wr => ∃ i : Nat, i ≤ 8 ∧ v9 = .int .i64 i ∧ Ow w wr [(g3, zv 162 .u64 30 (pr (allQ f i))), (g2, zv 30 .u64 8 fun _ => 0), (g1, zv 30 .u64 8 (NZ f))]) (fun v9 _ => 8 - (intOf v9).toNat)
 case atStart => exact ⟨0, by omega, rfl, H.out⟩
 case round =>
  clear H
  obtain ⟨i, hi, rfl, HR⟩ := hrel
  by_cases hlt : i < 8
  ·have hid : decide ((i : Int) < 8) = true := by simp; omega
   have i8 : (i : Int) < 8 := by omega
   have H := za HR
   clear HR
   have bz := (HB.out i hi).2 (2 * i) (by omega)
   have bx := HF.out i hlt
   have bp := z6y bx bx
   obtain ⟨x, hx⟩ : ∃ x, f i = x := ⟨_, rfl⟩
   have nx : NZ f i = (x : Int) := by rw [← hx]; rfl
   have HX := za hx
   obtain ⟨d, hd⟩ : ∃ d, 2 * i = d := ⟨_, rfl⟩
   have dI : 2 * (i : Int) = (d : Int) := by omega
   have d15 : (d : Int) < 15 := by omega
   have f1 : IntKind.i64.wrap (d : Int) = (d : Int) := IntWalk.i64_in _ (by omega)
   have HD := za hd
   rw [hd] at bz
   rw [hx] at bx bp
   have HP := za (fun w => z88 (allQ f i d) x x w (by omega) (by omega) (by omega))
   have BX := za bx
   clear hx hd bx bz bp
   go_wp2_with (first
    | ((with_reducible apply z20 Tryz.underlying28 oneW); (case hgd | ho | hx | hy => exact rfl); (case hi => omega); intro _ _; go_simp)
    | ((with_reducible apply y2t rowP H); (case hgd | ho | hx => exact rfl); (case hi => repeat first|exact z5|apply z8); (case hj => omega); intro _ _; go_simp)
    | ((with_reducible refine (HP.out _).mono ?_); rintro e wc ⟨rfl, hb⟩; replace H := zd H hb; clear hb)
    | ((with_reducible apply z77 rowP H); (case hgd | ho | hx | hy => exact rfl); (case hi => repeat first|exact z5|apply z8); (case hj => omega); clear H; intro ws H _ _; simp only [qb] at H; go_simp))
   clear dI d15 f1 HP
   obtain ⟨s0, hs0⟩ : ∃ s0, updN (allQ f i) d (allQ f i d + x * x) = s0 := ⟨_, rfl⟩
   rw [hs0] at H
   have HS : Hid (∀ k, k ≤ i → ∀ j, rowQ f s0 i k j ≤ 16 * 5192296858534828060876060556787721) := za (fun k hk j => by
    have h1 := HB.out i hi
    have h := (y3x HF.out i hlt (s := s0) (i * (2 * 5192296858534828060876060556787721)) (fun j hj => by
     rw [← hs0]
     unfold updN
     rw [if_neg (by have := HD.out; omega)]
     exact h1.1 j) k hk j).1
    have hp := z6y (HF.out i hlt) (HF.out i hlt)
    have hm : i * (2 * 5192296858534828060876060556787721) ≤ 7 * (2 * 5192296858534828060876060556787721) := Nat.mul_le_mul_right _ (by omega)
    by_cases hj : j < 2 * i
    ·rw [if_pos hj] at h
     omega
    ·rw [if_neg hj] at h
     refine Nat.le_trans h ?_
     rw [← hs0]
     unfold updN
     have hz1 := h1.2 d (by have := HD.out; omega)
     rw [HX.out] at hp
     by_cases e : j = d
     ·rw [if_pos e, hz1]
      omega
     ·rw [if_neg e, h1.2 j (by omega)]
      omega)
   have HA : Hid (allQ f (i + 1) = rowQ f s0 i i) := za (by rw [← hs0, ← HD.out, ← HX.out]; rfl)
   have z0 : (rowQ f s0 i 0) = s0 := rfl
   rw [← z0] at H
   clear hs0 z0 HD
   have x2 : IntKind.u64.wrap (2 * (x : Int)) = ((2 * x : Nat) : Int) := by have := BX.out; rw [IntKind.wrap_u64]; omega
   obtain ⟨x2', hx2'⟩ : ∃ x2', 2 * x = x2' := ⟨_, rfl⟩
   rw [hx2'] at x2
   have HX2 := za hx2'
   clear hx2'
   go_loopw [24] (fun v24 wr => ∃ k : Nat, k ≤ i ∧ v24 = .int .i64 k ∧ Ow w wr [(g3, zv 162 .u64 30 (pr (rowQ f s0 i k))), (g2, zv 30 .u64 8 fun _ => 0), (g1, zv 30 .u64 8 (NZ f))]) (fun v24 _ => i - (intOf v24).toNat)
   case atStart => exact ⟨0, by omega, rfl, H.out⟩
   case round =>
    clear H
    obtain ⟨k, hk, rfl, HR⟩ := hrel
    by_cases hlk : k < i
    ·have hkd : decide ((k : Int) < (i : Int)) = true := by simp; omega
     have ki : (k : Int) < (i : Int) := by omega
     have k8 : (k : Int) < 8 := by omega
     obtain ⟨y, hy⟩ : ∃ y, f k = y := ⟨_, rfl⟩
     have ny : NZ f k = (y : Int) := by rw [← hy]; rfl
     obtain ⟨p, hp⟩ : ∃ p, i + k = p := ⟨_, rfl⟩
     have pI : (i : Int) + (k : Int) = (p : Int) := by omega
     have p15 : (p : Int) < 15 := by omega
     have f1 : IntKind.i64.wrap (p : Int) = (p : Int) := IntWalk.i64_in _ (by omega)
     have bv := HS.out k hk p
     have by' := HF.out k (by omega)
     have bx' := HF.out i hlt
     have bp := z6y bx' by'
     have HE : Hid (updN (rowQ f s0 i k) p (rowQ f s0 i k p + x2' * y) = rowQ f s0 i (k + 1)) := za (by rw [← hp, ← hy, ← HX2.out, ← HX.out]; rfl)
     rw [HX.out] at bp bx'
     rw [hy] at by' bp
     have hx2 := HX2.out
     have e2 : x2' * y = 2 * (x * y) := by rw [← hx2, Nat.mul_assoc]
     have HP := za (fun w => z88 (rowQ f s0 i k p) x2' y w (by omega) (by omega) (by rw [e2]; omega))
     have H := za HR
     clear HR hy hp bv bx' by' bp hx2 e2
     go_wp2_with fail
     refine wp_region_noPanic ?_
     refine wp_region_held_drew (S := fun W => ∃ f3, Ow w W [(g3, zv 162 .u64 30 f3), (g2, zv 30 .u64 8 fun _ => 0), (g1, zv 30 .u64 8 (NZ f))]) (by kernel_rfl) ⟨_, H.out.drew⟩ (fun hH => ?_)
     replace H := za H.out.drew
     generalize World.drew _ = w8 at *
     refine zh 0 27 (.int .i64 i) hH ?_
     refine zh 1 28 (.int .i64 k) hH ?_
     refine zh 2 29 (.int .i64 p) hH ?_
     refine zh 3 30 (.int .i64 i) hH ?_
     refine zh 4 31 (.int .i64 k) hH ?_
     refine zh 5 32 (.int .i64 p) hH ?_
     refine zh 6 33 (.pointer (some ⟨g3, p * 2, none⟩)) hH ?_
     refine zh 8 35 (.int .u64 x) hH ?_
     refine zh 9 36 (.int .u64 x2') hH ?_
     refine zh 10 37 (.int .i64 k) hH ?_
     refine zh 11 38 (.pointer (some ⟨g1, 0, none⟩)) hH ?_
     refine zh 12 39 (.pointer (some ⟨g1, k, none⟩)) hH ?_
     refine held_get 13 40 oneW rfl rfl rfl hH rfl rfl (fun w hw => by obtain ⟨f3, h⟩ := hw; exact h.row 2 rfl) (by omega) ?_
     try simp only [Act.put, qa, qb, qc]
     rw [ny]
     refine zn 7 rfl fun K hK => ?_
     refine z5v 0 34 rfl rowP H.out rfl rfl rfl (by omega) ?_
     refine hK.out _ _ hH (fun hN => ?_)
     refine zn 14 rfl fun K hK => ?_
     go_simp
     refine (HP.out _).mono ?_
     rintro e wc ⟨rfl, hb⟩
     replace H := zd H hb
     refine hK.out _ _ (by obtain ⟨f3, h⟩ := hH; exact ⟨f3, h.call hb⟩) (fun hN => ?_)
     have hH := hN
     clear hN
     refine zh 15 42 (.pointer (some ⟨g3, p * 2, none⟩)) hH ?_
     refine zn 16 rfl fun K hK => ?_
     refine z45 0 rowP H.out rfl rfl rfl rfl (by omega) ?_
     intro ws HS'
     simp only [qb] at HS'
     replace H := za HS'
     refine hK.out _ _ ⟨_, HS'⟩ (fun hN => ?_)
     try simp only [Act.put, qa]
     refine zm ?_
     rw [HE.out] at H
     go_wp2_with fail
     go_roundw
     case rel => exact ⟨k + 1, by omega, by go_num, H.out⟩
     case measure => simp [intOf]; omega
    ·obtain rfl : k = i := by omega
     clear hlk hk
     rw [← HA.out] at HR
     have H := za HR
     have hkd : decide ((k : Int) < (k : Int)) = false := by simp
     clear HR
     go_wp2_with fail
     go_roundw
     case rel => exact ⟨k + 1, by omega, by go_num, H.out⟩
     case measure => simp [intOf]; omega
  ·obtain rfl : i = 8 := by omega
   clear hlt hi
   rw [show ((8 : Nat) : Int) = 8 from rfl]
   have H := za HR
   clear HR
   go_wp2_with (first
    | ((with_reducible apply zr rowS H); (case hgd | ho | hx => exact rfl); (case hi => repeat first|exact z5|apply z8); intro _ _; go_simp)
    | ((with_reducible refine (HO.out _).mono ?_); rintro e wc ⟨c, q, rfl, hq, hc, hb⟩; replace H := zd H hb; clear hb; have HQ := za hq; have HN := za (fun w => z8c c w hc); clear hq hc)
    | ((with_reducible refine (HN.out _).mono ?_); rintro e wc ⟨h, rfl, hl, hw, hb⟩; replace H := zd H hb; clear hb; have HL := za (And.intro hl hw); clear hl hw)
    | ((with_reducible apply zj zt H); (case hgd | ho | hx | hy => exact rfl); (case hi => repeat first|exact z5|apply z8); clear H; intro ws H _ _; simp only [qb, qc] at H; go_simp))
   refine bodyPost_ret (zy 1 zt rfl _ H rfl rfl) rfl ⟨h, rfl, HL.out.1, ?_, H.out.bel⟩
   rw [HL.out.2, ← HV.out, HQ.out, Nat.add_mul_mod_self_right]
end Go.Proofs.YtgjbonikbmgfmaaGreatDoor
