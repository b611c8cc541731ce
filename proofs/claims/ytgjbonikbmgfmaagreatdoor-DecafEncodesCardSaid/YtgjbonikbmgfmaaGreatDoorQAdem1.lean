/- Lemmas; no statement is proved here. -/
import Derived.Test.YtgjbonikbmgfmaaGreatDoorBuL
set_option maxRecDepth 8000
set_option maxHeartbeats 3200000
namespace Go.Proofs.YtgjbonikbmgfmaaGreatDoor
open Go.RowKit

def shf (x : Nat) (s : Int) : Nat := if s < 0 then x / 2 ^ (-s).toNat else x * 2 ^ s.toNat




























































def car8 (x y i : Nat) : Nat := (x % 2 ^ (8 * i) + y % 2 ^ (8 * i)) / 2 ^ (8 * i)
theorem car8_zero (x y : Nat) : car8 x y 0 = 0 := by simp [car8, Nat.mod_one]
theorem car8_le (x y i : Nat) : car8 x y i ≤ 1 := by
  unfold car8
  have h1 := Nat.mod_lt x (Nat.two_pow_pos (8 * i))
  have h2 := Nat.mod_lt y (Nat.two_pow_pos (8 * i))
  apply Nat.le_of_lt_succ
  rw [Nat.div_lt_iff_lt_mul (Nat.two_pow_pos _)]
  omega
theorem add8_step (x y i : Nat) : dg (x + y) i = (car8 x y i + dg x i + dg y i) % 256 ∧ car8 x y (i + 1) = (car8 x y i + dg x i + dg y i) / 256 := by
  have h := z9m x y (2 ^ (8 * i)) 256 (Nat.two_pow_pos _) (by omega)
  unfold dg
  refine ⟨?_, ?_⟩
  · rw [h.1]
    show (_ + _ + car8 x y i) % 256 = _
    congr 1
    omega
  · unfold car8
    rw [pow8, h.2]
    show (_ + _ + car8 x y i) / 256 = _
    congr 1
    unfold car8
    omega
theorem y3m {x y n i : Nat} (hx : x < 2 ^ (8 * n)) (hy : y < 2 ^ (8 * n)) (hi : n ≤ i) : car8 x y i = 0 ↔ x + y < 2 ^ (8 * i) := by
  unfold car8
  rw [Nat.mod_eq_of_lt (z2e hx hi), Nat.mod_eq_of_lt (z2e hy hi), Nat.div_eq_zero_iff]
  have := Nat.two_pow_pos (8 * i)
  omega
theorem add8_last {x y n : Nat} (hx : x < 2 ^ (8 * n)) (hy : y < 2 ^ (8 * n)) : car8 x y (n + 1) = 0 :=
  (y3m hx hy (by omega)).2 (by rw [pow8]; omega)

















































































































































































































































theorem shf_bit (x t : Nat) (s : Int) : bitI x ((t : Int) - s) = ((shf x s / 2 ^ t % 2 : Nat) : Int) := by
  unfold bitI shf
  by_cases hs : s < 0
  · rw [if_pos hs, if_neg (by omega), Nat.div_div_eq_div_mul, ← Nat.pow_add]
    rw [show ((t : Int) - s).toNat = (-s).toNat + t by omega]
  · rw [if_neg hs]
    obtain ⟨u, hu⟩ : ∃ u, s.toNat = u := ⟨_, rfl⟩
    rw [hu]
    by_cases ht : t < u
    · rw [if_pos (by omega)]
      obtain ⟨d, hd⟩ : ∃ d, u = t + (d + 1) := ⟨u - t - 1, by omega⟩
      rw [hd, Nat.pow_add, Nat.mul_left_comm, Nat.mul_div_cancel_left _ (Nat.two_pow_pos _), Nat.pow_succ, ← Nat.mul_assoc, Nat.mul_mod_left]
      rfl
    · rw [if_neg (by omega)]
      obtain ⟨d, hd⟩ : ∃ d, t = u + d := ⟨t - u, by omega⟩
      rw [show ((t : Int) - s).toNat = d by omega, hd, Nat.pow_add, ← Nat.div_div_eq_div_mul, Nat.mul_div_cancel _ (Nat.two_pow_pos _)]
theorem shf_fits {x j : Nat} {s : Int} (h : ((bl x : Nat) : Int) + s ≤ 8 * (j : Int)) : shf x s < 2 ^ (8 * j) := by
  have hb := y0f x
  unfold shf
  by_cases hs : s < 0
  · rw [if_pos hs, Nat.div_lt_iff_lt_mul (Nat.two_pow_pos _), ← Nat.pow_add]
    exact Nat.lt_of_lt_of_le hb (Nat.pow_le_pow_right (by omega) (by omega))
  · rw [if_neg hs]
    refine Nat.lt_of_lt_of_le (Nat.mul_lt_mul_of_pos_right hb (Nat.two_pow_pos _)) ?_
    rw [← Nat.pow_add]
    exact Nat.pow_le_pow_right (by omega) (by omega)
def win (z s m : Nat) : Nat := z / 2 ^ s % 2 ^ m
theorem win_zero (z s : Nat) : win z s 0 = 0 := by unfold win; rw [Nat.pow_zero, Nat.mod_one]
theorem win_lt (z s m : Nat) : win z s m < 2 ^ m := Nat.mod_lt _ (Nat.two_pow_pos _)
theorem win_step (z s m : Nat) : win z s (m + 1) = 2 * win z (s + 1) m + z / 2 ^ s % 2 := by
  unfold win
  rw [Nat.pow_succ 2 s, ← Nat.div_div_eq_div_mul, Nat.pow_succ', Nat.mod_mul]
  omega
theorem win_all (z j : Nat) : win z (8 * j) 8 = dg z j := rfl



theorem eqZ_iff (n : Nat) (f g : Nat → Int) : eqZ n f g = true ↔ ∀ i, i < n → f i = g i := by
  unfold eqZ
  rw [List.all_eq_true]
  constructor
  · intro h i hi
    exact eq_of_beq (h i (List.mem_range'_1.2 ⟨Nat.zero_le _, by omega⟩))
  · intro h i hi
    rw [h i (by have := (List.mem_range'_1.1 hi).2; omega)]
    exact beq_self_eq_true _
section
variable {P : Program} {t e : TypeId} {n : Nat} {k : IntKind}

































end

theorem eqZ_dF {x y : Nat} (hx : x < pN) (hy : y < pN) : eqZ 16 (dF x) (dF y) = decide (x = y) := by
  rw [Bool.eq_iff_iff, eqZ_iff, decide_eq_true_eq]
  constructor
  · intro h
    have h1 := z9j 16 h
    rw [z9l hx, z9l hy] at h1
    omega
  · rintro rfl i _
    rfl
attribute [local go_sem] eqF
theorem same_v (x y : Nat) (w : World) (hx : x < pN) (hy : y < pN) :
    Calls Tryz.prog 90 #[FV x, FV y] w fun e w' => e = .returned (.bool (decide (x = y))) ∧ Below w.heap.size w w' := by
  have HE := za (eqZ_dF hx hy)
  clear hx hy
  have H := za (Ow.start w)
  go_enter Tryz.func90, Tryz.ntmps90
  go_wp2_with (first
    | ((fail_if_success have := g1); (with_reducible apply zw H); (case hgd => exact rfl); (case ho => exact rfl); (case hx => exact rfl); clear H; intro w1 g1 H _ _; go_simp)
    | ((fail_if_success have := g2); (with_reducible apply zw H); (case hgd => exact rfl); (case ho => exact rfl); (case hx => exact rfl); clear H; intro w2 g2 H _ _; go_simp)
    | ((with_reducible apply zr z4 H); (case hgd => exact rfl); (case ho => exact rfl); (case hx => exact rfl); (case hi => repeat first|exact z5|apply z8); intro _ _; go_simp))
  go_ret
  refine ⟨?_, H.out.bel⟩
  rw [← HE.out]
  rfl




section
variable {ops : Array Oper} {rest : List Oper} {o : Oper} {a : Act} {w : World} {Q : Exit → Act → World → Prop}






end


section
variable {p : Nat}











end
section
variable {p : Nat} [NeZero p]
























theorem fp_zero_pow {n : Nat} (hn : n ≠ 0) : (0 : Fin p) ^ n = 0 := by
  obtain ⟨k, rfl⟩ : ∃ k, n = k + 1 := ⟨n - 1, by omega⟩
  rw [z09]
  grind




































































































theorem inv_prod (a b : Fin p) : inv (a * b) = inv a * inv b := z3e a b _
end
section
variable {p c : Nat} [NeZero p]
theorem up_sq (x : Fin p) : x ^ (c + 1) * x ^ (c + 1) = x * x ^ (2 * c + 1) := by
  rw [show 2 * c + 1 = c + c + 1 by omega, z09, z09, z14]
  generalize x ^ c = y
  grind












theorem rat_zero_right (h : c ≠ 0) (u : Fin p) : zL c u 0 = 0 := by
  unfold zL
  rw [show u * 0 = (0 : Fin p) by grind, fp_zero_pow h]
  grind




















theorem rat_ref (hp : prime p) (hc : p = 4 * c + 3) {u v : Fin p} (hu : u ≠ 0) (hv : v ≠ 0) :
    (v * (zL c u v * zL c u v) = u → (u * inv v) ^ (c + 1) * (u * inv v) ^ (c + 1) = u * inv v ∧ ab ((u * inv v) ^ (c + 1)) = ab (zL c u v)) ∧
    (v * (zL c u v * zL c u v) ≠ u → (u * inv v) ^ (c + 1) * (u * inv v) ^ (c + 1) ≠ u * inv v ∧ (-(u * inv v)) ^ (c + 1) * (-(u * inv v)) ^ (c + 1) = -(u * inv v) ∧ ab ((-(u * inv v)) ^ (c + 1)) = ab (zL c u v)) := by
  have hi := z3n hp hv
  have ho : p % 2 = 1 := by omega
  have hq : u * inv v ≠ 0 := fun e => by
    rcases z02 hp e with h | h
    · exact hu h
    · exact y80 hp hv h
  obtain ⟨q, e⟩ : ∃ q, u * inv v = q := ⟨_, rfl⟩
  rw [e] at hq ⊢
  obtain ⟨r, hr⟩ : ∃ r, zL c u v = r := ⟨_, rfl⟩
  have hor := y74 hp hc hu hv
  rw [hr] at hor ⊢
  have hv1 : v * q = u := by grind
  constructor
  · intro h
    have hrq : r * r = q := by
      refine z0u hp hv ?_
      rw [h, hv1]
    have hE : q ^ (2 * c + 1) = 1 := by
      have hr0 : r ≠ 0 := fun e0 => hq (by rw [← hrq, e0]; grind)
      rw [← hrq, z3e, ← z14, show 2 * c + 1 + (2 * c + 1) = p - 1 by omega, z4e hp hr0]
    have h2 : q ^ (c + 1) * q ^ (c + 1) = q := by rw [up_sq, hE]; grind
    exact ⟨h2, z5i hp ho (by rw [h2, hrq])⟩
  · intro h
    have hneg : v * (r * r) = -u := hor.resolve_left h
    have hrq : r * r = -q := by
      refine z0u hp hv ?_
      rw [hneg]
      grind
    have hE : (-q) ^ (2 * c + 1) = 1 := by
      have hr0 : r ≠ 0 := fun e0 => hq (by have : -q = 0 := by rw [← hrq, e0]; grind
                                           grind)
      rw [← hrq, z3e, ← z14, show 2 * c + 1 + (2 * c + 1) = p - 1 by omega, z4e hp hr0]
    have h2 : (-q) ^ (c + 1) * (-q) ^ (c + 1) = -q := by rw [up_sq, hE]; grind
    refine ⟨fun h3 => ?_, h2, z5i hp ho (by rw [h2, hrq])⟩
    have := z4d hp hc (a := r) (b := q ^ (c + 1)) (by rw [hrq, h3])
    exact hq (by rw [← h3, this.2]; grind)
end
























section
variable {f g : Nat → Nat} {a b : K}





























end
section
variable (a b : K) (w : World)




theorem y2l : Calls Tryz.prog 90 #[FV a.val, FV b.val] w fun e w' => e = .returned (.bool (decide (a = b))) ∧ Below w.heap.size w w' :=
  (same_v _ _ w a.isLt b.isLt).mono fun _ _ ⟨he, hb⟩ => ⟨by rw [he, decide_eq_decide.2 (Fin.ext_iff (a := a) (b := b)).symm], hb⟩


theorem y4g : eqZ 16 (dF a.val) (dF b.val) = decide (a = b) := by rw [eqZ_dF a.isLt b.isLt, decide_eq_decide.2 (Fin.ext_iff (a := a) (b := b)).symm]


end






section
variable {f g : Nat → Nat} {a b : K}





















end
theorem y30 (x : K) : (x * x) ^ (eC + 1) * (x * x) ^ (eC + 1) = x * x ∧ ab ((x * x) ^ (eC + 1)) = ab x := by
  have h : (x * x) ^ (eC + 1) * (x * x) ^ (eC + 1) = x * x := by
    rw [up_sq]
    by_cases h0 : x = 0
    · rw [h0]
      grind
    · rw [z3e, ← z14, show 2 * eC + 1 + (2 * eC + 1) = pN - 1 by have := pN_c; omega, z4e z0q h0]
      grind
  exact ⟨h, z5i z0q y5g h⟩



































































































































































































































































theorem z2a (a : Option Addr) (n c x : Nat) (a' : Option Addr) (m c' y : Nat) (w : World) (hn : n ≤ 10000) (hm : m ≤ 10000) (h : Sb w w.heap.size a n c x) (h' : Sb w w.heap.size a' m c' y) :
    Calls Tryz.prog 169 #[.slice a n c, .slice a' m c'] w fun e w' => ∃ v, e = .returned v ∧ GotB w w' v (x + y) := by
  obtain ⟨k, hk⟩ : ∃ k, k = max n m := ⟨_, rfl⟩
  have hx : x < 2 ^ (8 * k) := z2e h.fits (by omega)
  have hy : y < 2 ^ (8 * k) := z2e h'.fits (by omega)
  have hk6 : k ≤ 10000 := by omega
  have hmx : max (n : Int) (m : Int) = (k : Int) := by omega
  have H := za h
  have H' := za h'
  have HX := za hx
  have HY := za hy
  clear h h' hk hx hy
  go_enter Tryz.func169, Tryz.ntmps169
  go_wp2_with fail
  go_loopw [5, 6, 7] (fun v5 v6 v7 wr => ∃ i : Nat, i ≤ k + 1 ∧ v7 = .int .i64 i ∧ v6 = .int .i64 ((car8 x y i : Nat) : Int) ∧ OwnB wr w.heap.size v5 i (bt (x + y)) ∧ Below w.heap.size w wr) (fun _ _ v7 _ => k + 1 - (intOf v7).toNat)
  case atStart => exact ⟨0, by omega, rfl, by rw [car8_zero]; rfl, OwnB.nil _ _ _, Below.refl _ _⟩
  case round =>
    obtain ⟨i, hi, rfl, rfl, HO, HB⟩ := hrel
    have S := za (add8_step x y i)
    have ho := car8_le x y i
    have D : Hid (k ≤ i → (car8 x y i = 0 ↔ x + y < 2 ^ (8 * i))) := za fun h => y3m HX.out HY.out h
    have Z : Hid (i = k + 1 → car8 x y i = 0) := za fun h => by rw [h]; exact add8_last HX.out HY.out
    have go : (i < k ∨ 0 < car8 x y i) ∨ (k ≤ i ∧ car8 x y i = 0) := by omega
    have hxl := z80 x i
    have hyl := z80 y i
    have HA : Hid (∀ w', Sb w' w.heap.size a n c x → Calls Tryz.prog 124 #[.slice a n c, .int .i64 i] w' fun e w'' => e = .returned (.int .i64 ((dg x i : Nat) : Int)) ∧ w'' = w') := za fun w' hw => z8y a n c x i w' (by omega) (by omega) hw
    have HA' : Hid (∀ w', Sb w' w.heap.size a' m c' y → Calls Tryz.prog 124 #[.slice a' m c', .int .i64 i] w' fun e w'' => e = .returned (.int .i64 ((dg y i : Nat) : Int)) ∧ w'' = w') := za fun w' hw => z8y a' m c' y i w' (by omega) (by omega) hw
    have G := za (H.out.below HB)
    have G' := za (H'.out.below HB)
    have H1 := za HO
    have H2 := za HB
    clear HO HB
    generalize hp : dg x i = p at *
    generalize hq : dg y i = q at *
    generalize hc0 : car8 x y i = o at *
    have hz : w.heap.size ≤ wr.heap.size := H2.out.size
    have EB := za (y2d (x + y) i)
    clear hp hq
    have hc1 := za hc0
    clear hc0
    rcases go with go | ⟨hk1, ho0⟩
    · have hik : i ≤ k := by
        rcases go with h | h
        · omega
        · rcases Nat.lt_or_ge k i with h2 | h2
          · have := Z.out (by omega); omega
          · exact h2
      obtain ⟨s, hs⟩ : ∃ s, s = o + p + q := ⟨_, rfl⟩
      obtain ⟨r, hr⟩ : ∃ r, s % 256 = r := ⟨_, rfl⟩
      obtain ⟨u, hu⟩ : ∃ u, s / 256 = u := ⟨_, rfl⟩
      have es : (o : Int) + (p : Int) + (q : Int) = (s : Int) := by omega
      have e1 : (s : Int).tmod 256 = (r : Int) := by rw [Int.tmod_eq_emod_of_nonneg (by omega)]; omega
      have e2 : (s : Int) % 256 = (r : Int) := by omega
      have e3 : (s : Int) / 256 = (u : Int) := by omega
      have r6 : (r : Int) < 256 := by omega
      have hb : Hid (U8 (bt (x + y) i) = (r : Int)) := za (by rw [EB.out, S.out.1, ← hr, hs])
      have hu2 : Hid (car8 x y (i + 1) = u) := za (by rw [S.out.2, ← hu, hs])
      have hb2 : IntKind.u8.wrap (r : Int) = (r : Int) := by rw [IntKind.wrap_u8]; omega
      clear hr hu hs
      rcases Nat.lt_or_ge i k with hik2 | hik2
      · have d1 : decide ((i : Int) < (k : Int)) = true := by simp; omega
        clear go
        go_wp2_with (first
          | ((with_reducible refine (HA.out _ G.out).mono ?_); rintro e w' ⟨rfl, rfl⟩)
          | ((with_reducible refine (HA'.out _ G'.out).mono ?_); rintro e w' ⟨rfl, rfl⟩)
          | ((with_reducible apply z0y); (case hgd => exact rfl); (case ho => exact rfl); (case hs => exact rfl); (case hx => exact rfl); (case hown => exact H1.out.alloc _); (case hc => exact z4k _ _ _ hb.out); (case hn => omega); (case hbase => simp; omega); intro v' w' ho' hb' _ _; go_simp))
        go_roundw
        case rel => exact ⟨i + 1, by omega, by go_num, by rw [hu2.out], ho', (H2.out.alloc hz _).trans hb'⟩
        case measure => simp [intOf]; omega
      · have d1 : decide ((i : Int) < (k : Int)) = false := by simp; omega
        have d2 : decide (0 < o) = true := by simp; omega
        clear go
        go_wp2_with (first
          | ((with_reducible refine (HA.out _ G.out).mono ?_); rintro e w' ⟨rfl, rfl⟩)
          | ((with_reducible refine (HA'.out _ G'.out).mono ?_); rintro e w' ⟨rfl, rfl⟩)
          | ((with_reducible apply z0y); (case hgd => exact rfl); (case ho => exact rfl); (case hs => exact rfl); (case hx => exact rfl); (case hown => exact H1.out.alloc _); (case hc => exact z4k _ _ _ hb.out); (case hn => omega); (case hbase => simp; omega); intro v' w' ho' hb' _ _; go_simp))
        go_roundw
        case rel => exact ⟨i + 1, by omega, by go_num, by rw [hu2.out], ho', (H2.out.alloc hz _).trans hb'⟩
        case measure => simp [intOf]; omega
    · have d1 : decide ((i : Int) < (k : Int)) = false := by simp; omega
      have hf := (D.out hk1).1 ho0
      subst ho0
      obtain ⟨b, cb, rfl, hs⟩ := H1.out.any
      have S1 : Hid (Sb wr wr.heap.size b i cb (x + y)) := za ⟨hs, hf⟩
      clear hs hf
      go_wp2_with ((with_reducible refine (z8j b i cb (x + y) _ (by omega) S1.out).mono ?_); rintro e w' ⟨rfl, rfl⟩)
      go_ret
      exact ⟨_, rfl, b, cb, rfl, S1.out.cut, H2.out⟩


theorem z1n (a : Option Addr) (n c x : Nat) (s : Int) (w : World) (hn : n ≤ 1000) (hs1 : -65536 ≤ s) (hs2 : s ≤ 65536) (h : Sb w w.heap.size a n c x) :
    Calls Tryz.prog 168 #[.slice a n c, .int .i64 s] w fun e w' => ∃ v, e = .returned v ∧ GotB w w' v (shf x s) := by
  have H := za h
  have hbl : bl x ≤ 8000 := Nat.le_trans ((y2a x _).2 h.fits) (by omega)
  have LX : Hid (∀ w', Sb w' w.heap.size a n c x → Calls Tryz.prog 99 #[.slice a n c] w' fun e w'' => e = .returned (.int .i64 ((bl x : Nat) : Int)) ∧ w'' = w') := za fun w' hw => z72 a n c x w' (by omega) hw
  have HF : Hid (∀ j : Nat, ((bl x : Nat) : Int) + s ≤ 8 * (j : Int) → shf x s < 2 ^ (8 * j)) := za fun j h => shf_fits h
  have HS : Hid (∀ t : Nat, bitI x ((t : Int) - s) = ((shf x s / 2 ^ t % 2 : Nat) : Int)) := za fun t => shf_bit x t s
  generalize bl x = l at *
  generalize shf x s = z at *
  obtain ⟨N, hN⟩ : ∃ N, (l : Int) + s = N := ⟨_, rfl⟩
  have N1 : -65536 ≤ N := by omega
  have N2 : N ≤ 73536 := by omega
  rw [hN] at HF
  clear h
  go_enter Tryz.func168, Tryz.ntmps168
  go_wp2_with ((with_reducible refine (LX.out _ H.out).mono ?_); rintro e w1 ⟨rfl, rfl⟩)
  clear hN
  go_loopw [5, 7] (fun v5 v7 wr => ∃ i j : Nat, i = 8 * j ∧ v7 = .int .i64 i ∧ (i : Int) < 73600 ∧ OwnB wr w1.heap.size v5 j (bt z) ∧ Below w1.heap.size w1 wr) (fun _ v7 _ => (N + 8 - intOf v7).toNat)
  case atStart => exact ⟨0, 0, rfl, rfl, by omega, OwnB.nil _ _ _, Below.refl _ _⟩
  case round =>
    obtain ⟨i, j, hij, rfl, hi, HO, HB⟩ := hrel
    have Hij := za hij
    have hj : j ≤ 10000 := by omega
    have HB1 := za HB
    have HO1 := za HO
    have hz : w1.heap.size ≤ wr.heap.size := HB.size
    clear HO HB hij
    by_cases hlt : (i : Int) < N
    · have d1 : decide ((i : Int) < N) = true := by simpa using hlt
      go_wp2_with fail
      go_loop [8, 9] (fun v8 v9 => ∃ K : Nat, K ≤ 8 ∧ v9 = .int .i64 ((K : Int) - 1) ∧ v8 = .int .i64 ((win z (i + K) (8 - K) : Nat) : Int)) (fun _ v9 => (intOf v9 + 1).toNat)
      case atStart => exact ⟨8, by omega, rfl, by rw [Nat.sub_self, win_zero]; rfl⟩
      case round =>
        obtain ⟨K, hK, rfl, rfl⟩ := hrel
        rcases Nat.eq_zero_or_pos K with h0 | h0
        · subst h0
          have em : (((0 : Nat) : Int) - 1) = -1 := rfl
          rw [em]
          have hw : win z (i + 0) (8 - 0) = dg z j := by rw [Nat.add_zero, Nat.sub_zero, Hij.out, win_all]
          rw [hw]
          have hdl := z80 z j
          have hb : Hid (U8 (bt z j) = ((dg z j : Nat) : Int)) := za (y2d z j)
          generalize dg z j = r at *
          have r6 : (r : Int) < 256 := by omega
          have hb2 : IntKind.u8.wrap (r : Int) = (r : Int) := by rw [IntKind.wrap_u8]; omega
          clear em hw
          go_wp2_with ((with_reducible apply z0y); (case hgd => exact rfl); (case ho => exact rfl); (case hs => exact rfl); (case hx => exact rfl); (case hown => exact HO1.out.alloc _); (case hc => exact z4k _ _ _ hb.out); (case hn => omega); (case hbase => simp; omega); intro v' w' ho' hb' _ _; go_simp)
          go_roundw
          case rel => exact ⟨i + 8, j + 1, by have := Hij.out; omega, by go_num, by omega, ho', (HB1.out.alloc hz _).trans hb'⟩
          case measure => simp [intOf]; omega
        · obtain ⟨k, rfl⟩ : ∃ k, K = k + 1 := ⟨K - 1, by omega⟩
          have e : (((k + 1 : Nat) : Int) - 1) = (k : Int) := by omega
          rw [e]
          have hw := win_step z (i + k) (8 - (k + 1))
          rw [show 8 - (k + 1) + 1 = 8 - k by omega] at hw
          rw [show i + (k + 1) = i + k + 1 by omega]
          have hwl : win z (i + k + 1) (8 - (k + 1)) < 256 := Nat.lt_of_lt_of_le (win_lt _ _ _) (Nat.pow_le_pow_right (by omega) (by omega : 8 - (k + 1) ≤ 8))
          have hbl1 : z / 2 ^ (i + k) % 2 < 2 := Nat.mod_lt _ (by omega)
          have hbit : bitI x ((i : Int) + (k : Int) - s) = ((z / 2 ^ (i + k) % 2 : Nat) : Int) := by
            have := HS.out (i + k)
            rwa [Int.natCast_add] at this
          have Hbit := za hbit
          have Hw := za hw
          have G := za (H.out.below HB1.out)
          clear hbit hw h0 e
          generalize z / 2 ^ (i + k) % 2 = b at *
          generalize win z (i + k + 1) (8 - (k + 1)) = u at *
          have hk8 : (k : Int) < 8 := by omega
          have u6 : (u : Int) < 256 := by omega
          have b6 : (b : Int) < 2 := by omega
          have i6 : (i : Int) < 73600 := hi
          go_wp2_with ((with_reducible refine (z3c a n c x ((i : Int) + (k : Int) - s) _ (by omega) (by omega) G.out).mono ?_); rintro e w5 ⟨rfl, rfl⟩; rw [Hbit.out])
          go_round
          case rel => exact ⟨k, by omega, by go_num, by rw [Hw.out]; go_num⟩
          case measure => (simp [intOf] <;> omega)
    · have d1 : decide ((i : Int) < N) = false := by simp; omega
      have hf : z < 2 ^ (8 * j) := HF.out j (by have := Hij.out; omega)
      obtain ⟨b, cb, rfl, hs⟩ := HO1.out.any
      have S1 : Hid (Sb wr wr.heap.size b j cb z) := za ⟨hs, hf⟩
      clear hs hf
      go_wp2_with ((with_reducible refine (z8j b j cb z _ (by omega) S1.out).mono ?_); rintro e w' ⟨rfl, rfl⟩)
      go_ret
      exact ⟨_, rfl, b, cb, rfl, S1.out.cut, HB1.out⟩





















































































































































































theorem z85 {a : K} (w : World) :
    Calls Tryz.prog 56 #[FV a.val] w fun e w' => e = .returned (FV (ab a).val) ∧ Below w.heap.size w w' := by
  have HN := za (fun w => z3q (a := a) w)
  by_cases hd : a.val % 2 = 1
  · rw [decide_eq_true hd] at HN
    have HA : Hid (ab a = -a) := za (by unfold ab; rw [if_pos hd])
    clear hd
    have H := za (Ow.start w)
    go_enter Tryz.func56, Tryz.ntmps56
    go_wp2_with (first
      | ((fail_if_success have := g1); (with_reducible apply zw H); (case hgd => exact rfl); (case ho => exact rfl); (case hx => exact rfl); clear H; intro w1 g1 H _ _; go_simp)
      | ((fail_if_success have := g2); (with_reducible apply ze zA.zero H); (case hgd => exact rfl); (case ho => exact rfl); clear H; intro w2 g2 H _ _; go_simp)
      | ((with_reducible apply zr z4 H); (case hgd => exact rfl); (case ho => exact rfl); (case hx => exact rfl); (case hi => repeat first|exact z5|apply z8); intro _ _; go_simp)
      | ((with_reducible refine (HN.out _).mono ?_); rintro e wc ⟨rfl, hb⟩; replace H := zd H hb; clear hb)
      | ((with_reducible refine (z7e _ _).mono ?_); rintro e wc ⟨rfl, hb⟩; replace H := zd H hb; clear hb)
      | ((with_reducible apply zj z4 H); (case hgd => exact rfl); (case ho => exact rfl); (case hx => exact rfl); (case hy => exact rfl); (case hi => repeat first|exact z5|apply z8); clear H; intro ws H _ _; simp only [qb] at H; go_simp))
    exact bodyPost_ret (zy 0 z4 rfl _ H rfl rfl) rfl ⟨by rw [HA.out], H.out.bel⟩
  · rw [decide_eq_false hd] at HN
    have HA : Hid (ab a = a) := za (by unfold ab; rw [if_neg hd])
    clear hd
    have H := za (Ow.start w)
    go_enter Tryz.func56, Tryz.ntmps56
    go_wp2_with (first
      | ((fail_if_success have := g1); (with_reducible apply zw H); (case hgd => exact rfl); (case ho => exact rfl); (case hx => exact rfl); clear H; intro w1 g1 H _ _; go_simp)
      | ((fail_if_success have := g2); (with_reducible apply ze zA.zero H); (case hgd => exact rfl); (case ho => exact rfl); clear H; intro w2 g2 H _ _; go_simp)
      | ((with_reducible apply zr z4 H); (case hgd => exact rfl); (case ho => exact rfl); (case hx => exact rfl); (case hi => repeat first|exact z5|apply z8); intro _ _; go_simp)
      | ((with_reducible refine (HN.out _).mono ?_); rintro e wc ⟨rfl, hb⟩; replace H := zd H hb; clear hb)
      | ((with_reducible apply zj z4 H); (case hgd => exact rfl); (case ho => exact rfl); (case hx => exact rfl); (case hy => exact rfl); (case hi => repeat first|exact z5|apply z8); clear H; intro ws H _ _; simp only [qb] at H; go_simp))
    exact bodyPost_ret (zy 0 z4 rfl _ H rfl rfl) rfl ⟨by rw [HA.out], H.out.bel⟩
end Go.Proofs.YtgjbonikbmgfmaaGreatDoor
