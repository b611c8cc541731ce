/- Lemmas; no statement is proved here. -/
import Derived.Test.YtgjbonikbmgfmaaGreatDoorBuP
import Derived.Test.YtgjbonikbmgfmaaGreatDoorBuR
set_option maxRecDepth 8000
set_option maxHeartbeats 3200000
namespace Go.Proofs.YtgjbonikbmgfmaaGreatDoor
def lN : Nat := 181709681073901722637330951972001133588410340171829515070372549795146003961539585716195755291692375963310293709091662304773755859649779
def rN : Nat := 0x8335dc163bb124b65129c96fde933d8d723a70aadc873d6d54a7bb0d
def qN : Nat := 181709681073901722637330951972001133588410340171829515070372549795159822028349480831547762678440891390190630401566544483383650407153664
def tN : Nat := 726838724295606890549323807888004534353641360687318060281490199180639288113397923326191050713763565560762521606266177933534601628614656
theorem qN_eq : qN = lN + rN := by decide +kernel
theorem y75 : ∀ e, e = 446 → 2 ^ e = qN := by
 intro e he
 have h : (2 ^ e == qN) = true := by rw [he]; decide +kernel
 exact eq_of_beq h
instance nz_lN : NeZero lN := ⟨by decide +kernel⟩
def fold (x : Nat) : Nat := x % qN + x / qN * rN
theorem leb {a b : Nat} (h : Nat.ble a b = true) : a ≤ b := Nat.le_of_ble_eq_true h
def hf (x : Nat) : Nat := (x + (if x % 2 = 1 then lN else 0)) / 2
open Go.RowKit
def chL : List Nat := [56, 51, 51, 53, 100, 99, 49, 54, 51, 98, 98, 49, 50, 52, 98, 54, 53, 49, 50, 57, 99, 57, 54, 102, 100, 101, 57, 51, 51, 100, 56, 100, 55, 50, 51, 97, 55, 48, 97, 97, 100, 99, 56, 55, 51, 100, 54, 100, 53, 52, 97, 55, 98, 98, 48, 100]
def ch (i : Nat) : Nat := chL.getD i 0
def txL : ByteArray := ⟨#[56, 51, 51, 53, 100, 99, 49, 54, 51, 98, 98, 49, 50, 52, 98, 54, 53, 49, 50, 57, 99, 57, 54, 102, 100, 101, 57, 51, 51, 100, 56, 100, 55, 50, 51, 97, 55, 48, 97, 97, 100, 99, 56, 55, 51, 100, 54, 100, 53, 52, 97, 55, 98, 98, 48, 100]⟩
def hxd (n : Nat) : Nat := if 97 ≤ n then n - 87 else n - 48
theorem txL_at : ∀ i, i < 56 → txL[i]? = some (UInt8.ofNat (ch i)) := by decide +kernel
theorem ch_ok : ∀ i, i < 56 → (48 ≤ ch i ∧ ch i < 58) ∨ (97 ≤ ch i ∧ ch i < 103) := by decide +kernel
theorem ch_pair : ∀ k, k < 28 → 16 * hxd (ch (54 - 2 * k)) + hxd (ch (55 - 2 * k)) = dg rN k := by decide +kernel
theorem y9c (n : Nat) (w : World) (h : (48 ≤ n ∧ n < 58) ∨ (97 ≤ n ∧ n < 103)) :
  Calls Tryz.prog 148 #[.int .u8 (n : Int)] w fun e w' => e = .returned (.int .i64 ((hxd n : Nat) : Int)) ∧ w' = w := by
 rcases h with ⟨h1, h2⟩ | ⟨h1, h2⟩
 ·have d1 : decide ((97 : Int) ≤ (n : Int)) = false := by simp; omega
  have HE : Hid (((hxd n : Nat) : Int) = (n : Int) - 48) := za (by unfold hxd; rw [if_neg (by omega)]; omega)
  have f1 : IntKind.u8.wrap ((n : Int) - 48) = (n : Int) - 48 := by rw [IntKind.wrap_u8]; omega
  go_enter Tryz.func148, Tryz.ntmps148
  go_wp2
  go_ret
  exact ⟨by rw [HE.out]; rfl, rfl⟩
 ·have d1 : decide ((97 : Int) ≤ (n : Int)) = true := by simp; omega
  have HE : Hid (((hxd n : Nat) : Int) = (n : Int) - 97 + 10) := za (by unfold hxd; rw [if_pos h1]; omega)
  have f1 : IntKind.u8.wrap ((n : Int) - 97) = (n : Int) - 97 := by rw [IntKind.wrap_u8]; omega
  go_enter Tryz.func148, Tryz.ntmps148
  go_wp2
  go_ret
  exact ⟨by rw [HE.out]; rfl, rfl⟩
theorem z50 {e : Operand → Value} {o : Oper} {x y : Operand} {S : ByteArray} {k : IntKind} {i n : Nat} (ho : o.op = .index 9 x y) (hx : e x = .string S) (hy : e y = .int k (i : Int)) (hs : S[i]? = some (UInt8.ofNat n)) (hn : n < 256) (w : World) :
  (execOp e o).run Tryz.prog w = .ok (.value (.int .u8 (n : Int))) w := by
 have h2 : (UInt8.ofNat n).toNat = n := by rw [UInt8.toNat_ofNat']; exact Nat.mod_eq_of_lt hn
 have h1 : (Instr.index 9 (.string S) (.int k (i : Int))).run Tryz.prog w = .ok (.int .u8 (n : Int)) w := by
  unfold Instr.index
  simp only [asIntOf, Sem.run_bind, Sem.run_pure, Result.andThen_ok, run_underlying Tryz.underlying9 w]
  rw [if_pos (by omega), Int.toNat_natCast, hs]
  show (Sem.run Tryz.prog (pure (Value.int .u8 (((UInt8.ofNat n).toNat : Nat) : Int))) w) = _
  rw [h2]
  rfl
 unfold execOp
 simp only [ho, hx, hy, Sem.run_bind, h1, Result.andThen_ok]
 rfl
section
variable {o : Oper} {a : Act} {w : World} {K : Act → World → Prop} {Q : Exit → Act → World → Prop}
theorem y0k (dd : Tmp) (hd : o.dst = some dd) {v : BitVec 8} {x : Operand} (ho : o.op = .buildSlice 22 1 #[(0, x)]) (hx : a.eval x = U v)
  (h : ∀ w' g, w'.cell? ⟨g, 0, none⟩ = some (U v) → (∃ ob, w' = w.alloc ob) → K (a.put (some dd) (.slice (some ⟨g, 0, none⟩) 1 1)) w') : o.wp Tryz.prog a w K Q := by
 obtain ⟨i, hi, hz, hs, _⟩ := z66
 refine Go.wp_buildSlice 22 5 1 _ ho #[U v] i _ Tryz.underlying22 hi hz (by rw [hs]; decide) (by rw [hs]; decide) (by rw [hs]; simp [Instr.fill, hx, Array.range, Value.cells]; exact Array.ext (by simp) (fun j h1 h2 => by obtain rfl : j = 0 := (by simpa using h2); simp)) ?_
 rw [hd]
 exact h _ _ (by simp) ⟨_, rfl⟩
theorem y0l (dd : Tmp) (hd : o.dst = some dd) {s x : Operand} (ho : o.op = .call { callee := .builtin .append, args := #[s, x], argTypes := #[22, 22] }) {v : Value} (hs : a.eval s = v)
  {gx cx : Nat} (hx : a.eval x = .slice (some ⟨gx, 0, none⟩) 1 cx) {base n : Nat} {f : Nat → BitVec 8} (hc : w.cell? ⟨gx, 0, none⟩ = some (U (f n))) (hown : OwnB w base v n f) (hn : n ≤ 100000) (hbase : base ≤ w.heap.size)
  (h : ∀ v' w', OwnB w' base v' (n + 1) f → Below base w w' → K (a.put (some dd) v') w') : o.wp Tryz.prog a w K Q := by
 obtain ⟨i, hi, hz, hsz, hby⟩ := z66
 rw [← hd] at h
 refine wp_append_own w s x _ ho base 5 i (.int .u8 0) 1 1 Tryz.underlying22 hi hz hsz hby rfl (by omega) v n _ hs hown
  ⟨gx, 0, none⟩ 1 cx [U (f n)] hx rfl (fun j u hu => ?_) (fun u hu => ?_) (by unfold maxLen; omega) (by omega) hbase ?_
 ·have hj : j = 0 := by
   rcases j with _ | j
   ·rfl
   ·simp at hu
  subst hj
  simp at hu
  rw [Addr.add_mid, Nat.add_zero, hc, ← hu]
 ·simp at hu
  subst hu
  rfl
 ·intro v' w' ho' hgrow _
  refine h v' w' ?_ ((Below.refl _ _).grown hgrow hbase fun k hk => ?_)
  ·unfold OwnB
   rw [List.range_succ, List.map_append]
   exact ho'
  ·obtain ⟨_, hv⟩ := hown
   rcases hv with ⟨rfl, _⟩ | ⟨g, cap, cur, rfl, hg, _⟩
   ·cases hk
   ·have : g = k := by simpa [Value.ownBlock] using hk
    omega
end
theorem OwnB.drew {w : World} {base : Nat} {v : Value} {n : Nat} {f : Nat → BitVec 8} (h : OwnB w base v n f) : OwnB w.drew base v n f := h
theorem OwnB.made {w w' : World} {base : Nat} {v : Value} {n : Nat} {f : Nat → BitVec 8} (h : OwnB w base v n f) (he : ∃ ob, w' = w.alloc ob) : OwnB w' base v n f := by
 obtain ⟨ob, rfl⟩ := he
 exact h.alloc ob
theorem Below.made {w w' W : World} {B : Nat} (h : Below B W w) (hB : B ≤ w.heap.size) (he : ∃ ob, w' = w.alloc ob) : Below B W w' := by
 obtain ⟨ob, rfl⟩ := he
 exact h.alloc hB ob
theorem rN_fits8 : rN < 2 ^ (8 * 28) := by
 have h : Nat.blt rN (2 ^ (8 * 28)) = true := by decide +kernel
 exact Nat.le_of_ble_eq_true h
theorem qN_at (j : Nat) : upd8 (fun _ => 0) 55 64 j = bt qN j := by
 obtain ⟨e, he⟩ : ∃ e, e = 446 := ⟨_, rfl⟩
 rw [← y75 e he]
 apply BitVec.eq_of_getLsbD_eq
 intro k hk
 rw [z8x, Nat.testBit_two_pow]
 unfold upd8
 by_cases h : j = 55
 ·subst h
  rw [if_pos rfl]
  rcases (by omega : k = 0 ∨ k = 1 ∨ k = 2 ∨ k = 3 ∨ k = 4 ∨ k = 5 ∨ k = 6 ∨ k = 7) with rfl | rfl | rfl | rfl | rfl | rfl | rfl | rfl <;> subst he <;> decide
 ·rw [if_neg h]
  have h1 : ¬ e = 8 * j + k := by omega
  simp [h1]
theorem y76 : qN < 2 ^ (8 * 56) := leb (by decide +kernel)
theorem rN_le : rN ≤ qN := leb (by decide +kernel)
theorem qN_sub : qN - rN = lN := by rw [qN_eq, Nat.add_sub_cancel]
theorem lN_len : dl 8 lN = 56 := y66 (by omega) (Nat.lt_of_le_of_lt (by rw [qN_eq]; exact Nat.le_add_right _ _) y76) (.inr (leb (by decide +kernel)))
theorem y0w (w : World) :
  Calls Tryz.prog 89 #[] w fun e w' => ∃ a c, e = .returned (.slice a 56 c) ∧ Sb w' w'.heap.size a 56 c lN ∧ Below w.heap.size w w' := by
 obtain ⟨S, hS⟩ : ∃ S, txL = S := ⟨_, rfl⟩
 have HS : Hid (∀ i, i < 56 → S[i]? = some (UInt8.ofNat (ch i))) := za (by rw [← hS]; exact txL_at)
 have hsz : S.size = 56 := by rw [← hS]; rfl
 have hSt : txL = S := hS
 unfold txL at hS
 go_enter Tryz.func89, Tryz.ntmps89
 go_wp2_with fail
 clear hS hSt hsz
 go_loopw [2, 3] (fun v2 v3 wr => ∃ k : Nat, k ≤ 28 ∧ v3 = .int .i64 (54 - 2 * (k : Int)) ∧ OwnB wr w.heap.size v2 k (bt rN) ∧ Below w.heap.size w wr) (fun _ v3 _ => (intOf v3 + 2).toNat)
 case atStart => exact ⟨0, by omega, by go_num, OwnB.nil _ _ _, Below.refl _ _⟩
 case round =>
  obtain ⟨k, hk, rfl, HO, HB⟩ := hrel
  have HO := za HO
  have HB := za HB
  by_cases hlt : k < 28
  ·obtain ⟨i, hi⟩ : ∃ i, 54 - 2 * k = i := ⟨_, rfl⟩
   have ei : 54 - 2 * (k : Int) = (i : Int) := by omega
   rw [ei]
   have hid : decide ((0 : Int) ≤ (i : Int)) = true := by simp
   have q1 := HS.out i (by omega)
   have q2 := HS.out (i + 1) (by omega)
   have o1 := ch_ok i (by omega)
   have o2 := ch_ok (i + 1) (by omega)
   have pr := ch_pair k hlt
   rw [hi, show 55 - 2 * k = i + 1 by omega] at pr
   obtain ⟨c1, h1⟩ : ∃ u, ch i = u := ⟨_, rfl⟩
   obtain ⟨c2, h2⟩ : ∃ u, ch (i + 1) = u := ⟨_, rfl⟩
   rw [h1] at q1 o1 pr
   rw [h2] at q2 o2 pr
   have HD1 := za (fun w => y9c c1 w o1)
   have HD2 := za (fun w => y9c c2 w o2)
   have T1 : Hid (c1 < 256) := za (by omega)
   have T2 : Hid (c2 < 256) := za (by omega)
   have Q1 := za q1
   have Q2 := za q2
   clear q1 q2
   obtain ⟨d1, hd1⟩ : ∃ d, hxd c1 = d := ⟨_, rfl⟩
   obtain ⟨d2, hd2⟩ : ∃ d, hxd c2 = d := ⟨_, rfl⟩
   rw [hd1] at pr HD1
   rw [hd2] at pr HD2
   have hg := z80 rN k
   obtain ⟨y, hy⟩ : ∃ y, dg rN k = y := ⟨_, rfl⟩
   rw [hy] at pr hg
   have HY : Hid (U8 (bt rN k) = (y : Int)) := za (by rw [← hy]; exact y2d rN k)
   have f0 : IntKind.i64.wrap ((i : Int) + 1) = ((i + 1 : Nat) : Int) := (IntWalk.i64_in _ (by omega)).trans (by omega)
   have f1 : IntKind.i64.wrap (16 * (d1 : Int)) = 16 * (d1 : Int) := IntWalk.i64_in _ (by omega)
   have f2 : IntKind.i64.wrap (16 * (d1 : Int) + (d2 : Int)) = (y : Int) := (IntWalk.i64_in _ (by omega)).trans (by omega)
   have f3 : IntKind.u8.wrap (y : Int) = (y : Int) := by rw [IntKind.wrap_u8]; omega
   have Hi : Hid ((i : Int) - 2 = 54 - 2 * ((k + 1 : Nat) : Int)) := za (by omega)
   have i54 : (i : Int) ≤ 54 := by omega
   have e1 : (i : Int) < 56 := by omega
   have Hk : Hid (k + 1 ≤ 28) := za (by omega)
   have k28 : k ≤ 100000 := by omega
   clear o1 o2 h1 h2 hd1 hd2 hy pr hg ei hi hlt hk
   go_wp2_with fail
   refine wp_region_noPanic ?_
   refine wp_region_held_drew (S := fun _ => True) (by kernel_rfl) trivial (fun hH => ?_)
   replace HO := za HO.out.drew
   replace HB := za (Below.drew HB.out)
   generalize World.drew _ = w8 at *
   have hz : w.heap.size ≤ w8.heap.size := HB.out.size
   refine zh 0 12 (u2) hH ?_
   refine zh 1 13 (.string S) hH ?_
   refine zh 2 14 (.int .i64 i) hH ?_
   refine z0h 3 15 (.int .u8 (c1 : Int)) rfl rfl rfl hH (fun w hw => by exact z50 rfl rfl rfl Q1.out T1.out w) ?_
   refine zh 6 18 (.string S) hH ?_
   refine zh 7 19 (.int .i64 i) hH ?_
   refine zh 8 20 (.int .i64 ((i + 1 : Nat) : Int)) hH ?_
   refine z0h 9 21 (.int .u8 (c2 : Int)) rfl rfl rfl hH (fun w hw => by exact z50 rfl rfl rfl Q2.out T2.out w) ?_
   refine zn 4 rfl fun K hK => ?_
   go_simp
   refine (HD1.out _).mono ?_
   rintro e wc ⟨rfl, rfl⟩
   refine zc hK (trivial) fun hH => ?_
   refine zh 5 17 (.int .i64 (16 * (d1 : Int))) hH ?_
   refine zn 10 rfl fun K hK => ?_
   go_simp
   refine (HD2.out _).mono ?_
   rintro e wc ⟨rfl, rfl⟩
   refine zc hK (trivial) fun hH => ?_
   refine zh 11 23 (.int .i64 (y : Int)) hH ?_
   refine z0h 12 24 (U (bt rN k)) rfl rfl rfl hH (fun w hw => by (go_simp; exact HY.out.symm)) ?_
   refine zn 13 rfl fun K hK => ?_
   refine y0k 25 rfl (v := bt rN k) rfl rfl ?_
   intro wb gb hc he
   replace HO := za (HO.out.made he)
   replace HB := za (Below.made HB.out hz he)
   have HC := za hc
   clear hc he hz
   refine zc hK (trivial) fun hH => zn 14 rfl fun K hK => ?_
   refine y0l 26 rfl rfl rfl rfl HC.out HO.out k28 HB.out.size ?_
   intro v' wq ho hb
   refine zc hK (trivial) fun hH => ?_
   try simp only [Act.put, qa, qb, qc]
   refine zh 15 2 (v') hH ?_
   refine zm ?_
   clear f0 f1 f2 f3
   go_wp2_with fail
   go_roundw
   case rel => exact ⟨k + 1, Hk.out, congrArg (Value.int .i64) Hi.out, ho, HB.out.trans hb⟩
   case measure => (simp [intOf] <;> omega)
  ·obtain rfl : k = 28 := by omega
   obtain ⟨a2, c2, rfl, hsl⟩ := HO.out.any
   have HC : Hid (Sb wr wr.heap.size a2 28 c2 rN) := za ⟨hsl, rN_fits8⟩
   have HQF := za y76
   have HRQ := za rN_le
   have HLS := za qN_sub
   have HLN := za lN_len
   clear hsl hlt hk HO HS
   rw [show 54 - 2 * ((28 : Nat) : Int) = -2 from rfl]
   have H := za (Ow.start wr)
   go_wp2_with (first
    | ((with_reducible apply own_makeB (m := 56) H); (case hgd | ho | hx | hy => exact rfl); (case hc => decide); clear H; intro wm gm H _ _; go_simp)
    | ((with_reducible apply y1r (v := 64) H); (case hgd | ho | hx | hy => exact rfl); (case hi => exact z5); (case hj => decide); clear H; intro ws H _ _; simp only [qb] at H; replace H := za (H.out.like 0 (g := UB (bt qN)) rfl fun j _ => congrArg U8 (qN_at j)); simp only [qb] at H; have HQ : Hid (Sb ws ws.heap.size (some ⟨gm, 0, none⟩) 56 56 qN) := za ⟨H.out.slb 0 rfl (Nat.le_refl _) (Nat.le_refl _), HQF.out⟩; have HC2 : Hid (Sb ws ws.heap.size a2 28 c2 rN) := za (HC.out.call H.out.bel); go_simp)
    | ((with_reducible refine (z49 (some ⟨gm, 0, none⟩) 56 56 qN a2 28 c2 rN _ (by omega) (by omega) HQ.out HC2.out HRQ.out).mono ?_); rintro e wc ⟨v, rfl, hv⟩; obtain ⟨a3, c3, rfl, hs, hb⟩ := hv; rw [HLS.out, HLN.out] at hs; rw [HLS.out, HLN.out]; have HS3 := za hs; have HB3 := za hb; clear hs hb))
   go_ret
   exact ⟨_, _, rfl, HS3.out, HB.out.trans ((H.out.bel.mono HB.out.size).trans (HB3.out.mono (Nat.le_trans HB.out.size H.out.bel.size)))⟩
end Go.Proofs.YtgjbonikbmgfmaaGreatDoor
