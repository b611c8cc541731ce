/- Lemmas; no statement is proved here. -/
import Derived.Test.YtgjbonikbmgfmaaGreatDoorQGms3
set_option maxRecDepth 8000
set_option maxHeartbeats 3200000
namespace Go.Proofs.YtgjbonikbmgfmaaGreatDoor
open Go.RowKit
structure RowAt (w : World) (B b p M x : Nat) (P : Pt pN dK) : Prop where
 lt : b < B
 is : ∃ g, w.cell? ⟨b, p, none⟩ = some (.slice (some ⟨g, 0, none⟩) M M) ∧ g < B ∧ w.heap[g]? = some (zv 3 .i64 M (sdg x 5))
 tab : ∀ i, i < 17 → ∃ v, PtK v (zF zB i P) ∧ ∀ j, j < 24 → w.cell? ⟨b, p + 1 + i * 24 + j, none⟩ = some (.int .u64 (v j))
section
variable {w w' : World} {B b p M x : Nat} {P : Pt pN dK}
theorem RowAt.below (h : RowAt w B b p M x P) (hb : Below B w w') : RowAt w' B b p M x P := by
 obtain ⟨g, h1, h2, h3⟩ := h.is
 refine ⟨h.lt, ⟨g, (hb.cell (p := ⟨b, p, none⟩) h.lt).trans h1, h2, (hb.block g h2).trans h3⟩, fun i hi => ?_⟩
 obtain ⟨v, hv, hc⟩ := h.tab i hi
 exact ⟨v, hv, fun j hj => (hb.cell (p := ⟨b, p + 1 + i * 24 + j, none⟩) h.lt).trans (hc j hj)⟩
theorem RowAt.more {B' : Nat} (h : RowAt w B b p M x P) (hB : B ≤ B') : RowAt w B' b p M x P := by
 obtain ⟨g, h1, h2, h3⟩ := h.is
 exact ⟨Nat.lt_of_lt_of_le h.lt hB, ⟨g, h1, Nat.lt_of_lt_of_le h2 hB, h3⟩, h.tab⟩
theorem RowAt.call (h : RowAt w w.heap.size b p M x P) (hb : Below w.heap.size w w') : RowAt w' w'.heap.size b p M x P := (h.below hb).more hb.size
theorem RowAt.pts (h : RowAt w B b p M x P) : Pts w B (some ⟨b, p + 1, none⟩) 17 17 fun i => zF zB i P :=
 ⟨Nat.le_refl _, (fun e => by cases e), fun ad e _ => ⟨b, p + 1, (Option.some.inj e).symm, h.lt, fun i hi => h.tab i hi⟩⟩
theorem z9q {t : TypeId} {n : Nat} {f : Nat → Value} {g : Nat} {F : Nat → Int} (hr : w.heap[b]? = some (Cs t (AV n f))) (hp : p + 409 ≤ n) (hf : ∀ j, j < 409 → f (p + j) = zO (.slice (some ⟨g, 0, none⟩) M M) F j)
  (hg : w.heap[g]? = some (zv 3 .i64 M (sdg x 5))) (hF : Fill F 17 fun i => zF zB i P) : RowAt w w.heap.size b p M x P := by
 refine ⟨z01 hr, ⟨g, ?_, z01 hg, hg⟩, fun i hi => ?_⟩
 ·rw [z69 hr (by omega)]
  exact congrArg some ((hf 0 (by omega)).trans (y1j _ _))
 ·obtain ⟨v, hv, he⟩ := hF i hi
  refine ⟨v, hv, fun j hj => ?_⟩
  rw [z69 hr (by omega), show p + 1 + i * 24 + j = p + (1 + (i * 24 + j)) by omega, hf _ (by omega), y1k, he j hj]
end
def mxn (M : Nat → Nat) : Nat → Nat
 | 0 => 0
 | n + 1 => max (mxn M n) (M n)
theorem y8o {M : Nat → Nat} {c : Nat} : ∀ n, (∀ i, i < n → M i ≤ c) → mxn M n ≤ c
 | 0, _ => Nat.zero_le _
 | n + 1, h => by
  have h1 := y8o n fun i hi => h i (by omega)
  have h2 := h n (by omega)
  unfold mxn
  omega
theorem le_mxn (M : Nat → Nat) : ∀ n i, i < n → M i ≤ mxn M n
 | 0, _, h => by omega
 | n + 1, i, h => by
  unfold mxn
  rcases (by omega : i < n ∨ i = n) with h1 | rfl
  ·have := le_mxn M n i h1
   omega
  ·omega
def PlaceV (m i : Nat) (args : Array Value) : Prop := args = #[.int .i64 ((m - 1 - i : Nat) : Int)]
theorem xor_m1 {n : Int} (h1 : -9223372036854775808 ≤ n) (h2 : n < 0) : bits .xor .i64 n (-1) = -n - 1 := by
 have e1 : bits .xor .i64 n (-1) = IntKind.i64.wrap (((BitVec.ofInt 64 n ^^^ BitVec.ofInt 64 (-1)).toNat : Nat) : Int) := rfl
 have e2 : BitVec.ofInt 64 n ^^^ BitVec.ofInt 64 (-1) = ~~~ BitVec.ofInt 64 n := by
  rw [show BitVec.ofInt 64 (-1) = BitVec.allOnes 64 by decide +kernel, BitVec.xor_allOnes]
 rw [e1, e2, BitVec.toNat_not, BitVec.toNat_ofInt, show ((2 ^ 64 : Nat) : Int) = 18446744073709551616 from rfl, show (2 : Nat) ^ 64 = 18446744073709551616 from rfl, IntKind.wrap_i64]
 omega
theorem xor_0 {n : Int} (h1 : 0 ≤ n) (h2 : n ≤ 9223372036854775807) : bits .xor .i64 n 0 = n := by
 have e1 : bits .xor .i64 n 0 = IntKind.i64.wrap (((BitVec.ofInt 64 n ^^^ BitVec.ofInt 64 0).toNat : Nat) : Int) := rfl
 have e2 : BitVec.ofInt 64 n ^^^ BitVec.ofInt 64 0 = BitVec.ofInt 64 n := by
  rw [show BitVec.ofInt 64 0 = 0#64 by decide +kernel, BitVec.xor_zero]
 rw [e1, e2, BitVec.toNat_ofInt, show ((2 ^ 64 : Nat) : Int) = 18446744073709551616 from rfl, IntKind.wrap_i64]
 omega
def sgn (z : Int) : Int := if z < 0 then -1 else 0
theorem parted_k (n : Int) (w : World) (h1 : -9223372036854775807 ≤ n) (h2 : n ≤ 9223372036854775807) {m : Nat} (hm : n.natAbs = m) {s : Int} (hs : sgn n = s) :
  Calls Tryz.prog 197 #[.int .i64 n] w fun e w' => e = .returned (.tuple #[.int .i64 (m : Int), .int .i64 s]) ∧ Below w.heap.size w w' := by
 by_cases h : n < 0
 ·have e1 : n / 9223372036854775808 = -1 := by omega
  have e2 := xor_m1 (n := n) (by omega) h
  have EM : Hid (-n = (m : Int)) := za (by omega)
  have ES : Hid (-1 = s) := za (by rw [← hs]; exact (if_pos h).symm)
  have e3 : IntKind.i64.wrap (-n - 1 - -1) = -n := by rw [show -n - 1 - -1 = -n by omega]; exact IntWalk.i64_in _ (by omega)
  clear hm hs
  go_enter Tryz.func197, Tryz.ntmps197
  go_wp2_with fail
  go_ret2
  exact ⟨by rw [← EM.out, ← ES.out]; rfl, Below.refl _ _⟩
 ·have e1 : n / 9223372036854775808 = 0 := by omega
  have e2 := xor_0 (n := n) (by omega) h2
  have EM : Hid (n = (m : Int)) := za (by omega)
  have ES : Hid (0 = s) := za (by rw [← hs]; exact (if_neg h).symm)
  clear hm hs
  go_enter Tryz.func197, Tryz.ntmps197
  go_wp2_with fail
  go_ret2
  exact ⟨by rw [← EM.out, ← ES.out]; rfl, Below.refl _ _⟩
theorem turned_k {v : Nat → Int} {P R : Pt pN dK} (s : Int) (w : World) (hT : Tp w) (hp : PtK v P) (hR : (if s % 2 = 0 then P else pneg P) = R) :
  Calls Tryz.prog 199 #[.int .i64 s, PO v] w fun e w' => ∃ r, e = .returned (PO r) ∧ PtK r R ∧ Below w.heap.size w w' := by
 have HT := za hT
 clear hT
 have V1 := za hp
 have HR := za hR
 clear hp hR
 have H := za (Ow.start w)
 go_enter Tryz.func199, Tryz.ntmps199
 go_upto_region 1 with (first
  | ((fail_if_success have := g3); (with_reducible apply zw H); (case hgd | ho | hx => exact rfl); clear H; intro w3 g3 H _ _; go_simp)
  | ((with_reducible apply ze z1d H); (case hgd | ho => exact rfl); clear H; intro _ _ H _ _; go_simp))
 refine wp_region_noPanic ?_
 refine wp_region_held_drew (S := fun W => W.heap[g3]? = some (zv 32 .u64 24 (v))) (by kernel_rfl) (H.out.drew.row 1 rfl) (fun hH => ?_)
 replace H := za H.out.drew
 generalize World.drew _ = w8 at *
 refine zh 0 5 (.int .i64 s) hH ?_
 refine zk 1 6 zH rfl rfl rfl hH rfl rfl (fun _ h => h) ?_
 refine zk 2 7 zH rfl rfl rfl hH rfl rfl (fun _ h => h) ?_
 refine zn 3 rfl fun K hK => ?_
 go_simp
 refine (y1m _ (HT.out.below H.out.bel) V1.out).mono ?_
 rintro e wc ⟨k8, rfl, hv, hb⟩
 replace H := zd H hb
 have HV8 := za hv
 refine zc hK (zb H 1) fun hH => ?_
 try simp only [Act.put, qa, qb, qc]
 refine zn 4 rfl fun K hK => ?_
 go_simp
 refine (z6a s _ V1.out HV8.out HR.out).mono ?_
 rintro e wc ⟨k9, rfl, hv, hb⟩
 replace H := zd H hb
 have HV9 := za hv
 refine zc hK (zb H 1) fun hH => zn 5 rfl fun K hK => ?_
 refine zu 0 rfl zH H.out rfl rfl rfl rfl ?_
 intro ws HS
 simp only [qb] at HS
 replace H := za HS
 refine zc hK (zb H 1) fun hH => ?_
 try simp only [qa]
 try simp only [Act.put]
 refine zm ?_
 go_wp2_with fail
 exact bodyPost_ret (zy 0 zH rfl _ H rfl rfl) rfl ⟨_, rfl, HV9.out, H.out.bel⟩
theorem places_iter {w : World} {b m : Nat} {X : Nat → Prop} (hb : w.heap[b]? = some (Oc 3 (.int .i64 (m : Int)))) (hm : m ≤ 1000) (xb : ¬ X b) :
  Iter Tryz.prog 196 #[.pointer (some ⟨b, 0, none⟩)] m (PlaceV m) X w := by
 intro l J W hT hJ hY h0
 obtain ⟨Y, hYd⟩ : ∃ Y : Nat → Prop, (fun k => X k ∨ (w.heap.size ≤ k ∧ k < W.heap.size)) = Y := ⟨_, rfl⟩
 rw [hYd] at hY
 have hb := hT.row hb xb
 clear hT xb hYd
 show Calls Tryz.prog 196 #[.func (.yield l) #[] #[], .pointer (some ⟨b, 0, none⟩)] W _
 have f1 : IntKind.i64.wrap ((m : Int) - 1) = (m : Int) - 1 := IntWalk.i64_in _ (by omega)
 have HB := za hb
 have HJ := za hJ
 have HY := za hY
 have H0 := za h0
 have HM := za hm
 clear hb hJ hY h0
 have H := za (Ow.start W)
 go_enter Tryz.func196, Tryz.ntmps196
 go_wp2_with (first
  | ((with_reducible apply own_loadCO y9j H); (case hgd | ho | hx => exact rfl); (case hr => exact HB.out); (case hj => exact rfl); intro _ _; go_simp))
 clear f1 H
 go_loopw [3] (fun v3 wr => ∃ i : Nat, i ≤ m ∧ v3 = .int .i64 ((m : Int) - 1 - (i : Int)) ∧ J i wr ∧ Turn Y W wr) (fun v3 _ => (intOf v3 + 1).toNat)
 case atStart => exact ⟨0, Nat.zero_le _, by go_num, H0.out, Turn.refl _ _⟩
 case round =>
  clear H0
  obtain ⟨i, hi, rfl, hJi, hTi⟩ := hrel
  have HJI := za hJi
  have HTI := za hTi
  clear hJi hTi
  by_cases hlt : i < m
  ·obtain ⟨j, hj⟩ : ∃ j, m - 1 - i = j := ⟨_, rfl⟩
   have ej : (m : Int) - 1 - (i : Int) = (j : Int) := by omega
   rw [ej]
   have hid : decide ((0 : Int) ≤ (j : Int)) = true := by simp
   have j999 : (j : Int) ≤ 999 := by omega
   have HYI := za (HY.out i _ wr HJI.out HTI.out.size hlt rfl)
   rw [hj] at HYI
   have EJ := za hj
   have HI := za hlt
   have H := za (Ow.start wr)
   clear hlt hi ej hj hm
   go_upto_region 3 with fail
   refine wp_in (wpIn_region_lit (y21 (.inl rfl) 2 rfl Only.no ?_))
   simp only [List.take_succ_cons, List.take_zero, List.drop_succ_cons, List.drop_zero]
   go_wp2_with fail
   refine list_yield (args := #[.int .i64 (j : Int)]) (.inl rfl) rfl rfl rfl (by simp only [List.map_toArray, List.map_cons, List.map_nil]; rfl) HYI.out ?_
   rintro e w' ⟨rfl, hJ', ht⟩
   refine ⟨_, rfl, ?_⟩
   refine y21 (.inl rfl) 1 rfl Only.no ?_
   simp only [List.take_succ_cons, List.take_zero, List.drop_succ_cons, List.drop_zero]
   have HJ2 := za hJ'
   have HT2 := za (HTI.out.trans ht)
   clear H HJI HTI hJ' ht HYI
   go_wp2_with fail
   simp only [wpListIn, Only]
   go_wp2_with fail
   go_roundw
   case rel => exact ⟨i + 1, by have := HI.out; omega, by (have := EJ.out; have := HI.out; have : (j : Int) - 1 = (m : Int) - 1 - ((i + 1 : Nat) : Int) := (by omega); go_num), HJ2.out, HT2.out⟩
   case measure => (simp [intOf] <;> omega)
  ·obtain rfl : m = i := by omega
   have ej : (m : Int) - 1 - (m : Int) = -1 := by omega
   rw [ej]
   clear hlt hi ej hm
   go_wp2_with fail
   go_end0
   exact ⟨⟨_, rfl⟩, HJI.out⟩
theorem places_k {b n : Nat} {M X : Nat → Nat} {P : Nat → Pt pN dK} (w : World) (hR : ∀ k, k < n → RowAt w w.heap.size b (k * 409) (M k) (X k) (P k)) (hn : n ≤ 100) (hM : ∀ k, k < n → M k ≤ 200) :
  Calls Tryz.prog 185 #[.slice (some ⟨b, 0, none⟩) n n] w fun e w' => ∃ g, e = .returned (.func (.func 196) #[] #[.pointer (some ⟨g, 0, none⟩)]) ∧ w.heap.size ≤ g ∧ w'.heap[g]? = some (Oc 3 (.int .i64 ((mxn M n : Nat) : Int))) ∧ Below w.heap.size w w' := by
 have HR := za hR
 have HM := za hM
 clear hR hM
 have H := za (Ow.start w)
 go_enter Tryz.func185, Tryz.ntmps185
 go_wp2_with (first
  | ((fail_if_success have := g3); (with_reducible apply z4v nilInt (z48 _ _) H); (case hgd | ho => exact rfl); clear H; intro w3 g3 H _ _; go_simp)
  | ((with_reducible apply z4t y9j (z48 _ _) H); (case hgd | ho | hx | hy => exact rfl); (case hi => repeat first|exact z5|apply z8); clear H; intro ws H _ _; simp only [qb] at H; go_simp))
 go_loopw [7] (fun v7 wr => ∃ k : Nat, k ≤ n ∧ v7 = .int .i64 (k : Int) ∧ Ow w wr [(g3, Oc 3 (.int .i64 ((mxn M k : Nat) : Int)))]) (fun v7 _ => (n - (intOf v7).toNat))
 case atStart => exact ⟨0, Nat.zero_le _, rfl, H.out⟩
 case round =>
  clear H
  obtain ⟨k, hk, rfl, HH⟩ := hrel
  have H := za HH
  clear HH
  by_cases hlt : k < n
  ·have hid : decide ((k : Int) < (n : Int)) = true := by simp; omega
   have hid' : decide (k < n) = true := by simpa using hlt
   have kn : (k : Int) < (n : Int) := by omega
   have n100 : (n : Int) ≤ 100 := by omega
   obtain ⟨gd, hc, _, _⟩ := (HR.out k hlt).is
   have HC : Hid (∀ W, Below w.heap.size w W → W.cell? ⟨b, k * 409, none⟩ = some (.slice (some ⟨gd, 0, none⟩) (M k) (M k))) := za fun W hW => (hW.cell (p := ⟨b, k * 409, none⟩) (HR.out k hlt).lt).trans hc
   have EM : Hid (mxn M (k + 1) = max (mxn M k) (M k)) := za rfl
   have m1 : mxn M k ≤ 200 := y8o k fun i hi => HM.out i (by omega)
   have m2 : M k ≤ 200 := HM.out k hlt
   obtain ⟨m, hm⟩ : ∃ m, mxn M k = m := ⟨_, rfl⟩
   obtain ⟨c, hcc⟩ : ∃ c, M k = c := ⟨_, rfl⟩
   rw [hm, hcc] at EM
   rw [hm] at H m1
   rw [hcc] at HC m2
   have HL := za hlt
   clear hlt hk hc hm hcc hn
   go_upto_region 5 with fail
   refine wp_region_noPanic ?_
   refine wp_region_held_drew (S := fun W => W.cell? ⟨b, k * 409, none⟩ = some (.slice (some ⟨gd, 0, none⟩) c c)) (by kernel_rfl) (HC.out _ H.out.drew.bel) (fun hH => ?_)
   replace H := za H.out.drew
   generalize World.drew _ = w8 at *
   refine zh 1 11 (.slice (some ⟨b, 0, none⟩) n n) hH ?_
   refine zh 2 12 (.int .i64 (k : Int)) hH ?_
   refine zh 3 13 (.pointer (some ⟨b, k * 409, none⟩)) hH ?_
   refine zh 4 14 (.pointer (some ⟨b, k * 409, none⟩)) hH ?_
   refine held_cell 5 15 z7r rfl rfl rfl hH rfl rfl (fun _ h => h) ?_
   refine zh 6 16 (.int .i64 (c : Int)) hH ?_
   refine zn 0 rfl fun K hK => ?_
   refine own_wp_ld1 10 rfl 0 y9j H.out rfl rfl rfl ?_
   refine hK.out _ _ hH (fun hN => ?_)
   have hH := hN
   clear hN
   refine z0h 7 17 (.int .i64 ((max m c : Nat) : Int)) rfl rfl rfl hH (fun w hw => by go_simp; omega) ?_
   refine zn 8 rfl fun K hK => ?_
   refine own_wp_st1 0 rfl y9j (z48 _ _) H.out rfl rfl rfl rfl ?_
   intro ws HS _
   simp only [qb] at HS
   replace H := za HS
   refine zc hK (HC.out _ H.out.bel) fun hH => ?_
   try simp only [qa]
   try simp only [Act.put]
   refine zm ?_
   go_wp2_with fail
   go_roundw
   case rel => exact ⟨k + 1, by have := HL.out; omega, by go_num, by rw [EM.out]; exact H.out⟩
   case measure => (have := HL.out; simp [intOf] <;> omega)
  ·obtain rfl : n = k := by omega
   have hid : decide ((n : Int) < (n : Int)) = false := by simp
   have hid' : decide (n < n) = false := by simp
   clear hlt hk hn
   go_wp2_with fail
   go_ret
   exact ⟨_, rfl, H.out.ge 0 rfl, H.out.row 0 rfl, H.out.bel⟩
theorem at_k {b p M x : Nat} {P : Pt pN dK} (w : World) (hT : Tp w) (h : RowAt w w.heap.size b p M x P) (i : Nat) (hi : i < M) (hM : M ≤ 200) {z : Int} (hz : z = (i : Int)) :
  Calls Tryz.prog 186 #[.pointer (some ⟨b, p, none⟩), .int .i64 z] w fun e w' => ∃ r, e = .returned (PO r) ∧ PtK r (zml (sdg x 5 i) P) ∧ Below w.heap.size w w' := by
 subst hz
 obtain ⟨g, hc, hg, hd⟩ := h.is
 have hlt := h.lt
 have HC : Hid (∀ W, Below w.heap.size w W → W.cell? ⟨b, p, none⟩ = some (.slice (some ⟨g, 0, none⟩) M M)) := za fun W hW => (hW.cell (p := ⟨b, p, none⟩) hlt).trans hc
 have HD : Hid (∀ W, Below w.heap.size w W → W.cell? ⟨g, i, none⟩ = some (.int .i64 (sdg x 5 i))) := za fun W hW => (hW.cell (p := ⟨g, i, none⟩) hg).trans (by
  have hr : w.heap[g]? = some (.cells (AZ .i64 M (sdg x 5)) 3) := hd
  rw [cell_of_row _ _ _ _ _ _ hr, z1c _ _ _ _ hi])
 have hb := sdg_bd x (k := 5) (by omega) i
 rw [show (2 : Int) ^ (5 - 1) = 16 by decide] at hb
 have HP := za h.pts
 obtain ⟨d, hdd⟩ : ∃ d, sdg x 5 i = d := ⟨_, rfl⟩
 obtain ⟨m, hm⟩ : ∃ m, d.natAbs = m := ⟨_, rfl⟩
 obtain ⟨s, hs⟩ : ∃ s, sgn d = s := ⟨_, rfl⟩
 rw [hdd] at HD hb ⊢
 have HM := za hm
 have HSG := za hs
 have HB := za hb
 have HML : Hid (m < 17) := za (by omega)
 have HR : Hid ((if s % 2 = 0 then zF zB m P else pneg (zF zB m P)) = zml d P) := za (by rw [← hm]; exact zml_turn d P hs.symm)
 have iM : (i : Int) < (M : Int) := by omega
 have M200 : (M : Int) ≤ 200 := by omega
 clear hc hg hd hlt hb h hdd hm hs hi
 have HT := za hT
 clear hT
 have H := za (Ow.start w)
 go_enter Tryz.func186, Tryz.ntmps186
 go_wp2_with (first
  | ((with_reducible apply ze z1d H); (case hgd | ho => exact rfl); clear H; intro _ _ H _ _; go_simp)
  | ((with_reducible apply z9b z7r); (case hgd | ho | hx => exact rfl); (case hc => exact HC.out _ H.out.bel); intro _ _; go_simp)
  | ((with_reducible apply z9b y9j); (case hgd | ho | hx => exact rfl); (case hc => exact HD.out _ H.out.bel); intro _ _; go_simp)
  | ((fail_if_success have := mk1); (with_reducible refine (parted_k d _ (by have := HB.out; omega) (by have := HB.out; omega) HM.out HSG.out).mono ?_); rintro e wc ⟨rfl, hb⟩; replace H := zd H hb; have mk1 := trivial; clear hb)
  | ((fail_if_success have := V1); (with_reducible refine (look_k _ (HT.out.below H.out.bel) ((HP.out.below H.out.bel).more H.out.bel.size) (by omega) m HML.out _ rfl).mono ?_); rintro e wc ⟨k1, rfl, hv, hb⟩; replace H := zd H hb; have V1 := za hv; clear hb hv)
  | ((with_reducible apply zr zH H); (case hgd | ho | hx => exact rfl); (case hi => repeat first|exact z5|apply z8); intro _ _; go_simp)
  | ((with_reducible apply zj zH H); (case hgd | ho | hx | hy => exact rfl); (case hi => repeat first|exact z5|apply z8); clear H; intro ws H _ _; simp only [qb, qc] at H; go_simp)
  | ((fail_if_success have := V2); (with_reducible refine (turned_k s _ (HT.out.below H.out.bel) V1.out HR.out).mono ?_); rintro e wc ⟨k2, rfl, hv, hb⟩; replace H := zd H hb; have V2 := za hv; clear hb hv))
 exact bodyPost_ret (zy 1 zH rfl _ H rfl rfl) rfl ⟨_, rfl, V2.out, H.out.bel⟩
end Go.Proofs.YtgjbonikbmgfmaaGreatDoor
