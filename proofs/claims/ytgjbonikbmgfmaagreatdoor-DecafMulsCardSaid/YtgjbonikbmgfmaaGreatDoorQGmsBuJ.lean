/- Lemmas; no statement is proved here. -/
import Derived.Test.YtgjbonikbmgfmaaGreatDoorQGms1
set_option maxRecDepth 8000
set_option maxHeartbeats 1600000
namespace Go.Proofs.YtgjbonikbmgfmaaGreatDoor
def tb (x i : Nat) : Nat := x / 2 ^ i % 2
theorem tb_lt (x i : Nat) : tb x i < 2 := Nat.mod_lt _ (by omega)
theorem tb_over {x n i : Nat} (h : x < 2 ^ n) (hi : n ≤ i) : tb x i = 0 := by
 unfold tb
 rw [Nat.div_eq_of_lt (Nat.lt_of_lt_of_le h (Nat.pow_le_pow_right (by omega) hi))]
def tog (x f a : Nat) : Nat → Nat
 | 0 => 0
 | k + 1 => tog x f a k + tb x (f + k * a) * 2 ^ k
theorem tog_lt (x f a : Nat) : ∀ k, tog x f a k < 2 ^ k
 | 0 => by simp [tog]
 | k + 1 => by
  have h1 := tog_lt x f a k
  have h2 := tb_lt x (f + k * a)
  unfold tog
  rw [Nat.pow_succ]
  rcases (by omega : tb x (f + k * a) = 0 ∨ tb x (f + k * a) = 1) with e | e <;> rw [e] <;> omega
theorem y7k (x f : Nat) : ∀ k, tog x f 1 k = x / 2 ^ f % 2 ^ k
 | 0 => by simp [tog, Nat.mod_one]
 | k + 1 => by
  unfold tog
  rw [y7k x f k, Nat.mod_pow_succ, Nat.mul_comm (2 ^ k)]
  congr 2
  unfold tb
  rw [Nat.mul_one, Nat.pow_add, Nat.div_div_eq_div_mul]
def vl (f : Nat → Int) (b : Nat) : Nat → Int
 | 0 => 0
 | m + 1 => vl f b m + f m * 2 ^ (b * m)
theorem y4v {f g : Nat → Int} (b : Nat) : ∀ m, (∀ i, i < m → f i = g i) → vl f b m = vl g b m
 | 0, _ => rfl
 | m + 1, h => by
  unfold vl
  rw [y4v b m fun i hi => h i (by omega), h m (by omega)]
theorem y52 (a b : Nat) : (2 : Int) ^ (a + b) = 2 ^ a * 2 ^ b := Int.pow_add 2 a b
theorem y1u (n : Nat) : ((2 ^ n : Nat) : Int) = 2 ^ n := by simp
def pl (x k i : Nat) : Nat := x / 2 ^ (i * k) % 2 ^ k
theorem pl_tog (x k i : Nat) : tog x (i * k) 1 k = pl x k i := y7k x (i * k) k
theorem pl_lt (x k i : Nat) : pl x k i < 2 ^ k := Nat.mod_lt _ (Nat.two_pow_pos _)
theorem pl_over {x n k i : Nat} (h : x < 2 ^ n) (hi : n ≤ i * k) : pl x k i = 0 := by
 unfold pl
 rw [Nat.div_eq_of_lt (Nat.lt_of_lt_of_le h (Nat.pow_le_pow_right (by omega) hi)), Nat.zero_mod]
theorem pl_step (x k i : Nat) : x % 2 ^ (k * (i + 1)) = x % 2 ^ (k * i) + pl x k i * 2 ^ (k * i) := by
 unfold pl
 rw [Nat.mul_succ, Nat.pow_add, Nat.mod_mul, Nat.mul_comm i k, Nat.mul_comm (2 ^ (k * i))]
def sov (x k : Nat) : Nat → Nat
 | 0 => 0
 | i + 1 => (pl x k i + sov x k i + 2 ^ (k - 1)) / 2 ^ k
theorem y59 {k : Nat} (hk : 1 ≤ k) : 2 ^ k = 2 * 2 ^ (k - 1) := by
 obtain ⟨j, rfl⟩ : ∃ j, k = j + 1 := ⟨k - 1, by omega⟩
 rw [Nat.pow_succ, Nat.add_sub_cancel]
 omega
theorem y4a {k s : Nat} (hk : 1 ≤ k) (hs : s ≤ 2 ^ k) : (s + 2 ^ (k - 1)) / 2 ^ k = if 2 ^ (k - 1) ≤ s then 1 else 0 := by
 have h0 := Nat.two_pow_pos (k - 1)
 rw [y59 hk] at hs ⊢
 generalize 2 ^ (k - 1) = h at *
 split
 ·rw [Nat.div_eq_iff (by omega)]
  omega
 ·rw [Nat.div_eq_of_lt (by omega)]
theorem y49 (x : Nat) {k : Nat} (hk : 1 ≤ k) : ∀ i, sov x k i ≤ 1
 | 0 => by simp [sov]
 | i + 1 => by
  have h1 := y49 x hk i
  have h2 := pl_lt x k i
  unfold sov
  rw [y4a hk (by omega)]
  split <;> omega
def sdg (x k i : Nat) : Int := ((pl x k i + sov x k i : Nat) : Int) - ((sov x k (i + 1) : Nat) : Int) * 2 ^ k
theorem sdg_bd (x : Nat) {k : Nat} (hk : 1 ≤ k) (i : Nat) : -2 ^ (k - 1) ≤ sdg x k i ∧ sdg x k i < 2 ^ (k - 1) := by
 have h1 := y49 x hk i
 have h2 := pl_lt x k i
 obtain ⟨s, es⟩ : ∃ s, pl x k i + sov x k i = s := ⟨_, rfl⟩
 have hs : s ≤ 2 ^ k := by omega
 unfold sdg
 rw [sov, es, y4a hk hs, ← y1u, ← y1u]
 rw [y59 hk] at hs ⊢
 have h0 := Nat.two_pow_pos (k - 1)
 clear h1 h2 es
 generalize 2 ^ (k - 1) = h at *
 by_cases hc : h ≤ s
 ·rw [if_pos hc]
  omega
 ·rw [if_neg hc]
  omega
theorem sdg_vl (x : Nat) {k : Nat} : ∀ m, vl (sdg x k) k m = ((x % 2 ^ (k * m) : Nat) : Int) - ((sov x k m : Nat) : Int) * 2 ^ (k * m)
 | 0 => by simp [vl, sov, Nat.mod_one]
 | m + 1 => by
  unfold vl
  rw [sdg_vl x m, pl_step]
  unfold sdg
  rw [Nat.mul_succ, y52]
  push_cast
  generalize (2 : Int) ^ (k * m) = P
  generalize (2 : Int) ^ k = B
  generalize ((sov x k m : Nat) : Int) = a
  generalize ((sov x k (m + 1) : Nat) : Int) = b
  generalize ((pl x k m : Nat) : Int) = c
  generalize (x : Int) % P = d
  grind
theorem sov_last {x n k m : Nat} (h : x < 2 ^ n) (hm : n ≤ m * k) (hk : 2 ≤ k) : sov x k (m + 1) = 0 := by
 have h1 := y49 x (k := k) (by omega) m
 unfold sov
 rw [pl_over h hm, y4a (by omega) (Nat.le_trans (by omega : 0 + sov x k m ≤ 1) (Nat.two_pow_pos k)), if_neg]
 have : 2 ^ 1 ≤ 2 ^ (k - 1) := Nat.pow_le_pow_right (by omega) (by omega)
 omega
theorem sdg_all {x n k m : Nat} (h : x < 2 ^ n) (hm : n ≤ m * k) (hk : 2 ≤ k) : vl (sdg x k) k (m + 1) = (x : Int) := by
 rw [sdg_vl, sov_last h hm hk, Nat.mod_eq_of_lt (Nat.lt_of_lt_of_le h (Nat.pow_le_pow_right (by omega) (by rw [Nat.mul_succ, Nat.mul_comm k m]; omega)))]
 simp
def nst (x k : Nat) : Nat → Nat × Nat
 | 0 => (0, 0)
 | i + 1 => if i < (nst x k i).1 ∨ tb x i = (nst x k i).2 then nst x k i else (i + k, (x / 2 ^ i % 2 ^ k + (nst x k i).2 + 2 ^ (k - 1)) / 2 ^ k)
def nfr (x k i : Nat) : Nat := (nst x k i).1
def nov (x k i : Nat) : Nat := (nst x k i).2
def nz (x k i : Nat) : Prop := i < nfr x k i ∨ tb x i = nov x k i
instance (x k i : Nat) : Decidable (nz x k i) := inferInstanceAs (Decidable (_ ∨ _))
def cutN (k n : Nat) : Nat := if n % 2 = 1 then (if 2 ^ (k - 1) ≤ n % 2 ^ k then (n + (2 ^ k - n % 2 ^ k)) / 2 else (n - n % 2 ^ k) / 2) else n / 2
def left (x k : Nat) : Nat → Nat
 | 0 => x
 | i + 1 => cutN k (left x k i)
open Go.RowKit
theorem infoZ : (Tryz.prog.info? 3).map (fun i => (i.zero, i.size, i.bytes)) = some (some (.int .i64 0), 1, 8) := by kernel_rfl
theorem info_int : ∃ i, Tryz.prog.info? 3 = some i ∧ i.zero = some (.int .i64 0) ∧ i.size = 1 ∧ i.bytes = 8 := by
 cases hq : Tryz.prog.info? 3 with
 | none => have := infoZ; simp [hq] at this
 | some i =>
  have := infoZ
  simp [hq] at this
  exact ⟨i, rfl, this.1, this.2.1, this.2.2⟩
theorem AZ_zero (n : Nat) : AZ .i64 n (fun _ => 0) = Array.replicate n (.int .i64 0) := by
 apply Array.ext_getElem?
 intro j
 by_cases hj : j < n
 ·rw [z1c _ n _ j hj]
  simp [hj]
 ·rw [Array.getElem?_eq_none (by simpa [z0j] using hj), Array.getElem?_eq_none (by simpa using hj)]
theorem made_int (n : Nat) : madeCells (Value.int .i64 0).cells n = AZ .i64 n fun _ => 0 := by
 rw [AZ_zero]
 unfold madeCells
 apply Array.ext_getElem?
 intro j
 simp only [Array.getElem?_map, Array.getElem?_replicate]
 by_cases h : j < n
 ·simp [h, Value.cells, Nat.mod_one]
 ·simp [h]
theorem run_make_int (w : World) (l : Nat) (hc : l ≤ 1000000) : (Instr.makeSlice 155 (.int .i64 (l : Int)) (.int .i64 (l : Int))).run Tryz.prog w = .ok (.slice (some ⟨w.heap.size, 0, none⟩) l l) (w.alloc (zv 3 .i64 l fun _ => 0)) := by
 obtain ⟨i, hi, hz, hs, hb⟩ := info_int
 have h := run_makeSlice (P := Tryz.prog) w 155 3 i (.int .i64 0) Tryz.underlying155 hi hz .i64 .i64 (l : Int) (l : Int) (by omega) (by omega) (by rw [hs, Int.toNat_natCast]; omega) (by rw [hb]; omega) (by omega)
 rw [hs, Int.toNat_natCast, Nat.mul_one, made_int] at h
 exact h
section
variable {ops : Array Oper} {rest : List Oper} {o : Oper} {a : Act} {w w0 : World} {l : List (Nat × Obj)} {Q : Exit → Act → World → Prop}
theorem own_makeI (H : Hid (Ow w0 w l)) (hgd : o.guard = none) {x y : Operand} (ho : o.op = .makeSlice 155 x y) {n : Nat} (hx : a.eval x = .int .i64 (n : Int)) (hy : a.eval y = .int .i64 (n : Int)) (hc : n ≤ 1000000)
  (k : ∀ w' g, Hid (Ow w0 w' ((g, zv 3 .i64 n fun _ => 0) :: l)) → ∀ K : Act → World → Prop, (∀ a w, wpList Tryz.prog ops Q rest a w → K a w) → K (a.put o.dst (.slice (some ⟨g, 0, none⟩) n n)) w') : wpList Tryz.prog ops Q (o :: rest) a w :=
 wpList_plain hgd fun K hK => by
  unfold Oper.wp execOp
  simp only [ho, hx, hy, Sem.run_bind, run_make_int w n hc, Result.andThen_ok]
  exact k _ _ (za (H.out.alloc _)) K hK
end
theorem oneIz : IsOne Tryz.prog 3 .i64 := ⟨Tryz.underlying3, by kernel_rfl⟩
theorem mixO_upd (i : Nat) (f g : Nat → Int) : updZ (mix i f g) i (f i) = mix (i + 1) f g := by
 funext j
 unfold updZ mix
 by_cases h : j = i
 ·rw [if_pos h, if_pos (by omega), h]
 ·rw [if_neg h]
  by_cases h1 : j < i
  ·rw [if_pos h1, if_pos (by omega)]
  ·rw [if_neg h1, if_neg (by omega)]
structure SlZ (w : World) (B : Nat) (a : Option Addr) (n c : Nat) (f : Nat → Int) : Prop where
 le : n ≤ c
 nil : a = none → c = 0
 low : ∀ ad, a = some ad → 0 < n → ∃ b o, ad = ⟨b, o, none⟩ ∧ b < B ∧ ∀ i, i < n → w.cell? ⟨b, o + i, none⟩ = some (.int .i64 (f i))
section
variable {w w' : World} {B : Nat} {a : Option Addr} {n c : Nat} {f : Nat → Int}
theorem SlZ.get (h : SlZ w B a n c f) (i : Nat) (hi : i < n) : ∃ b o, a = some ⟨b, o, none⟩ ∧ b < B ∧ w.cell? ⟨b, o + i, none⟩ = some (.int .i64 (f i)) := by
 cases ha : a with
 | none =>
  have h1 := h.nil ha
  have h2 := h.le
  exfalso; omega
 | some ad =>
  obtain ⟨b, o, rfl, hb, hc⟩ := h.low ad ha (by omega)
  exact ⟨b, o, rfl, hb, hc i hi⟩
theorem SlZ.below (h : SlZ w B a n c f) (hb : Below B w w') : SlZ w' B a n c f :=
 ⟨h.le, h.nil, fun ad ha h0 => by
  obtain ⟨b, o, rfl, hlt, hc⟩ := h.low ad ha h0
  exact ⟨b, o, rfl, hlt, fun i hi => (hb.cell (p := ⟨b, o + i, none⟩) hlt).trans (hc i hi)⟩⟩
theorem SlZ.more {B' : Nat} (h : SlZ w B a n c f) (hB : B ≤ B') : SlZ w B' a n c f :=
 ⟨h.le, h.nil, fun ad ha h0 => by
  obtain ⟨b, o, rfl, hlt, hc⟩ := h.low ad ha h0
  exact ⟨b, o, rfl, by omega, hc⟩⟩
theorem SlZ.call (h : SlZ w w.heap.size a n c f) (hb : Below w.heap.size w w') : SlZ w' w'.heap.size a n c f := (h.below hb).more hb.size
theorem SlZ.congr {g : Nat → Int} (h : SlZ w B a n c f) (hg : ∀ i, i < n → f i = g i) : SlZ w B a n c g :=
 ⟨h.le, h.nil, fun ad ha h0 => by
  obtain ⟨b, o, rfl, hlt, hc⟩ := h.low ad ha h0
  exact ⟨b, o, rfl, hlt, fun i hi => by rw [hc i hi, hg i hi]⟩⟩
theorem SlZ.nought (w : World) (B : Nat) (f : Nat → Int) : SlZ w B none 0 0 f := ⟨Nat.le_refl _, fun _ => rfl, fun _ e _ => by cases e⟩
theorem SlZ.row {g : Nat} {t : TypeId} (h : w.heap[g]? = some (zv t .i64 n f)) : SlZ w w.heap.size (some ⟨g, 0, none⟩) n n f :=
 ⟨Nat.le_refl _, (fun e => by cases e), fun ad e _ => ⟨g, 0, (Option.some.inj e).symm, z01 h, fun i hi => by
  have hr : w.heap[g]? = some (.cells (AZ .i64 n f) t) := h
  rw [Nat.zero_add, cell_of_row _ _ _ _ _ _ hr, z1c _ _ _ _ hi]⟩⟩
end
def OwnZ (w : World) (base : Nat) (v : Value) (n : Nat) (f : Nat → Int) : Prop := w.ownsRow base 3 1 v n ((List.range n).map fun i => Value.int .i64 (f i))
theorem OwnZ.nil (w : World) (base : Nat) (f : Nat → Int) : OwnZ w base (.slice none 0 0) 0 f := ⟨rfl, .inl ⟨rfl, rfl⟩⟩
theorem OwnZ.alloc {w : World} {base : Nat} {v : Value} {n : Nat} {f : Nat → Int} (h : OwnZ w base v n f) (o : Obj) : OwnZ (w.alloc o) base v n f := by
 obtain ⟨hl, hv⟩ := h
 refine ⟨hl, ?_⟩
 rcases hv with h0 | ⟨g, cap, cur, hv, hg, hrow, hr⟩
 ·exact .inl h0
 ·exact .inr ⟨g, cap, cur, hv, hg, (z2d _ _ _ (z6q hrow)).trans hrow, hr⟩
theorem OwnZ.call {w w' : World} {base : Nat} {v : Value} {n : Nat} {f : Nat → Int} (h : OwnZ w base v n f) (hb : Below w.heap.size w w') : OwnZ w' base v n f := by
 obtain ⟨hl, hv⟩ := h
 refine ⟨hl, ?_⟩
 rcases hv with h0 | ⟨g, cap, cur, hv, hg, hrow, hr⟩
 ·exact .inl h0
 ·exact .inr ⟨g, cap, cur, hv, hg, (hb.block _ (z6q hrow)).trans hrow, hr⟩
theorem OwnZ.congr {w : World} {base : Nat} {v : Value} {n : Nat} {f g : Nat → Int} (h : OwnZ w base v n f) (hg : ∀ i, i < n → f i = g i) : OwnZ w base v n g := by
 have e : ((List.range n).map fun i => Value.int .i64 (f i)) = (List.range n).map fun i => Value.int .i64 (g i) := List.map_congr_left fun i hi => by rw [hg i (List.mem_range.1 hi)]
 unfold OwnZ at h ⊢
 rwa [e] at h
theorem OwnZ.sl {w : World} {base : Nat} {v : Value} {n : Nat} {f : Nat → Int} (h : OwnZ w base v n f) : ∃ a c, v = .slice a n c ∧ SlZ w w.heap.size a n c f := by
 obtain ⟨hl, hv⟩ := h
 rcases hv with ⟨rfl, h0⟩ | ⟨g, cap, cur, rfl, hg, hrow, hle, _, hcs, htake⟩
 ·subst h0
  exact ⟨none, 0, rfl, SlZ.nought _ _ _⟩
 ·refine ⟨some ⟨g, 0, none⟩, cap, rfl, hle, (fun e => by cases e), fun ad e _ => ⟨g, 0, (Option.some.inj e).symm, z6q hrow, fun i hi => ?_⟩⟩
  rw [Nat.zero_add, cell_of_row _ _ _ _ _ _ hrow]
  have := congrArg (·[i]?) htake
  rw [Nat.mul_one] at this
  simpa [hi] using this
structure RdB (w : World) (g : Nat) (a : Option Addr) (n c x : Nat) : Prop where
 cell : w.cell? ⟨g, 0, none⟩ = some (.slice a n c)
 sb : Sb w w.heap.size a n c x
theorem and1_u8 : ∀ v : Nat, v < 256 → bits .and .u8 (v : Int) 1 = ((v % 2 : Nat) : Int) := by decide +kernel
theorem byte_bit (x i : Nat) : ∀ q s, i / 8 = q → i % 8 = s → wrap64 (bits .and .u8 (U8 (bt x q) / 2 ^ s) 1) = ((tb x i : Nat) : Int) := by
 intro q s hq hs
 subst hq hs
 have h1 : U8 (bt x (i / 8)) / 2 ^ (i % 8) = ((dg x (i / 8) / 2 ^ (i % 8) : Nat) : Int) := by
  rw [y2d]
  push_cast
  rfl
 have h2 : dg x (i / 8) / 2 ^ (i % 8) < 256 := Nat.lt_of_le_of_lt (Nat.div_le_self _ _) (z80 _ _)
 rw [h1, and1_u8 _ h2, dg_bit]
 have h3 := tb_lt x i
 unfold tb at h3 ⊢
 exact IntWalk.wrap64_in _ ⟨by omega, by omega⟩
abbrev Bit (g : Nat) : Value := .func (.func 201) #[] #[.pointer (some ⟨g, 0, none⟩)]
theorem bit_v {w : World} {g : Nat} {a : Option Addr} {n c x : Nat} (i : Nat) (z : Int) (hz : z = (i : Int)) (hR : RdB w g a n c x) (hn : n ≤ 1000) (hi : i ≤ 1000000) :
  Calls Tryz.prog 201 #[.int .i64 z, .pointer (some ⟨g, 0, none⟩)] w fun e w' => e = .returned (.int .i64 ((tb x i : Nat) : Int)) ∧ w' = w := by
 subst hz
 have hc := hR.cell
 have HS := za hR.sb
 clear hR
 by_cases hlt : i < 8 * n
 ·have hid : decide (8 * (n : Int) ≤ (i : Int)) = false := by simp; omega
  obtain ⟨q, hq⟩ : ∃ q, i / 8 = q := ⟨_, rfl⟩
  obtain ⟨s, hs⟩ : ∃ s, i % 8 = s := ⟨_, rfl⟩
  have e1 : (i : Int) / 8 = (q : Int) := by omega
  have e2 : (i : Int) % 8 = (s : Int) := by omega
  have e3 : (i : Int).tmod 8 = (s : Int) := by rw [Int.tmod_eq_emod_of_nonneg (by omega)]; exact e2
  have e4 : (i : Int).tdiv 8 = (q : Int) := by rw [Int.tdiv_eq_ediv_of_nonneg (by omega)]; exact e1
  have hqn : (q : Int) < (n : Int) := by omega
  obtain ⟨b, o, rfl, _, hb⟩ := HS.out.sl.get q (by omega)
  have E := za (byte_bit x i q s hq hs)
  have hs8 : (s : Int) < 8 := by omega
  clear hlt hq hs
  go_enter Tryz.func201, Tryz.ntmps201
  go_wp2
  go_ret
  exact ⟨congrArg (fun n => Ending.returned (.int .i64 n)) E.out, rfl⟩
 ·have hid : decide (8 * (n : Int) ≤ (i : Int)) = true := by simp; omega
  have E := za (tb_over HS.out.fits (i := i) (by omega))
  clear hlt
  go_enter Tryz.func201, Tryz.ntmps201
  go_wp2
  go_ret
  exact ⟨by rw [E.out]; rfl, rfl⟩
theorem parts_v (a : Option Addr) (n c k : Nat) (w : World) (hn : n ≤ 1000000) (hk : 0 < k) (hk8 : k ≤ 8) (m : Nat) (hm : (8 * n + k - 1) / k = m) :
  Calls Tryz.prog 195 #[.slice a n c, .int .i64 (k : Int)] w fun e w' => e = .returned (.int .i64 (m : Int)) ∧ w' = w := by
 have e1 : (8 * (n : Int) + (k : Int) - 1) / (k : Int) = (m : Int) := by
  subst hm
  rw [← Int.ofNat_ediv_ofNat]
  congr 1
  omega
 have e2 : (8 * (n : Int) + (k : Int) - 1).tdiv (k : Int) = (m : Int) := by rw [Int.tdiv_eq_ediv_of_nonneg (by omega)]; exact e1
 have hk' : ((k : Int) == 0) = false := by simp; omega
 have hk0 : (k : Int) ≠ 0 := by omega
 have hmb : m ≤ 10000000 := by
  have := Nat.div_le_self (8 * n + k - 1) k
  omega
 clear hm
 go_enter Tryz.func195, Tryz.ntmps195
 go_wp2
 go_ret
 exact ⟨rfl, rfl⟩
theorem reader_v (a : Option Addr) (n c x : Nat) (w0 w : World) (l : List (Nat × Obj)) (h : Ow w0 w l) (_hs : Sb w w.heap.size a n c x) :
  Calls Tryz.prog 191 #[.slice a n c] w fun e w' => ∃ g, e = .returned (Bit g) ∧ Ow w0 w' ((g, Oc 22 (.slice a n c)) :: l) ∧ Below w.heap.size w w' := by
 go_enter Tryz.func191, Tryz.ntmps191
 go_wp2
 go_ret
 exact ⟨_, rfl, h.alloc _, z1z _ _⟩
theorem or_bit : ∀ k : Nat, k < 8 → ∀ s : Nat, s < 256 → ∀ b : Nat, b < 2 → s < 2 ^ k → bits .or .i64 (s : Int) (wrap64 ((b : Int) * 2 ^ k)) = ((s + b * 2 ^ k : Nat) : Int) := by decide +kernel
theorem together_v {w : World} {g : Nat} {a : Option Addr} {n c x : Nat} (f p k : Nat) (zf zp : Int) (hzf : zf = (f : Int)) (hzp : zp = (p : Int)) (hR : RdB w g a n c x) (hn : n ≤ 100) (hf : f ≤ 10000) (hp : p ≤ 10000) (hk : k ≤ 8) :
  Calls Tryz.prog 193 #[Bit g, .int .i64 zf, .int .i64 zp, .int .i64 (k : Int)] w fun e w' => e = .returned (.int .i64 ((tog x f p k : Nat) : Int)) ∧ w' = w := by
 subst hzf hzp
 have HR := za hR
 clear hR
 go_enter Tryz.func193, Tryz.ntmps193
 go_wp2_with fail
 go_loop [9, 12] (fun v9 v12 => ∃ i : Nat, i ≤ k ∧ v12 = .int .i64 i ∧ v9 = .int .i64 ((tog x f p i : Nat) : Int)) (fun _ v12 => k - (intOf v12).toNat)
 case atStart => exact ⟨0, by omega, rfl, rfl⟩
 case round =>
  obtain ⟨i, hi, rfl, rfl⟩ := hrel
  by_cases hlt : i < k
  ·have hid : decide ((i : Int) < (k : Int)) = true := by simp; omega
   have hm : (i : Int) * (p : Int) = ((i * p : Nat) : Int) := by push_cast; rfl
   have hmb : i * p ≤ 80000 := Nat.le_trans (Nat.mul_le_mul (by omega : i ≤ 8) hp) (by omega)
   have hb := tb_lt x (f + i * p)
   have hs := tog_lt x f p i
   have hs2 : 2 ^ i ≤ 2 ^ 7 := Nat.pow_le_pow_right (by omega) (by omega)
   have E := za (or_bit i (by omega) (tog x f p i) (by omega) (tb x (f + i * p)) hb hs)
   have ES : Hid (tog x f p (i + 1) = tog x f p i + tb x (f + i * p) * 2 ^ i) := za rfl
   obtain ⟨q, hq⟩ : ∃ q, i * p = q := ⟨_, rfl⟩
   rw [hq] at hm hmb hb E ES
   clear hs2 hq
   go_wp2_with ((with_reducible refine (bit_v (f + q) ((f : Int) + (q : Int)) (by omega) HR.out (by omega) (by omega)).mono ?_); rintro e w' ⟨rfl, rfl⟩)
   go_round
   case rel => exact ⟨i + 1, by omega, by go_num, by rw [ES.out, ← E.out]⟩
   case measure => (simp [intOf] <;> omega)
  ·obtain rfl : i = k := by omega
   have hid : decide ((i : Int) < (i : Int)) = false := by simp
   clear hlt
   go_wp2_with fail
   go_ret
   exact ⟨rfl, rfl⟩
theorem beyond_v {w : World} {g : Nat} {a0 a1 a2 a3 a4 a5 a6 a7 : Int} {t : TypeId} (r : Int) (hr : (if a0 < a1 ∨ a2 < a0 then a3 else if a4 < a5 ∨ a6 < a4 then a7 else 0) = r) (hrow : w.heap[g]? = some (.cells #[.int .i64 a0, .int .i64 a1, .int .i64 a2, .int .i64 a3, .int .i64 a4, .int .i64 a5, .int .i64 a6, .int .i64 a7] t)) :
  Calls Tryz.prog 200 #[.slice (some ⟨g, 0, none⟩) 2 2] w fun e w' => e = .returned (.int .i64 r) ∧ Below w.heap.size w w' := by
 have hg := z6q hrow
 have HR : Hid (∀ wr, Below w.heap.size w wr → wr.heap[g]? = some (.cells #[.int .i64 a0, .int .i64 a1, .int .i64 a2, .int .i64 a3, .int .i64 a4, .int .i64 a5, .int .i64 a6, .int .i64 a7] t)) := za fun wr h => (h.block _ hg).trans hrow
 have ER := za hr
 clear hrow hr
 go_enter Tryz.func200, Tryz.ntmps200
 go_wp2_with fail
 go_loopw [7] (fun v wr => ∃ i : Nat, i ≤ 2 ∧ v = .int .i64 i ∧ (0 < i → ¬ (a0 < a1 ∨ a2 < a0)) ∧ (1 < i → ¬ (a4 < a5 ∨ a6 < a4)) ∧ Below w.heap.size w wr) (fun v _ => 2 - (intOf v).toNat)
 case atStart => exact ⟨0, by omega, rfl, by omega, by omega, Below.refl _ _⟩
 case round =>
  obtain ⟨i, hi, rfl, h0, h1, hb⟩ := hrel
  have hrow := HR.out wr hb
  rcases (by omega : i = 0 ∨ i = 1 ∨ i = 2) with rfl | rfl | rfl
  ·have c0 : wr.cell? ⟨g, 0, none⟩ = some (.int .i64 a0) := by rw [cell_of_row _ _ _ _ _ _ hrow]; rfl
   have c1 : wr.cell? ⟨g, 1, none⟩ = some (.int .i64 a1) := by rw [cell_of_row _ _ _ _ _ _ hrow]; rfl
   have c2 : wr.cell? ⟨g, 2, none⟩ = some (.int .i64 a2) := by rw [cell_of_row _ _ _ _ _ _ hrow]; rfl
   have c3 : wr.cell? ⟨g, 3, none⟩ = some (.int .i64 a3) := by rw [cell_of_row _ _ _ _ _ _ hrow]; rfl
   have HB := za hb
   clear hrow hb h0 h1 hi
   by_cases hx : a0 < a1
   ·have d0 : decide (a0 < a1) = true := by simpa using hx
    have E : Hid (a0 < a1 ∨ a2 < a0) := za (.inl hx)
    clear hx
    go_wp2_with fail
    go_ret
    exact ⟨by rw [← ER.out, if_pos E.out]; rfl, HB.out.alloc (HB.out.size) _⟩
   ·have d0 : decide (a0 < a1) = false := by simpa using hx
    by_cases hy : a2 < a0
    ·have d1 : decide (a2 < a0) = true := by simpa using hy
     have E : Hid (a0 < a1 ∨ a2 < a0) := za (.inr hy)
     clear hx hy
     go_wp2_with fail
     go_ret
     exact ⟨by rw [← ER.out, if_pos E.out]; rfl, HB.out.alloc (HB.out.size) _⟩
    ·have d1 : decide (a2 < a0) = false := by simpa using hy
     have E : Hid (¬ (a0 < a1 ∨ a2 < a0)) := za (fun h => h.elim hx hy)
     clear hx hy
     go_wp2_with fail
     go_roundw
     case rel => exact ⟨1, by omega, by go_num, fun _ => E.out, by omega, HB.out.alloc (HB.out.size) _⟩
     case measure => simp [intOf]
  ·have c4 : wr.cell? ⟨g, 4, none⟩ = some (.int .i64 a4) := by rw [cell_of_row _ _ _ _ _ _ hrow]; rfl
   have c5 : wr.cell? ⟨g, 5, none⟩ = some (.int .i64 a5) := by rw [cell_of_row _ _ _ _ _ _ hrow]; rfl
   have c6 : wr.cell? ⟨g, 6, none⟩ = some (.int .i64 a6) := by rw [cell_of_row _ _ _ _ _ _ hrow]; rfl
   have c7 : wr.cell? ⟨g, 7, none⟩ = some (.int .i64 a7) := by rw [cell_of_row _ _ _ _ _ _ hrow]; rfl
   have HB := za hb
   have HN := za (h0 (by omega))
   clear hrow hb h0 h1 hi
   by_cases hx : a4 < a5
   ·have d0 : decide (a4 < a5) = true := by simpa using hx
    have E : Hid (a4 < a5 ∨ a6 < a4) := za (.inl hx)
    clear hx
    go_wp2_with fail
    go_ret
    exact ⟨by rw [← ER.out, if_neg HN.out, if_pos E.out]; rfl, HB.out.alloc (HB.out.size) _⟩
   ·have d0 : decide (a4 < a5) = false := by simpa using hx
    by_cases hy : a6 < a4
    ·have d1 : decide (a6 < a4) = true := by simpa using hy
     have E : Hid (a4 < a5 ∨ a6 < a4) := za (.inr hy)
     clear hx hy
     go_wp2_with fail
     go_ret
     exact ⟨by rw [← ER.out, if_neg HN.out, if_pos E.out]; rfl, HB.out.alloc (HB.out.size) _⟩
    ·have d1 : decide (a6 < a4) = false := by simpa using hy
     have E : Hid (¬ (a4 < a5 ∨ a6 < a4)) := za (fun h => h.elim hx hy)
     clear hx hy
     go_wp2_with fail
     go_roundw
     case rel => exact ⟨2, by omega, by go_num, fun _ => HN.out, fun _ => E.out, HB.out.alloc (HB.out.size) _⟩
     case measure => simp [intOf]
  ·have HN := za (h0 (by omega))
   have HM := za (h1 (by omega))
   have HB := za hb
   clear hrow hb h0 h1 hi
   go_wp2_with fail
   go_ret
   exact ⟨by rw [← ER.out, if_neg HN.out, if_neg HM.out]; rfl, HB.out⟩
def ask (n : Nat) (k least : Int) : Int := if 64 < n then 11 else if k < least ∨ 8 < k then 10 else 0
theorem ask_eq (n : Nat) (k least : Int) : (if (n : Int) < 0 ∨ (64 : Int) < (n : Int) then (11 : Int) else if k < least ∨ 8 < k then 10 else 0) = ask n k least := by
 unfold ask
 by_cases h : 64 < n
 ·rw [if_pos (by omega), if_pos h]
 ·rw [if_neg (by omega), if_neg h]
theorem asked_v (a : Option Addr) (n c : Nat) (k least : Int) (w : World) :
  Calls Tryz.prog 190 #[.slice a n c, .int .i64 k, .int .i64 least] w fun e w' => e = .returned (.int .i64 (ask n k least)) ∧ Below w.heap.size w w' := by
 have E := za (ask_eq n k least)
 generalize ask n k least = r at *
 go_enter Tryz.func190, Tryz.ntmps190
 go_wp2_with ((with_reducible refine (beyond_v r E.out (heap_alloc_last _ _)).mono ?_); rintro e w' ⟨rfl, hb⟩; have HB := za ((z1z _ _).trans (hb.mono (by simp))); clear hb)
 go_ret
 exact ⟨rfl, HB.out⟩
theorem cellF : IsCell Tryz.prog 217 := ⟨fun w => by unfold isAgg; rw [Sem.run_bind, run_underlying Tryz.underlying217 w]; rfl, by kernel_rfl⟩
theorem cellZ : IsCell Tryz.prog 3 := ⟨fun w => by unfold isAgg; rw [Sem.run_bind, run_underlying Tryz.underlying3 w]; rfl, by kernel_rfl⟩
theorem nilF (w : World) : (zeroValue 217).run Tryz.prog w = .ok .nilFunc w := by kernel_rfl
theorem signed1_v {w : World} {g gb gq : Nat} {a : Option Addr} {n c x : Nat} (i k o : Nat) (zo : Int) (hzo : zo = (o : Int)) (hR : RdB w g a n c x) (hb : w.cell? ⟨gb, 0, none⟩ = some (Bit g)) (hc : w.cell? ⟨gq, 0, none⟩ = some (.int .i64 (k : Int)))
  (hn : n ≤ 64) (hk : k ≤ 8) (hi : i * k ≤ 10000) (ho : o ≤ 1) (s : Nat) (hs : pl x k i + o = s) :
  Calls Tryz.prog 192 #[.int .i64 (i : Int), .int .i64 zo, .pointer (some ⟨gb, 0, none⟩), .pointer (some ⟨gq, 0, none⟩)] w fun e w' => e = .returned (.tuple #[.int .i64 (s : Int), .bool true]) ∧ w' = w := by
 subst hzo
 have HR := za hR
 have hmul : (i : Int) * (k : Int) = ((i * k : Nat) : Int) := by push_cast; rfl
 have EQ : Hid (tog x (i * k) 1 k = pl x k i) := za (pl_tog x k i)
 have hpl := pl_lt x k i
 have hp8 : 2 ^ k ≤ 2 ^ 8 := Nat.pow_le_pow_right (by omega) hk
 have hp : pl x k i ≤ 256 := by omega
 obtain ⟨q, hq⟩ : ∃ q, i * k = q := ⟨_, rfl⟩
 rw [hq] at hi hmul EQ
 have es : ((pl x k i : Nat) : Int) + (o : Int) = (s : Int) := by omega
 clear hR hpl hp8 hq hs
 go_enter Tryz.func192, Tryz.ntmps192
 go_wp2_with ((with_reducible refine (together_v q 1 k (q : Int) 1 rfl (by omega) HR.out (by omega) hi (by omega) hk).mono ?_); rintro e wc ⟨rfl, rfl⟩; rw [EQ.out])
 go_ret2
 exact ⟨rfl, rfl⟩
theorem over_parts {k j s : Nat} (hj : k = j + 1) (hk8 : k ≤ 8) (hs : s ≤ 512) : ∃ h o p : Nat, wrap64 ((2 : Int) ^ j) = (h : Int) ∧ h ≤ 128 ∧ ((s : Int) + (h : Int)) / 2 ^ k = (o : Int) ∧ o ≤ 640 ∧ wrap64 ((o : Int) * 2 ^ k) = (p : Int) ∧ p ≤ 170000 ∧ (s + 2 ^ (k - 1)) / 2 ^ k = o ∧ p = o * 2 ^ k := by
 have hp : 2 ^ j ≤ 2 ^ 7 := Nat.pow_le_pow_right (by omega) (by omega)
 have hp2 : 2 ^ k ≤ 2 ^ 8 := Nat.pow_le_pow_right (by omega) hk8
 have hd := Nat.div_le_self (s + 2 ^ j) (2 ^ k)
 have hm : (s + 2 ^ j) / 2 ^ k * 2 ^ k ≤ 640 * 256 := Nat.mul_le_mul (by omega) hp2
 refine ⟨2 ^ j, (s + 2 ^ j) / 2 ^ k, (s + 2 ^ j) / 2 ^ k * 2 ^ k, ?_, by omega, ?_, by omega, ?_, by omega, by rw [hj, Nat.add_sub_cancel], rfl⟩
 ·rw [← y1u]
  clear hd hm
  generalize 2 ^ j = u at *
  exact IntWalk.wrap64_in _ ⟨by omega, by omega⟩
 ·push_cast
  rfl
 ·have : ((((s + 2 ^ j) / 2 ^ k : Nat) : Int) * 2 ^ k) = (((s + 2 ^ j) / 2 ^ k * 2 ^ k : Nat) : Int) := by push_cast; rfl
  rw [this]
  exact IntWalk.wrap64_in _ ⟨by omega, by omega⟩
theorem carried_s {w0 : World} (w : World) {g gb gq : Nat} {a : Option Addr} {n c x : Nat} (nn k : Nat) (H0 : Ow w0 w [(gb, Oc 217 (Bit g)), (g, Oc 22 (.slice a n c)), (gq, Oc 3 (.int .i64 (k : Int)))]) (hs : Sb w0 w0.heap.size a n c x)
  (hn : n ≤ 64) (hk : 1 ≤ k) (hk8 : k ≤ 8) (hnn : nn * k ≤ 10000) (hn1 : nn ≤ 10000) :
  Calls Tryz.prog 194 #[.int .i64 (nn : Int), .int .i64 (k : Int), .func (.func 192) #[] #[.pointer (some ⟨gb, 0, none⟩), .pointer (some ⟨gq, 0, none⟩)]] w fun e w' => ∃ go, e = .returned (.slice (some ⟨go, 0, none⟩) nn nn) ∧ Ow w0 w' [(go, zv 3 .i64 nn (sdg x k)), (gb, Oc 217 (Bit g)), (g, Oc 22 (.slice a n c)), (gq, Oc 3 (.int .i64 (k : Int)))] := by
 have HS := za hs
 have H := za H0
 have HK : Hid (∀ i, i < nn → i * k ≤ 10000) := za fun i hi => Nat.le_trans (Nat.mul_le_mul_right k (by omega)) hnn
 obtain ⟨j, hj⟩ : ∃ j, k = j + 1 := ⟨k - 1, by omega⟩
 have hkj : (k : Int) - 1 = (j : Int) := by omega
 have HJ := za hj
 have HOV : Hid (∀ i, sov x k i ≤ 1) := za (y49 x (by omega))
 have j8 : j < 8 := by omega
 clear hs H0 hnn hj
 go_enter Tryz.func194, Tryz.ntmps194
 go_wp2_with fail
 go_step3
 go_wp2_with (first
  | ((with_reducible apply own_makeI (n := nn) H); (case hgd | ho | hx | hy => exact rfl); (case hc => omega); clear H; intro wd go H _ _; go_simp))
 go_step3
 go_wp2_with fail
 go_loopg [8, 15] nn (fun gk v8 v wr => ∃ i : Nat, i + gk = nn ∧ v = .int .i64 i ∧ v8 = .int .i64 ((sov x k i : Nat) : Int) ∧ Ow w0 wr [(go, zv 3 .i64 nn (mix i (sdg x k) fun _ => 0)), (gb, Oc 217 (Bit g)), (g, Oc 22 (.slice a n c)), (gq, Oc 3 (.int .i64 (k : Int)))])
 case atStart => exact ⟨0, by omega, rfl, rfl, by rw [z6h]; exact H.out⟩
 case round =>
  clear H
  obtain ⟨i, hi, rfl, rfl, HO⟩ := hrel
  have H := za HO
  clear HO
  cases gk with
  | succ go9 =>
   have hlt : i < nn := by omega
   have hid : decide ((i : Int) < (nn : Int)) = true := by simp; omega
   have HIK := za (HK.out i hlt)
   have hov := HOV.out i
   obtain ⟨s, es⟩ : ∃ s, pl x k i + sov x k i = s := ⟨_, rfl⟩
   obtain ⟨o, eo⟩ : ∃ o, sov x k i = o := ⟨_, rfl⟩
   rw [eo] at hov es ⊢
   have ES := za es
   have hpl := pl_lt x k i
   have hp8 : 2 ^ k ≤ 2 ^ 8 := Nat.pow_le_pow_right (by omega) hk8
   have hs5 : s ≤ 512 := by omega
   obtain ⟨h, o', p, e1, hb1, e2, hb2, e3, hb3, q1, q2⟩ := over_parts HJ.out hk8 hs5
   obtain ⟨d, e4⟩ : ∃ d : Int, (s : Int) - (p : Int) = d := ⟨_, rfl⟩
   have SO : sov x k (i + 1) = o' := by
    rw [sov, eo, es]
    exact q1
   have SD : sdg x k i = d := by
    unfold sdg
    rw [SO, eo, es, ← y1u, ← e4, q2]
    push_cast
    rfl
   have HSO := za SO
   have HE : Hid (updZ (mix i (sdg x k) fun _ => 0) i d = mix (i + 1) (sdg x k) fun _ => 0) := za (by rw [← SD]; exact mixO_upd i (sdg x k) fun _ => 0)
   have hd1 : -200000 ≤ d := by omega
   have hd2 : d ≤ 512 := by omega
   have hlt' : (i : Int) < (nn : Int) := by omega
   clear es SO SD q1 q2 hpl hp8 hk
   go_wp2_with (first
    | ((with_reducible refine (signed1_v i k o (o : Int) rfl ⟨H.out.oc 2 rfl, HS.out.call H.out.bel⟩ (H.out.oc 1 rfl) (H.out.oc 3 rfl) hn hk8 HIK.out hov s ES.out).mono ?_); rintro e wc ⟨rfl, rfl⟩)
    | ((with_reducible apply z2z oneIz H); (case hgd | ho | hx | hy => exact rfl); (case hi => exact z5); (case hj => omega); clear H; intro ws H _ _; simp only [qb] at H; rw [HE.out] at H; go_simp))
   go_roundg go9
   case rel => exact ⟨i + 1, by omega, by go_num, by rw [HSO.out], H.out⟩
   case measure => omega
  | zero =>
   obtain rfl : nn = i := by omega
   have hid : decide ((nn : Int) < (nn : Int)) = false := by simp
   have H2 := za (H.out.like 0 (g := sdg x k) rfl fun j hj => z4n _ _ _ _ hj)
   simp only [qb] at H2
   clear hi H hk
   generalize sov x k nn = o
   go_wp2_with fail
   try rw [Exit.noGoto_ret]
   go_ret
   exact ⟨go, rfl, H2.out⟩
theorem signed_v (a : Option Addr) (n c x k m : Nat) (w : World) (hn : n ≤ 64) (hk : 2 ≤ k) (hk8 : k ≤ 8) (hm : (8 * n + k - 1) / k = m) (hs : Sb w w.heap.size a n c x) :
  Calls Tryz.prog 184 #[.slice a n c, .int .i64 (k : Int)] w fun e w' => ∃ g, e = .returned (.tuple #[.slice (some ⟨g, 0, none⟩) (m + 1) (m + 1), .int .i64 0]) ∧ w.heap.size ≤ g ∧ w'.heap[g]? = some (zv 3 .i64 (m + 1) (sdg x k)) ∧ Below w.heap.size w w' := by
 have E : Hid (ask n (k : Int) 2 = 0) := za (by unfold ask; rw [if_neg (by omega), if_neg (by omega)])
 have HS := za hs
 have HM := za hm
 have hmb : m ≤ 600 := by
  have := Nat.div_le_self (8 * n + k - 1) k
  omega
 have HMK : Hid ((m + 1) * k ≤ 10000) := za (by
  have := Nat.div_mul_le_self (8 * n + k - 1) k
  rw [hm] at this
  rw [Nat.add_mul]
  omega)
 clear hs hm
 have H := za (Ow.start w)
 go_enter Tryz.func184, Tryz.ntmps184
 go_wp2_with (first
  | ((fail_if_success have := g1); (with_reducible apply y5j (z48 .i64 (k : Int)) H); (case hgd | ho | hx => exact rfl); clear H; intro w1 g1 H _ _; go_simp)
  | ((with_reducible apply z4u cellZ H); (case hgd | ho | hx => exact rfl); (case hi => exact z5); intro _ _; go_simp)
  | ((with_reducible refine (asked_v a n c (k : Int) 2 _).mono ?_); rintro e wa ⟨rfl, hb⟩; rw [E.out]; replace H := zd H hb; clear hb)
  | ((with_reducible refine (reader_v a n c x w _ _ H.out (HS.out.call H.out.bel)).mono ?_); rintro e wb ⟨g2, rfl, hO, _⟩; replace H := za hO; clear hO)
  | ((fail_if_success have := g3); (with_reducible apply z4v nilF one_nil H); (case hgd | ho => exact rfl); clear H; intro w3 g3 H _ _; go_simp)
  | ((with_reducible apply z4t cellF (one_func _ _ _) H); (case hgd | ho | hx | hy => exact rfl); (case hi => exact z5); clear H; intro ws H _ _; simp only [qb] at H; go_simp))
 refine wp_region_noPanic ?_
 refine wp_region_held_drew (S := fun W => W.heap[g1]? = some (Oc 3 (.int .i64 (k : Int)))) (by kernel_rfl) (H.out.drew.row 2 rfl) (fun hH => ?_)
 replace H := za H.out.drew
 generalize World.drew _ = w8 at *
 refine zh 0 18 (.slice a n c) hH ?_
 refine z3x 1 19 cellZ rfl rfl rfl hH rfl rfl (fun _ h => h) ?_
 refine z3x 4 22 cellZ rfl rfl rfl hH rfl rfl (fun _ h => h) ?_
 refine zh 5 23 (.func (.func 192) #[] #[.pointer (some ⟨g3, 0, none⟩), .pointer (some ⟨g1, 0, none⟩)]) hH ?_
 refine zn 2 rfl fun K hK => ?_
 go_simp
 refine (parts_v a n c k _ (by omega) (by omega) hk8 m HM.out).mono ?_
 rintro e wc ⟨rfl, rfl⟩
 refine hK.out _ _ hH (fun hN => ?_)
 have hH := hN
 clear hN
 refine z0h 3 21 (.int .i64 ((m : Int) + 1)) rfl rfl rfl hH (fun w hw => by go_simp; rw [IntKind.wrap_i64]; omega) ?_
 refine zn 6 rfl fun K hK => ?_
 go_simp
 refine (carried_s (n := n) (a := a) (c := c) (g := g2) (gb := g3) (gq := g1) _ (m + 1) k H.out HS.out hn (by omega) hk8 HMK.out (by omega)).mono ?_
 rintro e wd ⟨g5, rfl, hO⟩
 replace H := za hO
 refine zc hK (zb H 3) fun hH => ?_
 try simp only [Act.put, qa, qb, qc]
 refine zh 7 4 (.slice (some ⟨g5, 0, none⟩) (m + 1) (m + 1)) hH ?_
 refine zh 8 5 (.int .i64 0) hH ?_
 refine zm ?_
 go_wp2_with fail
 go_ret2
 exact ⟨_, rfl, H.out.ge 0 rfl, H.out.row 0 rfl, H.out.bel⟩
end Go.Proofs.YtgjbonikbmgfmaaGreatDoor
