/-
  The contract of number.Div.
-/
import Derived.Test.YtmnokjapapheiaaNuDivM
import Derived.Test.YtmnokjapapheiaaNuLess
import Derived.Test.YtmnokjapapheiaaNuCopy
import Derived.Test.YtmnokjapapheiaaNuDouble
import Derived.Test.YtmnokjapapheiaaNuDown
import Derived.Test.YtmnokjapapheiaaNuCmp
import Derived.Test.YtmnokjapapheiaaNuLen
namespace Go.Proofs.Ytmnokjapapheiaa
open Go.RowKit

set_option maxHeartbeats 1000000 in
theorem div_zero (a : Option Addr) (n c x : Nat) (a' : Option Addr) (m c' : Nat) (w : World) (hn : n ≤ 400000) (hm : m ≤ 400000) (h : Sw w w.heap.size a n c x) (h' : Sw w w.heap.size a' m c' 0) :
    Calls Try.prog 33 #[.slice a n c, .slice a' m c'] w fun e w' => e = .returned (.tuple #[.slice none 0 0, .slice none 0 0, .int .i64 15]) ∧ w' = w := by
  have H := Lib.hid h
  have H' := Lib.hid h'
  have E0 := Lib.hid (dl_zero 64 (by omega))
  clear h h'
  go_enter Try.func33, Try.ntmps33
  go_wp2_with fail
  go_step3
  go_wp2_with (first
    | ((with_reducible refine (trim_any a n c x _ (by omega) H.out).mono ?_); rintro e w' ⟨rfl, rfl⟩)
    | ((with_reducible refine (trim_any a' m c' 0 _ (by omega) H'.out).mono ?_); rintro e w' ⟨rfl, rfl⟩; rw [E0.out]))
  simp only [Exit.noGoto]
  go_ret3
  exact ⟨rfl, rfl⟩
@[go_sem] theorem u64_pow (k : Nat) : IntKind.u64.wrap (2 ^ k) = L (shl 1 k) := by
  have h := u64_shl 1 k
  rw [show L 1 = 1 from rfl, Int.one_mul] at h
  exact h
theorem div_mem {w w1 w2 w3 w4 : World} {g1 g2 NQ : Nat} {f : Nat → BitVec 64} (e1 : g1 = w.heap.size) (r1 : RowW w1 g1 NQ f) (b1 : Below g1 w w1) (e2 : g2 = w1.heap.size) (b2 : Below g2 w1 w2) (b3 : Below w2.heap.size w2 w3) (b4 : Below g2 w3 w4) : g1 < g2 ∧ RowW w4 g1 NQ f ∧ Below g1 w w4 := by
  have hlt := r1.lt
  have hs := b2.size
  have r2 := r1.below b2 (by omega)
  have r3 := r2.below b3 r2.lt
  have r4 := r3.below b4 (by omega)
  exact ⟨by omega, r4, b1.trans ((b2.mono (by omega)).trans ((b3.mono (by omega)).trans (b4.mono (by omega))))⟩
theorem two_fits {r b y q : Nat} (hr : r < y) (hb : b < 2) (hy : y < 2 ^ (64 * q)) : 2 * r + b < 2 ^ (64 * (q + 1)) := by
  rw [pow64]; omega
theorem div_in {w w1 w2 : World} {a : Option Addr} {p c x g1 g2 NQ : Nat} {f : Nat → BitVec 64} (h : Sw w w.heap.size a p c x) (e1 : g1 = w.heap.size) (r1 : RowW w1 g1 NQ f) (b1 : Below g1 w w1) (e2 : g2 = w1.heap.size) (b2 : Below g2 w1 w2) : Sw w2 w2.heap.size a p c x := by
  subst e1 e2
  exact (h.call b1).call b2
set_option maxHeartbeats 2000000 in
theorem div_any (a : Option Addr) (n c x : Nat) (a' : Option Addr) (m c' y : Nat) (w : World) (hn : n ≤ 10000) (hm : m ≤ 10000) (h : Sw w w.heap.size a n c x) (h' : Sw w w.heap.size a' m c' y) (hy : 0 < y) :
    Calls Try.prog 33 #[.slice a n c, .slice a' m c'] w fun e w' => ∃ v v', e = .returned (.tuple #[v, v', .int .i64 0]) ∧ Got w w' v (x / y) ∧ Got w w' v' (x % y) := by
  have hn1 := (dl_le 64 x n (by omega)).2 h.fits
  have hm1 := (dl_le 64 y m (by omega)).2 h'.fits
  have hq0 := (dl_pos (b := 64) (x := y) (by omega)).2 hy
  have hbx : bl x ≤ 64 * n := (bl_le x _).2 h.fits
  have hby : bl y ≤ 64 * m := (bl_le y _).2 h'.fits
  obtain ⟨S, hS⟩ : ∃ S, bl x + 1 - bl y = S := ⟨_, rfl⟩
  have hst := div_start (x := x) (y := y) (S := S) hy (by omega)
  have hmx : max 0 (((bl x : Nat) : Int) - ((bl y : Nat) : Int) + 1) = (S : Int) := by omega
  have Hst := Lib.hid hst
  have Hqf := Lib.hid (div_fits hy hst)
  have Hyf := Lib.hid (fits_dl 64 y (by omega))
  have hk1 : dl 64 (x / 2 ^ S) ≤ dl 64 y := (dl_le 64 _ _ (by omega)).2 (Nat.lt_trans hst (fits_dl 64 y (by omega)))
  have T := Lib.hid (fun w' (hw : Sw w' w.heap.size a n c x) => trim_any a n c x w' (by omega) hw)
  have T' := Lib.hid (fun w' (hw : Sw w' w.heap.size a' m c' y) => trim_any a' m c' y w' (by omega) hw)
  have LX := Lib.hid (fun p (hp : p ≤ n) w' (hw : Sw w' w.heap.size a p p x) => len_any a p p x w' (by omega) hw)
  have LY := Lib.hid (fun p (hp : p ≤ m) w' (hw : Sw w' w.heap.size a' p p y) => len_any a' p p y w' (by omega) hw)
  have H := Lib.hid h
  have H' := Lib.hid h'
  have C := Lib.hid h.cut
  have C' := Lib.hid h'.cut
  have Hy := Lib.hid hy
  generalize dl 64 x = p at *
  generalize dl 64 y = q at *
  generalize bl x = la at *
  generalize bl y = lb at *
  generalize hk : dl 64 (x / 2 ^ S) = k at *
  have Hk := Lib.hid hk
  obtain ⟨NQ, hNQ⟩ : ∃ NQ, S / 64 + 1 = NQ := ⟨_, rfl⟩
  have HNQ := Lib.hid hNQ
  rw [hNQ] at Hqf
  have hp : p ≤ 10000 := by omega
  have hq : q ≤ 10000 := by omega
  have hla : la ≤ 640000 := by omega
  have hlb : lb ≤ 640000 := by omega
  have hS6 : S ≤ 640001 := by omega
  have hNQ6 : NQ ≤ 10001 := by omega
  have Hpn := Lib.hid hn1
  have Hqm := Lib.hid hm1
  have Hq0 := Lib.hid hq0
  have hqi : (0 : Int) < (q : Int) := by omega
  have hqn : ((q : Int) == 0) = false := by simp; omega
  have eNQ : Hid ((S : Int) / 64 + 1 = (NQ : Int)) := Lib.hid (by omega)
  have eM : Hid ((q : Int) + 1 = ((q + 1 : Nat) : Int)) := Lib.hid (by omega)
  have Hkq := Lib.hid hk1
  clear h h' hn1 hm1 hbx hby hst hy hk hS hNQ hk1 hq0
  go_enter Try.func33, Try.ntmps33
  go_wp2_with fail
  go_step3
  go_wp2_with (first
    | ((with_reducible refine (T.out _ H.out).mono ?_); rintro e w' ⟨rfl, rfl⟩)
    | ((with_reducible refine (T'.out _ H'.out).mono ?_); rintro e w' ⟨rfl, rfl⟩)
    | ((with_reducible refine (LX.out p Hpn.out _ C.out).mono ?_); rintro e w' ⟨rfl, rfl⟩)
    | ((with_reducible refine (LY.out q Hqm.out _ C'.out).mono ?_); rintro e w' ⟨rfl, rfl⟩)
    | ((with_reducible apply lay_makeN); (case hgd => exact rfl); (case ho => exact rfl); (case hx => exact congrArg (Value.int .i64) eNQ.out); (case hy => exact congrArg (Value.int .i64) eNQ.out); (case hc => omega); intro w1 g1 E1 R1 B1 _ _; go_simp)
    | ((with_reducible apply lay_makeN); (case hgd => exact rfl); (case ho => exact rfl); (case hx => exact congrArg (Value.int .i64) eM.out); (case hy => exact congrArg (Value.int .i64) eM.out); (case hc => omega); intro w2 g2 E2 R2 B2 _ _; go_simp)
    | ((with_reducible refine (down_any a p p x S _ (by omega) (by omega) (div_in C.out E1.out R1.out B1.out E2.out B2.out)).mono ?_); rintro e w3 ⟨v, rfl, hv⟩; obtain ⟨ad, rfl, S3, B3⟩ := hv.open; have S3 := Lib.hid S3; have B3 := Lib.hid B3; clear hv)
    | ((with_reducible apply lay_copyW); (case hgd => exact rfl); (case ho => exact rfl); (case hr => exact R2.out.below B3.out R2.out.lt); (case hd => exact rfl); (case hs => exact rfl); (case hS => exact S3.out); (case hk => rw [Hk.out]; exact Nat.le_succ_of_le Hkq.out); intro w4 R4 B4 _ _; have R4 := Lib.hid R4; have B4 := Lib.hid B4; go_simp))
  obtain ⟨hg, R1', B1'⟩ := div_mem E1.out R1.out B1.out E2.out B2.out B3.out B4.out
  have CA : Hid (Sw w' g1 a p p x) := Lib.hid (by rw [E1.out]; exact C.out)
  have CB : Hid (Sw w' g1 a' q q y) := Lib.hid (by rw [E1.out]; exact C'.out)
  have Hg := Lib.hid hg
  have M1 := Lib.hid R1'
  have M2 := Lib.hid B1'
  clear R1' B1' hg B2 B3 S3 R1 R2 E2 B1 hmx LX LY T T' C C' H H'
  go_step3
  go_wp2_with fail
  go_loopw [38] (fun v wr => ∃ i t : Nat, i + t = S ∧ v = .int .i64 i ∧ RowW wr g1 NQ (wd (x / 2 ^ t / y * 2 ^ t)) ∧ RowW wr g2 (q + 1) (wd (x / 2 ^ t % y)) ∧ Below g1 w' wr) (fun v _ => S - (intOf v).toNat)
  case atStart =>
    refine ⟨0, S, by omega, rfl, ?_, ?_, M2.out⟩
    · rw [Nat.div_eq_of_lt Hst.out, Nat.zero_mul]
      exact M1.out.congr fun k _ => (wd_zero k).symm
    · rw [Nat.mod_eq_of_lt Hst.out]
      exact R4.out
  case round =>
    clear M1 M2 R4 B4
    obtain ⟨i, T, hiT, rfl, HQ, HR, HB⟩ := hrel
    by_cases hlt : i < S
    · obtain ⟨t, rfl⟩ : ∃ t, T = t + 1 := ⟨T - 1, by omega⟩
      have hid : decide ((i : Int) < (S : Int)) = true := by simp; omega
      have eat : (S : Int) - 1 - (i : Int) = (t : Int) := by omega
      have t6 : t ≤ 640001 := by omega
      have t6' : (t : Int) ≤ 640001 := by omega
      have hb2 : x / 2 ^ t % 2 < 2 := Nat.mod_lt _ (by omega)
      have HBit : Hid (bitI x (t : Int) = ((x / 2 ^ t % 2 : Nat) : Int)) := Lib.hid (by unfold bitI; rw [if_neg (by omega)]; rfl)
      obtain ⟨r, hr⟩ : ∃ r, r = x / 2 ^ (t + 1) % y := ⟨_, rfl⟩
      obtain ⟨b, hb⟩ : ∃ b, b = x / 2 ^ t % 2 := ⟨_, rfl⟩
      have hry : r < y := by rw [hr]; exact Nat.mod_lt _ Hy.out
      have HF := Lib.hid (two_fits hry (by omega : b < 2) Hyf.out)
      rw [← hr] at HR
      rw [← hb] at HBit hb2
      have Hr := Lib.hid hr
      have Hb := Lib.hid hb
      have HiT := Lib.hid hiT
      have H1 := Lib.hid HQ
      have H2 := Lib.hid HR
      have H3 := Lib.hid HB
      have G1 := Lib.hid (CA.out.below HB)
      clear HQ HR HB hr hb hiT
      by_cases hD : 2 * r + b < y
      · have Hc := Lib.hid (cmp_lt hD)
        have HD := Lib.hid hD
        clear hD
        go_wp2_with (first
          | ((with_reducible refine (bit_any a p p x (t : Int) _ (by omega) (by omega) G1.out).mono ?_); rintro e w5 ⟨rfl, rfl⟩; rw [HBit.out])
          | ((with_reducible refine (double_any g2 (q + 1) r b _ (by omega) (by omega) H2.out).mono ?_); rintro e w6 ⟨rfl, R6, B6⟩; have R6 := Lib.hid R6; have B6 := Lib.hid B6)
          | ((with_reducible refine (compare_any _ _ _ (2 * r + b) a' q q y _ (by omega) (by omega) (R6.out.sw (Nat.le_refl _) HF.out R6.out.lt) ((CB.out.below H3.out).below (B6.out.mono (Nat.le_of_lt Hg.out)))).mono ?_); rintro e w7 ⟨rfl, rfl⟩; rw [Hc.out]))
        go_roundw
        case rel =>
          obtain ⟨e1, e2⟩ := div_bit_lt (x := x) (y := y) (t := t) (by rw [← Hr.out, ← Hb.out]; exact HD.out)
          refine ⟨i + 1, t, by have := HiT.out; omega, by go_num, ?_, ?_, H3.out.trans (B6.out.mono (Nat.le_of_lt Hg.out))⟩
          · rw [e2, Nat.mul_comm 2, Nat.mul_assoc, ← Nat.pow_succ']
            exact H1.out.below B6.out Hg.out
          · rw [e1, ← Hr.out, ← Hb.out]
            exact R6.out
        case measure => simp [intOf]; omega
      · obtain ⟨z, hz⟩ : ∃ z, cmp (2 * r + b) y = z := ⟨_, rfl⟩
        have hz0 : decide (z < 0) = false := by
          subst hz; unfold cmp
          rw [if_neg hD]
          split <;> simp
        have hz1 : -1 ≤ z ∧ z ≤ 1 := by
          subst hz; unfold cmp
          split
          · omega
          · split <;> omega
        have Hc := Lib.hid hz
        have HD : Hid (y ≤ 2 * r + b) := Lib.hid (by omega)
        obtain ⟨hz2, hz3⟩ := hz1
        clear hD hz
        go_wp2_with (first
          | ((with_reducible refine (bit_any a p p x (t : Int) _ (by omega) (by omega) G1.out).mono ?_); rintro e w5 ⟨rfl, rfl⟩; rw [HBit.out])
          | ((with_reducible refine (double_any g2 (q + 1) r b _ (by omega) (by omega) H2.out).mono ?_); rintro e w6 ⟨rfl, R6, B6⟩; have R6 := Lib.hid R6; have B6 := Lib.hid B6)
          | ((with_reducible refine (compare_any _ _ _ (2 * r + b) a' q q y _ (by omega) (by omega) (R6.out.sw (Nat.le_refl _) HF.out R6.out.lt) ((CB.out.below H3.out).below (B6.out.mono (Nat.le_of_lt Hg.out)))).mono ?_); rintro e w7 ⟨rfl, rfl⟩; rw [Hc.out])
          | ((with_reducible refine (lessen_any g2 (q + 1) (2 * r + b) a' q q y _ (by omega) (by omega) R6.out HD.out (((CB.out.below H3.out).below (B6.out.mono (Nat.le_of_lt Hg.out))).more (Nat.le_of_lt Hg.out))).mono ?_); rintro e w8 ⟨rfl, R8, B8⟩; have R8 := Lib.hid R8; have B8 := Lib.hid B8))
        have Q8 : Hid (RowW w8 g1 NQ (wd (x / 2 ^ (t + 1) / y * 2 ^ (t + 1)))) := Lib.hid ((H1.out.below B6.out Hg.out).below B8.out Hg.out)
        have A8 : Hid (Below g1 w' w8) := Lib.hid (H3.out.trans ((B6.out.mono (Nat.le_of_lt Hg.out)).trans (B8.out.mono (Nat.le_of_lt Hg.out))))
        clear H1 H2 H3 B6 R6 B8 G1
        refine wp_region_still_tail 10 (by kernel_rfl) (by kernel_rfl) ?_
        change wpStill _ _ w8.drew (fun a' => wpList _ _ _ _ a' w8.drew) _ _
        have D1 := Lib.hid Q8.out.drew
        have D2 := Lib.hid R8.out.drew
        have D3 := Lib.hid (Below.drew A8.out)
        clear Q8 R8 A8
        generalize w8.drew = w9 at *
        obtain ⟨u, hu⟩ : ∃ u, t / 64 = u := ⟨_, rfl⟩
        obtain ⟨s, hs⟩ : ∃ s, t % 64 = s := ⟨_, rfl⟩
        have huN : u < NQ := by have := HNQ.out; have := HiT.out; omega
        have huN' : (u : Int) < (NQ : Int) := by omega
        have s64 : (s : Int) < 64 := by omega
        have hc := D1.out.cell u huN
        have hz := D1.out.thaw u
        have f1 : IntKind.i64.wrap ((t : Int) / 64) = (u : Int) := (IntWalk.i64_in _ (by omega)).trans (by omega)
        have f2 : (t : Int) % 64 = (s : Int) := by omega
        have f3 : IntKind.i64.wrap (s : Int) = (s : Int) := IntWalk.i64_in _ (by omega)
        have f4 : (t : Int).tmod 64 = (s : Int) := by rw [Int.tmod_eq_emod_of_nonneg (by omega)]; exact f2
        have Hu := Lib.hid hu
        have Hs := Lib.hid hs
        clear hu hs
        simp only [List.take_succ_cons, List.take_zero, List.drop_succ_cons, List.drop_zero]
        iterate 10 still_step
        refine wpStill_nil ?_
        clear f1 f2 f3 f4
        go_wp2_with fail
        go_roundw
        case rel =>
          obtain ⟨e1, e2⟩ := div_bit_ge (x := x) (y := y) (t := t) Hy.out (by rw [← Hr.out, ← Hb.out]; exact HD.out)
          refine ⟨i + 1, t, by have := HiT.out; omega, by go_num, ?_, ?_, D3.out.setCell (Nat.le_refl _) _⟩
          · have h := D1.out.setCell u (wd (x / 2 ^ (t + 1) / y * 2 ^ (t + 1)) u ||| shl 1 s)
            have e := wd_bit_at (x / 2 ^ (t + 1) / y) t
            rw [Hu.out, Hs.out] at e
            rw [e2, ← e]
            exact h
          · rw [e1, ← Hr.out, ← Hb.out]
            exact D2.out.other _ _ _ (Nat.ne_of_gt Hg.out)
        case measure => simp [intOf]; omega
    · obtain rfl : i = S := by omega
      obtain rfl : T = 0 := by omega
      rw [Nat.pow_zero, Nat.div_one, Nat.mul_one] at HQ
      rw [Nat.pow_zero, Nat.div_one] at HR
      have Hrf : Hid (x % y < 2 ^ (64 * (q + 1))) := Lib.hid (by have := Nat.mod_lt x Hy.out; have := Hyf.out; rw [pow64]; omega)
      have H1 := Lib.hid HQ
      have H2 := Lib.hid HR
      have H3 := Lib.hid HB
      clear HQ HR HB
      go_wp2_with (first
        | ((with_reducible refine (trim_any _ _ _ (x / y) _ (by omega) (H1.out.sw (Nat.le_refl _) Hqf.out H1.out.lt)).mono ?_); rintro e w9 ⟨rfl, rfl⟩)
        | ((with_reducible refine (trim_any _ _ _ (x % y) _ (by omega) (H2.out.sw (Nat.le_refl _) Hrf.out H2.out.lt)).mono ?_); rintro e w9 ⟨rfl, rfl⟩))
      simp only [Exit.noGoto]
      go_ret3
      exact ⟨_, _, rfl, ⟨_, NQ, rfl, by rw [E1.out]; exact Nat.le_refl _, H1.out, (dl_le 64 _ _ (by omega)).2 Hqf.out, by rw [← E1.out]; exact H3.out⟩, ⟨_, q + 1, rfl, by rw [← E1.out]; exact Nat.le_of_lt Hg.out, H2.out, (dl_le 64 _ _ (by omega)).2 Hrf.out, by rw [← E1.out]; exact H3.out⟩⟩
end Go.Proofs.Ytmnokjapapheiaa
