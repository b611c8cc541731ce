/-
  The walk of NumberBytes.
-/
import Derived.Test.YtmnokjapapheiaaLaSums
import Derived.Test.YtmnokjapapheiaaRfOwn
import Derived.Test.YtmnokjapapheiaaNuOf
import Derived.Test.YtmnokjapapheiaaNuBytes
namespace Go.Proofs.Ytmnokjapapheiaa
open Go.RowKit

def lenOf : Value → Nat
  | .slice _ n _ => n
  | _ => 0
theorem OwnB.low {w : World} {base : Nat} {a : Option Addr} {n c : Nat} {f : Nat → BitVec 8} (h : OwnB w base (.slice a n c) n f) : Sl w w.heap.size a n c f := by
  obtain ⟨a', c', e, hs⟩ := h.any
  cases e
  exact hs
theorem RowB.sb {w : World} {g n x : Nat} (h : RowB w g n (bt x)) (hx : x < 2 ^ (8 * n)) : Sb w w.heap.size (some ⟨g, 0, none⟩) n n x := ⟨h.sl, hx⟩
set_option maxRecDepth 4000 in
set_option maxHeartbeats 4000000 in
theorem bytesl_far (a : Option Addr) (n c : Nat) (a' : Option Addr) (m c' : Nat) (z : Int) (w : World) (h : 200 < n ∨ 20 < m ∨ (300 < z ∧ z ≤ 65536)) :
    Calls Try.prog 3 #[.slice a n c, .slice a' m c', .int .i64 z] w fun e w' => e = .returned (.bool true) ∧ Below w.heap.size w w' := by
  have L := Lib.hid (Lv.start w)
  by_cases hn : n ≤ 200
  · have d1 : decide (200 < (n : Int)) = false := by simp; omega
    by_cases hm : m ≤ 20
    · obtain ⟨h1, h2⟩ : 300 < z ∧ z ≤ 65536 := by omega
      have d3 : decide (300 < z) = true := by simpa using h1
      have d4 : decide (z ≤ 65536) = true := by simpa using h2
      clear h
      go_enter Try.func3, Try.ntmps3
      go_wp2_with (first
        | ((with_reducible refine (few_yes a' m c' _ hm).mono ?_); rintro e w' ⟨rfl, rfl⟩)
        | ((with_reducible refine (awake_any _).mono ?_); rintro e w1 ⟨rfl, B1⟩; replace L := Lib.hid (L.out.call B1); clear B1))
      go_ret
      exact ⟨rfl, L.out.bel⟩
    · clear h
      go_enter Try.func3, Try.ntmps3
      go_wp2_with (first
        | ((with_reducible refine (few_no a' m c' _ hm).mono ?_); rintro e w' ⟨rfl, rfl⟩)
        | ((with_reducible refine (awake_any _).mono ?_); rintro e w1 ⟨rfl, B1⟩; replace L := Lib.hid (L.out.call B1); clear B1))
      go_ret
      exact ⟨rfl, L.out.bel⟩
  · have d1 : decide (200 < (n : Int)) = true := by simp; omega
    clear h
    go_enter Try.func3, Try.ntmps3
    go_wp2_with (first
      | ((with_reducible refine (awake_any _).mono ?_); rintro e w1 ⟨rfl, B1⟩; replace L := Lib.hid (L.out.call B1); clear B1))
    go_ret
    exact ⟨rfl, L.out.bel⟩
set_option maxRecDepth 4000 in
set_option maxHeartbeats 4000000 in
theorem bytesl_wrong (a : Option Addr) (n c x : Nat) (a' : Option Addr) (m c' y : Nat) (z : Int) (w : World) (Hn : n ≤ 200) (Hm : m ≤ 20) (h : Sb w w.heap.size a n c x) (h' : Sw w w.heap.size a' m c' y) (hz : z < 0 ∨ 65536 < z) :
    Calls Try.prog 3 #[.slice a n c, .slice a' m c', .int .i64 z] w fun e w' => e = .returned (.bool true) ∧ Below w.heap.size w w' := by
  have L := Lib.hid (((Lv.start w).addW h').addB h)
  have Hx := Lib.hid h.fits
  have Kx : Hid (dl 64 x ≤ 1000) := Lib.hid (Nat.le_trans ((dl_le 64 x n (by omega)).2 (Nat.lt_of_lt_of_le h.fits (Nat.pow_le_pow_right (by omega) (by omega)))) (by omega))
  have d1 : decide (200 < (n : Int)) = false := by simp; omega
  have Hz := Lib.hid hz
  clear h h'
  rcases hz with hz | hz
  · have d2 : decide (300 < z) = false := by simp; omega
    have d5 : decide (z < 0) = true := by simpa using hz
    go_enter Try.func3, Try.ntmps3
    go_wp2_with (first
      | ((with_reducible refine (few_yes a' m c' _ Hm).mono ?_); rintro e w' ⟨rfl, rfl⟩)
      | ((with_reducible refine (of_any a n c x _ (by omega) (L.out.gb 0 rfl)).mono ?_); rintro e w1 ⟨v, rfl, hv⟩; obtain ⟨a1, rfl, S1, B1⟩ := hv.open; replace L := Lib.hid ((L.out.call B1).addW S1); clear hv S1 B1)
      | ((with_reducible refine (bytes_any a1 (dl 64 x) (dl 64 x) x n _ (Nat.le_trans Kx.out (by omega)) (by omega) (L.out.gw 0 rfl) Hx.out).mono ?_); rintro e w2 ⟨rfl, R2, B2⟩; replace L := Lib.hid ((L.out.call B2).addB (R2.sb Hx.out)); clear R2 B2)
      | ((with_reducible refine (is_any a1 (dl 64 x) x a n c _ (Nat.le_trans Kx.out (by omega)) (by omega) (L.out.gw 0 rfl) (L.out.gb 1 rfl)).mono ?_); rintro e w3 ⟨rfl, B3⟩; replace L := Lib.hid (L.out.call B3); clear B3)
      | ((with_reducible refine (same_any (some ⟨w1.heap.size, 0, none⟩) a n n c x _ (by omega) (L.out.gb 0 rfl) (L.out.gb 1 rfl)).mono ?_); rintro e w4 ⟨rfl, B4⟩; replace L := Lib.hid (L.out.call B4); clear B4)
      | ((with_reducible refine (bytes_bad a' m c' z _ Hz.out).mono ?_); rintro e w' ⟨rfl, rfl⟩)
      | ((with_reducible refine (awake_any _).mono ?_); rintro e w5 ⟨rfl, B5⟩; replace L := Lib.hid (L.out.call B5); clear B5))
    go_ret
    exact ⟨rfl, L.out.bel⟩
  · have d2 : decide (300 < z) = true := by simp; omega
    have d3 : decide (z ≤ 65536) = false := by simp; omega
    have d5 : decide (z < 0) = false := by simp; omega
    have d6 : decide (65536 < z) = true := by simpa using hz
    go_enter Try.func3, Try.ntmps3
    go_wp2_with (first
      | ((with_reducible refine (few_yes a' m c' _ Hm).mono ?_); rintro e w' ⟨rfl, rfl⟩)
      | ((with_reducible refine (of_any a n c x _ (by omega) (L.out.gb 0 rfl)).mono ?_); rintro e w1 ⟨v, rfl, hv⟩; obtain ⟨a1, rfl, S1, B1⟩ := hv.open; replace L := Lib.hid ((L.out.call B1).addW S1); clear hv S1 B1)
      | ((with_reducible refine (bytes_any a1 (dl 64 x) (dl 64 x) x n _ (Nat.le_trans Kx.out (by omega)) (by omega) (L.out.gw 0 rfl) Hx.out).mono ?_); rintro e w2 ⟨rfl, R2, B2⟩; replace L := Lib.hid ((L.out.call B2).addB (R2.sb Hx.out)); clear R2 B2)
      | ((with_reducible refine (is_any a1 (dl 64 x) x a n c _ (Nat.le_trans Kx.out (by omega)) (by omega) (L.out.gw 0 rfl) (L.out.gb 1 rfl)).mono ?_); rintro e w3 ⟨rfl, B3⟩; replace L := Lib.hid (L.out.call B3); clear B3)
      | ((with_reducible refine (same_any (some ⟨w1.heap.size, 0, none⟩) a n n c x _ (by omega) (L.out.gb 0 rfl) (L.out.gb 1 rfl)).mono ?_); rintro e w4 ⟨rfl, B4⟩; replace L := Lib.hid (L.out.call B4); clear B4)
      | ((with_reducible refine (bytes_bad a' m c' z _ Hz.out).mono ?_); rintro e w' ⟨rfl, rfl⟩)
      | ((with_reducible refine (awake_any _).mono ?_); rintro e w5 ⟨rfl, B5⟩; replace L := Lib.hid (L.out.call B5); clear B5))
    go_ret
    exact ⟨rfl, L.out.bel⟩
set_option maxRecDepth 4000 in
set_option maxHeartbeats 4000000 in
theorem bytesl_small (a : Option Addr) (n c x : Nat) (a' : Option Addr) (m c' y : Nat) (z : Nat) (w : World) (Hn : n ≤ 200) (Hm : m ≤ 20) (h : Sb w w.heap.size a n c x) (h' : Sw w w.heap.size a' m c' y) (hz : z ≤ 300) (hy : ¬ y < 2 ^ (8 * z)) :
    Calls Try.prog 3 #[.slice a n c, .slice a' m c', .int .i64 z] w fun e w' => e = .returned (.bool true) ∧ Below w.heap.size w w' := by
  have L := Lib.hid (((Lv.start w).addW h').addB h)
  have Hx := Lib.hid h.fits
  have Kx : Hid (dl 64 x ≤ 1000) := Lib.hid (Nat.le_trans ((dl_le 64 x n (by omega)).2 (Nat.lt_of_lt_of_le h.fits (Nat.pow_le_pow_right (by omega) (by omega)))) (by omega))
  have d1 : decide (200 < (n : Int)) = false := by simp; omega
  have d2 : decide (300 < (z : Int)) = false := by simp; omega
  have d5 : decide ((z : Int) < 0) = false := by simp
  have d6 : decide (65536 < (z : Int)) = false := by simp; omega
  have hdy : dl 8 y ≤ 200 := dl8_le h'.fits (by omega)
  have hlt : z < dl 8 y := Nat.lt_of_not_le fun h0 => hy ((dl_le 8 y z (by omega)).1 h0)
  have Hy := Lib.hid hy
  have d7 : decide (z < dl 8 y) = true := by simpa using hlt
  have d8 : decide ((z : Int) < ((dl 8 y : Nat) : Int)) = true := by simp; omega
  clear h h' hy
  go_enter Try.func3, Try.ntmps3
  go_wp2_with (first
    | ((with_reducible refine (few_yes a' m c' _ Hm).mono ?_); rintro e w' ⟨rfl, rfl⟩)
    | ((with_reducible refine (of_any a n c x _ (by omega) (L.out.gb 0 rfl)).mono ?_); rintro e w1 ⟨v, rfl, hv⟩; obtain ⟨a1, rfl, S1, B1⟩ := hv.open; replace L := Lib.hid ((L.out.call B1).addW S1); clear hv S1 B1)
    | ((with_reducible refine (bytes_any a1 (dl 64 x) (dl 64 x) x n _ (Nat.le_trans Kx.out (by omega)) (by omega) (L.out.gw 0 rfl) Hx.out).mono ?_); rintro e w2 ⟨rfl, R2, B2⟩; replace L := Lib.hid ((L.out.call B2).addB (R2.sb Hx.out)); clear R2 B2)
    | ((with_reducible refine (is_any a1 (dl 64 x) x a n c _ (Nat.le_trans Kx.out (by omega)) (by omega) (L.out.gw 0 rfl) (L.out.gb 1 rfl)).mono ?_); rintro e w3 ⟨rfl, B3⟩; replace L := Lib.hid (L.out.call B3); clear B3)
    | ((with_reducible refine (same_any (some ⟨w1.heap.size, 0, none⟩) a n n c x _ (by omega) (L.out.gb 0 rfl) (L.out.gb 1 rfl)).mono ?_); rintro e w4 ⟨rfl, B4⟩; replace L := Lib.hid (L.out.call B4); clear B4)
    | ((with_reducible refine (bytes_small a' m c' y z _ (by omega) (by omega) (L.out.gw 1 rfl) Hy.out).mono ?_); rintro e w' ⟨rfl, rfl⟩)
    | ((with_reducible refine (refBytes_any a' m c' y _ (by omega) (L.out.gw 1 rfl)).mono ?_); rintro e w5 ⟨v, rfl, hv⟩; obtain ⟨a5, c5, rfl, S5, B5⟩ := hv; replace L := Lib.hid ((L.out.call B5).addB S5); clear S5 B5)
    | ((with_reducible refine (awake_any _).mono ?_); rintro e w6 ⟨rfl, B6⟩; replace L := Lib.hid (L.out.call B6); clear B6))
  go_ret
  exact ⟨rfl, L.out.bel⟩
set_option maxRecDepth 4000 in
set_option maxHeartbeats 4000000 in
theorem bytesl_near (a : Option Addr) (n c x : Nat) (a' : Option Addr) (m c' y : Nat) (z : Nat) (w : World) (Hn : n ≤ 200) (Hm : m ≤ 20) (h : Sb w w.heap.size a n c x) (h' : Sw w w.heap.size a' m c' y) (hz : z ≤ 300) (hy : y < 2 ^ (8 * z)) :
    Calls Try.prog 3 #[.slice a n c, .slice a' m c', .int .i64 z] w fun e w' => e = .returned (.bool true) ∧ Below w.heap.size w w' := by
  have L := Lib.hid (((Lv.start w).addW h').addB h)
  have Hx := Lib.hid h.fits
  have Kx : Hid (dl 64 x ≤ 1000) := Lib.hid (Nat.le_trans ((dl_le 64 x n (by omega)).2 (Nat.lt_of_lt_of_le h.fits (Nat.pow_le_pow_right (by omega) (by omega)))) (by omega))
  have d1 : decide (200 < (n : Int)) = false := by simp; omega
  have d2 : decide (300 < (z : Int)) = false := by simp; omega
  have d5 : decide ((z : Int) < 0) = false := by simp
  have d6 : decide (65536 < (z : Int)) = false := by simp; omega
  have hdy : dl 8 y ≤ 200 := dl8_le h'.fits (by omega)
  have hle : dl 8 y ≤ z := (dl_le 8 y z (by omega)).2 hy
  have Hy := Lib.hid hy
  have HD := Lib.hid (fits_dl 8 y (by omega))
  have d7 : decide (z < dl 8 y) = false := by simp; omega
  have d8 : decide ((z : Int) < ((dl 8 y : Nat) : Int)) = false := by simp; omega
  clear h h' hy
  go_enter Try.func3, Try.ntmps3
  go_wp2_with (first
    | ((with_reducible refine (few_yes a' m c' _ Hm).mono ?_); rintro e w' ⟨rfl, rfl⟩)
    | ((with_reducible refine (of_any a n c x _ (by omega) (L.out.gb 0 rfl)).mono ?_); rintro e w1 ⟨v, rfl, hv⟩; obtain ⟨a1, rfl, S1, B1⟩ := hv.open; replace L := Lib.hid ((L.out.call B1).addW S1); clear hv S1 B1)
    | ((with_reducible refine (bytes_any a1 (dl 64 x) (dl 64 x) x n _ (Nat.le_trans Kx.out (by omega)) (by omega) (L.out.gw 0 rfl) Hx.out).mono ?_); rintro e w2 ⟨rfl, R2, B2⟩; replace L := Lib.hid ((L.out.call B2).addB (R2.sb Hx.out)); clear R2 B2)
    | ((with_reducible refine (is_any a1 (dl 64 x) x a n c _ (Nat.le_trans Kx.out (by omega)) (by omega) (L.out.gw 0 rfl) (L.out.gb 1 rfl)).mono ?_); rintro e w3 ⟨rfl, B3⟩; replace L := Lib.hid (L.out.call B3); clear B3)
    | ((with_reducible refine (same_any (some ⟨w1.heap.size, 0, none⟩) a n n c x _ (by omega) (L.out.gb 0 rfl) (L.out.gb 1 rfl)).mono ?_); rintro e w4 ⟨rfl, B4⟩; replace L := Lib.hid (L.out.call B4); clear B4)
    | ((with_reducible refine (bytes_any a' m c' y z _ (by omega) (by omega) (L.out.gw 1 rfl) Hy.out).mono ?_); rintro e w5 ⟨rfl, R5, B5⟩; obtain ⟨g, hg⟩ : ∃ g, g = w4.heap.size := ⟨_, rfl⟩; rw [← hg] at R5 ⊢; replace L := Lib.hid ((L.out.call B5).addB (R5.sb Hy.out)); clear R5 B5 hg)
    | ((with_reducible refine (refBytes_own a' m c' y _ (by omega) (L.out.gw 1 rfl)).mono ?_); rintro e w6 ⟨v, rfl, O6, B6⟩; obtain ⟨a7, c7, rfl, _⟩ := O6.any; have O7 := Lib.hid O6; have B7 := Lib.hid B6; clear O6 B6))
  go_loopw [12] (fun v12 wr => ∃ T aw cw, T ≤ z ∧ dl 8 y ≤ T ∧ v12 = .slice aw T cw ∧ OwnB wr w5.heap.size (.slice aw T cw) T (bt y) ∧ Below w5.heap.size w5 wr) (fun v12 _ => z - lenOf v12)
  case atStart => exact ⟨dl 8 y, a7, c7, hle, Nat.le_refl _, rfl, O7.out, B7.out⟩
  case round =>
    clear O7 B7
    obtain ⟨T, aw, cw, hT, hT2, rfl, HO, HB⟩ := hrel
    have hz5 : w5.heap.size ≤ wr.heap.size := HB.size
    have O := Lib.hid HO
    have BB := Lib.hid HB
    clear HO HB
    by_cases hlt : T < z
    · have dd : decide ((T : Int) < (z : Int)) = true := by simp; omega
      have hb : Hid (U8 (bt y T) = 0) := Lib.hid (by rw [bt_over HD.out hT2]; rfl)
      go_wp2_with ((with_reducible apply lay_append_byte); (case hgd => exact rfl); (case ho => exact rfl); (case hs => exact rfl); (case hx => exact rfl); (case hown => exact O.out.alloc _); (case hc => exact new_byte _ _ _ hb.out); (case hn => omega); (case hbase => simp; omega); intro v' w' ho' hb' _ _; go_simp)
      obtain ⟨a9, c9, rfl, _⟩ := ho'.any
      go_roundw
      case rel => exact ⟨T + 1, a9, c9, by omega, by omega, rfl, ho', (BB.out.alloc hz5 _).trans hb'⟩
      case measure => simp [lenOf]; omega
    · obtain rfl : T = z := by omega
      have dd : decide ((T : Int) < (T : Int)) = false := by simp
      have L2 := Lib.hid ((L.out.call BB.out).addB ⟨O.out.low, Hy.out⟩)
      clear O BB L
      go_wp2_with (first
        | ((with_reducible refine (same_any (some ⟨g, 0, none⟩) aw T T cw y _ (by omega) (L2.out.gb 1 rfl) (L2.out.gb 0 rfl)).mono ?_); rintro e w9 ⟨rfl, B9⟩; have L := Lib.hid (L2.out.call B9); clear L2 B9)
        | ((with_reducible refine (awake_any _).mono ?_); rintro e w10 ⟨rfl, B10⟩; replace L := Lib.hid (L.out.call B10); clear B10))
      go_ret
      exact ⟨rfl, L.out.bel⟩
end Go.Proofs.Ytmnokjapapheiaa
