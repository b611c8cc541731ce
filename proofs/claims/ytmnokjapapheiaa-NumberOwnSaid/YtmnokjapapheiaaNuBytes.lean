/-
  The contract of number.Bytes.
-/
import Derived.Test.YtmnokjapapheiaaNuLen
import Derived.Test.YtmnokjapapheiaaNuBitM
namespace Go.Proofs.Ytmnokjapapheiaa
open Go.RowKit

theorem mixb_upd (i : Nat) (f g : Nat → BitVec 8) : upd8 (mix i f g) i (f i) = mix (i + 1) f g := by
  funext k
  unfold upd8 mix
  by_cases e : k = i
  · subst e; simp
  · by_cases h : k < i
    · rw [if_neg e, if_pos h, if_pos (by omega)]
    · rw [if_neg e, if_neg h, if_neg (by omega)]
theorem bytes_bad (a : Option Addr) (n c : Nat) (s : Int) (w : World) (hs : s < 0 ∨ 65536 < s) :
    Calls Try.prog 15 #[.slice a n c, .int .i64 s] w fun e w' => e = .returned (.tuple #[.slice none 0 0, .int .i64 10]) ∧ w' = w := by
  rcases hs with hs | hs
  · have h1 : decide (s < 0) = true := by simpa using hs
    go_enter Try.func15, Try.ntmps15
    go_wp2
    go_ret2
    exact ⟨rfl, rfl⟩
  · have h1 : decide (s < 0) = false := by simp; omega
    have h2 : decide (65536 < s) = true := by simpa using hs
    go_enter Try.func15, Try.ntmps15
    go_wp2
    go_ret2
    exact ⟨rfl, rfl⟩
set_option maxHeartbeats 1000000 in
theorem bytes_small (a : Option Addr) (n c x s : Nat) (w : World) (hn : n ≤ 1000000) (hs : s ≤ 65536) (h : Sw w w.heap.size a n c x) (hx : ¬ x < 2 ^ (8 * s)) :
    Calls Try.prog 15 #[.slice a n c, .int .i64 s] w fun e w' => e = .returned (.tuple #[.slice none 0 0, .int .i64 11]) ∧ w' = w := by
  have h1 : decide ((s : Int) < 0) = false := by simp
  have h2 : decide (65536 < (s : Int)) = false := by simp; omega
  have hb : ¬ bl x ≤ 8 * s := fun h => hx ((bl_le x _).1 h)
  have hbn : bl x ≤ 64 * n := (bl_le x _).2 h.fits
  have h3 : decide (8 * (s : Int) < ((bl x : Nat) : Int)) = true := by simp; omega
  have H := Lib.hid h
  generalize hl : bl x = l at *
  have Hl := Lib.hid hl
  clear h hl hx
  go_enter Try.func15, Try.ntmps15
  go_wp2_with ((with_reducible refine (len_any a n c x _ (by omega) H.out).mono ?_); rintro e w' ⟨rfl, rfl⟩; rw [Hl.out])
  go_ret2
  exact ⟨rfl, rfl⟩
set_option maxHeartbeats 1000000 in
theorem bytes_any (a : Option Addr) (n c x s : Nat) (w : World) (hn : n ≤ 1000000) (hs : s ≤ 65536) (h : Sw w w.heap.size a n c x) (hx : x < 2 ^ (8 * s)) :
    Calls Try.prog 15 #[.slice a n c, .int .i64 s] w fun e w' => e = .returned (.tuple #[.slice (some ⟨w.heap.size, 0, none⟩) s s, .int .i64 0]) ∧ RowB w' w.heap.size s (bt x) ∧ Below w.heap.size w w' := by
  have h1 : decide ((s : Int) < 0) = false := by simp
  have h2 : decide (65536 < (s : Int)) = false := by simp; omega
  have hb : bl x ≤ 8 * s := (bl_le x _).2 hx
  have h3 : decide (8 * (s : Int) < ((bl x : Nat) : Int)) = false := by simp; omega
  have H := Lib.hid h
  generalize hl : bl x = l at *
  have Hl := Lib.hid hl
  have hs' : (s : Int) ≤ 65536 := by omega
  clear h hl hx
  go_enter Try.func15, Try.ntmps15
  go_wp2_with (first
    | ((with_reducible refine (len_any a n c x _ (by omega) H.out).mono ?_); rintro e w' ⟨rfl, rfl⟩; rw [Hl.out])
    | ((with_reducible apply lay_make); (case hgd => exact rfl); (case ho => exact rfl); (case hx => exact rfl); (case hy => exact rfl); (case hl => exact Nat.le_refl _); (case hc => omega); intro _ _; go_simp))
  go_loopw [23] (fun v wr => ∃ i : Nat, i ≤ s ∧ v = .int .i64 i ∧ RowB wr w'.heap.size s (mix i (bt x) fun _ => 0) ∧ Below w'.heap.size w' wr) (fun v _ => s - (intOf v).toNat)
  case atStart => exact ⟨0, by omega, rfl, by rw [mix_zero]; exact heap_alloc_last _ _, (Below.refl _ _).alloc (Nat.le_refl _) _⟩
  case round =>
    clear h1 h2 h3 hb
    obtain ⟨i, hi, rfl, HW, HB⟩ := hrel
    by_cases hlt : i < s
    · have hid : decide ((i : Int) < (s : Int)) = true := by simp; omega
      have iN : (i : Int) < (s : Int) := by omega
      have hc := HW.cell i hlt
      have hz := HW.thaw i
      obtain ⟨q, hq⟩ : ∃ q, i / 8 = q := ⟨_, rfl⟩
      obtain ⟨k, hk⟩ : ∃ k, i % 8 * 8 = k := ⟨_, rfl⟩
      have e1 : (i : Int) / 8 = (q : Int) := by omega
      have hq6 : q ≤ 1000000 := by omega
      have k64 : (k : Int) ≤ 64 := by omega
      have Hq := Lib.hid hq
      have Hk := Lib.hid hk
      have G := Lib.hid (H.out.below HB)
      have H1 := Lib.hid HW
      have H2 := Lib.hid HB
      clear HW HB hq hk
      go_wp2_with (first
        | ((with_reducible refine (word_any a n c x q _ (by omega) (by omega) G.out).mono ?_); rintro e w' ⟨rfl, rfl⟩)
        | ((with_reducible refine (place_any i _ (by omega) k Hk.out).mono ?_); rintro e w' ⟨rfl, rfl⟩))
      go_roundw
      case rel =>
        refine ⟨i + 1, by omega, by go_num, ?_, H2.out.setCell (Nat.le_refl _) _⟩
        have h := H1.out.setCell i (low8 (shr (wd x q) k))
        have e : low8 (shr (wd x q) k) = bt x i := by rw [← Hq.out, ← Hk.out]; exact bt_word x i
        rw [e, mixb_upd, ← e] at h
        exact h
      case measure => simp [intOf]; omega
    · obtain rfl : i = s := by omega
      have H1 := Lib.hid (HW.congr fun j hj => mix_all _ _ _ j hj)
      have H2 := Lib.hid HB
      clear HW HB
      go_wp2_with fail
      go_ret2
      exact ⟨rfl, H1.out, H2.out⟩
end Go.Proofs.Ytmnokjapapheiaa
