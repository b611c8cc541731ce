/-
  The chapter's examples hold.
-/
import Derived.Test.YtmnokjapapheiaaLaLeaf
import Derived.Test.YtmnokjapapheiaaNuMul
import Derived.Test.YtmnokjapapheiaaNuDiv
namespace Go.Proofs.Ytmnokjapapheiaa
open Go.RowKit

theorem alloc_size (w : World) (o : Obj) : (w.alloc o).heap.size = w.heap.size + 1 := by simp
theorem sw_one (w : World) (v : Nat) (hv : v < 2 ^ 64) : Sw (w.alloc (.cells #[.int .u64 (v : Int)] 56)) (w.alloc (.cells #[.int .u64 (v : Int)] 56)).heap.size (some ⟨w.heap.size, 0, none⟩) 1 1 v := by
  refine ⟨Nat.le_refl _, (fun e => by cases e), fun ad e _ => ⟨w.heap.size, 0, (Option.some.inj e).symm, by rw [alloc_size]; omega, fun i hi => ?_⟩, hv⟩
  obtain rfl : i = 0 := by omega
  have e1 : V (wd v 0) = .int .u64 (v : Int) := V_eq (by rw [wd_nat, Nat.mul_zero, Nat.pow_zero, Nat.div_one]; exact Nat.mod_eq_of_lt hv)
  rw [e1]
  simp
theorem sw_two (w : World) (u v x : Nat) (hx : x < 2 ^ (64 * 2)) (h0 : (wd x 0).toNat = u) (h1 : (wd x 1).toNat = v) : Sw (w.alloc (.cells #[.int .u64 (u : Int), .int .u64 (v : Int)] 56)) (w.alloc (.cells #[.int .u64 (u : Int), .int .u64 (v : Int)] 56)).heap.size (some ⟨w.heap.size, 0, none⟩) 2 2 x := by
  refine ⟨Nat.le_refl _, (fun e => by cases e), fun ad e _ => ⟨w.heap.size, 0, (Option.some.inj e).symm, by rw [alloc_size]; omega, fun i hi => ?_⟩, hx⟩
  rcases (by omega : i = 0 ∨ i = 1) with rfl | rfl
  · rw [V_eq h0]
    simp
  · rw [V_eq h1]
    simp
section
variable {W w : World} {lw lb : List (Option Addr × Nat × Nat × Nat)}
theorem Lv.lit (h : Lv W w lw lb) (v : Nat) (hv : v < 2 ^ 64) : Lv W (w.alloc (.cells #[.int .u64 (v : Int)] 56)) ((some ⟨w.heap.size, 0, none⟩, 1, 1, v) :: lw) lb := (h.alloc _).addW (sw_one w v hv)
theorem Lv.lits (h : Lv W w lw lb) (u v : Nat) (hu : u < 2 ^ 64) (hv : v < 2 ^ 64) : Lv W ((w.alloc (.cells #[.int .u64 (u : Int)] 56)).alloc (.cells #[.int .u64 (v : Int)] 56)) ((some ⟨w.heap.size + 1, 0, none⟩, 1, 1, v) :: (some ⟨w.heap.size, 0, none⟩, 1, 1, u) :: lw) lb := by
  have := (h.lit u hu).lit v hv
  rwa [alloc_size] at this
end
theorem sq_len : dl 64 340282366920938463426481119284349108225 = 2 := dl_eq (by omega) (by decide) (.inr (by decide))
theorem dl_small {x : Nat} (h0 : 0 < x) (h1 : x < 18446744073709551616) : dl 64 x = 1 := dl_eq (by omega) h1 (.inr h0)
set_option maxHeartbeats 1000000 in
theorem awake_any (w : World) : Calls Try.prog 13 #[] w fun e w' => e = .returned (.bool true) ∧ Below w.heap.size w w' := by
  have L : Hid (Lv w ((w.alloc (.cells #[.int .u64 18446744073709551615] 56)).alloc (.cells #[.int .u64 18446744073709551615] 56)) [(some ⟨w.heap.size + 1, 0, none⟩, 1, 1, 18446744073709551615), (some ⟨w.heap.size, 0, none⟩, 1, 1, 18446744073709551615)] []) := Lib.hid ((Lv.start w).lits 18446744073709551615 18446744073709551615 (by omega) (by omega))
  have E1 : Hid (dl 64 340282366920938463426481119284349108225 = 2) := Lib.hid sq_len
  have E2 : Hid (dl 64 3 = 1) := Lib.hid (dl_small (by omega) (by omega))
  have E3 : Hid (dl 64 1 = 1) := Lib.hid (dl_small (by omega) (by omega))
  go_enter Try.func13, Try.ntmps13
  go_wp2_with (first
    | ((with_reducible refine (mul_any (some ⟨w.heap.size, 0, none⟩) 1 1 18446744073709551615 (some ⟨w.heap.size + 1, 0, none⟩) 1 1 18446744073709551615 _ (by omega) (by omega) (L.out.gw 1 rfl) (L.out.gw 0 rfl)).mono ?_); rintro e w1 ⟨v, rfl, hv⟩; replace hv : Got _ w1 v 340282366920938463426481119284349108225 := hv; obtain ⟨a1, rfl, S1, B1⟩ := hv.open; rw [E1.out] at S1 ⊢; have L1 := Lib.hid ((L.out.call B1).addW S1); clear L hv S1 B1; have L : Hid (Lv w ((w1.alloc (.cells #[.int .u64 7] 56)).alloc (.cells #[.int .u64 2] 56)) _ _) := Lib.hid (L1.out.lits 7 2 (by omega) (by omega)); clear L1)
    | ((with_reducible refine (div_any (some ⟨w1.heap.size, 0, none⟩) 1 1 7 (some ⟨w1.heap.size + 1, 0, none⟩) 1 1 2 _ (by omega) (by omega) (L.out.gw 1 rfl) (L.out.gw 0 rfl) (by omega)).mono ?_); rintro e w2 ⟨v2, v3, rfl, hv2, hv3⟩; replace hv2 : Got _ w2 v2 3 := hv2; replace hv3 : Got _ w2 v3 1 := hv3; obtain ⟨a2, rfl, S2, B2⟩ := hv2.open; obtain ⟨a3, rfl, S3, _⟩ := hv3.open; rw [E2.out] at S2 ⊢; rw [E3.out] at S3 ⊢; have L1 : Hid (Lv w (w2.alloc (.cells #[.int .u64 1, .int .u64 18446744073709551614] 56)) _ _) := Lib.hid (((((L.out.call B2).addW S2).addW S3).alloc _).addW (sw_two w2 1 18446744073709551614 340282366920938463426481119284349108225 (by decide) (by rw [wd_nat]; first | done | decide) (by rw [wd_nat]; first | done | decide))); clear L hv2 hv3 S2 B2 S3)
    | ((with_reducible refine (words_any a1 (some ⟨w2.heap.size, 0, none⟩) 2 2 2 340282366920938463426481119284349108225 _ (by omega) (L1.out.gw 5 rfl) (L1.out.gw 0 rfl)).mono ?_); rintro e w4 ⟨rfl, B4⟩; have L2 : Hid (Lv w (w4.alloc (.cells #[.int .u64 3] 56)) _ _) := Lib.hid ((L1.out.call B4).lit 3 (by omega)); clear L1 B4)
    | ((with_reducible refine (words_any a2 (some ⟨w4.heap.size, 0, none⟩) 1 1 1 3 _ (by omega) (L2.out.gw 3 rfl) (L2.out.gw 0 rfl)).mono ?_); rintro e w5 ⟨rfl, B5⟩; have L3 : Hid (Lv w (w5.alloc (.cells #[.int .u64 1] 56)) _ _) := Lib.hid ((L2.out.call B5).lit 1 (by omega)); clear L2 B5)
    | ((with_reducible refine (words_any a3 (some ⟨w5.heap.size, 0, none⟩) 1 1 1 1 _ (by omega) (L3.out.gw 3 rfl) (L3.out.gw 0 rfl)).mono ?_); rintro e w6 ⟨rfl, B6⟩; have L4 := Lib.hid (L3.out.call B6); clear L3 B6))
  go_ret
  exact ⟨rfl, L4.out.bel⟩
end Go.Proofs.Ytmnokjapapheiaa
