/-
  The contract of math/bits.Len64.
-/
import Derived.Test.YtmnokjapapheiaaNuMul64
import Derived.Lib.Strings
import Derived.Lib.Slices
import Derived.Lib.Small
import Derived.Lib.Walk
import Derived.Lib.BitFns
namespace Go.Proofs.Ytmnokjapapheiaa
open Go.RowKit
@[go_sem high] theorem len8_lt {P : Program} (w : World) (t : TypeId) (k : IntKind) (i : Int) (h : P.underlying t = some .string) (h0 : 0 ≤ i) (h1 : i < 256) :
    (Instr.index t (.string Lib.len8tab) (.int k i)).run P w = .ok (.int .u8 (Lib.len8 i)) w := Lib.run_index_len8tab w t k i h h0 (by omega)
theorem wrap_wrap (m : Nat) (h : m ≤ 8) : wrap64 (wrap64 (m : Int)) = (m : Int) := by
  simp only [wrap64]
  omega
theorem wrap_sum (k m : Nat) (hk : k ≤ 56) (h : m ≤ 8) : wrap64 ((k : Int) + wrap64 (m : Int)) = ((k + m : Nat) : Int) := by
  simp only [wrap64]
  omega
theorem len8_sum (x y : Int) (k P : Nat) (h0 : 0 ≤ y) (h1 : y < 256) (hk : k ≤ 56) (hs : x.toNat < 18446744073709551616 → Lib.bitLen x.toNat = k + Lib.bitLen (x.toNat / P)) (hx : x.toNat < 18446744073709551616) (hy : y = ((x.toNat / P : Nat) : Int)) :
    wrap64 ((k : Int) + wrap64 (Lib.len8 y)) = (Lib.bitLen x.toNat : Int) := by
  rw [hs hx, Lib.len8_of y h0 (by omega)]
  have l := Lib.bitLen_le8' y h0 (by omega)
  subst hy
  rw [Int.toNat_natCast] at l ⊢
  exact wrap_sum _ _ hk l
set_option maxHeartbeats 4000000 in
set_option maxRecDepth 100000 in
theorem len64_int (x : Int) (w : World) (h0 : 0 ≤ x) (h1 : x ≤ 18446744073709551615) :
    Calls Try.prog 41 #[.int .u64 x] w fun e w' => e = .returned (.int .i64 (Lib.bitLen x.toNat)) ∧ w' = w := by
  have p1 : 0 ≤ x / 4294967296 := by omega
  have p2 : 0 ≤ x / 4294967296 / 65536 := by omega
  have p3 : 0 ≤ x / 4294967296 / 65536 / 256 := by omega
  have p4 : 0 ≤ x / 4294967296 / 256 := by omega
  have p5 : 0 ≤ x / 65536 := by omega
  have p6 : 0 ≤ x / 65536 / 256 := by omega
  have p7 : 0 ≤ x / 256 := by omega
  have q3 : x / 4294967296 / 65536 / 256 < 256 := by omega
  have q4 : x / 4294967296 < 65536 → x / 4294967296 / 256 < 256 := by omega
  have q6 : x < 4294967296 → x / 65536 / 256 < 256 := by omega
  have q7 : x < 65536 → x / 256 < 256 := by omega
  go_enter Try.func41, Try.ntmps41
  go_wp2
  all_goals (go_ret; refine ⟨congrArg Ending.returned (congrArg (Value.int IntKind.i64) ?_), rfl⟩)
  · exact len8_sum _ _ 56 72057594037927936 p3 q3 (by omega) (fun _ => Lib.bitLen_shift56 x.toNat (by omega) (by omega)) (by omega) (by omega)
  · exact len8_sum _ _ 48 281474976710656 p2 (by assumption) (by omega) (fun _ => Lib.bitLen_shift48 x.toNat (by omega) (by omega)) (by omega) (by omega)
  · exact len8_sum _ _ 40 1099511627776 p4 (q4 (by assumption)) (by omega) (fun _ => Lib.bitLen_shift40 x.toNat (by omega) (by omega)) (by omega) (by omega)
  · exact len8_sum _ _ 32 4294967296 p1 (by assumption) (by omega) (fun _ => Lib.bitLen_shift32 x.toNat (by omega) (by omega)) (by omega) (by omega)
  · exact len8_sum _ _ 24 16777216 p6 (q6 (by assumption)) (by omega) (fun _ => Lib.bitLen_shift24 x.toNat (by omega) (by omega)) (by omega) (by omega)
  · exact len8_sum _ _ 16 65536 p5 (by assumption) (by omega) (fun _ => Lib.bitLen_shift16 x.toNat (by omega) (by omega)) (by omega) (by omega)
  · exact len8_sum _ _ 8 256 p7 (q7 (by assumption)) (by omega) (fun _ => Lib.bitLen_shift8 x.toNat (by omega) (by omega)) (by omega) (by omega)
  · have e := Lib.len8_of x h0 (by omega)
    have l := Lib.bitLen_le8' x h0 (by omega)
    rw [e]
    exact wrap_wrap _ l
theorem bitLen_bl (x : Nat) (hx : x < 18446744073709551616) : Lib.bitLen x = bl x := by
  have key : ∀ (f x : Nat), x < 2 ^ f → Lib.bitLenAux f x = bl x := by
    intro f
    induction f with
    | zero => intro x hx; simp at hx; subst hx; rfl
    | succ f ih =>
      intro x hx
      rw [Lib.bitLenAux]
      by_cases h0 : x = 0
      · rw [if_pos h0, h0]; rfl
      · rw [if_neg h0, ih (x / 2) (by rw [Nat.pow_succ] at hx; omega)]
        refine (bl_eq ?_ (.inr ?_)).symm
        · have := bl_fits (x / 2)
          rw [Nat.add_comm, Nat.pow_succ]; omega
        · rw [Nat.add_sub_cancel_left]
          by_cases h1 : x / 2 = 0
          · rw [h1, bl_zero]; omega
          · have := bl_low (x := x / 2) (by omega)
            have hp := bl_pos (x := x / 2) (by omega)
            obtain ⟨k, hk⟩ : ∃ k, bl (x / 2) = k + 1 := ⟨bl (x / 2) - 1, by omega⟩
            rw [hk] at this ⊢
            rw [Nat.add_sub_cancel] at this
            rw [Nat.pow_succ]; omega
  exact key 64 x hx
theorem len64_any (a : BitVec 64) (w : World) :
    Calls Try.prog 41 #[V a] w fun e w' => e = .returned (.int .i64 ((bl a.toNat : Nat) : Int)) ∧ w' = w := by
  have h := a.isLt
  have := len64_int (L a) w (L_bd a).1 (L_bd a).2
  rwa [show (L a).toNat = a.toNat from rfl, bitLen_bl _ a.isLt] at this
end Go.Proofs.Ytmnokjapapheiaa
