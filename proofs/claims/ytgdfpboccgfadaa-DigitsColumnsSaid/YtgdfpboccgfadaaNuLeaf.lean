/-
  Contracts of the small functions of number, and of what stands for math/bits.Add64 and Sub64.
-/
import Derived.Test.YtgdfpboccgfadaaMem
import Derived.Laws.Externs
namespace Go.Proofs.Ytgdfpboccgfadaa
open Go.RowKit

/-! Carries: 0 or 1 -/
def cy (k : Nat) : BitVec 64 := if k = 0 then 0 else 1
theorem cy_le (k : Nat) : (cy k).toNat ≤ 1 := by unfold cy; split <;> decide
theorem cy_of {k : Nat} (h : k ≤ 1) : (cy k).toNat = k := by
  rcases (by omega : k = 0 ∨ k = 1) with rfl | rfl <;> rfl
def adc (a b : BitVec 64) (k : Nat) : BitVec 64 := BitVec.ofNat 64 (a.toNat + b.toNat + (cy k).toNat)
def adk (a b : BitVec 64) (k : Nat) : Nat := (a.toNat + b.toNat + (cy k).toNat) / 18446744073709551616
def sbb (a b : BitVec 64) (k : Nat) : BitVec 64 := BitVec.ofNat 64 (a.toNat + 18446744073709551616 - b.toNat - (cy k).toNat)
def sbk (a b : BitVec 64) (k : Nat) : Nat := if a.toNat < b.toNat + (cy k).toNat then 1 else 0
theorem adk_le (a b : BitVec 64) (k : Nat) : adk a b k ≤ 1 := by
  have := a.isLt; have := b.isLt; have := cy_le k
  unfold adk; omega
theorem sbk_le (a b : BitVec 64) (k : Nat) : sbk a b k ≤ 1 := by unfold sbk; split <;> omega
theorem V_eq {a : BitVec 64} {n : Nat} (h : a.toNat = n) : V a = .int .u64 (n : Int) := by subst h; rfl
def sub64E : Array Value → Sem Value := fun args => do
  let (x, y, b) ← Extern.MathBitsCarry.three "Sub64" args
  pure (Extern.MathBitsCarry.pair ((x + Extern.MathBitsCarry.m64 - y - b) % Extern.MathBitsCarry.m64) (if x < y + b then 1 else 0))
theorem run_sub64E {P : Program} (x y b : Nat) (hb : b ≤ 1) (w : World) :
    (sub64E #[.int .u64 x, .int .u64 y, .int .u64 b]).run P w =
      .ok (.tuple #[.int .u64 (((x + 18446744073709551616 - y - b) % 18446744073709551616 : Nat) : Int), .int .u64 ((if x < y + b then 1 else 0 : Nat) : Int)]) w := by
  have : b = 0 ∨ b = 1 := by omega
  rcases this with rfl | rfl <;> rfl
@[go_sem] theorem add64_run (a b : BitVec 64) (k : Nat) (w : World) : (callFunc 49 #[V a, V b, V (cy k)]).run Try.prog w = .ok (.value (.tuple #[V (adc a b k), V (cy (adk a b k))])) w := by
  have h := run_callFunc_extern (P := Try.prog) Try.func49 (by kernel_rfl) (by kernel_rfl) (by kernel_rfl) (e := add64Entry) (by kernel_rfl) #[V a, V b, V (cy k)] w
  rw [h]
  have h1 := a.isLt; have h2 := b.isLt; have h3 := cy_le k
  show (Sem.run Try.prog (add64Entry #[.int .u64 (a.toNat : Int), .int .u64 (b.toNat : Int), .int .u64 ((cy k).toNat : Int)]) w).andThen _ = _
  rw [run_add64 _ _ _ (by omega) (by omega) (by omega) (by omega)]
  have e1 : V (adc a b k) = .int .u64 (((a.toNat : Int) + b.toNat + (cy k).toNat) % 18446744073709551616) := by
    rw [V_eq (n := (a.toNat + b.toNat + (cy k).toNat) % 18446744073709551616) (by unfold adc; rw [BitVec.toNat_ofNat])]
    congr 1
  have e2 : V (cy (adk a b k)) = .int .u64 (((a.toNat : Int) + b.toNat + (cy k).toNat) / 18446744073709551616) := by
    rw [V_eq (cy_of (adk_le a b k))]
    congr 1
  rw [e1, e2]
  rfl
@[go_sem] theorem add64_run0 (a b : BitVec 64) (w : World) : (callFunc 49 #[V a, V b, .int .u64 0]).run Try.prog w = .ok (.value (.tuple #[V (adc a b 0), V (cy (adk a b 0))])) w := add64_run a b 0 w










/-- place. -/
theorem nplace_any (i : Nat) (w : World) (hi : i ≤ 10000000) (k : Nat) (hk : i % 8 * 8 = k) :
    Calls Try.prog 37 #[.int .i64 i] w fun e w' => e = .returned (.int .i64 (k : Int)) ∧ w' = w := by
  go_enter Try.func37, Try.ntmps37
  go_wp2
  go_ret
  exact ⟨congrArg (fun n => Ending.returned (.int .i64 n)) (by subst hk; show (i : Int) % 8 * 8 = _; simp), rfl⟩

/-- word: beyond the end a number goes on with noughts. -/
theorem word_any (a : Option Addr) (n c x i : Nat) (w : World) (_hi : i ≤ 1000000000000000000) (_hn : n ≤ 1000000) {B : Nat} (h : Sw w B a n c x) :
    Calls Try.prog 42 #[.slice a n c, .int .i64 i] w fun e w' => e = .returned (V (wd x i)) ∧ w' = w := by
  by_cases hlt : i < n
  · obtain ⟨b, o, rfl, _, hc⟩ := h.get i hlt
    have hid : decide ((i : Int) < (n : Int)) = true := by simp; omega
    have hlt' : (i : Int) < (n : Int) := by omega
    clear h
    go_enter Try.func42, Try.ntmps42
    go_wp2
    go_ret
    exact ⟨rfl, rfl⟩
  · have hid : decide ((i : Int) < (n : Int)) = false := by simp; omega
    have hz : wd x i = 0 := wd_over h.fits (by omega)
    rw [hz]
    clear h hz
    go_enter Try.func42, Try.ntmps42
    go_wp2
    go_ret
    exact ⟨rfl, rfl⟩
end Go.Proofs.Ytgdfpboccgfadaa
