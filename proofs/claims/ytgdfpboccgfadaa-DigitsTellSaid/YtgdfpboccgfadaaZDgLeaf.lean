/-
  The contracts of package digits' bits: the closure that tells a bit, together, parts. No statement is proved here: lemmas for the walks.
-/
import Derived.Test.YtgdfpboccgfadaaBuN
import Derived.Test.YtgdfpboccgfadaaBuR
import Derived.Test.YtgdfpboccgfadaaZDgMath
import Derived.Test.YtgdfpboccgfadaaZOwnZ
namespace Go.Proofs.Ytgdfpboccgfadaa
open Go.RowKit

/-- A cell that holds a slice of bytes that are a number. -/
structure Rd (w : World) (g : Nat) (a : Option Addr) (n c x : Nat) : Prop where
  cell : w.cell? ⟨g, 0, none⟩ = some (.slice a n c)
  sb : Sb w w.heap.size a n c x
theorem and1_u8 : ∀ v : Nat, v < 256 → bits .and .u8 (v : Int) 1 = ((v % 2 : Nat) : Int) := by decide +kernel
theorem byte_bit (x i : Nat) : ∀ q s, i / 8 = q → i % 8 = s → wrap64 (bits .and .u8 (U8 (bt x q) / 2 ^ s) 1) = ((tb x i : Nat) : Int) := by
  intro q s hq hs
  subst hq hs
  have h1 : U8 (bt x (i / 8)) / 2 ^ (i % 8) = ((dg x (i / 8) / 2 ^ (i % 8) : Nat) : Int) := by
    rw [U8_bt]
    push_cast
    rfl
  have h2 : dg x (i / 8) / 2 ^ (i % 8) < 256 := Nat.lt_of_le_of_lt (Nat.div_le_self _ _) (dg_lt _ _)
  rw [h1, and1_u8 _ h2, dg_bit]
  have h3 := tb_lt x i
  unfold tb at h3 ⊢
  exact IntWalk.wrap64_in _ ⟨by omega, by omega⟩
abbrev Bit (g : Nat) : Value := .func (.func 44) #[] #[.pointer (some ⟨g, 0, none⟩)]
set_option maxRecDepth 8000 in
set_option maxHeartbeats 800000 in
theorem bit_v {w : World} {g : Nat} {a : Option Addr} {n c x : Nat} (i : Nat) (z : Int) (hz : z = (i : Int)) (hR : Rd w g a n c x) (hn : n ≤ 1000) (hi : i ≤ 1000000) :
    Calls Try.prog 44 #[.int .i64 z, .pointer (some ⟨g, 0, none⟩)] w fun e w' => e = .returned (.int .i64 ((tb x i : Nat) : Int)) ∧ w' = w := by
  subst hz
  have hc := hR.cell
  have HS := Lib.hid hR.sb
  clear hR
  by_cases hlt : i < 8 * n
  · have hid : decide (8 * (n : Int) ≤ (i : Int)) = false := by simp; omega
    obtain ⟨q, hq⟩ : ∃ q, i / 8 = q := ⟨_, rfl⟩
    obtain ⟨s, hs⟩ : ∃ s, i % 8 = s := ⟨_, rfl⟩
    have e1 : (i : Int) / 8 = (q : Int) := by omega
    have e2 : (i : Int) % 8 = (s : Int) := by omega
    have e3 : (i : Int).tmod 8 = (s : Int) := by rw [Int.tmod_eq_emod_of_nonneg (by omega)]; exact e2
    have e4 : (i : Int).tdiv 8 = (q : Int) := by rw [Int.tdiv_eq_ediv_of_nonneg (by omega)]; exact e1
    have hqn : (q : Int) < (n : Int) := by omega
    obtain ⟨b, o, rfl, _, hb⟩ := HS.out.sl.get q (by omega)
    have E := Lib.hid (byte_bit x i q s hq hs)
    have hs8 : (s : Int) < 8 := by omega
    clear hlt hq hs
    go_enter Try.func44, Try.ntmps44
    go_wp2
    go_ret
    exact ⟨congrArg (fun n => Ending.returned (.int .i64 n)) E.out, rfl⟩
  · have hid : decide (8 * (n : Int) ≤ (i : Int)) = true := by simp; omega
    have E := Lib.hid (tb_over HS.out.fits (i := i) (by omega))
    clear hlt
    go_enter Try.func44, Try.ntmps44
    go_wp2
    go_ret
    exact ⟨by rw [E.out]; rfl, rfl⟩
theorem parts_v (a : Option Addr) (n c k : Nat) (w : World) (hn : n ≤ 1000000) (hk : 0 < k) (hk8 : k ≤ 8) (m : Nat) (hm : (8 * n + k - 1) / k = m) :
    Calls Try.prog 25 #[.slice a n c, .int .i64 (k : Int)] w fun e w' => e = .returned (.int .i64 (m : Int)) ∧ w' = w := by
  have e1 : (8 * (n : Int) + (k : Int) - 1) / (k : Int) = (m : Int) := by
    subst hm
    rw [← Int.ofNat_ediv_ofNat]
    congr 1
    omega
  have e2 : (8 * (n : Int) + (k : Int) - 1).tdiv (k : Int) = (m : Int) := by rw [Int.tdiv_eq_ediv_of_nonneg (by omega)]; exact e1
  have hk' : ((k : Int) == 0) = false := by simp; omega
  have hk0 : (k : Int) ≠ 0 := by omega
  have hmb : m ≤ 10000000 := by
    have := Nat.div_le_self (8 * n + k - 1) k
    omega
  clear hm
  go_enter Try.func25, Try.ntmps25
  go_wp2
  go_ret
  exact ⟨rfl, rfl⟩
theorem reader_v (a : Option Addr) (n c x : Nat) (w0 w : World) (l : List (Nat × Obj)) (h : Ow w0 w l) (_hs : Sb w w.heap.size a n c x) :
    Calls Try.prog 24 #[.slice a n c] w fun e w' => ∃ g, e = .returned (Bit g) ∧ Ow w0 w' ((g, Oc 22 (.slice a n c)) :: l) ∧ Below w.heap.size w w' := by
  go_enter Try.func24, Try.ntmps24
  go_wp2
  go_ret
  exact ⟨_, rfl, h.alloc _, below_alloc _ _⟩
theorem or_bit : ∀ k : Nat, k < 8 → ∀ s : Nat, s < 256 → ∀ b : Nat, b < 2 → s < 2 ^ k → bits .or .i64 (s : Int) (wrap64 ((b : Int) * 2 ^ k)) = ((s + b * 2 ^ k : Nat) : Int) := by decide +kernel
set_option maxRecDepth 8000 in
set_option maxHeartbeats 800000 in
theorem together_v {w : World} {g : Nat} {a : Option Addr} {n c x : Nat} (f p k : Nat) (zf zp : Int) (hzf : zf = (f : Int)) (hzp : zp = (p : Int)) (hR : Rd w g a n c x) (hn : n ≤ 100) (hf : f ≤ 10000) (hp : p ≤ 10000) (hk : k ≤ 8) :
    Calls Try.prog 26 #[Bit g, .int .i64 zf, .int .i64 zp, .int .i64 (k : Int)] w fun e w' => e = .returned (.int .i64 ((tog x f p k : Nat) : Int)) ∧ w' = w := by
  subst hzf hzp
  have HR := Lib.hid hR
  clear hR
  go_enter Try.func26, Try.ntmps26
  go_wp2_with fail
  go_loop [9, 12] (fun v9 v12 => ∃ i : Nat, i ≤ k ∧ v12 = .int .i64 i ∧ v9 = .int .i64 ((tog x f p i : Nat) : Int)) (fun _ v12 => k - (intOf v12).toNat)
  case atStart => exact ⟨0, by omega, rfl, rfl⟩
  case round =>
    obtain ⟨i, hi, rfl, rfl⟩ := hrel
    by_cases hlt : i < k
    · have hid : decide ((i : Int) < (k : Int)) = true := by simp; omega
      have hm : (i : Int) * (p : Int) = ((i * p : Nat) : Int) := by push_cast; rfl
      have hmb : i * p ≤ 80000 := Nat.le_trans (Nat.mul_le_mul (by omega : i ≤ 8) hp) (by omega)
      have hb := tb_lt x (f + i * p)
      have hs := tog_lt x f p i
      have hs2 : 2 ^ i ≤ 2 ^ 7 := Nat.pow_le_pow_right (by omega) (by omega)
      have E := Lib.hid (or_bit i (by omega) (tog x f p i) (by omega) (tb x (f + i * p)) hb hs)
      have ES : Hid (tog x f p (i + 1) = tog x f p i + tb x (f + i * p) * 2 ^ i) := Lib.hid rfl
      obtain ⟨q, hq⟩ : ∃ q, i * p = q := ⟨_, rfl⟩
      rw [hq] at hm hmb hb E ES
      clear hs2 hq
      go_wp2_with ((with_reducible refine (bit_v (f + q) ((f : Int) + (q : Int)) (by omega) HR.out (by omega) (by omega)).mono ?_); rintro e w' ⟨rfl, rfl⟩)
      go_round
      case rel => exact ⟨i + 1, by omega, by go_num, by rw [ES.out, ← E.out]⟩
      case measure => (simp [intOf] <;> omega)
    · obtain rfl : i = k := by omega
      have hid : decide ((i : Int) < (i : Int)) = false := by simp
      clear hlt
      go_wp2_with fail
      go_ret
      exact ⟨rfl, rfl⟩
end Go.Proofs.Ytgdfpboccgfadaa
