/-
  Division bit by bit: plain mathematics; make with its world named. No statement is proved here: lemmas for the walks.
-/
import Derived.Test.YtmnokjapapheiaaNuBitM
namespace Go.Proofs.Ytmnokjapapheiaa
open Go.RowKit

theorem half_step (x t : Nat) : x / 2 ^ t = 2 * (x / 2 ^ (t + 1)) + x / 2 ^ t % 2 := by
  rw [Nat.pow_succ, ← Nat.div_div_eq_div_mul]
  omega
theorem div_bit_lt {x y t : Nat} (h : 2 * (x / 2 ^ (t + 1) % y) + x / 2 ^ t % 2 < y) : x / 2 ^ t % y = 2 * (x / 2 ^ (t + 1) % y) + x / 2 ^ t % 2 ∧ x / 2 ^ t / y = 2 * (x / 2 ^ (t + 1) / y) := by
  have hs := half_step x t
  generalize x / 2 ^ t % 2 = b at *
  generalize x / 2 ^ (t + 1) = u at *
  have hd := Nat.div_add_mod u y
  have e : x / 2 ^ t = y * (2 * (u / y)) + (2 * (u % y) + b) := by
    rw [hs, Nat.mul_left_comm]
    omega
  have hy : 0 < y := by omega
  rw [e, Nat.mul_add_mod, Nat.mod_eq_of_lt h, Nat.mul_add_div hy, Nat.div_eq_of_lt h]
  exact ⟨rfl, rfl⟩
theorem div_bit_ge {x y t : Nat} (hy : 0 < y) (h : y ≤ 2 * (x / 2 ^ (t + 1) % y) + x / 2 ^ t % 2) : x / 2 ^ t % y = 2 * (x / 2 ^ (t + 1) % y) + x / 2 ^ t % 2 - y ∧ x / 2 ^ t / y = 2 * (x / 2 ^ (t + 1) / y) + 1 := by
  have hs := half_step x t
  have hb : x / 2 ^ t % 2 < 2 := Nat.mod_lt _ (by omega)
  generalize x / 2 ^ t % 2 = b at *
  generalize x / 2 ^ (t + 1) = u at *
  have hd := Nat.div_add_mod u y
  have hm := Nat.mod_lt u hy
  have hr : 2 * (u % y) + b - y < y := by omega
  have e : x / 2 ^ t = y * (2 * (u / y) + 1) + (2 * (u % y) + b - y) := by
    rw [hs, Nat.mul_add, Nat.mul_left_comm, Nat.mul_one]
    omega
  rw [e, Nat.mul_add_mod, Nat.mod_eq_of_lt hr, Nat.mul_add_div hy, Nat.div_eq_of_lt hr]
  exact ⟨rfl, rfl⟩
/-- What is left at once is less than b. -/
theorem div_start {x y S : Nat} (hy : 0 < y) (hS : bl x + 1 ≤ S + bl y) : x / 2 ^ S < y := by
  have hl := bl_low hy
  have hp := bl_pos hy
  rw [Nat.div_lt_iff_lt_mul (Nat.two_pow_pos _)]
  refine Nat.lt_of_lt_of_le (bl_fits x) ?_
  refine Nat.le_trans ?_ (Nat.mul_le_mul_right _ hl)
  rw [← Nat.pow_add]
  exact Nat.pow_le_pow_right (by omega) (by omega)
theorem div_fits {x y S : Nat} (hy : 0 < y) (h : x / 2 ^ S < y) : x / y < 2 ^ (64 * (S / 64 + 1)) := by
  rw [Nat.div_lt_iff_lt_mul (Nat.two_pow_pos _)] at h
  rw [Nat.div_lt_iff_lt_mul hy]
  refine Nat.lt_of_lt_of_le h ?_
  rw [Nat.mul_comm]
  exact Nat.mul_le_mul_right _ (Nat.pow_le_pow_right (by omega) (by omega))
section
variable {ops : Array Oper} {rest : List Oper} {o : Oper} {a : Act} {w : World} {Q : Exit → Act → World → Prop}
theorem lay_makeN (hgd : o.guard = none) {x y : Operand} (ho : o.op = .makeSlice 24 x y) {l : Nat} (hx : a.eval x = .int .i64 (l : Int)) (hy : a.eval y = .int .i64 (l : Int)) (hc : l ≤ 1000000)
    (k : ∀ w' g, Hid (g = w.heap.size) → Hid (RowW w' g l fun _ => 0) → Hid (Below g w w') → ∀ K : Act → World → Prop, (∀ a w, wpList Try.prog ops Q rest a w → K a w) → K (a.put o.dst (.slice (some ⟨g, 0, none⟩) l l)) w') : wpList Try.prog ops Q (o :: rest) a w :=
  lay_makeW hgd ho hx hy hc fun K hK => k _ _ (Lib.hid rfl) (Lib.hid (RowW.new _ _ _)) (Lib.hid ((Below.refl _ _).alloc (Nat.le_refl _) _)) K hK
end
end Go.Proofs.Ytmnokjapapheiaa
