/-
  A slice of bytes that are a number, in regions that draw their order. No statement is proved here: lemmas for the walks.
-/
import Derived.Test.YtgdfpboccgfadaaAts
import Derived.Test.YtgdfpboccgfadaaMem
import Derived.Great.BuildSlice
namespace Go.Proofs.Ytgdfpboccgfadaa
open Go.RowKit

theorem Sb.drew {w : World} {a : Option Addr} {n c x : Nat} (h : Sb w w.heap.size a n c x) : Sb w.drew w.drew.heap.size a n c x := ⟨h.sl.drew, h.fits⟩
section
variable {P : Program} {o : Oper} {a : Act} {w w0 : World} {l : List (Nat × Obj)} {K : Act → World → Prop} {Q : Exit → Act → World → Prop} {t : TypeId} {k : IntKind} {n : Nat}
/-- A slice of one byte is made. -/
theorem own_wp_byte (dd : Tmp) (hd : o.dst = some dd) {v : Nat} (hv : v < 256) (H : Ow w0 w l) (ho : o.op = .buildSlice 22 1 #[(0, .const (.int .u8 (v : Int)))])
    (h : ∀ w' g, Ow w0 w' ((g, .cells #[.int .u8 (v : Int)] 5) :: l) → Sb w' w'.heap.size (some ⟨g, 0, none⟩) 1 1 v → Below w.heap.size w w' → K (a.put (some dd) (.slice (some ⟨g, 0, none⟩) 1 1)) w') : o.wp Try.prog a w K Q := by
  obtain ⟨i, hi, hz, hs, _⟩ := info_u8
  refine Go.wp_buildSlice 22 5 1 _ ho #[.int .u8 (v : Int)] i _ Try.underlying22 hi hz (by rw [hs]; decide) (by rw [hs]; decide) (by rw [hs]; simp [Instr.fill, Act.eval, Array.range, Value.cells]; exact Array.ext (by simp) (fun j h1 h2 => by obtain rfl : j = 0 := (by simpa using h2); simp)) ?_
  rw [hd]
  refine h _ _ (H.alloc _) ⟨⟨Nat.le_refl _, (fun e => by cases e), fun ad e _ => ⟨w.heap.size, 0, (Option.some.inj e).symm, by simp, fun j hj => ?_⟩⟩, hv⟩ (below_alloc _ _)
  obtain rfl : j = 0 := by omega
  have : U (bt v 0) = .int .u8 (v : Int) := congrArg (Value.int .u8) (by
    show ((bt v 0).toNat : Int) = _
    rw [bt_nat, Nat.mul_zero, Nat.pow_zero, Nat.div_one, Nat.mod_eq_of_lt hv])
  rw [this]
  simp
end
end Go.Proofs.Ytgdfpboccgfadaa
