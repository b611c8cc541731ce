/-
 From a law's contract to its row, where two spots, a bool, terms come in.
-/
import Derived.Test.YtoeokhfhcpcjlaaGreatDoorZCbKit
import Derived.Test.YtoeokhfhcpcjlaaGreatDoorZMtOnes
set_option maxRecDepth 20000
namespace Go.Proofs.YtoeokhfhcpcjlaaGreatDoor
open Go.ChangeShapes Go.WideShapes Go.ChangeAt Go.RowKit
theorem cellsS2 : Tryz.prog.cellsOf 55 = 4 := by kernel_rfl
theorem four_of {cs : Array Value} (h : cs.size = 4) : ∃ x y z u, cs = #[x, y, z, u] ∧ cs.toList = [x, y, z, u] := by
 obtain ⟨l⟩ := cs
 match l, h with
 | [x, y, z, u], _ => exact ⟨x, y, z, u, rfl, rfl⟩
section
variable {H : Type} {enc : TypeId × Value → H}
theorem open_sps {W : World} {base : Nat} {v : Value} {d : DataW H} {p : List MemPlace} (hv : Value.okWide Tryz.prog W .any base 55 v) (h : DataW.Trod enc Tryz.prog W 0 (fun _ => true) true 55 v d p) :
  ∃ a n c q z a' n' c' q' z', v = .agg #[.slice a n c, .int .i64 z, .slice a' n' c', .int .i64 z'] ∧ Sb W W.heap.size a n c q ∧ Sb W W.heap.size a' n' c' q' := by
 obtain ⟨cs, rfl, hsz, _⟩ : ∃ cs, v = .agg cs ∧ cs.size = Tryz.prog.cellsOf 55 ∧ Row.okWide Tryz.prog W .any base 55 cs := by
  simpa [Value.okWide, Tryz.underlying55] using hv
 rw [cellsS2] at hsz
 obtain ⟨fuel, hf⟩ := h
 obtain ⟨x, y, x', y', rfl, e⟩ := four_of hsz
 obtain ⟨xs, m, _, _, _, hxl, hel⟩ := DataW.trod_array Tryz.underlying55 hf
 have h0 := hel 0 (by omega)
 have h1 := hel 1 (by omega)
 rw [cellsSp11, List.getElem?_eq_getElem (by omega)] at h0 h1
 obtain ⟨a, n, c, q, z, hx, hy, hs⟩ := z59 (x := x) (y := y) h0
 obtain ⟨a', n', c', q', z', hx', hy', hs'⟩ := z59 (x := x') (y := y') h1
 exact ⟨a, n, c, q, z, a', n', c', q', z', by rw [hx, hy, hx', hy'], hs, hs'⟩
end
end Go.Proofs.YtoeokhfhcpcjlaaGreatDoor
