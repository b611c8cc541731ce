/-
 From a law's contract to its row, where spots, plans, two slices come in.
-/
import Derived.Test.YtoeokhfhcpcjlaaGreatDoorZFdKit
import Derived.Test.YtoeokhfhcpcjlaaGreatDoorBuN
import Derived.Test.YtoeokhfhcpcjlaaGreatDoorBuR
import Derived.Deep.Matrix
namespace Go.Proofs.YtoeokhfhcpcjlaaGreatDoor
open Go.ChangeShapes Go.WideShapes Go.ChangeAt Go.RowKit
theorem cellsBs1 : Tryz.prog.cellsOf 22 = 1 := by kernel_rfl
theorem cellsSp11 : Tryz.prog.cellsOf 25 = 2 := by kernel_rfl
theorem addr_cell {w : World} {a : Addr} {v : Value} (h : w.cell? (a.add 0) = some v) : ∃ b o, a = ⟨b, o, none⟩ ∧ b < w.heap.size := by
 obtain ⟨b, o, sp⟩ := a
 have hsp : sp = none := by
  cases sp with
  | none => rfl
  | some k =>
   exfalso
   unfold World.cell? at h
   simp [Addr.add] at h
   split at h <;> simp_all
 subst hsp
 exact ⟨b, o, rfl, by have := block_lt_of_cell h; simpa [Addr.add] using this⟩
section
variable {H : Type} {enc : TypeId × Value → H}
theorem open_num {W : World} {fuel : Nat} {v : Value} {x : DataW H × List MemPlace} (h : DataW.trod enc Tryz.prog W 0 (fun _ => true) true fuel 22 [v] = some x) : ∃ a n c y, v = .slice a n c ∧ Sb W W.heap.size a n c y := by
 have key : ∀ a n c f, v = .slice a n c → Sl W W.heap.size a n c f → ∃ a n c y, v = .slice a n c ∧ Sb W W.heap.size a n c y := fun a n c f hv hs => by
  obtain ⟨y, hy, he⟩ := z9r f n
  exact ⟨a, n, c, y, hv, ⟨hs.congr fun i hi => (he i hi).symm, hy⟩⟩
 rcases open_ints Tryz.underlying22 Tryz.underlying5 cells5 h with ⟨hcs, _⟩ | ⟨a, len', cap', zs, hcs, _, hl, hm, hz, _, hcell, hwz⟩
 ·simp at hcs
  exact key none 0 0 (fun _ => 0) hcs ⟨Nat.le_refl _, (fun _ => rfl), (fun _ e _ => by cases e)⟩
 ·simp at hcs
  simp only [if_true] at hz
  refine key (some a) len' cap' (fun i => BitVec.ofInt 8 (zs.getD i 0)) hcs ⟨hl, (fun e => by cases e), fun ad e (h0 : 0 < len') => ?_⟩
  obtain rfl := Option.some.inj e
  obtain ⟨b, o, rfl, hb⟩ := addr_cell (hcell 0 (by omega))
  refine ⟨b, o, rfl, hb, fun i (hi : i < len') => ?_⟩
  have hc := hcell i (by omega)
  rw [Addr.add_mid] at hc
  rw [hc]
  have hw := hwz (zs.getD i 0) (by rw [List.getD_eq_getElem?_getD, List.getElem?_eq_getElem (by omega)]; exact List.getElem_mem _)
  have hb8 := bounds_u8 hw
  obtain ⟨k, hk⟩ := Int.eq_ofNat_of_zero_le hb8.1
  show some (Value.int .u8 (zs.getD i 0)) = some (Value.int .u8 (U8 (BitVec.ofInt 8 (zs.getD i 0))))
  rw [hk, U8, BitVec.ofInt_natCast, BitVec.toNat_ofNat, Nat.mod_eq_of_lt (by omega)]
theorem z59 {W : World} {fuel : Nat} {x y : Value} {r : DataW H × List MemPlace} (h : DataW.trod enc Tryz.prog W 0 (fun _ => true) true fuel 25 [x, y] = some r) :
  ∃ a n c q z, x = .slice a n c ∧ y = .int .i64 z ∧ Sb W W.heap.size a n c q := by
 obtain ⟨xs, n, _, _, _, hl, hel⟩ := DataW.trod_struct Tryz.underlying25 h
 have hl2 : xs.length = 2 := hl
 have h0 : DataW.trod enc Tryz.prog W 0 (fun _ => true) true n 22 (([x, y].drop 0).take (Tryz.prog.cellsOf 22)) = some (xs[0]'(by omega)) := (hel 0 _ rfl).trans (List.getElem?_eq_getElem (by omega))
 have h1 : DataW.trod enc Tryz.prog W 0 (fun _ => true) true n 3 (([x, y].drop 1).take (Tryz.prog.cellsOf 3)) = some (xs[1]'(by omega)) := (hel 1 _ rfl).trans (List.getElem?_eq_getElem (by omega))
 rw [cellsBs1] at h0
 rw [cells3] at h1
 obtain ⟨a, m, c, q, hx, hs⟩ := open_num h0
 obtain ⟨z, hz, _, _⟩ := DataW.trod_int Tryz.underlying3 h1
 simp at hz
 exact ⟨a, m, c, q, z, hx, hz, hs⟩
end
end Go.Proofs.YtoeokhfhcpcjlaaGreatDoor
