/-
  A slice of words as an argument. No statement is proved here.
-/
import Derived.Test.YtgdfpboccgfadaaZRowKit
import Derived.Test.YtgdfpboccgfadaaBuN
namespace Go.Proofs.Ytgdfpboccgfadaa
open Go.ChangeShapes Go.WideShapes Go.ChangeAt Go.RowKit

section
variable {H : Type} {enc : TypeId × Value → H} {P : Program}
/-- A slice of words that came in. -/
theorem open_words {t e : TypeId} (ht : P.underlying t = some (.slice e)) (he : P.underlying e = some (.int .u64)) (hce : P.cellsOf e = 1) {W : World} {base : Nat} {v : Value} {d : DataW H} {p : List MemPlace}
    (hv : Value.okWide P W .any base t v) (h : DataW.Trod enc P W 0 (fun _ => true) true t v d p) : ∃ a n c x, v = .slice a n c ∧ n ≤ maxLen ∧ Sw W W.heap.size a n c x := by
  obtain ⟨a0, len, cap, rfl⟩ := okWide_slice ht hv
  obtain ⟨fuel, hf⟩ := h
  rcases open_ints ht he hce hf with ⟨hcs, _⟩ | ⟨a, len', cap', zs, hcs, _, hl, hm, hz, _, hcell, hwz⟩
  · simp [Value.cells] at hcs
    obtain ⟨rfl, rfl, rfl⟩ := hcs
    exact ⟨none, 0, 0, 0, rfl, Nat.zero_le _, Sw.zero _ _⟩
  · simp [Value.cells] at hcs
    obtain ⟨rfl, rfl, rfl⟩ := hcs
    simp only [if_true] at hz
    obtain ⟨x, hx, hw⟩ := words_of (fun i => BitVec.ofInt 64 (zs.getD i 0)) len
    refine ⟨some a, len, cap, x, rfl, Nat.le_trans hl hm, hl, (fun e => by cases e), fun ad e h0 => ?_, hx⟩
    obtain rfl := Option.some.inj e
    have c0 := hcell 0 (by omega)
    obtain ⟨b, o, sp⟩ := a
    have hsp : sp = none := by
      cases sp with
      | none => rfl
      | some k =>
        exfalso
        unfold World.cell? at c0
        simp [Addr.add] at c0
        split at c0 <;> simp_all
    subst hsp
    refine ⟨b, o, rfl, ?_, fun i hi => ?_⟩
    · have := block_lt_of_cell c0
      simpa [Addr.add] using this
    · have hc := hcell i (by omega)
      have hadd : (⟨b, o, none⟩ : Addr).add i = ⟨b, o + i, none⟩ := by unfold Addr.add; split <;> simp_all
      rw [hadd] at hc
      rw [hc, hw i hi]
      have hwf := hwz (zs.getD i 0) (by rw [List.getD_eq_getElem?_getD, List.getElem?_eq_getElem (by omega)]; exact List.getElem_mem _)
      show some (Value.int .u64 (zs.getD i 0)) = some (Value.int .u64 (L (BitVec.ofInt 64 (zs.getD i 0))))
      generalize zs.getD i 0 = y at hwf ⊢
      have hz : 0 ≤ y ∧ y ≤ 18446744073709551615 := by
        simp [Lit.wf, IntKind.min, IntKind.max, IntKind.signed, IntKind.bits] at hwf
        omega
      obtain ⟨k, hk⟩ := Int.eq_ofNat_of_zero_le hz.1
      rw [hk, L, BitVec.ofInt_natCast, BitVec.toNat_ofNat, Nat.mod_eq_of_lt (by omega)]
end
end Go.Proofs.Ytgdfpboccgfadaa
