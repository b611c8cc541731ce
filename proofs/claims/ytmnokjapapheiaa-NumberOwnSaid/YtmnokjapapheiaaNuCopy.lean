/-
  copy of a slice of words into a row of the call's own that holds noughts. No statement is proved here: lemmas for the walks.
-/
import Derived.Test.YtmnokjapapheiaaNuTrim
namespace Go.Proofs.Ytmnokjapapheiaa
open Go.RowKit

theorem splice_A (M k z : Nat) (hk : k ≤ M) (hz : z < 2 ^ (64 * k)) : (splice (A M fun _ => 0).toList 0 ((List.range k).map fun i => V (wd z i))).toArray = A M (wd z) := by
  apply Array.ext_getElem?
  intro j
  have hsz : (A M fun _ => (0 : BitVec 64)).toList.length = M := by rw [Array.length_toList, A_size]
  unfold splice
  rw [List.take_zero, List.nil_append, List.getElem?_toArray]
  by_cases hj : j < k
  · rw [List.getElem?_append_left (by simpa using hj), A_get _ _ _ (by omega)]
    simp [hj]
  · rw [List.getElem?_append_right (by simpa using hj)]
    by_cases hM : j < M
    · rw [A_get _ _ _ hM, wd_over hz (by omega), List.getElem?_drop, List.length_map, List.length_range, show 0 + k + (j - k) = j by omega, Array.getElem?_toList, A_get _ _ _ hM]
    · rw [Array.getElem?_eq_none (by rw [A_size]; omega), List.getElem?_drop, List.length_map, List.length_range, List.getElem?_eq_none (by rw [hsz]; omega)]
theorem size64 : (Try.prog.info? 56).map (·.size) = some 1 := by kernel_rfl
section
variable {ops : Array Oper} {rest : List Oper} {o : Oper} {a : Act} {w : World} {Q : Exit → Act → World → Prop}
theorem lay_copyW (hgd : o.guard = none) {d s : Operand} (ho : o.op = .call { callee := .builtin .copy, args := #[d, s], argTypes := #[24, 24] }) {g M : Nat} (hr : RowW w g M fun _ => 0) (hd : a.eval d = .slice (some ⟨g, 0, none⟩) M M)
    {sa : Option Addr} {k c z B : Nat} (hs : a.eval s = .slice sa k c) (hS : Sw w B sa k c z) (hk : k ≤ M)
    (h : ∀ w', RowW w' g M (wd z) → Below g w w' → ∀ K : Act → World → Prop, (∀ a w, wpList Try.prog ops Q rest a w → K a w) → K (a.put o.dst (.int .i64 (k : Int))) w') : wpList Try.prog ops Q (o :: rest) a w := by
  have hlen : ((List.range k).map fun i => V (wd z i)).length = k := by simp
  refine wpList_copy_splice hgd d s 24 24 ho 56 Try.underlying24 size64 (some ⟨g, 0, none⟩) sa M M k c hd hs g 0 (A M fun _ => 0).toList 56 hr
    ((List.range k).map fun i => V (wd z i)) (by rw [hlen]; exact (Nat.min_eq_left hk).symm) (fun h0 => ⟨rfl, ?_⟩) (by rw [hlen, Array.length_toList, A_size]; omega) (fun v hv => ?_) g w (Below.refl _ _) (Nat.le_refl _) (fun w' hw hb => ?_)
  · rw [hlen] at h0
    obtain ⟨b, off, rfl, _, hc⟩ := hS.get 0 h0
    refine ⟨_, rfl, fun j v hj => ?_⟩
    rw [List.getElem?_map] at hj
    by_cases hjk : j < k
    · simp [hjk] at hj
      obtain ⟨b', off', e, _, hc'⟩ := hS.get j hjk
      cases e
      rw [Addr.add_mid, hc', ← hj]
    · simp [hjk] at hj
  · obtain ⟨i, _, rfl⟩ := List.mem_map.1 hv
    rfl
  · have hw' := hw.out
    rw [splice_A M k z hk hS.fits] at hw'
    rw [hlen]
    exact h w' hw' hb _ fun _ _ h => h
end
end Go.Proofs.Ytmnokjapapheiaa
