/- Lemmas; no statement is proved here. -/
import Derived.Test.YtgjbonikbmgfmaaGreatDoorQD1
namespace Go.Proofs.YtgjbonikbmgfmaaGreatDoor
open Go.RowKit
section
variable {P : Program} {o : Oper} {a : Act} {w w0 : World} {l : List (Nat × Obj)} {K : Act → World → Prop} {Q : Exit → Act → World → Prop} {t ty : TypeId} {C : Array Value} {u v : Value}
theorem own_wp_ldC (dd : Tmp) (hd : o.dst = some dd) (i : Nat) (hT : IsCell P ty) (H : Ow w0 w l) {x : Operand} (ho : o.op = .load ty x) {b j : Nat} (hx : a.eval x = .pointer (some ⟨b, j, none⟩))
  (hi : l[i]? = some (b, Cs t C)) (hj : C[j]? = some v) (h : K (a.put (some dd) v) w) : o.wp P a w K Q := by
 unfold Oper.wp execOp
 simp only [ho, hx, Sem.run_bind, z34 hT (H.row i hi) hj, Result.andThen_ok]
 show K (a.put o.dst _) _
 rw [hd]
 exact h
theorem run_store_c (hT : IsCell P ty) {b j : Nat} (hr : w.heap[b]? = some (Cs t C)) (hj : j < C.size) (hv : OneV v) :
  (Instr.storeAt ty (.pointer (some ⟨b, j, none⟩)) v).run P w = .ok () (w.setRow b (C.setIfInBounds j v)) := by
 have hrow : w.heap[b]? = some (.cells C t) := hr
 have hst := run_storeCells_at P b j t [v] 0 C w hrow (by simp; omega) (fun q hq => by obtain rfl := List.mem_singleton.1 hq; exact hv.one)
 have e : (C.toList.take (j + 0) ++ [v] ++ C.toList.drop (j + 0 + [v].length)).toArray = C.setIfInBounds j v := by
  apply Array.ext_getElem?
  intro k
  rw [List.getElem?_toArray, Array.getElem?_setIfInBounds]
  simp only [Nat.add_zero, List.length_singleton]
  rcases Nat.lt_trichotomy k j with h | h | h
  ·rw [if_neg (by omega), List.getElem?_append_left (by simp; omega), List.getElem?_append_left (by simp; omega), List.getElem?_take_of_lt h, Array.getElem?_toList]
  ·subst h
   rw [if_pos rfl, if_pos hj, List.getElem?_append_left (by simp; omega), List.getElem?_append_right (by simp; omega)]
   simp [Nat.min_eq_left (Nat.le_of_lt hj)]
  ·rw [if_neg (by omega), List.getElem?_append_right (by simp; omega), List.getElem?_drop]
   simp only [List.length_append, List.length_take, List.length_singleton, Array.length_toList]
   rw [Nat.min_eq_left (by omega), show j + 1 + (k - (j + 1)) = k by omega, Array.getElem?_toList]
 rw [e] at hst
 have hsz := hT.size
 cases hq : P.info? ty with
 | none => simp [hq] at hsz
 | some i =>
  have hi : i.size = 1 := by simpa [hq] using hsz
  simp [Instr.storeAt, Instr.sureAddr, storeVar, sizeOf, typeInfo, Sem.run_bind, hq, hi, hv.cells, hst]
theorem own_wp_stC (i : Nat) (hd : o.dst = none) (hT : IsCell P ty) (H : Ow w0 w l) {x y : Operand} (ho : o.op = .store ty x y) {b j : Nat} (hx : a.eval x = .pointer (some ⟨b, j, none⟩)) (hy : a.eval y = v)
  (hi : l[i]? = some (b, Cs t C)) (hj : j < C.size) (hv : OneV v) (h : ∀ w', Ow w0 w' (l.set i (b, Cs t (C.setIfInBounds j v))) → K a w') : o.wp P a w K Q := by
 unfold Oper.wp execOp
 simp only [ho, hx, hy, Sem.run_bind, run_store_c hT (H.row i hi) hj hv, Result.andThen_ok]
 have hq : a.put o.dst undef = a := by
  rw [hd]
  rfl
 have h2 := h _ (H.setCs i hi _)
 rw [← hq] at h2
 exact h2
end
theorem sb_cell {w : World} {g n c x : Nat} {t : TypeId} {C : Array Value} (hr : w.heap[g]? = some (Cs t C)) (hs : Sb w w.heap.size (some ⟨g, 0, none⟩) n c x) : ∀ i, i < n → C[i]? = some (U (bt x i)) := fun i hi => by
 obtain ⟨b, q, e, _, hc⟩ := hs.sl.low _ rfl (by omega)
 cases e
 have h1 := hc i hi
 have hrow : w.heap[g]? = some (.cells C t) := hr
 rw [Nat.zero_add, cell_of_row _ _ _ _ _ _ hrow] at h1
 exact h1
theorem sb_turn {w : World} {g n c x m : Nat} {t : TypeId} {C : Array Value} {q : Int} (hC : ∀ i, i < n → C[i]? = some (U (bt x i))) (hn : n ≤ c) (h0 : 0 ≤ q) (h1 : q < 256)
  (hr : w.heap[g]? = some (Cs t (C.setIfInBounds m (.int .u8 q)))) : ∃ y, Sb w w.heap.size (some ⟨g, 0, none⟩) n c y := by
 obtain ⟨y, hy, he⟩ := z9h (fun i => if i = m then BitVec.ofInt 8 q else bt x i) n
 refine ⟨y, ⟨⟨hn, (fun e => by cases e), fun ad e _ => ⟨g, 0, (Option.some.inj e).symm, z01 hr, fun i hi => ?_⟩⟩, hy⟩⟩
 have hrow : w.heap[g]? = some (.cells (C.setIfInBounds m (.int .u8 q)) t) := hr
 rw [Nat.zero_add, cell_of_row _ _ _ _ _ _ hrow, Array.getElem?_setIfInBounds, he i hi]
 have hsz : i < C.size := by
  have := hC i hi
  rcases Nat.lt_or_ge i C.size with h | h
  ·exact h
  ·rw [Array.getElem?_eq_none h] at this
   cases this
 by_cases hm : i = m
 ·subst hm
  rw [if_pos rfl, if_pos hsz, if_pos rfl]
  congr 1
  show Value.int .u8 q = Value.int .u8 (U8 (BitVec.ofInt 8 q))
  congr 1
  unfold U8
  simp
  omega
 ·rw [if_neg (fun h => hm h.symm), if_neg hm, hC i hi]
end Go.Proofs.YtgjbonikbmgfmaaGreatDoor
