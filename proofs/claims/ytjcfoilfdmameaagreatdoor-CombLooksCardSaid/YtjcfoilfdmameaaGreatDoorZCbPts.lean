/-
  Slices of spots; a row of points that grows, and one that is written. No statement is proved here: lemmas for the walks.
-/
import Derived.Test.YtjcfoilfdmameaaGreatDoorBuI
import Derived.Test.YtjcfoilfdmameaaGreatDoorZCbMade
import Derived.Test.YtjcfoilfdmameaaGreatDoorBuB
namespace Go.Proofs.YtjcfoilfdmameaaGreatDoor
open Go.RowKit

/-- A slice of n spots, below block B: bytes that are numbers, and ints. -/
structure Spots (w : World) (B : Nat) (a : Option Addr) (n c : Nat) (N : Nat → Nat) (Z : Nat → Int) : Prop where
  le : n ≤ c
  nil : a = none → c = 0
  low : ∀ ad, a = some ad → 0 < n → ∃ b o, ad = ⟨b, o, none⟩ ∧ b < B ∧ ∀ i, i < n → ∃ ai ci xi, Sb w B ai (N i) ci xi ∧ w.cell? ⟨b, o + i * 2, none⟩ = some (.slice ai (N i) ci) ∧ w.cell? ⟨b, o + i * 2 + 1, none⟩ = some (.int .i64 (Z i))
section
variable {w w' : World} {B : Nat} {a : Option Addr} {n c : Nat} {N : Nat → Nat} {Z : Nat → Int}
theorem Spots.get (h : Spots w w.heap.size a n c N Z) (i : Nat) (hi : i < n) : ∃ b o ai ci xi, a = some ⟨b, o, none⟩ ∧ ∀ W, Below w.heap.size w W → Sb W W.heap.size ai (N i) ci xi ∧ W.cell? ⟨b, o + i * 2, none⟩ = some (.slice ai (N i) ci) ∧ W.cell? ⟨b, o + i * 2 + 1, none⟩ = some (.int .i64 (Z i)) := by
  cases ha : a with
  | none =>
    have := h.nil ha
    have := h.le
    omega
  | some ad =>
    obtain ⟨b, o, rfl, hb, hc⟩ := h.low ad ha (by omega)
    obtain ⟨ai, ci, xi, h1, h2, h3⟩ := hc i hi
    exact ⟨b, o, ai, ci, xi, rfl, fun W hW => ⟨h1.call hW, (hW.cell (p := ⟨b, o + i * 2, none⟩) hb).trans h2, (hW.cell (p := ⟨b, o + i * 2 + 1, none⟩) hb).trans h3⟩⟩
end
section
variable {ops : Array Oper} {rest : List Oper} {o : Oper} {a : Act} {w w0 : World} {l : List (Nat × Obj)} {Q : Exit → Act → World → Prop}
/-- A literal of one point. -/
theorem own_build1P (H : Hid (Ow w0 w l)) (hgd : o.guard = none) {x : Operand} (ho : o.op = .buildSlice 24 1 #[(0, x)]) {f : Nat → Int} (hx : a.eval x = .agg (AZ .u64 24 f))
    (h : ∀ w' g, Hid (Ow w0 w' ((g, Blk 32 .u64 24 f) :: l)) → ∀ K : Act → World → Prop, (∀ a w, wpList Tryz.prog ops Q rest a w → K a w) → K (a.put o.dst (.slice (some ⟨g, 0, none⟩) 1 1)) w') : wpList Tryz.prog ops Q (o :: rest) a w :=
  wpList_plain hgd fun K hK => by
    unfold Oper.wp execOp
    simp only [ho, List.map_toArray, List.map_cons, List.map_nil, hx, Sem.run_bind, run_build1 (P := Tryz.prog) (w := w) (k := .u64) Tryz.underlying24 infoP (by omega) (by omega) f, Result.andThen_ok]
    exact h _ _ (Lib.hid (H.out.alloc _)) K hK
/-- It is appended. -/
theorem own_appP {base : Nat} {v : Value} {n : Nat} {G : Nat → Nat → Int} (hR : Hid (OwnR w0 base 32 .u64 24 v n G)) (hbase : base ≤ w0.heap.size) (H : Hid (Ow w0 w l)) {dd : Tmp} (hd : o.dst = some dd) (hgd : o.guard = none) {x y : Operand} (ho : o.op = .call { callee := .builtin .append, args := #[x, y], argTypes := #[24, 24] })
    (hx : a.eval x = v) {gx c i : Nat} (hy : a.eval y = .slice (some ⟨gx, 0, none⟩) 1 c) {r : Nat → Int} (hi : l[i]? = some (gx, Blk 32 .u64 24 r)) (hn : n ≤ 1000)
    (h : ∀ v' w', Hid (Below base w0 w') → Hid (OwnR w' base 32 .u64 24 v' (n + 1) (fun j => if j = n then r else G j)) → ∀ K : Act → World → Prop, (∀ a w, wpList Tryz.prog ops Q rest a w → K a w) → K (a.put (some dd) v') w') : wpList Tryz.prog ops Q (o :: rest) a w :=
  wpList_plain hgd fun K hK => by
    have hr := H.out.row i hi
    have hR2 := hR.out.call H.out.bel
    have hb := Nat.le_trans hbase H.out.bel.size
    refine ownR_append1 (tb := 32) dd hd Tryz.underlying24 infoP (by omega) (by omega) ho hx hy (hR2.congr (G' := fun j => if j = n then r else G j) fun j hj => by rw [if_neg (by omega)]) (by rw [if_pos rfl]; exact hr) hn hb ?_
    intro v' w' h1 hg _
    exact h v' w' (Lib.hid ((H.out.bel.mono hbase).grown hg hb (fun k e => (hR2.lt k e).2))) (Lib.hid h1) K hK
end
section
variable {ops : Array Oper} {rest : List Oper} {o : Oper} {a : Act} {w : World} {Q : Exit → Act → World → Prop}
/-- A spot is loaded. -/
theorem lay_spot (hgd : o.guard = none) {x : Operand} (ho : o.op = .load 41 x) {g p : Nat} (hx : a.eval x = .pointer (some ⟨g, p, none⟩)) {u v : Value} (h0 : w.cell? ⟨g, p, none⟩ = some u) (h1 : w.cell? ⟨g, p + 1, none⟩ = some v)
    (h : ∀ K : Act → World → Prop, (∀ a w, wpList Tryz.prog ops Q rest a w → K a w) → K (a.put o.dst (.agg #[u, v])) w) : wpList Tryz.prog ops Q (o :: rest) a w :=
  wpList_plain hgd fun K hK => by
    obtain ⟨d, hd, hd'⟩ := rowSpK.under
    have hrun := run_loadAt_mid (P := Tryz.prog) w g p 41 [u, v] d (fun j q hq => by
      rcases (by omega : j = 0 ∨ j = 1 ∨ 2 ≤ j) with rfl | rfl | h2
      · cases hq
        exact h0
      · cases hq
        exact h1
      · rw [List.getElem?_eq_none (by simpa using h2)] at hq
        cases hq) hd (by cases d <;> simp_all) rowSpK.size
    unfold Oper.wp execOp
    simp only [ho, hx, Sem.run_bind, hrun, Result.andThen_ok]
    exact h K hK
end
/-- A block that begins with n points. -/
structure Begins (w : World) (g n : Nat) (P : Nat → Pt pN dK) : Prop where
  is : ∃ cur, w.heap[g]? = some (.cells cur 32) ∧ n * 24 ≤ cur.size ∧ ∀ i, i < n → ∃ v, PtK v (P i) ∧ ∀ j, j < 24 → cur[i * 24 + j]? = some (.int .u64 (v j))
theorem Begins.pts {w : World} {g n c : Nat} {P : Nat → Pt pN dK} (h : Begins w g n P) (hc : n ≤ c) : Pts w w.heap.size (some ⟨g, 0, none⟩) n c P := by
  obtain ⟨cur, hr, _, hx⟩ := h.is
  refine ⟨hc, (fun e => by cases e), fun ad e _ => ⟨g, 0, (Option.some.inj e).symm, lt_row hr, fun i hi => ?_⟩⟩
  obtain ⟨v, hv, he⟩ := hx i hi
  exact ⟨v, hv, fun j hj => by rw [Nat.zero_add, cell_of_row _ _ _ _ _ _ hr, he j hj]⟩
theorem OwnR.begins {w : World} {base : Nat} {v : Value} {n : Nat} {G : Nat → Nat → Int} {P : Nat → Pt pN dK} (h : OwnR w base 32 .u64 24 v n G) (h0 : 0 < n) (hP : ∀ i, i < n → PtK (G i) (P i)) : ∃ g c, v = .slice (some ⟨g, 0, none⟩) n c ∧ n ≤ c ∧ base ≤ g ∧ Begins w g n P := by
  obtain ⟨_, hx⟩ := id h
  rcases hx with ⟨_, h1⟩ | ⟨g, cap, cur, rfl, hg, hrow, hle, h2, h3, h4⟩
  · exfalso
    have := flatR_length .u64 24 G n
    rw [h1] at this
    simp at this
    omega
  · have hsz : n * 24 ≤ cur.size := by rw [h3]; exact Nat.mul_le_mul_right 24 hle
    refine ⟨g, cap, rfl, hle, hg, cur, hrow, hsz, fun i hi => ⟨G i, hP i hi, fun j hj => ?_⟩⟩
    have h5 := h.rd g rfl i hi j hj
    rwa [cell_of_row _ _ _ _ _ _ hrow] at h5
section
variable {ops : Array Oper} {rest : List Oper} {o : Oper} {a : Act} {w w0 : World} {l : List (Nat × Obj)} {Q : Exit → Act → World → Prop}
/-- One of them is written. -/
theorem own_stB {g n i : Nat} {P : Nat → Pt pN dK} (hB : Hid (Begins w g n P)) (H : Hid (Ow w0 w [])) (hg : w0.heap.size ≤ g) (hgd : o.guard = none) {x y : Operand} (ho : o.op = .store 32 x y) (hx : a.eval x = .pointer (some ⟨g, i * 24, none⟩)) (hi : i < n) {r : Nat → Int} {R : Pt pN dK} (hr : PtK r R) (hy : a.eval y = .agg (AZ .u64 24 r))
    (h : ∀ w', Hid (Ow w0 w' []) → Hid (Begins w' g n (fun j => if j = i then R else P j)) → ∀ K : Act → World → Prop, (∀ a w, wpList Tryz.prog ops Q rest a w → K a w) → K (a.put o.dst undef) w') : wpList Tryz.prog ops Q (o :: rest) a w :=
  wpList_plain hgd fun K hK => by
    obtain ⟨cur, hrow, hsz, hc⟩ := hB.out.is
    have hlen : (AZ .u64 24 r).toList.length = 24 := by rw [Array.length_toList, AZ_size]
    have hst := run_storeCells_at Tryz.prog g (i * 24) 32 (AZ .u64 24 r).toList 0 cur w hrow (by rw [hlen]; omega) cells_one
    rw [Nat.add_zero, hlen] at hst
    have hrun : (Instr.storeAt 32 (.pointer (some ⟨g, i * 24, none⟩)) (.agg (AZ .u64 24 r))).run Tryz.prog w = .ok () (w.setRow g (cur.toList.take (i * 24) ++ (AZ .u64 24 r).toList ++ cur.toList.drop (i * 24 + 24)).toArray) := by
      have hT := rowPt.size
      cases hq : Tryz.prog.info? 32 with
      | none => simp [hq] at hT
      | some q =>
        have hi : q.size = 24 := by simpa [hq] using hT
        simp [Instr.storeAt, Instr.sureAddr, storeVar, sizeOf, typeInfo, Sem.run_bind, hq, hi, Value.cells, AZ_size, hst]
    unfold Oper.wp execOp
    simp only [ho, hx, hy, Sem.run_bind, hrun, Result.andThen_ok]
    refine h (w.setRow g _) (Lib.hid ⟨H.out.bel.trans ⟨rfl, rfl, rfl, by simp [World.setRow], fun c hc => setRow_other w g c _ (by omega)⟩, (fun _ hx => nomatch hx), (fun _ hx => nomatch hx), List.Pairwise.nil⟩) (Lib.hid ⟨_, setRow_heap w g _ _ _ _ hrow, ?_, fun j hj => ?_⟩) K hK
    · simp [AZ_size]
      omega
    · have hl1 : (cur.toList.take (i * 24)).length = i * 24 := by rw [List.length_take, Array.length_toList]; omega
      rcases (by omega : j < i ∨ j = i ∨ i < j) with h1 | h1 | h1
      · obtain ⟨v, hv, he⟩ := hc j hj
        refine ⟨v, by rw [if_neg (by omega)]; exact hv, fun t ht => ?_⟩
        rw [List.getElem?_toArray, List.getElem?_append_left (by simp [AZ_size]; omega), List.getElem?_append_left (by rw [hl1]; omega), List.getElem?_take_of_lt (by omega), Array.getElem?_toList, he t ht]
      · subst h1
        refine ⟨r, by rw [if_pos rfl]; exact hr, fun t ht => ?_⟩
        rw [List.getElem?_toArray, List.getElem?_append_left (by rw [List.length_append, hl1, hlen]; omega), List.getElem?_append_right (by rw [hl1]; omega), hl1, Array.getElem?_toList, Nat.add_sub_cancel_left, AZ_get _ _ _ _ ht]
      · obtain ⟨v, hv, he⟩ := hc j hj
        refine ⟨v, by rw [if_neg (by omega)]; exact hv, fun t ht => ?_⟩
        rw [List.getElem?_toArray, List.getElem?_append_right (by rw [List.length_append, hl1, hlen]; omega), List.length_append, hl1, hlen, List.getElem?_drop, Array.getElem?_toList, show i * 24 + 24 + (j * 24 + t - (i * 24 + 24)) = j * 24 + t by omega, he t ht]
end
end Go.Proofs.YtjcfoilfdmameaaGreatDoor
