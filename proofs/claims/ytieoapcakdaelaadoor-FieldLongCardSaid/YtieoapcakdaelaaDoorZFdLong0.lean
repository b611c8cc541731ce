/-
  Rows of elements that a law appends to: what a walk knows of them. No statement is proved here: lemmas for the walks.
-/
import Derived.Test.YtieoapcakdaelaaDoorBuE
import Derived.Laws.AppendOwn
namespace Go.Proofs.YtieoapcakdaelaaDoor
open Go.RowKit

/-- n rows of s integers of kind k each, one behind the other. -/
def flatR (k : IntKind) (s n : Nat) (G : Nat → Nat → Int) : List Value := (List.range n).flatMap fun i => (AZ k s (G i)).toList
theorem AZ_length (k : IntKind) (s : Nat) (f : Nat → Int) : (AZ k s f).toList.length = s := by rw [Array.length_toList, AZ_size]
theorem flatR_succ (k : IntKind) (s n : Nat) (G : Nat → Nat → Int) : flatR k s (n + 1) G = flatR k s n G ++ (AZ k s (G n)).toList := by
  unfold flatR
  rw [List.range_succ, List.flatMap_append]
  simp
theorem flatR_length (k : IntKind) (s : Nat) (G : Nat → Nat → Int) : ∀ n, (flatR k s n G).length = n * s
  | 0 => by simp [flatR]
  | n + 1 => by rw [flatR_succ, List.length_append, flatR_length k s G n, AZ_length, Nat.add_mul, Nat.one_mul]
theorem flatR_get (k : IntKind) (s : Nat) (G : Nat → Nat → Int) (j : Nat) (hj : j < s) : ∀ n i, i < n → (flatR k s n G)[i * s + j]? = some (.int k (G i j))
  | 0, _, h => by omega
  | n + 1, i, h => by
    rw [flatR_succ]
    by_cases e : i = n
    · subst e
      rw [List.getElem?_append_right (by rw [flatR_length]; omega), flatR_length, Nat.add_sub_cancel_left, Array.getElem?_toList, AZ_get _ _ _ _ hj]
    · have h1 : i * s + s ≤ n * s := by
        have := Nat.mul_le_mul_right s (show i + 1 ≤ n by omega)
        rwa [Nat.add_mul, Nat.one_mul] at this
      rw [List.getElem?_append_left (by rw [flatR_length]; omega)]
      exact flatR_get k s G j hj n i (by omega)
theorem flatR_congr {k : IntKind} {s : Nat} {G G' : Nat → Nat → Int} : ∀ n, (∀ i, i < n → G i = G' i) → flatR k s n G = flatR k s n G'
  | 0, _ => rfl
  | n + 1, h => by rw [flatR_succ, flatR_succ, flatR_congr n fun i hi => h i (by omega), h n (by omega)]
/-- A row of the call's own that holds n of them. -/
def OwnR (w : World) (base : Nat) (t : TypeId) (k : IntKind) (s : Nat) (v : Value) (n : Nat) (G : Nat → Nat → Int) : Prop := w.ownsRow base t s v n (flatR k s n G)
section
variable {P : Program} {w W W' : World} {base n s : Nat} {t : TypeId} {k : IntKind} {v : Value} {G G' : Nat → Nat → Int}
theorem OwnR.kept (h : OwnR W base t k s v n G) (hk : ∀ g, v.ownBlock = some g → W'.heap[g]? = W.heap[g]?) : OwnR W' base t k s v n G := by
  obtain ⟨hl, hv⟩ := h
  refine ⟨hl, ?_⟩
  rcases hv with h0 | ⟨g, cap, cur, rfl, hg, hrow, hr⟩
  · exact .inl h0
  · exact .inr ⟨g, cap, cur, rfl, hg, (hk g rfl).trans hrow, hr⟩
theorem OwnR.lt (h : OwnR W base t k s v n G) (g : Nat) (hv : v.ownBlock = some g) : g < W.heap.size ∧ base ≤ g := by
  obtain ⟨_, hx⟩ := h
  rcases hx with ⟨rfl, _⟩ | ⟨g', cap, cur, rfl, hg, hrow, _⟩
  · cases hv
  · obtain rfl : g' = g := by simpa [Value.ownBlock] using hv
    exact ⟨lt_row hrow, hg⟩
theorem OwnR.call (h : OwnR W base t k s v n G) (hb : Below W.heap.size W W') : OwnR W' base t k s v n G := h.kept fun g hg => hb.block g (h.lt g hg).1
theorem OwnR.congr (h : OwnR W base t k s v n G) (hG : ∀ i, i < n → G i = G' i) : OwnR W base t k s v n G' := by
  unfold OwnR at h ⊢
  rwa [← flatR_congr n hG]
theorem OwnR.here (h : OwnR W base t k s v n G) (h0 : 0 < n) : ∃ g c, v = .slice (some ⟨g, 0, none⟩) n c ∧ base ≤ g ∧ g < W.heap.size ∧ ∀ i, i < n → ∀ j, j < s → W.cell? ⟨g, i * s + j, none⟩ = some (.int k (G i j)) := by
  obtain ⟨_, hx⟩ := h
  rcases hx with ⟨_, h0⟩ | ⟨g, cap, cur, rfl, hg, hrow, hle, _, hcs, htake⟩
  · omega
  · refine ⟨g, cap, rfl, hg, lt_row hrow, fun i hi j hj => ?_⟩
    rw [cell_of_row _ _ _ _ _ _ hrow]
    have h1 := flatR_get k s G j hj n i hi
    rw [← htake, List.getElem?_take] at h1
    split at h1
    · rw [Array.getElem?_toList] at h1
      exact h1
    · cases h1
/-- One of them is read. -/
theorem run_load_one (hT : IsRow P t s) {g : Nat} {f : Nat → Int} (o : Nat) (hc : ∀ j, j < s → W.cell? ⟨g, o + j, none⟩ = some (.int k (f j))) :
    (Instr.loadAt t (.pointer (some ⟨g, o, none⟩))).run P W = .ok (.agg (AZ k s f)) W := by
  obtain ⟨d, hd, hd'⟩ := hT.under
  have := run_loadAt_mid (P := P) W g o t (AZ k s f).toList d (fun j v hv => by
    have hj : j < s := by
      rcases Nat.lt_or_ge j s with h' | h'
      · exact h'
      · rw [List.getElem?_eq_none (by rw [AZ_length]; exact h')] at hv; cases hv
    rw [Array.getElem?_toList, AZ_get _ _ _ _ hj] at hv
    rw [hc j hj, hv]) hd hd' (by rw [AZ_length]; exact hT.size)
  rwa [Array.toArray_toList] at this
end
/-- What a type's table says of it. -/
structure InfoR (P : Program) (t : TypeId) (s by' : Nat) : Prop where
  has : ∃ i z, P.info? t = some i ∧ i.zero = some z ∧ i.size = s ∧ i.bytes = by' ∧ z.cells.size = s
theorem infoR_of {P : Program} {t : TypeId} {s by' : Nat} (h : (P.info? t).map (fun i => (i.zero.map fun z => z.cells.size, i.size, i.bytes)) = some (some s, s, by')) : InfoR P t s by' := by
  cases hq : P.info? t with
  | none => simp [hq] at h
  | some i =>
    simp [hq] at h
    obtain ⟨⟨z, hz, hzs⟩, h2, h3⟩ := h
    exact ⟨i, z, hq, hz, h2, h3, hzs⟩
theorem infoE : InfoR Tryd.prog 28 8 64 := infoR_of (by kernel_rfl)
theorem infoF : InfoR Tryd.prog 34 16 128 := infoR_of (by kernel_rfl)
section
variable {P : Program} {o : Oper} {a : Act} {w : World} {K : Act → World → Prop} {Q : Exit → Act → World → Prop} {t ts : TypeId} {k : IntKind} {s by' base n : Nat} {v : Value} {G : Nat → Nat → Int}
/-- One more is appended. -/
theorem ownR_append (dd : Tmp) (hd : o.dst = some dd) (hu : P.underlying ts = some (.slice t)) (hI : InfoR P t s by') (hs0 : 0 < s) (hby : by' ≤ 1000) {x y : Operand} (ho : o.op = .call { callee := .builtin .append, args := #[x, y], argTypes := #[ts, ts] }) (hx : a.eval x = v)
    {gx c : Nat} (hy : a.eval y = .slice (some ⟨gx, 0, none⟩) 1 c) (h : OwnR w base t k s v n G) {tb : TypeId} (hn : w.heap[gx]? = some (Blk tb k s (G n))) (hn1 : n ≤ 1000) (hbase : base ≤ w.heap.size)
    (hK : ∀ v' w', OwnR w' base t k s v' (n + 1) G → w.grownBy w' v.ownBlock → K (a.put (some dd) v') w') : o.wp P a w K Q := by
  obtain ⟨i, z, hi, hz, hsz, hbyt, hzs⟩ := hI.has
  have hrow : w.heap[gx]? = some (.cells (AZ k s (G n)) tb) := hn
  refine wp_append_own w x y ts ho base t i z s by' hu hi hz hsz hbyt hzs hs0 v n _ hx h ⟨gx, 0, none⟩ 1 c (AZ k s (G n)).toList hy (by rw [AZ_length, Nat.one_mul]) (fun j u hu => ?_) cells_one (by unfold maxLen; omega) ?_ hbase ?_
  · have hj : j < s := by
      rcases Nat.lt_or_ge j s with h' | h'
      · exact h'
      · rw [List.getElem?_eq_none (by rw [AZ_length]; exact h')] at hu; cases hu
    rw [Addr.add_mid, Nat.zero_add, cell_of_row _ _ _ _ _ _ hrow, ← hu, Array.getElem?_toList]
  · have := Nat.mul_le_mul (show n + 1 ≤ 1001 by omega) hby
    omega
  · intro v' w' h1 h2 _
    rw [hd]
    refine hK v' w' ?_ h2
    unfold OwnR
    rw [flatR_succ]
    exact h1
end
end Go.Proofs.YtieoapcakdaelaaDoor
