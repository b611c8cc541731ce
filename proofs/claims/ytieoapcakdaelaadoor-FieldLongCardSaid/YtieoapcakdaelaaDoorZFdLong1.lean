/-
  Rows of elements once more: a literal of some, one more behind them: what was read of the old row is read still.
-/
import Derived.Test.YtieoapcakdaelaaDoorZFdLong0
import Derived.Great.BuildSlice
namespace Go.Proofs.YtieoapcakdaelaaDoor
open Go.RowKit

/-- The first n rows of block g hold these. -/
def Rd (W : World) (g : Nat) (k : IntKind) (s n : Nat) (G : Nat → Nat → Int) : Prop := ∀ i, i < n → ∀ j, j < s → W.cell? ⟨g, i * s + j, none⟩ = some (.int k (G i j))
theorem flatR_get' {k : IntKind} {s : Nat} (hs : 0 < s) (G : Nat → Nat → Int) (n i : Nat) (h : i < n * s) : (flatR k s n G)[i]? = some (.int k (G (i / s) (i % s))) := by
  have h1 := flatR_get k s G (i % s) (Nat.mod_lt _ hs) n (i / s) ((Nat.div_lt_iff_lt_mul hs).2 h)
  rwa [Nat.mul_comm, Nat.div_add_mod] at h1
/-- A literal of m of them. -/
theorem fill_rows {k : IntKind} {s : Nat} (hs : 0 < s) (m : Nat) (G : Nat → Nat → Int) (cells : Array Value) (hc : cells.size = m * s) (parts : List (Nat × Value))
    (hp : parts = (((List.range m).map fun i => Value.agg (AZ k s (G i))).zipIdx 0).map fun x => (x.2, x.1)) : Instr.fill (fun i => some (i * s, s)) cells parts = some (flatR k s m G).toArray := by
  obtain ⟨r, h1, h2, h3⟩ := Great.fill_dense hs ((List.range m).map fun i => Value.agg (AZ k s (G i))) 0 cells (fun v hv => by
    obtain ⟨i, _, rfl⟩ := List.mem_map.1 hv
    show (AZ k s (G i)).size = s
    exact AZ_size ..) (by simp [hc])
  rw [hp, h1]
  congr 1
  apply Array.ext_getElem?
  intro j
  have e : (flatR k s m G).toArray[j]? = (flatR k s m G)[j]? := by simp
  rw [h3 j, e]
  simp only [List.length_map, List.length_range, Nat.zero_mul, Nat.zero_add, Nat.zero_le, true_and, Nat.sub_zero]
  by_cases h : j < m * s
  · rw [if_pos h, flatR_get' hs G m j h, List.getElem?_map, List.getElem?_range ((Nat.div_lt_iff_lt_mul hs).2 h)]
    exact AZ_get _ _ _ _ (Nat.mod_lt _ hs)
  · rw [if_neg h, Array.getElem?_eq_none (by omega), List.getElem?_eq_none (by rw [flatR_length]; omega)]
section
variable {P : Program} {w : World} {t ts : TypeId} {k : IntKind} {s by' : Nat}
theorem run_buildR (hu : P.underlying ts = some (.slice t)) (hI : InfoR P t s by') (hs : 0 < s) (m : Nat) (hm : 0 < m) (hms : m * s ≤ 16777216) (G : Nat → Nat → Int) (parts : Array (Nat × Value))
    (hp : parts.toList = (((List.range m).map fun i => Value.agg (AZ k s (G i))).zipIdx 0).map fun x => (x.2, x.1)) :
    (Instr.buildSlice ts m parts).run P w = .ok (.slice (some ⟨w.heap.size, 0, none⟩) m m) (w.alloc (.cells (flatR k s m G).toArray t)) := by
  obtain ⟨i, z, hi, hz, hsz, hbyt, hzs⟩ := hI.has
  have := Nat.mul_pos hm hs
  refine run_buildSlice w ts t m parts _ i z hu hi hz (by rw [hsz]; omega) (by rw [hsz]; omega) ?_
  rw [hsz]
  exact fill_rows hs m G _ (by simp) _ hp
theorem OwnR.built (w : World) {base : Nat} (hb : base ≤ w.heap.size) (m : Nat) (hm : m ≤ 1000) (G : Nat → Nat → Int) : OwnR (w.alloc (.cells (flatR k s m G).toArray t)) base t k s (.slice (some ⟨w.heap.size, 0, none⟩) m m) m G :=
  ⟨flatR_length .., .inr ⟨w.heap.size, m, _, rfl, hb, heap_alloc_new _ _, Nat.le_refl _, by unfold maxLen; omega, by simp [flatR_length], by
    show List.take _ (flatR k s m G) = _
    rw [List.take_of_length_le (by rw [flatR_length]; exact Nat.le_refl _)]⟩⟩
theorem flatR_one (G : Nat → Nat → Int) : (flatR k s 1 G).toArray = AZ k s (G 0) := by
  rw [flatR_succ]
  simp [flatR]
theorem run_build1 (hu : P.underlying ts = some (.slice t)) (hI : InfoR P t s by') (hs : 0 < s) (hms : s ≤ 1000) (f : Nat → Int) :
    (Instr.buildSlice ts 1 #[(0, .agg (AZ k s f))]).run P w = .ok (.slice (some ⟨w.heap.size, 0, none⟩) 1 1) (w.alloc (Blk t k s f)) := by
  have h := run_buildR (P := P) (w := w) (k := k) hu hI hs 1 (by omega) (by omega) (fun _ => f) #[(0, .agg (AZ k s f))] rfl
  rwa [flatR_one] at h
theorem cell_alloc (w : World) (o : Obj) {g j : Nat} {e : TypeId} {cur : Array Value} (hg : w.heap[g]? = some (.cells cur e (0, 0))) : (w.alloc o).cell? ⟨g, j, none⟩ = w.cell? ⟨g, j, none⟩ := by
  rw [cell_of_row w g j cur e (0, 0) hg, cell_of_row (w.alloc o) g j cur e (0, 0) ((heap_alloc_old w o (lt_row hg)).trans hg)]
/-- What was read of the old row is read still. -/
theorem append_keep {base size bytes n m c : Nat} {ty e : TypeId} {i : TypeInfo} {z : Value} (ht : P.underlying t = some (.slice e)) (hi : P.info? e = some i) (hz : i.zero = some z)
    (hsize : i.size = size) (hby : i.bytes = bytes) {v v' : Value} {xs news : List Value} {w' : World} (hown : w.ownsRow base e size v n xs)
    {a : Addr} (hl : news.length = m * size) (hnews : ∀ j u, news[j]? = some u → w.cell? (a.add j) = some u) (h1 : ∀ u ∈ news, u.oneCell' = true)
    (h63 : n + m ≤ maxLen) (hbytes : (n + m) * bytes ≤ 140737488355328)
    (hr : (Builtin.append_ #[t, t] ty #[v, .slice (some a) m c]).run P w = .ok v' w') (h' : w'.ownsRow base e size v' (n + m) (xs ++ news)) :
    ∀ g, v.ownBlock = some g → ∀ j u, xs[j]? = some u → w'.cell? ⟨g, j, none⟩ = some u := by
  subst hsize
  subst hby
  intro g hg j u hu
  have hadd : ∀ g j : Nat, (⟨g, 0, none⟩ : Addr).add j = ⟨g, j, none⟩ := fun g j => by unfold Addr.add; split <;> simp_all
  have h0 := hown.cells hg j u hu
  rw [hadd] at h0
  rcases hown.2 with ⟨rfl, rfl⟩ | ⟨g', cap, cur, rfl, hbg, hgr, hnc, hcm, hcs, htake⟩
  · cases hg
  · obtain rfl : g' = g := by simpa [Value.ownBlock] using hg
    by_cases hroom : n + m ≤ cap
    · have hfit : n * i.size + news.length ≤ cur.size := by rw [hl, hcs, ← Nat.add_mul]; exact Nat.mul_le_mul_right _ hroom
      rw [run_append_room (P := P) w t ty e i ht hi g' n cap cur hgr a m c news hl hnews h1 hroom hfit] at hr
      injection hr with e1 e2
      have h2 := h'.cells (g := g') (by rw [← e1]; rfl) j u (by
        rw [List.getElem?_append_left]
        · exact hu
        · exact (List.getElem?_eq_some_iff.1 hu).1)
      rwa [hadd] at h2
    · have hsmall : n + m ≤ 9223372036854775807 := by simp only [maxLen] at h63; omega
      rw [run_append_grow (P := P) w t ty e i z ht hi hz ⟨g', 0, none⟩ n cap xs hown.1 (hown.cells (g := g') rfl) a m c news hl hnews (by omega) (by omega) (growslice_fits (by omega) hbytes)] at hr
      injection hr with e1 e2
      rw [← e2, cell_alloc (w := w.drew) _ (show w.drew.heap[g']? = _ from hgr)]
      exact h0
end
theorem OwnR.rd {W : World} {base n s : Nat} {t : TypeId} {k : IntKind} {v : Value} {G : Nat → Nat → Int} (h : OwnR W base t k s v n G) (g : Nat) (hv : v.ownBlock = some g) : Rd W g k s n G := fun i hi j hj => by
  have h1 := World.ownsRow.cells h hv (i * s + j) _ (flatR_get k s G j hj n i hi)
  have hadd : (⟨g, 0, none⟩ : Addr).add (i * s + j) = ⟨g, i * s + j, none⟩ := by unfold Addr.add; split <;> simp_all
  rwa [hadd] at h1
section
variable {P : Program} {o : Oper} {a : Act} {w : World} {K : Act → World → Prop} {Q : Exit → Act → World → Prop} {t ts : TypeId} {k : IntKind} {s by' base n : Nat} {v : Value} {G : Nat → Nat → Int}
/-- One more is appended, out of a literal of one. -/
theorem ownR_append1 (dd : Tmp) (hd : o.dst = some dd) (hu : P.underlying ts = some (.slice t)) (hI : InfoR P t s by') (hs0 : 0 < s) (hby : by' ≤ 1000) {x y : Operand} (ho : o.op = .call { callee := .builtin .append, args := #[x, y], argTypes := #[ts, ts] }) (hx : a.eval x = v)
    {gx c : Nat} (hy : a.eval y = .slice (some ⟨gx, 0, none⟩) 1 c) (h : OwnR w base t k s v n G) {tb : TypeId} (hn : w.heap[gx]? = some (Blk tb k s (G n))) (hn1 : n ≤ 1000) (hbase : base ≤ w.heap.size)
    (hK : ∀ v' w', OwnR w' base t k s v' (n + 1) G → w.grownBy w' v.ownBlock → (∀ g, v.ownBlock = some g → Rd w' g k s n G) → K (a.put (some dd) v') w') : o.wp P a w K Q := by
  obtain ⟨i, z, hi, hz, hsz, hbyt, hzs⟩ := hI.has
  have hrow : w.heap[gx]? = some (.cells (AZ k s (G n)) tb) := hn
  have hl : (AZ k s (G n)).toList.length = 1 * s := by rw [AZ_length, Nat.one_mul]
  have hnews : ∀ (j : Nat) (u : Value), (AZ k s (G n)).toList[j]? = some u → w.cell? ((⟨gx, 0, none⟩ : Addr).add j) = some u := fun j u hu => by
    have hadd : (⟨gx, 0, none⟩ : Addr).add j = ⟨gx, j, none⟩ := by unfold Addr.add; split <;> simp_all
    rw [hadd, cell_of_row _ _ _ _ _ _ hrow, ← hu, Array.getElem?_toList]
  have h63 : n + 1 ≤ maxLen := by unfold maxLen; omega
  have hbytes : (n + 1) * by' ≤ 140737488355328 := by
    have := Nat.mul_le_mul (show n + 1 ≤ 1001 by omega) hby
    omega
  obtain ⟨v', w', hr, h2, h3, -⟩ := run_append_own (P := P) w base ts o.type t i z s by' hu hi hz hsz hbyt hzs hs0 v n _ h ⟨gx, 0, none⟩ 1 c _ hl hnews cells_one h63 hbytes hbase
  have hk := append_keep hu hi hz hsz hbyt h hl hnews cells_one h63 hbytes hr h2
  unfold Oper.wp execOp
  simp only [ho, resolve, invoke, builtin, Sem.run_bind, Sem.run_pure, Result.andThen_ok, List.map_toArray, List.map_cons, List.map_nil, hx, hy, hr]
  show K (a.put o.dst v') w'
  rw [hd]
  refine hK v' w' ?_ h3 fun g hg i hi j hj => hk g hg _ _ (flatR_get k s G j hj n i hi)
  unfold OwnR
  rw [flatR_succ]
  exact h2
end
end Go.Proofs.YtieoapcakdaelaaDoor
