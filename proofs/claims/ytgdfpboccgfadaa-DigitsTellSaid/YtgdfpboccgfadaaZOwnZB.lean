/-
  A row of ints that grows beside slices of bytes: these stay as they are. No statement is proved here: lemmas for the walks.
-/
import Derived.Test.YtgdfpboccgfadaaZOwnZ
import Derived.Test.YtgdfpboccgfadaaBuN
namespace Go.Proofs.Ytgdfpboccgfadaa
open Go.RowKit

/-- A row of the call's own that holds n ints, and nothing else. -/
structure OwnZB (w : World) (base : Nat) (v : Value) (n : Nat) (f : Nat → Int) : Prop where
  own : OwnZ w base v n f
  ints : ∀ g, v.ownBlock = some g → ∀ j u, w.cell? ⟨g, j, none⟩ = some u → ∃ z, u = .int .i64 z
section
variable {w w' : World} {base : Nat} {v : Value} {n : Nat} {f : Nat → Int}
theorem OwnZB.nil (w : World) (base : Nat) (f : Nat → Int) : OwnZB w base (.slice none 0 0) 0 f := ⟨OwnZ.nil _ _ _, fun _ e => by cases e⟩
theorem OwnZB.lt (h : OwnZB w base v n f) {g : Nat} (e : v.ownBlock = some g) : g < w.heap.size := by
  rcases h.own.2 with ⟨rfl, _⟩ | ⟨g', cap, cur, rfl, _, hrow, _⟩
  · cases e
  · have : g' = g := by simpa [Value.ownBlock] using e
    exact this ▸ row_lt hrow
theorem OwnZB.call (h : OwnZB w base v n f) (hb : Below w.heap.size w w') : OwnZB w' base v n f :=
  ⟨h.own.call hb, fun g e j u hu => h.ints g e j u ((hb.cell (p := ⟨g, j, none⟩) (h.lt e)).symm.trans hu)⟩
theorem OwnZB.alloc (h : OwnZB w base v n f) (o : Obj) : OwnZB (w.alloc o) base v n f := h.call (below_alloc _ _)
end
theorem cell_mem {w : World} {g j : Nat} {cur : Array Value} {t : TypeId} (h : w.heap[g]? = some (.cells cur t (0, 0))) {u : Value} (hu : w.cell? ⟨g, j, none⟩ = some u) : u ∈ cur.toList := by
  rw [cell_of_row _ _ _ _ _ _ h] at hu
  simpa using Array.mem_of_getElem? hu
theorem ints_run {P : Program} {w w' : World} {t ty e : TypeId} {i : TypeInfo} {base n m c : Nat} {v v' : Value} {xs news : List Value} (ht : P.underlying t = some (.slice e)) (hi : P.info? e = some i) (hz : i.zero = some (.int .i64 0)) (hs : i.size = 1) (hby : i.bytes = 8)
    (hown : w.ownsRow base e 1 v n xs) (hI : ∀ g, v.ownBlock = some g → ∀ j u, w.cell? ⟨g, j, none⟩ = some u → ∃ z, u = .int .i64 z) (hX : ∀ u ∈ xs, ∃ z, u = .int .i64 z) (hN : ∀ u ∈ news, ∃ z, u = .int .i64 z)
    {a : Addr} (hm : 0 < m) (hl : news.length = m * 1) (hnews : ∀ j u, news[j]? = some u → w.cell? (a.add j) = some u) (h1 : ∀ u ∈ news, u.oneCell' = true) (h63 : n + m ≤ maxLen) (hbytes : (n + m) * 8 ≤ 140737488355328)
    (hr : (Builtin.append_ #[t, t] ty #[v, .slice (some a) m c]).run P w = .ok v' w') : ∀ g, v'.ownBlock = some g → ∀ j u, w'.cell? ⟨g, j, none⟩ = some u → ∃ z, u = .int .i64 z := by
  have hZ : ∀ k, ∀ u ∈ (Builtin.zeroCells (Value.int .i64 0).cells k).toList, ∃ z, u = .int .i64 z := fun k u hu => by
    simp [Builtin.zeroCells, Value.cells] at hu
    obtain ⟨i, _, rfl⟩ := hu
    exact ⟨0, by rw [Nat.mod_one]; rfl⟩
  have hsmall : n + m ≤ 9223372036854775807 := by simp only [maxLen] at h63; omega
  intro g hg j u hu
  rcases hown.2 with ⟨rfl, rfl⟩ | ⟨g', cap, cur, rfl, hbg, hgr, hnc, hcm, hcs, htake⟩
  · have hx : xs = [] := List.eq_nil_of_length_eq_zero (by simpa using hown.1)
    subst hx
    rw [run_append_nil (P := P) w t ty e i _ ht hi hz a m c news (by rw [hs]; exact hl) hnews (by omega) (by omega) (by rw [hby]; omega)] at hr
    injection hr with e1 e2
    subst e1 e2
    obtain rfl : w.heap.size = g := by simpa [Value.ownBlock] using hg
    have hmem := cell_mem (heap_alloc_new w.drew _) hu
    simp only [Array.toList_append, List.mem_append] at hmem
    rcases hmem with hmem | hmem
    · exact hN u hmem
    · exact hZ _ u hmem
  · by_cases hroom : n + m ≤ cap
    · have hfit : n * i.size + news.length ≤ cur.size := by rw [hl, hcs, hs]; omega
      rw [run_append_room (P := P) w t ty e i ht hi g' n cap cur hgr a m c news (by rw [hs]; exact hl) hnews h1 hroom hfit] at hr
      injection hr with e1 e2
      subst e1 e2
      obtain rfl : g' = g := by simpa [Value.ownBlock] using hg
      have hmem := cell_mem (setRow_heap w g' cur _ e _ hgr) hu
      have hold : ∀ u ∈ cur.toList, ∃ z, u = .int .i64 z := fun u hu => by
        obtain ⟨k, hk⟩ := List.getElem?_of_mem hu
        exact hI g' rfl k u (by rw [cell_of_row _ _ _ _ _ _ hgr, ← hk, Array.getElem?_toList])
      simp only [List.mem_append] at hmem
      rcases hmem with (hmem | hmem) | hmem
      · exact hold u (List.mem_of_mem_take hmem)
      · exact hN u hmem
      · exact hold u (List.mem_of_mem_drop hmem)
    · rw [run_append_grow (P := P) w t ty e i _ ht hi hz ⟨g', 0, none⟩ n cap xs (by rw [hs]; exact hown.1) (hown.cells (g := g') rfl) a m c news (by rw [hs]; exact hl) hnews (by omega) (by omega) (growslice_fits (by omega) (by rw [hby]; exact hbytes))] at hr
      injection hr with e1 e2
      subst e1 e2
      obtain rfl : w.heap.size = g := by simpa [Value.ownBlock] using hg
      have hmem := cell_mem (heap_alloc_new w.drew _) hu
      simp only [Array.toList_append, List.mem_append] at hmem
      rcases hmem with (hmem | hmem) | hmem
      · exact hX u hmem
      · exact hN u hmem
      · exact hZ _ u hmem
theorem Sb.grown {w w' : World} {B n c x : Nat} {a : Option Addr} {row : Option Nat} (h : Sb w B a n c x) (hg : w.grownBy w' row) (hi : ∀ g, row = some g → ∀ j u, w.cell? ⟨g, j, none⟩ = some u → ∃ z, u = .int .i64 z) : Sb w' B a n c x := by
  refine ⟨⟨h.sl.le, h.sl.nil, fun ad e h0 => ?_⟩, h.fits⟩
  obtain ⟨b, o, rfl, hb, hc⟩ := h.sl.low ad e h0
  refine ⟨b, o, rfl, hb, fun i hi' => hg.cell (hc i hi') fun e' => ?_⟩
  obtain ⟨z, hz⟩ := hi b e'.symm _ _ (hc i hi')
  cases hz
section
variable {w : World} {ops : Array Oper} {rest : List Oper} {o : Oper} {act : Act} {Q : Exit → Act → World → Prop}
theorem lay_append_zb (hgd : o.guard = none) {s x : Operand} (ho : o.op = .call { callee := .builtin .append, args := #[s, x], argTypes := #[26, 26] }) {v : Value} (hs : act.eval s = v)
    {gx cx : Nat} (hx : act.eval x = .slice (some ⟨gx, 0, none⟩) 1 cx) {base n : Nat} {f : Nat → Int} (hc : w.cell? ⟨gx, 0, none⟩ = some (.int .i64 (f n))) (hown : OwnZB w base v n f) (hn : n ≤ 100000) (hbase : base ≤ w.heap.size)
    (h : ∀ v' w', OwnZB w' base v' (n + 1) f → Below base w w' → (∀ B a m c x, Sb w B a m c x → Sb w' B a m c x) → w.heap.size ≤ w'.heap.size → ∀ K : Act → World → Prop, (∀ a w, wpList Try.prog ops Q rest a w → K a w) → K (act.put o.dst v') w') : wpList Try.prog ops Q (o :: rest) act w := by
  obtain ⟨i, hi, hz, hsz, hby⟩ := info_int
  refine wpList_plain hgd fun K hK => ?_
  have hnews : ∀ (j : Nat) (u : Value), [Value.int .i64 (f n)][j]? = some u → w.cell? ((⟨gx, 0, none⟩ : Addr).add j) = some u := fun j u hu => by
    have hj : j = 0 := by
      rcases j with _ | j
      · rfl
      · simp at hu
    subst hj
    simp at hu
    rw [Addr.add_mid, Nat.add_zero, hc, ← hu]
  have h1 : ∀ u ∈ [Value.int .i64 (f n)], u.oneCell' = true := fun u hu => by
    simp at hu
    subst hu
    rfl
  have h63 : n + 1 ≤ maxLen := by unfold maxLen; omega
  obtain ⟨v', w', hr, h2, h3, -⟩ := run_append_own (P := Try.prog) w base 26 o.type 3 i (.int .i64 0) 1 8 Try.underlying26 hi hz hsz hby rfl (by omega) v n _ hown.own ⟨gx, 0, none⟩ 1 cx [.int .i64 (f n)] rfl hnews h1 h63 (by omega) hbase
  have hk := ints_run Try.underlying26 hi hz hsz hby hown.own hown.ints (fun u hu => by
    obtain ⟨k, _, rfl⟩ := List.mem_map.1 hu
    exact ⟨_, rfl⟩) (fun u hu => by
    simp at hu
    exact ⟨_, hu⟩) (by omega) rfl hnews h1 h63 (by omega) hr
  unfold Oper.wp execOp
  simp only [ho, resolve, invoke, builtin, Sem.run_bind, Sem.run_pure, Result.andThen_ok, List.map_toArray, List.map_cons, List.map_nil, hs, hx, hr]
  refine h v' w' ⟨?_, hk⟩ ((Below.refl _ _).grown h3 hbase fun k hk => ?_) (fun B a m c x hS => hS.grown h3 hown.ints) h3.size K hK
  · unfold OwnZ
    rw [List.range_succ, List.map_append]
    exact h2
  · rcases hown.own.2 with ⟨rfl, _⟩ | ⟨g, cap, cur, rfl, hg, _⟩
    · cases hk
    · have : g = k := by simpa [Value.ownBlock] using hk
      omega
end
/-- A literal of one byte. -/
theorem sb_one (w : World) (v : Nat) (hv : v < 256) : Sb (w.alloc (.cells #[.int .u8 (v : Int)] 5)) (w.alloc (.cells #[.int .u8 (v : Int)] 5)).heap.size (some ⟨w.heap.size, 0, none⟩) 1 1 v := by
  refine ⟨⟨Nat.le_refl _, (fun e => by cases e), fun ad e _ => ⟨w.heap.size, 0, (Option.some.inj e).symm, by simp, fun i hi => ?_⟩⟩, hv⟩
  obtain rfl : i = 0 := by omega
  have : U (bt v 0) = .int .u8 (v : Int) := congrArg (Value.int .u8) (by
    show ((bt v 0).toNat : Int) = _
    rw [bt_nat, Nat.mul_zero, Nat.pow_zero, Nat.div_one, Nat.mod_eq_of_lt hv])
  rw [this]
  simp
end Go.Proofs.Ytgdfpboccgfadaa
