/- Lemmas; no statement is proved here. -/
import Derived.Test.YtgjbonikbmgfmaaGreatDoorBuH
import Derived.Laws.AppendOwn
namespace Go.Proofs.YtgjbonikbmgfmaaGreatDoor
open Go.RowKit
def z41 (k : IntKind) (s n : Nat) (G : Nat → Nat → Int) : List Value := (List.range n).flatMap fun i => (AZ k s (G i)).toList
theorem y0i (k : IntKind) (s : Nat) (f : Nat → Int) : (AZ k s f).toList.length = s := by rw [Array.length_toList, z0j]
theorem z6k (k : IntKind) (s n : Nat) (G : Nat → Nat → Int) : z41 k s (n + 1) G = z41 k s n G ++ (AZ k s (G n)).toList := by
 unfold z41
 rw [List.range_succ, List.flatMap_append]
 simp
theorem z1v (k : IntKind) (s : Nat) (G : Nat → Nat → Int) : ∀ n, (z41 k s n G).length = n * s
 | 0 => by simp [z41]
 | n + 1 => by rw [z6k, List.length_append, z1v k s G n, y0i, Nat.add_mul, Nat.one_mul]
theorem z40 (k : IntKind) (s : Nat) (G : Nat → Nat → Int) (j : Nat) (hj : j < s) : ∀ n i, i < n → (z41 k s n G)[i * s + j]? = some (.int k (G i j))
 | 0, _, h => by omega
 | n + 1, i, h => by
  rw [z6k]
  by_cases e : i = n
  ·subst e
   rw [List.getElem?_append_right (by rw [z1v]; omega), z1v, Nat.add_sub_cancel_left, Array.getElem?_toList, z1c _ _ _ _ hj]
  ·have h1 : i * s + s ≤ n * s := by
    have := Nat.mul_le_mul_right s (show i + 1 ≤ n by omega)
    rwa [Nat.add_mul, Nat.one_mul] at this
   rw [List.getElem?_append_left (by rw [z1v]; omega)]
   exact z40 k s G j hj n i (by omega)
theorem z95 {k : IntKind} {s : Nat} {G G' : Nat → Nat → Int} : ∀ n, (∀ i, i < n → G i = G' i) → z41 k s n G = z41 k s n G'
 | 0, _ => rfl
 | n + 1, h => by rw [z6k, z6k, z95 n fun i hi => h i (by omega), h n (by omega)]
def OwnR (w : World) (base : Nat) (t : TypeId) (k : IntKind) (s : Nat) (v : Value) (n : Nat) (G : Nat → Nat → Int) : Prop := w.ownsRow base t s v n (z41 k s n G)
section
variable {P : Program} {w W W' : World} {base n s : Nat} {t : TypeId} {k : IntKind} {v : Value} {G G' : Nat → Nat → Int}
theorem OwnR.kept (h : OwnR W base t k s v n G) (hk : ∀ g, v.ownBlock = some g → W'.heap[g]? = W.heap[g]?) : OwnR W' base t k s v n G := by
 obtain ⟨hl, hv⟩ := h
 refine ⟨hl, ?_⟩
 rcases hv with h0 | ⟨g, cap, cur, rfl, hg, hrow, hr⟩
 ·exact .inl h0
 ·exact .inr ⟨g, cap, cur, rfl, hg, (hk g rfl).trans hrow, hr⟩
theorem OwnR.lt (h : OwnR W base t k s v n G) (g : Nat) (hv : v.ownBlock = some g) : g < W.heap.size ∧ base ≤ g := by
 obtain ⟨_, hx⟩ := h
 rcases hx with ⟨rfl, _⟩ | ⟨g', cap, cur, rfl, hg, hrow, _⟩
 ·cases hv
 ·obtain rfl : g' = g := by simpa [Value.ownBlock] using hv
  exact ⟨z01 hrow, hg⟩
theorem OwnR.call (h : OwnR W base t k s v n G) (hb : Below W.heap.size W W') : OwnR W' base t k s v n G := h.kept fun g hg => hb.block g (h.lt g hg).1
theorem OwnR.congr (h : OwnR W base t k s v n G) (hG : ∀ i, i < n → G i = G' i) : OwnR W base t k s v n G' := by
 unfold OwnR at h ⊢
 rwa [← z95 n hG]
theorem OwnR.here (h : OwnR W base t k s v n G) (h0 : 0 < n) : ∃ g c, v = .slice (some ⟨g, 0, none⟩) n c ∧ base ≤ g ∧ g < W.heap.size ∧ ∀ i, i < n → ∀ j, j < s → W.cell? ⟨g, i * s + j, none⟩ = some (.int k (G i j)) := by
 obtain ⟨_, hx⟩ := h
 rcases hx with ⟨_, h0⟩ | ⟨g, cap, cur, rfl, hg, hrow, hle, _, hcs, htake⟩
 ·omega
 ·refine ⟨g, cap, rfl, hg, z01 hrow, fun i hi j hj => ?_⟩
  rw [cell_of_row _ _ _ _ _ _ hrow]
  have h1 := z40 k s G j hj n i hi
  rw [← htake, List.getElem?_take] at h1
  split at h1
  ·rw [Array.getElem?_toList] at h1
   exact h1
  ·cases h1
theorem z8n (hT : IsRow P t s) {g : Nat} {f : Nat → Int} (o : Nat) (hc : ∀ j, j < s → W.cell? ⟨g, o + j, none⟩ = some (.int k (f j))) :
  (Instr.loadAt t (.pointer (some ⟨g, o, none⟩))).run P W = .ok (.agg (AZ k s f)) W := by
 obtain ⟨d, hd, hd'⟩ := hT.under
 have := run_loadAt_mid (P := P) W g o t (AZ k s f).toList d (fun j v hv => by
  have hj : j < s := by
   rcases Nat.lt_or_ge j s with h' | h'
   ·exact h'
   ·rw [List.getElem?_eq_none (by rw [y0i]; exact h')] at hv; cases hv
  rw [Array.getElem?_toList, z1c _ _ _ _ hj] at hv
  rw [hc j hj, hv]) hd hd' (by rw [y0i]; exact hT.size)
 rwa [Array.toArray_toList] at this
end
structure InfoR (P : Program) (t : TypeId) (s by' : Nat) : Prop where
 has : ∃ i z, P.info? t = some i ∧ i.zero = some z ∧ i.size = s ∧ i.bytes = by' ∧ z.cells.size = s
theorem z9c {P : Program} {t : TypeId} {s by' : Nat} (h : (P.info? t).map (fun i => (i.zero.map fun z => z.cells.size, i.size, i.bytes)) = some (some s, s, by')) : InfoR P t s by' := by
 cases hq : P.info? t with
 | none => simp [hq] at h
 | some i =>
  simp [hq] at h
  obtain ⟨⟨z, hz, hzs⟩, h2, h3⟩ := h
  exact ⟨i, z, hq, hz, h2, h3, hzs⟩
theorem infoE : InfoR Tryz.prog 30 8 64 := z9c (by kernel_rfl)
theorem flatR_get' {k : IntKind} {s : Nat} (hs : 0 < s) (G : Nat → Nat → Int) (n i : Nat) (h : i < n * s) : (z41 k s n G)[i]? = some (.int k (G (i / s) (i % s))) := by
 have h1 := z40 k s G (i % s) (Nat.mod_lt _ hs) n (i / s) ((Nat.div_lt_iff_lt_mul hs).2 h)
 rwa [Nat.mul_comm, Nat.div_add_mod] at h1
theorem fill_rows {k : IntKind} {s : Nat} (hs : 0 < s) (m : Nat) (G : Nat → Nat → Int) (cells : Array Value) (hc : cells.size = m * s) (parts : List (Nat × Value))
  (hp : parts = (((List.range m).map fun i => Value.agg (AZ k s (G i))).zipIdx 0).map fun x => (x.2, x.1)) : Instr.fill (fun i => some (i * s, s)) cells parts = some (z41 k s m G).toArray := by
 obtain ⟨r, h1, h2, h3⟩ := Great.fill_dense hs ((List.range m).map fun i => Value.agg (AZ k s (G i))) 0 cells (fun v hv => by
  obtain ⟨i, _, rfl⟩ := List.mem_map.1 hv
  show (AZ k s (G i)).size = s
  exact z0j ..) (by simp [hc])
 rw [hp, h1]
 congr 1
 apply Array.ext_getElem?
 intro j
 have e : (z41 k s m G).toArray[j]? = (z41 k s m G)[j]? := by simp
 rw [h3 j, e]
 simp only [List.length_map, List.length_range, Nat.zero_mul, Nat.zero_add, Nat.zero_le, true_and, Nat.sub_zero]
 by_cases h : j < m * s
 ·rw [if_pos h, flatR_get' hs G m j h, List.getElem?_map, List.getElem?_range ((Nat.div_lt_iff_lt_mul hs).2 h)]
  exact z1c _ _ _ _ (Nat.mod_lt _ hs)
 ·rw [if_neg h, Array.getElem?_eq_none (by omega), List.getElem?_eq_none (by rw [z1v]; omega)]
section
variable {P : Program} {w : World} {t ts : TypeId} {k : IntKind} {s by' : Nat}
theorem z7y (hu : P.underlying ts = some (.slice t)) (hI : InfoR P t s by') (hs : 0 < s) (m : Nat) (hm : 0 < m) (hms : m * s ≤ 16777216) (G : Nat → Nat → Int) (parts : Array (Nat × Value))
  (hp : parts.toList = (((List.range m).map fun i => Value.agg (AZ k s (G i))).zipIdx 0).map fun x => (x.2, x.1)) :
  (Instr.buildSlice ts m parts).run P w = .ok (.slice (some ⟨w.heap.size, 0, none⟩) m m) (w.alloc (.cells (z41 k s m G).toArray t)) := by
 obtain ⟨i, z, hi, hz, hsz, hbyt, hzs⟩ := hI.has
 have := Nat.mul_pos hm hs
 refine run_buildSlice w ts t m parts _ i z hu hi hz (by rw [hsz]; omega) (by rw [hsz]; omega) ?_
 rw [hsz]
 exact fill_rows hs m G _ (by simp) _ hp
theorem OwnR.built (w : World) {base : Nat} (hb : base ≤ w.heap.size) (m : Nat) (hm : m ≤ 1000) (G : Nat → Nat → Int) : OwnR (w.alloc (.cells (z41 k s m G).toArray t)) base t k s (.slice (some ⟨w.heap.size, 0, none⟩) m m) m G :=
 ⟨z1v .., .inr ⟨w.heap.size, m, _, rfl, hb, heap_alloc_new _ _, Nat.le_refl _, by unfold maxLen; omega, by simp [z1v], by
  show List.take _ (z41 k s m G) = _
  rw [List.take_of_length_le (by rw [z1v]; exact Nat.le_refl _)]⟩⟩
end
structure Pts (w : World) (B : Nat) (a : Option Addr) (n c : Nat) (P : Nat → Pt pN dK) : Prop where
 le : n ≤ c
 nil : a = none → c = 0
 low : ∀ ad, a = some ad → 0 < n → ∃ b o, ad = ⟨b, o, none⟩ ∧ b < B ∧ ∀ i, i < n → ∃ v, PtK v (P i) ∧ ∀ j, j < 24 → w.cell? ⟨b, o + i * 24 + j, none⟩ = some (.int .u64 (v j))
section
variable {w w' : World} {B : Nat} {a : Option Addr} {n c : Nat} {P P' : Nat → Pt pN dK}
theorem Pts.get (h : Pts w B a n c P) (i : Nat) (hi : i < n) : ∃ b o v, a = some ⟨b, o, none⟩ ∧ b < B ∧ PtK v (P i) ∧ ∀ j, j < 24 → w.cell? ⟨b, o + i * 24 + j, none⟩ = some (.int .u64 (v j)) := by
 cases ha : a with
 | none =>
  have := h.nil ha
  have := h.le
  omega
 | some ad =>
  obtain ⟨b, o, rfl, hb, hc⟩ := h.low ad ha (by omega)
  obtain ⟨v, hv, hx⟩ := hc i hi
  exact ⟨b, o, v, rfl, hb, hv, hx⟩
theorem Pts.below (h : Pts w B a n c P) (hb : Below B w w') : Pts w' B a n c P := ⟨h.le, h.nil, fun ad e h0 => by
 obtain ⟨b, o, e', hlt, hc⟩ := h.low ad e h0
 refine ⟨b, o, e', hlt, fun i hi => ?_⟩
 obtain ⟨v, hv, hx⟩ := hc i hi
 exact ⟨v, hv, fun j hj => (hb.cell (p := ⟨b, o + i * 24 + j, none⟩) hlt).trans (hx j hj)⟩⟩
theorem Pts.more {B' : Nat} (h : Pts w B a n c P) (hB : B ≤ B') : Pts w B' a n c P := ⟨h.le, h.nil, fun ad e h0 => by
 obtain ⟨b, o, e', hlt, hc⟩ := h.low ad e h0
 exact ⟨b, o, e', Nat.lt_of_lt_of_le hlt hB, hc⟩⟩
theorem Pts.call (h : Pts w w.heap.size a n c P) (hb : Below w.heap.size w w') : Pts w' w'.heap.size a n c P := (h.below hb).more hb.size
theorem Pts.congr (h : Pts w B a n c P) (he : ∀ i, i < n → P i = P' i) : Pts w B a n c P' := ⟨h.le, h.nil, fun ad e h0 => by
 obtain ⟨b, o, e', hlt, hc⟩ := h.low ad e h0
 refine ⟨b, o, e', hlt, fun i hi => ?_⟩
 obtain ⟨v, hv, hx⟩ := hc i hi
 exact ⟨v, he i hi ▸ hv, hx⟩⟩
end
structure PtAt (w : World) (B b p : Nat) (v : Nat → Int) : Prop where
 lt : b < B
 has : ∀ j, j < 24 → w.cell? ⟨b, p + j, none⟩ = some (.int .u64 (v j))
theorem PtAt.call {w w' : World} {b p : Nat} {v : Nat → Int} (h : PtAt w w.heap.size b p v) (hb : Below w.heap.size w w') : PtAt w' w'.heap.size b p v :=
 ⟨Nat.lt_of_lt_of_le h.lt hb.size, fun j hj => (hb.cell (p := ⟨b, p + j, none⟩) h.lt).trans (h.has j hj)⟩
theorem PtAt.drew {w : World} {b p : Nat} {v : Nat → Int} (h : PtAt w w.heap.size b p v) : PtAt w.drew w.drew.heap.size b p v := ⟨h.lt, h.has⟩
theorem Pts.drew {w : World} {a : Option Addr} {n c : Nat} {P : Nat → Pt pN dK} (h : Pts w w.heap.size a n c P) : Pts w.drew w.drew.heap.size a n c P := ⟨h.le, h.nil, h.low⟩
section
variable {P : Program} {ops : Array Oper} {rest : List Oper} {o : Oper} {a : Act} {w : World} {Q : Exit → Act → World → Prop} {ty : TypeId} {k : IntKind} {n : Nat}
theorem y8z (hT : IsRow P ty n) (hgd : o.guard = none) {x : Operand} (ho : o.op = .load ty x) {g p : Nat} (hx : a.eval x = .pointer (some ⟨g, p, none⟩)) {f : Nat → Int} (hc : ∀ j, j < n → w.cell? ⟨g, p + j, none⟩ = some (.int k (f j)))
  (h : ∀ K : Act → World → Prop, (∀ a w, wpList P ops Q rest a w → K a w) → K (a.put o.dst (.agg (AZ k n f))) w) : wpList P ops Q (o :: rest) a w :=
 wpList_plain hgd fun K hK => by
  unfold Oper.wp execOp
  simp only [ho, hx, Sem.run_bind, z8n hT p hc, Result.andThen_ok]
  exact h K hK
end
end Go.Proofs.YtgjbonikbmgfmaaGreatDoor
