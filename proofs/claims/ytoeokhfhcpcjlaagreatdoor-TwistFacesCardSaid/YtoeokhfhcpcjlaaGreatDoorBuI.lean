/-
 Lemmas for the walks, several texts in one. No statement is proved here.
-/
import Derived.Test.YtoeokhfhcpcjlaaGreatDoorBuE
import Derived.Laws.AppendOwn
import Derived.Great.BuildSlice
import Derived.Test.YtoeokhfhcpcjlaaGreatDoorBuH
namespace Go.Proofs.YtoeokhfhcpcjlaaGreatDoor
open Go.RowKit
def flatR (k : IntKind) (s n : Nat) (G : Nat → Nat → Int) : List Value := (List.range n).flatMap fun i => (AZ k s (G i)).toList
theorem z5y (k : IntKind) (s : Nat) (f : Nat → Int) : (AZ k s f).toList.length = s := by rw [Array.length_toList, z0p]
theorem z2g (k : IntKind) (s n : Nat) (G : Nat → Nat → Int) : flatR k s (n + 1) G = flatR k s n G ++ (AZ k s (G n)).toList := by
 unfold flatR
 rw [List.range_succ, List.flatMap_append]
 simp
theorem z00 (k : IntKind) (s : Nat) (G : Nat → Nat → Int) : ∀ n, (flatR k s n G).length = n * s
 | 0 => by simp [flatR]
 | n + 1 => by rw [z2g, List.length_append, z00 k s G n, z5y, Nat.add_mul, Nat.one_mul]
theorem z21 (k : IntKind) (s : Nat) (G : Nat → Nat → Int) (j : Nat) (hj : j < s) : ∀ n i, i < n → (flatR k s n G)[i * s + j]? = some (.int k (G i j))
 | 0, _, h => by omega
 | n + 1, i, h => by
  rw [z2g]
  by_cases e : i = n
  ·subst e
   rw [List.getElem?_append_right (by rw [z00]; omega), z00, Nat.add_sub_cancel_left, Array.getElem?_toList, z01 _ _ _ _ hj]
  ·have h1 : i * s + s ≤ n * s := by
    have := Nat.mul_le_mul_right s (show i + 1 ≤ n by omega)
    rwa [Nat.add_mul, Nat.one_mul] at this
   rw [List.getElem?_append_left (by rw [z00]; omega)]
   exact z21 k s G j hj n i (by omega)
theorem z5q {k : IntKind} {s : Nat} {G G' : Nat → Nat → Int} : ∀ n, (∀ i, i < n → G i = G' i) → flatR k s n G = flatR k s n G'
 | 0, _ => rfl
 | n + 1, h => by rw [z2g, z2g, z5q n fun i hi => h i (by omega), h n (by omega)]
def OwnR (w : World) (base : Nat) (t : TypeId) (k : IntKind) (s : Nat) (v : Value) (n : Nat) (G : Nat → Nat → Int) : Prop := w.ownsRow base t s v n (flatR k s n G)
section
variable {P : Program} {w W W' : World} {base n s : Nat} {t : TypeId} {k : IntKind} {v : Value} {G G' : Nat → Nat → Int}
theorem OwnR.kept (h : OwnR W base t k s v n G) (hk : ∀ g, v.ownBlock = some g → W'.heap[g]? = W.heap[g]?) : OwnR W' base t k s v n G := by
 obtain ⟨hl, hv⟩ := h
 refine ⟨hl, ?_⟩
 rcases hv with h0 | ⟨g, cap, cur, rfl, hg, hrow, hr⟩
 ·exact .inl h0
 ·exact .inr ⟨g, cap, cur, rfl, hg, (hk g rfl).trans hrow, hr⟩
theorem OwnR.lt (h : OwnR W base t k s v n G) (g : Nat) (hv : v.ownBlock = some g) : g < W.heap.size ∧ base ≤ g := by
 obtain ⟨_, hx⟩ := h
 rcases hx with ⟨rfl, _⟩ | ⟨g', cap, cur, rfl, hg, hrow, _⟩
 ·cases hv
 ·obtain rfl : g' = g := by simpa [Value.ownBlock] using hv
  exact ⟨z0w hrow, hg⟩
theorem OwnR.call (h : OwnR W base t k s v n G) (hb : Below W.heap.size W W') : OwnR W' base t k s v n G := h.kept fun g hg => hb.block g (h.lt g hg).1
theorem OwnR.congr (h : OwnR W base t k s v n G) (hG : ∀ i, i < n → G i = G' i) : OwnR W base t k s v n G' := by
 unfold OwnR at h ⊢
 rwa [← z5q n hG]
theorem OwnR.here (h : OwnR W base t k s v n G) (h0 : 0 < n) : ∃ g c, v = .slice (some ⟨g, 0, none⟩) n c ∧ base ≤ g ∧ g < W.heap.size ∧ ∀ i, i < n → ∀ j, j < s → W.cell? ⟨g, i * s + j, none⟩ = some (.int k (G i j)) := by
 obtain ⟨_, hx⟩ := h
 rcases hx with ⟨_, h0⟩ | ⟨g, cap, cur, rfl, hg, hrow, hle, _, hcs, htake⟩
 ·omega
 ·refine ⟨g, cap, rfl, hg, z0w hrow, fun i hi j hj => ?_⟩
  rw [cell_of_row _ _ _ _ _ _ hrow]
  have h1 := z21 k s G j hj n i hi
  rw [← htake, List.getElem?_take] at h1
  split at h1
  ·rw [Array.getElem?_toList] at h1
   exact h1
  ·cases h1
theorem z4r (hT : IsRow P t s) {g : Nat} {f : Nat → Int} (o : Nat) (hc : ∀ j, j < s → W.cell? ⟨g, o + j, none⟩ = some (.int k (f j))) :
  (Instr.loadAt t (.pointer (some ⟨g, o, none⟩))).run P W = .ok (.agg (AZ k s f)) W := by
 obtain ⟨d, hd, hd'⟩ := hT.under
 have := run_loadAt_mid (P := P) W g o t (AZ k s f).toList d (fun j v hv => by
  have hj : j < s := by
   rcases Nat.lt_or_ge j s with h' | h'
   ·exact h'
   ·rw [List.getElem?_eq_none (by rw [z5y]; exact h')] at hv; cases hv
  rw [Array.getElem?_toList, z01 _ _ _ _ hj] at hv
  rw [hc j hj, hv]) hd hd' (by rw [z5y]; exact hT.size)
 rwa [Array.toArray_toList] at this
end
structure InfoR (P : Program) (t : TypeId) (s by' : Nat) : Prop where
 has : ∃ i z, P.info? t = some i ∧ i.zero = some z ∧ i.size = s ∧ i.bytes = by' ∧ z.cells.size = s
theorem z6u {P : Program} {t : TypeId} {s by' : Nat} (h : (P.info? t).map (fun i => (i.zero.map fun z => z.cells.size, i.size, i.bytes)) = some (some s, s, by')) : InfoR P t s by' := by
 cases hq : P.info? t with
 | none => simp [hq] at h
 | some i =>
  simp [hq] at h
  obtain ⟨⟨z, hz, hzs⟩, h2, h3⟩ := h
  exact ⟨i, z, hq, hz, h2, h3, hzs⟩
theorem infoE : InfoR Tryz.prog 29 8 64 := z6u (by kernel_rfl)
section
variable {P : Program} {o : Oper} {a : Act} {w : World} {K : Act → World → Prop} {Q : Exit → Act → World → Prop} {t ts : TypeId} {k : IntKind} {s by' base n : Nat} {v : Value} {G : Nat → Nat → Int}
end
def Rd (W : World) (g : Nat) (k : IntKind) (s n : Nat) (G : Nat → Nat → Int) : Prop := ∀ i, i < n → ∀ j, j < s → W.cell? ⟨g, i * s + j, none⟩ = some (.int k (G i j))
theorem flatR_get' {k : IntKind} {s : Nat} (hs : 0 < s) (G : Nat → Nat → Int) (n i : Nat) (h : i < n * s) : (flatR k s n G)[i]? = some (.int k (G (i / s) (i % s))) := by
 have h1 := z21 k s G (i % s) (Nat.mod_lt _ hs) n (i / s) ((Nat.div_lt_iff_lt_mul hs).2 h)
 rwa [Nat.mul_comm, Nat.div_add_mod] at h1
theorem fill_rows {k : IntKind} {s : Nat} (hs : 0 < s) (m : Nat) (G : Nat → Nat → Int) (cells : Array Value) (hc : cells.size = m * s) (parts : List (Nat × Value))
  (hp : parts = (((List.range m).map fun i => Value.agg (AZ k s (G i))).zipIdx 0).map fun x => (x.2, x.1)) : Instr.fill (fun i => some (i * s, s)) cells parts = some (flatR k s m G).toArray := by
 obtain ⟨r, h1, h2, h3⟩ := Great.fill_dense hs ((List.range m).map fun i => Value.agg (AZ k s (G i))) 0 cells (fun v hv => by
  obtain ⟨i, _, rfl⟩ := List.mem_map.1 hv
  show (AZ k s (G i)).size = s
  exact z0p ..) (by simp [hc])
 rw [hp, h1]
 congr 1
 apply Array.ext_getElem?
 intro j
 have e : (flatR k s m G).toArray[j]? = (flatR k s m G)[j]? := by simp
 rw [h3 j, e]
 simp only [List.length_map, List.length_range, Nat.zero_mul, Nat.zero_add, Nat.zero_le, true_and, Nat.sub_zero]
 by_cases h : j < m * s
 ·rw [if_pos h, flatR_get' hs G m j h, List.getElem?_map, List.getElem?_range ((Nat.div_lt_iff_lt_mul hs).2 h)]
  exact z01 _ _ _ _ (Nat.mod_lt _ hs)
 ·rw [if_neg h, Array.getElem?_eq_none (by omega), List.getElem?_eq_none (by rw [z00]; omega)]
section
variable {P : Program} {w : World} {t ts : TypeId} {k : IntKind} {s by' : Nat}
theorem z54 (hu : P.underlying ts = some (.slice t)) (hI : InfoR P t s by') (hs : 0 < s) (m : Nat) (hm : 0 < m) (hms : m * s ≤ 16777216) (G : Nat → Nat → Int) (parts : Array (Nat × Value))
  (hp : parts.toList = (((List.range m).map fun i => Value.agg (AZ k s (G i))).zipIdx 0).map fun x => (x.2, x.1)) :
  (Instr.buildSlice ts m parts).run P w = .ok (.slice (some ⟨w.heap.size, 0, none⟩) m m) (w.alloc (.cells (flatR k s m G).toArray t)) := by
 obtain ⟨i, z, hi, hz, hsz, hbyt, hzs⟩ := hI.has
 have := Nat.mul_pos hm hs
 refine run_buildSlice w ts t m parts _ i z hu hi hz (by rw [hsz]; omega) (by rw [hsz]; omega) ?_
 rw [hsz]
 exact fill_rows hs m G _ (by simp) _ hp
theorem OwnR.built (w : World) {base : Nat} (hb : base ≤ w.heap.size) (m : Nat) (hm : m ≤ 1000) (G : Nat → Nat → Int) : OwnR (w.alloc (.cells (flatR k s m G).toArray t)) base t k s (.slice (some ⟨w.heap.size, 0, none⟩) m m) m G :=
 ⟨z00 .., .inr ⟨w.heap.size, m, _, rfl, hb, heap_alloc_new _ _, Nat.le_refl _, by unfold maxLen; omega, by simp [z00], by
  show List.take _ (flatR k s m G) = _
  rw [List.take_of_length_le (by rw [z00]; exact Nat.le_refl _)]⟩⟩
theorem flatR_one (G : Nat → Nat → Int) : (flatR k s 1 G).toArray = AZ k s (G 0) := by
 rw [z2g]
 simp [flatR]
theorem run_build1 (hu : P.underlying ts = some (.slice t)) (hI : InfoR P t s by') (hs : 0 < s) (hms : s ≤ 1000) (f : Nat → Int) :
  (Instr.buildSlice ts 1 #[(0, .agg (AZ k s f))]).run P w = .ok (.slice (some ⟨w.heap.size, 0, none⟩) 1 1) (w.alloc (Blk t k s f)) := by
 have h := z54 (P := P) (w := w) (k := k) hu hI hs 1 (by omega) (by omega) (fun _ => f) #[(0, .agg (AZ k s f))] rfl
 rwa [flatR_one] at h
end
theorem OwnR.rd {W : World} {base n s : Nat} {t : TypeId} {k : IntKind} {v : Value} {G : Nat → Nat → Int} (h : OwnR W base t k s v n G) (g : Nat) (hv : v.ownBlock = some g) : Rd W g k s n G := fun i hi j hj => by
 have h1 := World.ownsRow.cells h hv (i * s + j) _ (z21 k s G j hj n i hi)
 have hadd : (⟨g, 0, none⟩ : Addr).add (i * s + j) = ⟨g, i * s + j, none⟩ := by unfold Addr.add; split <;> simp_all
 rwa [hadd] at h1
section
variable {P : Program} {o : Oper} {a : Act} {w : World} {K : Act → World → Prop} {Q : Exit → Act → World → Prop} {t ts : TypeId} {k : IntKind} {s by' base n : Nat} {v : Value} {G : Nat → Nat → Int}
end
structure Pts (w : World) (B : Nat) (a : Option Addr) (n c : Nat) (P : Nat → Pt pN dK) : Prop where
 le : n ≤ c
 nil : a = none → c = 0
 low : ∀ ad, a = some ad → 0 < n → ∃ b o, ad = ⟨b, o, none⟩ ∧ b < B ∧ ∀ i, i < n → ∃ v, PtK v (P i) ∧ ∀ j, j < 24 → w.cell? ⟨b, o + i * 24 + j, none⟩ = some (.int .u64 (v j))
section
variable {w w' : World} {B : Nat} {a : Option Addr} {n c : Nat} {P P' : Nat → Pt pN dK}
theorem Pts.empty (P : Nat → Pt pN dK) : Pts w B none 0 0 P := ⟨Nat.le_refl _, fun _ => rfl, fun _ e _ => by cases e⟩
theorem Pts.get (h : Pts w B a n c P) (i : Nat) (hi : i < n) : ∃ b o v, a = some ⟨b, o, none⟩ ∧ b < B ∧ PtK v (P i) ∧ ∀ j, j < 24 → w.cell? ⟨b, o + i * 24 + j, none⟩ = some (.int .u64 (v j)) := by
 cases ha : a with
 | none =>
  have := h.nil ha
  have := h.le
  omega
 | some ad =>
  obtain ⟨b, o, rfl, hb, hc⟩ := h.low ad ha (by omega)
  obtain ⟨v, hv, hx⟩ := hc i hi
  exact ⟨b, o, v, rfl, hb, hv, hx⟩
theorem Pts.below (h : Pts w B a n c P) (hb : Below B w w') : Pts w' B a n c P := ⟨h.le, h.nil, fun ad e h0 => by
 obtain ⟨b, o, e', hlt, hc⟩ := h.low ad e h0
 refine ⟨b, o, e', hlt, fun i hi => ?_⟩
 obtain ⟨v, hv, hx⟩ := hc i hi
 exact ⟨v, hv, fun j hj => (hb.cell (p := ⟨b, o + i * 24 + j, none⟩) hlt).trans (hx j hj)⟩⟩
theorem Pts.more {B' : Nat} (h : Pts w B a n c P) (hB : B ≤ B') : Pts w B' a n c P := ⟨h.le, h.nil, fun ad e h0 => by
 obtain ⟨b, o, e', hlt, hc⟩ := h.low ad e h0
 exact ⟨b, o, e', Nat.lt_of_lt_of_le hlt hB, hc⟩⟩
theorem Pts.call (h : Pts w w.heap.size a n c P) (hb : Below w.heap.size w w') : Pts w' w'.heap.size a n c P := (h.below hb).more hb.size
theorem Pts.congr (h : Pts w B a n c P) (he : ∀ i, i < n → P i = P' i) : Pts w B a n c P' := ⟨h.le, h.nil, fun ad e h0 => by
 obtain ⟨b, o, e', hlt, hc⟩ := h.low ad e h0
 refine ⟨b, o, e', hlt, fun i hi => ?_⟩
 obtain ⟨v, hv, hx⟩ := hc i hi
 exact ⟨v, he i hi ▸ hv, hx⟩⟩
theorem OwnR.pts {base : Nat} {v : Value} {G : Nat → Nat → Int} (h : OwnR w base 38 .u64 24 v n G) (hP : ∀ i, i < n → PtK (G i) (P i)) : ∃ a c, v = .slice a n c ∧ Pts w w.heap.size a n c P := by
 rcases Nat.eq_zero_or_pos n with rfl | h0
 ·obtain ⟨_, hx⟩ := h
  rcases hx with ⟨rfl, _⟩ | ⟨g, cap, cur, rfl, _⟩
  ·exact ⟨none, 0, rfl, Pts.empty P⟩
  ·exact ⟨some ⟨g, 0, none⟩, cap, rfl, Nat.zero_le _, (fun e => by cases e), fun _ _ h => absurd h (Nat.lt_irrefl 0)⟩
 ·obtain ⟨_, hx⟩ := id h
  rcases hx with ⟨_, h1⟩ | ⟨g, cap, cur, rfl, hg, hrow, hle, _⟩
  ·exfalso
   have := z00 .u64 24 G n
   rw [h1] at this
   simp at this
   omega
  ·refine ⟨some ⟨g, 0, none⟩, cap, rfl, hle, (fun e => by cases e), fun ad e _ => ⟨g, 0, (Option.some.inj e).symm, z0w hrow, fun i hi => ⟨G i, hP i hi, fun j hj => ?_⟩⟩⟩
   rw [Nat.zero_add]
   exact h.rd g rfl i hi j hj
end
structure PtAt (w : World) (B b p : Nat) (v : Nat → Int) : Prop where
 lt : b < B
 has : ∀ j, j < 24 → w.cell? ⟨b, p + j, none⟩ = some (.int .u64 (v j))
theorem PtAt.call {w w' : World} {b p : Nat} {v : Nat → Int} (h : PtAt w w.heap.size b p v) (hb : Below w.heap.size w w') : PtAt w' w'.heap.size b p v :=
 ⟨Nat.lt_of_lt_of_le h.lt hb.size, fun j hj => (hb.cell (p := ⟨b, p + j, none⟩) h.lt).trans (h.has j hj)⟩
theorem PtAt.drew {w : World} {b p : Nat} {v : Nat → Int} (h : PtAt w w.heap.size b p v) : PtAt w.drew w.drew.heap.size b p v := ⟨h.lt, h.has⟩
theorem Pts.drew {w : World} {a : Option Addr} {n c : Nat} {P : Nat → Pt pN dK} (h : Pts w w.heap.size a n c P) : Pts w.drew w.drew.heap.size a n c P := ⟨h.le, h.nil, h.low⟩
section
variable {P : Program} {ops : Array Oper} {rest : List Oper} {o : Oper} {a : Act} {w : World} {Q : Exit → Act → World → Prop} {ty : TypeId} {k : IntKind} {n : Nat}
theorem y01 (hT : IsRow P ty n) (hgd : o.guard = none) {x : Operand} (ho : o.op = .load ty x) {g p : Nat} (hx : a.eval x = .pointer (some ⟨g, p, none⟩)) {f : Nat → Int} (hc : ∀ j, j < n → w.cell? ⟨g, p + j, none⟩ = some (.int k (f j)))
  (h : ∀ K : Act → World → Prop, (∀ a w, wpList P ops Q rest a w → K a w) → K (a.put o.dst (.agg (AZ k n f))) w) : wpList P ops Q (o :: rest) a w :=
 wpList_plain hgd fun K hK => by
  unfold Oper.wp execOp
  simp only [ho, hx, Sem.run_bind, z4r hT p hc, Result.andThen_ok]
  exact h K hK
end
section
variable {P : Program} {md : Region.Mode} {ops : Array Oper} {Q : Exit → Act → World → Prop} {S : World → Prop} {fuel : Nat} {listed : Array Bool} {a : Act} {w : World} {ty : TypeId} {k : IntKind} {n : Nat}
theorem z9l (i : Nat) (d : Tmp) {oi : Oper} (hT : IsRow P ty n) (hi : ops[i]? = some oi) (hd : oi.dst = some d) (hw : Region.wanted oi (yielded ops a.tmps) = true) (hS : S w) {x : Operand} (ho : oi.op = .load ty x) {g o : Nat} (hx : a.eval x = .pointer (some ⟨g, o, none⟩))
  {f : Nat → Int} (hrow : ∀ w, S w → ∀ j, j < n → w.cell? ⟨g, o + j, none⟩ = some (.int k (f j)))
  (h : wpAnyH P md ops (NoPanic Q) S fuel (listed.setIfInBounds i true) (a.put (some d) (.agg (AZ k n f))) w) (hs : Region.noSelect ops = true := by kernel_rfl) (hf : Region.free md ops listed i = true := by kernel_rfl) (hr : (Region.ready md ops listed).contains i = true := by kernel_rfl) : wpAnyH P md ops (NoPanic Q) S (fuel + 1) listed a w :=
 z0a i d (.agg (AZ k n f)) hi hd (hs := hs) (hf := hf) (hr := hr) hw hS (fun w hw' => by
  unfold execOp
  simp only [ho, hx, Sem.run_bind, z4r hT o (hrow w hw'), Result.andThen_ok]
  rfl) h
end
end Go.Proofs.YtoeokhfhcpcjlaaGreatDoor
