/-
  Memory for NumberOwn: lists of numbers, and rows that may turn. No statement is proved here: lemmas for the walk.
-/
import Derived.Test.YtmnokjapapheiaaLaBytes
import Derived.Test.YtmnokjapapheiaaLaShifts
import Derived.Test.YtmnokjapapheiaaNuDiv
namespace Go.Proofs.Ytmnokjapapheiaa
open Go.RowKit

abbrev Q3 := Option Addr × Nat × Nat
abbrev sv (q : Q3) : Value := .slice q.1 q.2.1 q.2.2
/-- A row of the call's own that holds numbers. -/
def OwnL (w : World) (base : Nat) (v : Value) (n : Nat) (p : Nat → Q3) : Prop := w.ownsRow base 24 1 v n ((List.range n).map fun i => sv (p i))
theorem OwnL.nil (w : World) (base : Nat) (p : Nat → Q3) : OwnL w base (.slice none 0 0) 0 p := ⟨rfl, .inl ⟨rfl, rfl⟩⟩
theorem OwnL.below {w W : World} {base : Nat} {v : Value} {n : Nat} {p : Nat → Q3} (h : OwnL w base v n p) (hb : Below w.heap.size w W) : OwnL W base v n p := by
  obtain ⟨hl, hv⟩ := h
  refine ⟨hl, ?_⟩
  rcases hv with h0 | ⟨g, cap, cur, hv, hg, hrow, hr⟩
  · exact .inl h0
  · exact .inr ⟨g, cap, cur, hv, hg, (hb.block g (row_lt hrow)).trans hrow, hr⟩
def catQ (p : Nat → Q3) (n : Nat) (q : Nat → Q3) : Nat → Q3 := fun i => if i < n then p i else q (i - n)
theorem catQ_map (p q : Nat → Q3) (n m : Nat) : ((List.range n).map fun i => sv (p i)) ++ ((List.range m).map fun i => sv (q i)) = (List.range (n + m)).map fun i => sv (catQ p n q i) := by
  apply List.ext_getElem?
  intro j
  by_cases h1 : j < n
  · rw [List.getElem?_append_left (by simpa using h1)]
    simp [h1, show j < n + m by omega, catQ]
  · rw [List.getElem?_append_right (by simpa using h1)]
    by_cases h2 : j < n + m
    · simp [h2, show j - n < m by omega, catQ, h1]
    · simp [h2, show ¬ j - n < m by omega]
theorem infoN : (Try.prog.info? 24).map (fun i => (i.zero, i.size, i.bytes)) = some (some (.slice none 0 0), 1, 24) := by kernel_rfl
theorem info_nat : ∃ i, Try.prog.info? 24 = some i ∧ i.zero = some (.slice none 0 0) ∧ i.size = 1 ∧ i.bytes = 24 := by
  cases hq : Try.prog.info? 24 with
  | none => have := infoN; simp [hq] at this
  | some i =>
    have := infoN
    simp [hq] at this
    exact ⟨i, rfl, this.1, this.2.1, this.2.2⟩
section
variable {w : World} {ops : Array Oper} {rest : List Oper} {o : Oper} {act : Act} {Q : Exit → Act → World → Prop}
theorem lay_append_nats (hgd : o.guard = none) {s x : Operand} (ho : o.op = .call { callee := .builtin .append, args := #[s, x], argTypes := #[55, 55] }) {v : Value} (hs : act.eval s = v)
    {gx m cx : Nat} (hx : act.eval x = .slice (some ⟨gx, 0, none⟩) m cx) {base n : Nat} {p q : Nat → Q3} (hc : ∀ i, i < m → w.cell? ⟨gx, i, none⟩ = some (sv (q i))) (hown : OwnL w base v n p) (hn : n + m ≤ 1000) (hbase : base ≤ w.heap.size)
    (h : ∀ v' w', OwnL w' base v' (n + m) (catQ p n q) → Below base w w' → (∀ g N f, RowW w g N f → RowW w' g N f) → ∀ K : Act → World → Prop, (∀ a w, wpList Try.prog ops Q rest a w → K a w) → K (act.put o.dst v') w') : wpList Try.prog ops Q (o :: rest) act w := by
  obtain ⟨i, hi, hz, hsz, hby⟩ := info_nat
  refine wpList_append_own w hgd s x _ ho base 24 i (.slice none 0 0) 1 24 Try.underlying55 hi hz hsz hby rfl (by omega) v n _ hs hown
    ⟨gx, 0, none⟩ m cx ((List.range m).map fun i => sv (q i)) hx (by simp) (fun j u hu => ?_) (fun u hu => ?_) (by unfold maxLen; omega) (by omega) hbase ?_
  · rw [List.getElem?_map] at hu
    by_cases hj : j < m
    · simp [hj] at hu
      rw [Addr.add_mid, Nat.zero_add, hc j hj, ← hu]
    · simp [hj] at hu
  · obtain ⟨i, _, rfl⟩ := List.mem_map.1 hu
    rfl
  · intro v' w' ho' hgrow _
    refine h v' w' ?_ ((Below.refl _ _).grown hgrow hbase fun k hk => ?_) (fun g N f hr => ?_) _ fun _ _ h => h
    · unfold OwnL
      rw [← catQ_map]
      exact ho'
    · obtain ⟨_, hv⟩ := hown
      rcases hv with ⟨rfl, _⟩ | ⟨g, cap, cur, rfl, hg, _⟩
      · cases hk
      · have : g = k := by simpa [Value.ownBlock] using hk
        omega
    · refine (hgrow.block g hr.lt fun e => ?_).trans hr
      obtain ⟨_, hv⟩ := hown
      rcases hv with ⟨rfl, _⟩ | ⟨g', cap, cur, rfl, hg, hrow, _⟩
      · cases e
      · have : g = g' := by simpa [Value.ownBlock] using e
        subst this
        have := hr.symm.trans hrow
        simp at this
theorem newsW_get (n x : Nat) (j : Nat) (u : Value) (h : ((List.range n).map fun i => V (wd x i))[j]? = some u) : j < n ∧ u = V (wd x j) := by
  rw [List.getElem?_map] at h
  by_cases hj : j < n
  · simp [hj] at h
    exact ⟨hj, h.symm⟩
  · simp [hj] at h
/-- append of a number's words to nothing. -/
theorem lay_append_words (hgd : o.guard = none) {s x : Operand} (ho : o.op = .call { callee := .builtin .append, args := #[s, x], argTypes := #[24, 24] }) (hs : act.eval s = .slice none 0 0)
    {a : Option Addr} {n c z : Nat} (hx : act.eval x = .slice a n c) (hS : Sw w w.heap.size a n c z) (hn : n ≤ 1000)
    (h : ∀ a' c' w', Sw w' w'.heap.size a' n c' z → Below w.heap.size w w' → ∀ K : Act → World → Prop, (∀ a w, wpList Try.prog ops Q rest a w → K a w) → K (act.put o.dst (.slice a' n c')) w') : wpList Try.prog ops Q (o :: rest) act w := by
  obtain ⟨i, hi, hz, hsz, hby⟩ := info_u64
  have hf := hS.fits
  cases a with
  | none =>
    have hc := hS.nil rfl
    have hle := hS.le
    obtain rfl : n = 0 := by omega
    subst hc
    exact wpList_append_own_none hgd s x _ ho w.heap.size 56 i 1 Try.underlying24 hi (.slice none 0 0) 0 [] hs ⟨rfl, .inl ⟨rfl, rfl⟩⟩ hx
      (h none 0 w ⟨Nat.le_refl _, (fun _ => rfl), (fun _ e _ => by cases e), hf⟩ (Below.refl _ _) _ fun _ _ h => h)
  | some ad =>
    refine wpList_append_own w hgd s x _ ho w.heap.size 56 i (.int .u64 0) 1 8 Try.underlying24 hi hz hsz hby rfl (by omega) (.slice none 0 0) 0 [] hs ⟨rfl, .inl ⟨rfl, rfl⟩⟩
      ad n c ((List.range n).map fun i => V (wd z i)) hx (by simp) (fun j u hu => ?_) (fun u hu => ?_) (by unfold maxLen; omega) (by omega) (Nat.le_refl _) ?_
    · obtain ⟨hj, rfl⟩ := newsW_get n z j u hu
      obtain ⟨b, off, rfl, hb, hc⟩ := hS.low ad rfl (by omega)
      rw [Addr.add_mid]
      exact hc j hj
    · obtain ⟨i, _, rfl⟩ := List.mem_map.1 hu
      rfl
    · intro v' w' hown hgrow _
      have hbel : Below w.heap.size w w' := (Below.refl _ _).grown hgrow (Nat.le_refl _) (fun k hk => by cases hk)
      rw [Nat.zero_add, List.nil_append] at hown
      obtain ⟨_, hv⟩ := hown
      rcases hv with ⟨rfl, hn0⟩ | ⟨g, cap, cur, rfl, hg, hrow, hle, _, hcs, htake⟩
      · subst hn0
        exact h none 0 w' ⟨Nat.le_refl _, (fun _ => rfl), (fun _ e _ => by cases e), hf⟩ hbel _ fun _ _ h => h
      · refine h (some ⟨g, 0, none⟩) cap w' ⟨hle, (fun e => by cases e), (fun ad e _ => ⟨g, 0, (Option.some.inj e).symm, row_lt hrow, fun i hi => ?_⟩), hf⟩ hbel _ fun _ _ h => h
        rw [Nat.zero_add, cell_of_row _ _ _ _ _ _ hrow]
        have := congrArg (·[i]?) htake
        rw [Nat.mul_one] at this
        simpa [hi] using this
end
/-- A row of words that lies from block base on, whatever it holds. -/
def Fr (w : World) (base : Nat) (q : Q3) : Prop := q.2.1 ≤ 1000 ∧ (q.1 = none → q.2.1 = 0) ∧ ∀ ad, q.1 = some ad → ∃ g N f, ad = ⟨g, 0, none⟩ ∧ base ≤ g ∧ RowW w g N f ∧ q.2.1 ≤ N
section
variable {w w' W : World} {base : Nat} {q : Q3}
theorem Fr.map (h : Fr w base q) (hr : ∀ g N f, RowW w g N f → RowW w' g N f) : Fr w' base q :=
  ⟨h.1, h.2.1, fun ad e => by
    obtain ⟨g, N, f, e1, e2, e3, e4⟩ := h.2.2 ad e
    exact ⟨g, N, f, e1, e2, hr _ _ _ e3, e4⟩⟩
theorem Fr.call (h : Fr w base q) (hb : Below w.heap.size w w') : Fr w' base q := h.map fun _ _ _ r => (hb.block _ r.lt).trans r
theorem Fr.less {base' : Nat} (h : Fr w base q) (hb : base' ≤ base) : Fr w base' q :=
  ⟨h.1, h.2.1, fun ad e => by
    obtain ⟨g, N, f, e1, e2, e3, e4⟩ := h.2.2 ad e
    exact ⟨g, N, f, e1, Nat.le_trans hb e2, e3, e4⟩⟩
theorem Fr.set (h : Fr w base q) (g i : Nat) (v : BitVec 64) : Fr (w.setCell ⟨g, i, none⟩ (V v)) base q :=
  ⟨h.1, h.2.1, fun ad e => by
    obtain ⟨g', N, f, e1, e2, e3, e4⟩ := h.2.2 ad e
    by_cases hg : g' = g
    · subst hg
      exact ⟨g', N, _, e1, e2, e3.setCell i v, e4⟩
    · exact ⟨g', N, f, e1, e2, e3.other _ _ _ hg, e4⟩⟩
theorem Fr.none (w : World) (base : Nat) : Fr w base (Option.none, 0, 0) := ⟨Nat.zero_le _, (fun _ => rfl), fun _ e => by cases e⟩
theorem Got.fr {v : Value} {x : Nat} (h : Got w W v x) (hd : dl 64 x ≤ 1000) : ∃ b k, v = .slice b k k ∧ Fr W w.heap.size (b, k, k) ∧ Below w.heap.size w W := by
  obtain ⟨g, N, rfl, hg, hr, hN, hb⟩ := h
  exact ⟨_, _, rfl, ⟨hd, (fun e => by cases e), fun ad e => ⟨g, N, _, (Option.some.inj e).symm, hg, hr, hN⟩⟩, hb⟩
end
/-- What is kept while numbers are made: nothing that lay there at world wL has turned, and the rows are there. -/
structure Oz (wL w : World) (l : List Q3) : Prop where
  bel : Below wL.heap.size wL w
  fr : ∀ q ∈ l, Fr w wL.heap.size q
section
variable {wL w w' : World} {l : List Q3}
theorem Oz.start (wL : World) : Oz wL wL [] := ⟨Below.refl _ _, fun _ h => by cases h⟩
theorem Oz.call (h : Oz wL w l) (hb : Below w.heap.size w w') : Oz wL w' l := ⟨h.bel.trans (hb.mono h.bel.size), fun q hq => (h.fr q hq).call hb⟩
theorem Oz.app (h : Oz wL w l) (hb : Below wL.heap.size w w') (hr : ∀ g N f, RowW w g N f → RowW w' g N f) : Oz wL w' l := ⟨h.bel.trans hb, fun q hq => (h.fr q hq).map hr⟩
theorem Oz.add (h : Oz wL w l) (hb : Below w.heap.size w w') {q : Q3} (hq : Fr w' w.heap.size q) : Oz wL w' (q :: l) :=
  ⟨(h.call hb).bel, fun q' hq' => by
    rcases List.mem_cons.1 hq' with rfl | h'
    · exact hq.less h.bel.size
    · exact (h.call hb).fr q' h'⟩
theorem Oz.get (h : Oz wL w l) (i : Nat) {q : Q3} (e : l[i]? = some q) : Fr w wL.heap.size q := h.fr _ (List.mem_of_getElem? e)
theorem Oz.set (h : Oz wL w l) (g i : Nat) (v : BitVec 64) (hg : wL.heap.size ≤ g) : Oz wL (w.setCell ⟨g, i, none⟩ (V v)) l := ⟨h.bel.setCell hg _, fun q hq => (h.fr q hq).set g i v⟩
theorem Oz.drew (h : Oz wL w l) : Oz wL w.drew l := ⟨h.bel.drew, fun q hq => (h.fr q hq).map fun _ _ _ r => r⟩
end
/-- A list of numbers, in block g. -/
def Ls (w : World) (g n : Nat) (p : Nat → Q3) : Prop := ∃ cur, w.heap[g]? = some (.cells cur 24) ∧ ∀ i, i < n → cur[i]? = some (sv (p i))
section
variable {w : World} {g n : Nat} {p : Nat → Q3}
theorem Ls.cell (h : Ls w g n p) (i : Nat) (hi : i < n) : w.cell? ⟨g, i, none⟩ = some (sv (p i)) := by
  obtain ⟨cur, hc, hp⟩ := h
  rw [cell_of_row _ _ _ _ _ _ hc, hp i hi]
theorem Ls.drew (h : Ls w g n p) : Ls w.drew g n p := h
theorem Ls.set (h : Ls w g n p) {g' N i : Nat} {f : Nat → BitVec 64} (hr : RowW w g' N f) (v : Value) : Ls (w.setCell ⟨g', i, none⟩ v) g n p := by
  obtain ⟨cur, hc, hp⟩ := h
  refine ⟨cur, ?_, hp⟩
  rw [heap_setCell_other _ _ _ _ (by
    show g ≠ g'
    intro e
    subst e
    have := hr.symm.trans hc
    simp at this)]
  exact hc
theorem OwnL.ls {base : Nat} {v : Value} (h : OwnL w base v n p) (hn : 0 < n) : ∃ g c, v = .slice (some ⟨g, 0, none⟩) n c ∧ Ls w g n p := by
  obtain ⟨_, hv⟩ := h
  rcases hv with ⟨_, h0⟩ | ⟨g, cap, cur, rfl, hg, hrow, hle, _, hcs, htake⟩
  · omega
  · refine ⟨g, cap, rfl, cur, hrow, fun i hi => ?_⟩
    have := congrArg (·[i]?) htake
    rw [Nat.mul_one] at this
    simpa [hi] using this
end
def pk2 (a b : Q3) : Nat → Q3 := fun i => if i = 0 then a else b
def pk4 (a b c d : Q3) : Nat → Q3 := fun i => if i = 0 then a else if i = 1 then b else if i = 2 then c else d
theorem two_nats (w : World) (a b : Q3) : ∀ i, i < 2 → (w.alloc (.cells #[sv a, sv b] 24)).cell? ⟨w.heap.size, i, none⟩ = some (sv (pk2 a b i)) := by
  intro i hi
  rcases (by omega : i = 0 ∨ i = 1) with rfl | rfl <;> simp [pk2]
theorem four_nats (w : World) (a b c d : Q3) : ∀ i, i < 4 → (w.alloc (.cells #[sv a, sv b, sv c, sv d] 24)).cell? ⟨w.heap.size, i, none⟩ = some (sv (pk4 a b c d i)) := by
  intro i hi
  rcases (by omega : i = 0 ∨ i = 1 ∨ i = 2 ∨ i = 3) with rfl | rfl | rfl | rfl <;> simp [pk4]
theorem six_nats {P : Q3 → Prop} {a b c d e f : Q3} (ha : P a) (hb : P b) (hc : P c) (hd : P d) (he : P e) (hf : P f) : ∀ i, i < 6 → P (catQ (pk2 a b) 2 (pk4 c d e f) i) := by
  intro i hi
  rcases (by omega : i = 0 ∨ i = 1 ∨ i = 2 ∨ i = 3 ∨ i = 4 ∨ i = 5) with rfl | rfl | rfl | rfl | rfl | rfl <;> simp [catQ, pk2, pk4] <;> assumption
@[go_sem] theorem u64_inc (x : BitVec 64) : IntKind.u64.wrap (L x + 1) = L (x + 1) := by
  have h := u64_add x 1
  rwa [show L 1 = 1 from rfl] at h
/-! The contracts that are wanted. -/
theorem add_fr (a : Option Addr) (n c x : Nat) (a' : Option Addr) (m c' y : Nat) (w : World) (hn : n ≤ 20) (hm : m ≤ 20) (h : Sw w w.heap.size a n c x) (h' : Sw w w.heap.size a' m c' y) :
    Calls Try.prog 25 #[.slice a n c, .slice a' m c'] w fun e w' => ∃ b k, e = .returned (.slice b k k) ∧ Fr w' w.heap.size (b, k, k) ∧ Below w.heap.size w w' := by
  obtain ⟨N, hN⟩ : ∃ N, N = 20 := ⟨_, rfl⟩
  have hd : dl 64 (x + y) ≤ 1000 := Nat.le_trans ((dl_le 64 _ (N + 1) (by omega)).2 (add_fits (fits_more h.fits (by omega)) (fits_more h'.fits (by omega)))) (by omega)
  refine (add_any a n c x a' m c' y w (by omega) (by omega) h h').mono ?_
  rintro e w' ⟨v, rfl, hv⟩
  obtain ⟨b, k, rfl, h1, h2⟩ := hv.fr hd
  exact ⟨b, k, rfl, h1, h2⟩
theorem mul_fr (a : Option Addr) (n c x : Nat) (a' : Option Addr) (m c' y : Nat) (w : World) (hn : n ≤ 20) (hm : m ≤ 20) (h : Sw w w.heap.size a n c x) (h' : Sw w w.heap.size a' m c' y) :
    Calls Try.prog 27 #[.slice a n c, .slice a' m c'] w fun e w' => ∃ b k, e = .returned (.slice b k k) ∧ Fr w' w.heap.size (b, k, k) ∧ Below w.heap.size w w' := by
  have hd : dl 64 (x * y) ≤ 1000 := Nat.le_trans ((dl_le 64 _ (n + m) (by omega)).2 (prod_fits h.fits h'.fits)) (by omega)
  refine (mul_any a n c x a' m c' y w (by omega) (by omega) h h').mono ?_
  rintro e w' ⟨v, rfl, hv⟩
  obtain ⟨b, k, rfl, h1, h2⟩ := hv.fr hd
  exact ⟨b, k, rfl, h1, h2⟩
theorem sub_fr (a : Option Addr) (n c x : Nat) (a' : Option Addr) (m c' y : Nat) (w : World) (hn : n ≤ 20) (hm : m ≤ 20) (h : Sw w w.heap.size a n c x) (h' : Sw w w.heap.size a' m c' y) :
    Calls Try.prog 29 #[.slice a n c, .slice a' m c'] w fun e w' => ∃ b k z, e = .returned (.tuple #[.slice b k k, .int .i64 z]) ∧ Fr w' w.heap.size (b, k, k) ∧ Below w.heap.size w w' := by
  rcases Nat.lt_or_ge x y with hlt | hge
  · refine (sub_lt a n c x a' m c' y w (by omega) (by omega) h h' hlt).mono ?_
    rintro e w' ⟨rfl, rfl⟩
    exact ⟨none, 0, 10, rfl, Fr.none _ _, Below.refl _ _⟩
  · have hd : dl 64 (x - y) ≤ 1000 := Nat.le_trans ((dl_le 64 _ n (by omega)).2 (by have := h.fits; omega)) (by omega)
    refine (sub_ge a n c x a' m c' y w (by omega) (by omega) h h' hge).mono ?_
    rintro e w' ⟨v, rfl, hv⟩
    obtain ⟨b, k, rfl, h1, h2⟩ := hv.fr hd
    exact ⟨b, k, 0, rfl, h1, h2⟩
theorem div_fr (a : Option Addr) (n c x : Nat) (a' : Option Addr) (m c' y : Nat) (w : World) (hn : n ≤ 20) (hm : m ≤ 20) (h : Sw w w.heap.size a n c x) (h' : Sw w w.heap.size a' m c' y) :
    Calls Try.prog 33 #[.slice a n c, .slice a' m c'] w fun e w' => ∃ b k b2 k2 z, e = .returned (.tuple #[.slice b k k, .slice b2 k2 k2, .int .i64 z]) ∧ Fr w' w.heap.size (b, k, k) ∧ Fr w' w.heap.size (b2, k2, k2) ∧ Below w.heap.size w w' := by
  rcases Nat.eq_zero_or_pos y with h0 | h0
  · subst h0
    refine (div_zero a n c x a' m c' w (by omega) (by omega) h h').mono ?_
    rintro e w' ⟨rfl, rfl⟩
    exact ⟨none, 0, none, 0, 15, rfl, Fr.none _ _, Fr.none _ _, Below.refl _ _⟩
  · have hd : dl 64 (x / y) ≤ 1000 := Nat.le_trans ((dl_le 64 _ n (by omega)).2 (Nat.lt_of_le_of_lt (Nat.div_le_self _ _) h.fits)) (by omega)
    have hd2 : dl 64 (x % y) ≤ 1000 := Nat.le_trans ((dl_le 64 _ n (by omega)).2 (Nat.lt_of_le_of_lt (Nat.mod_le _ _) h.fits)) (by omega)
    refine (div_any a n c x a' m c' y w (by omega) (by omega) h h' h0).mono ?_
    rintro e w' ⟨v, v', rfl, hv, hv'⟩
    obtain ⟨b, k, rfl, h1, h2⟩ := hv.fr hd
    obtain ⟨b2, k2, rfl, h3, _⟩ := hv'.fr hd2
    exact ⟨b, k, b2, k2, 0, rfl, h1, h3, h2⟩
theorem shift_fr (a : Option Addr) (n c x : Nat) (s : Int) (w : World) (hn : n ≤ 20) (h1 : -200 ≤ s) (h2 : s ≤ 200) (h : Sw w w.heap.size a n c x) :
    Calls Try.prog 31 #[.slice a n c, .int .i64 s] w fun e w' => ∃ b k z, e = .returned (.tuple #[.slice b k k, .int .i64 z]) ∧ Fr w' w.heap.size (b, k, k) ∧ Below w.heap.size w w' := by
  have hd : dl 64 (shf x s) ≤ 1000 := Nat.le_trans ((dl_le 64 _ (n + 4) (by omega)).2 (shf_bound h.fits (by omega))) (by omega)
  refine (shift_any a n c x s w (by omega) (by omega) (by omega) h).mono ?_
  rintro e w' ⟨v, rfl, hv⟩
  obtain ⟨b, k, rfl, h1, h2⟩ := hv.fr hd
  exact ⟨b, k, 0, rfl, h1, h2⟩
end Go.Proofs.Ytmnokjapapheiaa
