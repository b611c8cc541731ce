/-
  The laws that FieldLong's walk wants besides: a literal of two, the calls that come in.
-/
import Derived.Test.YtieoapcakdaelaaDoorZFdLong2
namespace Go.Proofs.YtieoapcakdaelaaDoor
open Go.RowKit

/-- A slice of calls that lies below block B. -/
structure SlC (w : World) (B : Nat) (a : Option Addr) (n c : Nat) (q : Nat → Nat → Int) : Prop where
  le : n ≤ c
  nil : a = none → c = 0
  low : ∀ ad, a = some ad → 0 < n → ∃ b o, ad = ⟨b, o, none⟩ ∧ b < B ∧ ∀ i, i < n → w.cell? ⟨b, o + i * 4, none⟩ = some (.int .i64 (q i 0)) ∧ w.cell? ⟨b, o + i * 4 + 1, none⟩ = some (.int .i64 (q i 1)) ∧ w.cell? ⟨b, o + i * 4 + 2, none⟩ = some (.int .i64 (q i 2)) ∧ w.cell? ⟨b, o + i * 4 + 3, none⟩ = some (.int .i64 (q i 3))
  bd : ∀ i, i < n → -9223372036854775808 ≤ q i 3 ∧ q i 3 ≤ 9223372036854775807
section
variable {w w' : World} {B : Nat} {a : Option Addr} {n c : Nat} {q : Nat → Nat → Int}
theorem SlC.get (h : SlC w B a n c q) (i : Nat) (hi : i < n) : ∃ b o, a = some ⟨b, o, none⟩ ∧ b < B ∧ w.cell? ⟨b, o + i * 4, none⟩ = some (.int .i64 (q i 0)) ∧ w.cell? ⟨b, o + i * 4 + 1, none⟩ = some (.int .i64 (q i 1)) ∧ w.cell? ⟨b, o + i * 4 + 2, none⟩ = some (.int .i64 (q i 2)) ∧ w.cell? ⟨b, o + i * 4 + 3, none⟩ = some (.int .i64 (q i 3)) := by
  cases ha : a with
  | none =>
    have h1 := h.nil ha
    have h2 := h.le
    exfalso; omega
  | some ad =>
    obtain ⟨b, o, rfl, hb, hc⟩ := h.low ad ha (by omega)
    exact ⟨b, o, rfl, hb, hc i hi⟩
theorem SlC.below (h : SlC w B a n c q) (hb : Below B w w') : SlC w' B a n c q :=
  ⟨h.le, h.nil, fun ad ha h0 => by
    obtain ⟨b, o, rfl, hlt, hc⟩ := h.low ad ha h0
    exact ⟨b, o, rfl, hlt, fun i hi => ⟨(hb.cell (p := ⟨b, _, none⟩) hlt).trans (hc i hi).1, (hb.cell (p := ⟨b, _, none⟩) hlt).trans (hc i hi).2.1, (hb.cell (p := ⟨b, _, none⟩) hlt).trans (hc i hi).2.2.1, (hb.cell (p := ⟨b, _, none⟩) hlt).trans (hc i hi).2.2.2⟩⟩, h.bd⟩
end
/-- Two rows, by their places. -/
def G2 (f g : Nat → Int) : Nat → Nat → Int := fun i => if i = 0 then f else g
theorem G2_E (f g : Nat → Nat) : G2 (NZ f) (NZ g) = fun k => NZ (setN (fun _ => g) 0 f k) := by
  funext k
  unfold G2 setN
  split <;> rfl
theorem G2_F (x y : Nat) : G2 (dF x) (dF y) = fun k => dF (setY (fun _ => y) 0 x k) := by
  funext k
  unfold G2 setY
  split <;> rfl
def RowO (t : TypeId) (k : IntKind) (s m : Nat) (G : Nat → Nat → Int) : Obj := .cells (flatR k s m G).toArray t
theorem OwnR.of_row {W : World} {base g n s : Nat} {t : TypeId} {k : IntKind} {G : Nat → Nat → Int} (h : W.heap[g]? = some (RowO t k s n G)) (hb : base ≤ g) (hm : n ≤ 1000) : OwnR W base t k s (.slice (some ⟨g, 0, none⟩) n n) n G :=
  ⟨flatR_length .., .inr ⟨g, n, _, rfl, hb, h, Nat.le_refl _, by unfold maxLen; omega, by simp [flatR_length], by
    show List.take _ (flatR k s n G) = _
    rw [List.take_of_length_le (by rw [flatR_length]; exact Nat.le_refl _)]⟩⟩
section
variable {P : Program} {ops : Array Oper} {rest : List Oper} {o : Oper} {a : Act} {w w0 : World} {l : List (Nat × Obj)} {Q : Exit → Act → World → Prop}
theorem own_build2E (H : Hid (Ow w0 w l)) (hgd : o.guard = none) {x y : Operand} (ho : o.op = .buildSlice 32 2 #[(0, x), (1, y)]) {f g : Nat → Int} (hx : a.eval x = .agg (AZ .u64 8 f)) (hy : a.eval y = .agg (AZ .u64 8 g))
    (h : ∀ w' gg, Hid (Ow w0 w' ((gg, RowO 28 .u64 8 2 (G2 f g)) :: l)) → ∀ K : Act → World → Prop, (∀ a w, wpList Tryd.prog ops Q rest a w → K a w) → K (a.put o.dst (.slice (some ⟨gg, 0, none⟩) 2 2)) w') : wpList Tryd.prog ops Q (o :: rest) a w :=
  wpList_plain hgd fun K hK => by
    unfold Oper.wp execOp
    have hr := run_buildR (P := Tryd.prog) (w := w) (k := .u64) Tryd.underlying32 infoE (by omega) 2 (by omega) (by omega) (G2 f g) #[(0, .agg (AZ .u64 8 f)), (1, .agg (AZ .u64 8 g))] rfl
    simp only [ho, List.map_toArray, List.map_cons, List.map_nil, hx, hy, Sem.run_bind, hr, Result.andThen_ok]
    exact h _ _ (Lib.hid (H.out.alloc _)) K hK
/-- A literal of two, in a region that draws its order. -/
theorem build2_wp {o : Oper} {K : Act → World → Prop} {Q : Exit → Act → World → Prop} (dd : Tmp) (hd : o.dst = some dd) {x y : Operand} (ho : o.op = .buildSlice 36 2 #[(0, x), (1, y)])
    {f g : Nat → Int} (hx : a.eval x = .agg (AZ .i64 16 f)) (hy : a.eval y = .agg (AZ .i64 16 g)) (H : Ow w0 w l)
    (hK : ∀ gg w', Ow w0 w' ((gg, RowO 34 .i64 16 2 (G2 f g)) :: l) → K (a.put (some dd) (.slice (some ⟨gg, 0, none⟩) 2 2)) w') : o.wp Tryd.prog a w K Q := by
  unfold Oper.wp execOp
  have hr := run_buildR (P := Tryd.prog) (w := w) (k := .i64) Tryd.underlying36 infoF (by omega) 2 (by omega) (by omega) (G2 f g) #[(0, .agg (AZ .i64 16 f)), (1, .agg (AZ .i64 16 g))] rfl
  simp only [ho, List.map_toArray, List.map_cons, List.map_nil, hx, hy, Sem.run_bind, hr, Result.andThen_ok]
  show K (a.put o.dst _) _
  rw [hd]
  exact hK _ _ (H.alloc _)
end
theorem zmod_lt (n : Int) : (n % pZ).toNat < pN := by
  have h0 : 0 < pZ := by decide +kernel
  have h1 := Int.emod_lt_of_pos n h0
  have h2 := Int.emod_nonneg n (Int.ne_of_gt h0)
  have h3 := pZ_eq
  omega
theorem setN_self (E : Nat → Nat → Nat) (n : Nat) (h : Nat → Nat) : setN E n h n = h := by unfold setN; rw [if_pos rfl]
theorem setY_self (Y : Nat → Nat) (n h : Nat) : setY Y n h n = h := by unfold setY; rw [if_pos rfl]
theorem setN_else (E : Nat → Nat → Nat) (n : Nat) (h : Nat → Nat) (i : Nat) (hi : i < n) : setN E n h i = E i := by unfold setN; rw [if_neg (by omega)]
theorem setY_else (Y : Nat → Nat) (n h : Nat) (i : Nat) (hi : i < n) : setY Y n h i = Y i := by unfold setY; rw [if_neg (by omega)]
theorem val_set {E : Nat → Nat → Nat} {Y : Nat → Nat} {n : Nat} {h : Nat → Nat} {x : Nat} (H : ∀ k, k < n → Val (E k) (Y k)) (hx : Val h x) : ∀ k, k < n + 1 → Val (setN E n h k) (setY Y n x k) := fun k hk => by
  unfold setN setY
  split
  · exact hx
  · exact H k (by omega)
theorem Rd.congr {W : World} {g : Nat} {k : IntKind} {s n : Nat} {G G' : Nat → Nat → Int} (h : Rd W g k s n G) (hG : ∀ i, i < n → G i = G' i) : Rd W g k s n G' := fun i hi j hj => by rw [← hG i hi]; exact h i hi j hj
section
variable {P : Program} {ops : Array Oper} {rest : List Oper} {o : Oper} {a : Act} {w w0 : World} {K : Act → World → Prop} {Q : Exit → Act → World → Prop}
theorem wp_build1 {t ts : TypeId} {k : IntKind} {s by' : Nat} (dd : Tmp) (hd : o.dst = some dd) (hu : P.underlying ts = some (.slice t)) (hI : InfoR P t s by') (hs : 0 < s) (hms : s ≤ 1000) {x : Operand} (ho : o.op = .buildSlice ts 1 #[(0, x)])
    {f : Nat → Int} (hx : a.eval x = .agg (AZ k s f)) (hK : ∀ g w', Below w.heap.size w w' → w'.heap[g]? = some (Blk t k s f) → K (a.put (some dd) (.slice (some ⟨g, 0, none⟩) 1 1)) w') : o.wp P a w K Q :=
  build1_wp dd hd hu hI hs hms ho hx fun g hg => hK g _ (below_alloc w _) (by rw [hg]; exact heap_alloc_new w _)
section
variable {g1 c1 g2 c2 n1 n2 gx cx : Nat} {E : Nat → Nat → Nat} {F : Nat → Nat → Int} {h : Nat → Nat} {x y : Operand} {tb : TypeId}
theorem wp_app1 (dd : Tmp) (hd : o.dst = some dd) (ho : o.op = .call { callee := .builtin .append, args := #[x, y], argTypes := #[32, 32] }) (hx : a.eval x = .slice (some ⟨g1, 0, none⟩) n1 c1) (hy : a.eval y = .slice (some ⟨gx, 0, none⟩) 1 cx)
    (D : Duo w0 w g1 c1 g2 c2 n1 n2 (fun k => NZ (E k)) F) (hn : w.heap[gx]? = some (Blk tb .u64 8 (NZ h))) (hn1 : n1 ≤ 1000)
    (hK : ∀ g c w', Duo w0 w' g c g2 c2 (n1 + 1) n2 (fun k => NZ (setN E n1 h k)) F → Rd w' g1 .u64 8 n1 (fun k => NZ (E k)) → K (a.put (some dd) (.slice (some ⟨g, 0, none⟩) (n1 + 1) c)) w') : o.wp Tryd.prog a w K Q := by
  have hE : ∀ i, i < n1 → (fun k => NZ (E k)) i = (fun k => NZ (setN E n1 h k)) i := fun i hi => by
    show NZ (E i) = NZ (setN E n1 h i)
    rw [setN_else _ _ _ _ hi]
  refine ownR_append1 (G := fun k => NZ (setN E n1 h k)) dd hd Tryd.underlying32 infoE (by omega) (by omega) ho hx hy (D.r1.congr hE) (tb := tb) (by
    show w.heap[gx]? = some (Blk tb .u64 8 (NZ (setN E n1 h n1)))
    rw [setN_self]
    exact hn) hn1 D.base ?_
  intro v' w' h1 h2 h3
  obtain ⟨g, c, rfl, D'⟩ := D.app1 h1 h2
  exact hK g c w' D' ((h3 g1 rfl).congr fun i hi => (hE i hi).symm)
end
section
variable {g1 c1 g2 c2 n1 n2 gx cx : Nat} {E : Nat → Nat → Int} {Y : Nat → Nat} {h : Nat} {x y : Operand} {tb : TypeId}
theorem wp_app2 (dd : Tmp) (hd : o.dst = some dd) (ho : o.op = .call { callee := .builtin .append, args := #[x, y], argTypes := #[36, 36] }) (hx : a.eval x = .slice (some ⟨g2, 0, none⟩) n2 c2) (hy : a.eval y = .slice (some ⟨gx, 0, none⟩) 1 cx)
    (D : Duo w0 w g1 c1 g2 c2 n1 n2 E (fun k => dF (Y k))) (hn : w.heap[gx]? = some (Blk tb .i64 16 (dF h))) (hn1 : n2 ≤ 1000)
    (hK : ∀ g c w', Duo w0 w' g1 c1 g c n1 (n2 + 1) E (fun k => dF (setY Y n2 h k)) → Rd w' g2 .i64 16 n2 (fun k => dF (Y k)) → K (a.put (some dd) (.slice (some ⟨g, 0, none⟩) (n2 + 1) c)) w') : o.wp Tryd.prog a w K Q := by
  have hE : ∀ i, i < n2 → (fun k => dF (Y k)) i = (fun k => dF (setY Y n2 h k)) i := fun i hi => by
    show dF (Y i) = dF (setY Y n2 h i)
    rw [setY_else _ _ _ _ hi]
  refine ownR_append1 (G := fun k => dF (setY Y n2 h k)) dd hd Tryd.underlying36 infoF (by omega) (by omega) ho hx hy (D.r2.congr hE) (tb := tb) (by
    show w.heap[gx]? = some (Blk tb .i64 16 (dF (setY Y n2 h n2)))
    rw [setY_self]
    exact hn) hn1 D.base ?_
  intro v' w' h1 h2 h3
  obtain ⟨g, c, rfl, D'⟩ := D.app2 h1 h2
  exact hK g c w' D' ((h3 g2 rfl).congr fun i hi => (hE i hi).symm)
end
end
theorem Duo.last1 {w W : World} {g1 c1 g2 c2 n n2 : Nat} {E : Nat → Nat → Nat} {F : Nat → Nat → Int} {h : Nat → Nat} (D : Duo w W g1 c1 g2 c2 (n + 1) n2 (fun k => NZ (setN E n h k)) F) : ∀ j, j < 8 → W.cell? ⟨g1, n * 8 + j, none⟩ = some (.int .u64 (NZ h j)) := fun j hj => by
  have h1 := D.rd1 n (by omega) j hj
  simpa only [setN_self] using h1
theorem Duo.last2 {w W : World} {g1 c1 g2 c2 n n1 : Nat} {E : Nat → Nat → Int} {Y : Nat → Nat} {h : Nat} (D : Duo w W g1 c1 g2 c2 n1 (n + 1) E (fun k => dF (setY Y n h k))) : ∀ j, j < 16 → W.cell? ⟨g2, n * 16 + j, none⟩ = some (.int .i64 (dF h j)) := fun j hj => by
  have h1 := D.rd2 n (by omega) j hj
  simpa only [setY_self] using h1
section
variable {P : Program} {ops : Array Oper} {rest : List Oper} {o : Oper} {a : Act} {w w0 : World} {Q : Exit → Act → World → Prop}
theorem lay_at {ty : TypeId} {n : Nat} {k : IntKind} (hT : IsRow P ty n) (hgd : o.guard = none) {x : Operand} (ho : o.op = .load ty x) {g off : Nat} (hx : a.eval x = .pointer (some ⟨g, off, none⟩)) {f : Nat → Int} (hrow : ∀ j, j < n → w.cell? ⟨g, off + j, none⟩ = some (.int k (f j)))
    (h : ∀ K : Act → World → Prop, (∀ a w, wpList P ops Q rest a w → K a w) → K (a.put o.dst (.agg (AZ k n f))) w) : wpList P ops Q (o :: rest) a w :=
  wpList_plain hgd fun K hK => by
    unfold Oper.wp execOp
    simp only [ho, hx, Sem.run_bind, run_load_one hT off hrow, Result.andThen_ok]
    exact h K hK
theorem lay_build1 {t ts : TypeId} {k : IntKind} {s by' : Nat} {dd : Tmp} (hu : P.underlying ts = some (.slice t)) (hI : InfoR P t s by') (hs : 0 < s) (hms : s ≤ 1000) (hgd : o.guard = none) (hd : o.dst = some dd) {x : Operand} (ho : o.op = .buildSlice ts 1 #[(0, x)])
    {f : Nat → Int} (hx : a.eval x = .agg (AZ k s f)) (h : ∀ g w', Below w.heap.size w w' → w'.heap[g]? = some (Blk t k s f) → ∀ K : Act → World → Prop, (∀ a w, wpList P ops Q rest a w → K a w) → K (a.put (some dd) (.slice (some ⟨g, 0, none⟩) 1 1)) w') : wpList P ops Q (o :: rest) a w :=
  wpList_plain hgd fun K hK => wp_build1 dd hd hu hI hs hms ho hx fun g w' h1 h2 => h g w' h1 h2 K hK
theorem lay_app1 {g1 c1 g2 c2 n1 n2 gx cx : Nat} {E : Nat → Nat → Nat} {F : Nat → Nat → Int} {hh : Nat → Nat} {x y : Operand} {tb : TypeId} {dd : Tmp} (hgd : o.guard = none) (hd : o.dst = some dd) (ho : o.op = .call { callee := .builtin .append, args := #[x, y], argTypes := #[32, 32] }) (hx : a.eval x = .slice (some ⟨g1, 0, none⟩) n1 c1) (hy : a.eval y = .slice (some ⟨gx, 0, none⟩) 1 cx)
    (D : Duo w0 w g1 c1 g2 c2 n1 n2 (fun k => NZ (E k)) F) (hn : w.heap[gx]? = some (Blk tb .u64 8 (NZ hh))) (hn1 : n1 ≤ 1000)
    (h : ∀ g c w', Duo w0 w' g c g2 c2 (n1 + 1) n2 (fun k => NZ (setN E n1 hh k)) F → ∀ K : Act → World → Prop, (∀ a w, wpList Tryd.prog ops Q rest a w → K a w) → K (a.put (some dd) (.slice (some ⟨g, 0, none⟩) (n1 + 1) c)) w') : wpList Tryd.prog ops Q (o :: rest) a w :=
  wpList_plain hgd fun K hK => wp_app1 dd hd ho hx hy D hn hn1 fun g c w' h1 _ => h g c w' h1 K hK
theorem lay_app2 {g1 c1 g2 c2 n1 n2 gx cx : Nat} {E : Nat → Nat → Int} {Y : Nat → Nat} {hh : Nat} {x y : Operand} {tb : TypeId} {dd : Tmp} (hgd : o.guard = none) (hd : o.dst = some dd) (ho : o.op = .call { callee := .builtin .append, args := #[x, y], argTypes := #[36, 36] }) (hx : a.eval x = .slice (some ⟨g2, 0, none⟩) n2 c2) (hy : a.eval y = .slice (some ⟨gx, 0, none⟩) 1 cx)
    (D : Duo w0 w g1 c1 g2 c2 n1 n2 E (fun k => dF (Y k))) (hn : w.heap[gx]? = some (Blk tb .i64 16 (dF hh))) (hn1 : n2 ≤ 1000)
    (h : ∀ g c w', Duo w0 w' g1 c1 g c n1 (n2 + 1) E (fun k => dF (setY Y n2 hh k)) → ∀ K : Act → World → Prop, (∀ a w, wpList Tryd.prog ops Q rest a w → K a w) → K (a.put (some dd) (.slice (some ⟨g, 0, none⟩) (n2 + 1) c)) w') : wpList Tryd.prog ops Q (o :: rest) a w :=
  wpList_plain hgd fun K hK => wp_app2 dd hd ho hx hy D hn hn1 fun g c w' h1 _ => h g c w' h1 K hK
end
end Go.Proofs.YtieoapcakdaelaaDoor
