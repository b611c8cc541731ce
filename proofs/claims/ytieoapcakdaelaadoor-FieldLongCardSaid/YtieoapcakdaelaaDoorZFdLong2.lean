/-
  A place among so many; the two rows that FieldLong keeps; the calls that come in.
-/
import Derived.Test.YtieoapcakdaelaaDoorZFdLong1
namespace Go.Proofs.YtieoapcakdaelaaDoor
open Go.RowKit

set_option maxRecDepth 8000 in
theorem place_any (n : Int) (m : Nat) (w : World) (hm : 0 < m) (hm' : m ≤ 1000) :
    Calls Tryd.prog 15 #[.int .i64 n, .int .i64 (m : Int)] w fun e w' => (∃ r : Nat, r < m ∧ e = .returned (.int .i64 (r : Int))) ∧ w' = w := by
  obtain ⟨z, hz⟩ : ∃ z : Int, (m : Int) = z := ⟨_, rfl⟩
  have hZ := Lib.hid hz
  have z0 : 0 < z := by omega
  have z1 : z ≤ 1000 := by omega
  clear hz
  obtain ⟨q, hq⟩ : ∃ q, n.tmod z = q := ⟨_, rfl⟩
  have q1 : -z < q := by rw [← hq]; exact Int.lt_tmod_of_pos _ z0
  have q2 : q < z := by rw [← hq]; exact Int.tmod_lt_of_pos _ z0
  obtain ⟨s, hs⟩ : ∃ s, q + z = s := ⟨_, rfl⟩
  obtain ⟨r, hr⟩ : ∃ r, s.tmod z = r := ⟨_, rfl⟩
  have r1 : 0 ≤ r := by rw [← hr]; exact Int.tmod_nonneg _ (by omega)
  have r2 : r < z := by rw [← hr]; exact Int.tmod_lt_of_pos _ z0
  have f1 : IntKind.i64.wrap q = q := IntWalk.i64_in _ (by omega)
  have f2 : IntKind.i64.wrap s = s := IntWalk.i64_in _ (by omega)
  have f3 : IntKind.i64.wrap r = r := IntWalk.i64_in _ (by omega)
  have zn : z ≠ 0 := by omega
  rw [hZ.out]
  go_enter Tryd.func15, Tryd.ntmps15
  go_wp2_with fail
  go_ret
  have h := hZ.out
  refine ⟨⟨r.toNat, by omega, ?_⟩, rfl⟩
  rw [Int.toNat_of_nonneg r1]
  rfl

/-- The two rows, and nothing old has turned. -/
structure Duo (w W : World) (g1 c1 g2 c2 n1 n2 : Nat) (E F : Nat → Nat → Int) : Prop where
  bel : Below w.heap.size w W
  r1 : OwnR W w.heap.size 28 .u64 8 (.slice (some ⟨g1, 0, none⟩) n1 c1) n1 E
  r2 : OwnR W w.heap.size 34 .i64 16 (.slice (some ⟨g2, 0, none⟩) n2 c2) n2 F
theorem OwnR.ty {W : World} {base g c n s : Nat} {t : TypeId} {k : IntKind} {G : Nat → Nat → Int} (h : OwnR W base t k s (.slice (some ⟨g, 0, none⟩) n c) n G) : ∃ cur, W.heap[g]? = some (.cells cur t (0, 0)) := by
  obtain ⟨_, hx⟩ := h
  rcases hx with ⟨h0, _⟩ | ⟨g', cap, cur, he, _, hrow, _⟩
  · cases h0
  · injection he with h1
    injection h1 with h1
    injection h1 with h1
    subst h1
    exact ⟨cur, hrow⟩
theorem OwnR.apart {W : World} {base base' g c n s g' c' n' s' : Nat} {t t' : TypeId} {k k' : IntKind} {G G' : Nat → Nat → Int} (h : OwnR W base t k s (.slice (some ⟨g, 0, none⟩) n c) n G) (h' : OwnR W base' t' k' s' (.slice (some ⟨g', 0, none⟩) n' c') n' G') (ht : t ≠ t') : g ≠ g' := fun e => by
  subst e
  obtain ⟨cur, h1⟩ := h.ty
  obtain ⟨cur', h2⟩ := h'.ty
  rw [h1] at h2
  injection h2 with h2
  injection h2 with _ h2
  exact ht h2
theorem OwnR.form {W : World} {base n s : Nat} {t : TypeId} {k : IntKind} {v : Value} {G : Nat → Nat → Int} (h : OwnR W base t k s v n G) (h0 : 0 < n) : ∃ g c, v = .slice (some ⟨g, 0, none⟩) n c := by
  obtain ⟨g, c, hv, _⟩ := h.here h0
  exact ⟨g, c, hv⟩
theorem types_apart : (28 : TypeId) ≠ 34 := by decide
section
variable {w W W' : World} {g1 c1 g2 c2 n1 n2 : Nat} {E F E' F' : Nat → Nat → Int}
theorem Duo.call (h : Duo w W g1 c1 g2 c2 n1 n2 E F) (hb : Below W.heap.size W W') : Duo w W' g1 c1 g2 c2 n1 n2 E F := ⟨h.bel.trans (hb.mono h.bel.size), h.r1.call hb, h.r2.call hb⟩
theorem below_alloc (W : World) (o : Obj) : Below W.heap.size W (W.alloc o) := ⟨rfl, rfl, rfl, by simp, fun _ hk => heap_alloc_old W o hk⟩
theorem Duo.alloc (h : Duo w W g1 c1 g2 c2 n1 n2 E F) (o : Obj) : Duo w (W.alloc o) g1 c1 g2 c2 n1 n2 E F := h.call (below_alloc W o)
theorem Duo.drew (h : Duo w W g1 c1 g2 c2 n1 n2 E F) : Duo w W.drew g1 c1 g2 c2 n1 n2 E F := ⟨h.bel.drew, h.r1, h.r2⟩
theorem Duo.rd1 (h : Duo w W g1 c1 g2 c2 n1 n2 E F) : Rd W g1 .u64 8 n1 E := h.r1.rd g1 rfl
theorem Duo.rd2 (h : Duo w W g1 c1 g2 c2 n1 n2 E F) : Rd W g2 .i64 16 n2 F := h.r2.rd g2 rfl
theorem Duo.base (h : Duo w W g1 c1 g2 c2 n1 n2 E F) : w.heap.size ≤ W.heap.size := h.bel.size
theorem Duo.grown {g : Nat} (hg : w.heap.size ≤ g) (h : Below w.heap.size w W) (hb : W.grownBy W' (some g)) : Below w.heap.size w W' :=
  h.trans ⟨hb.os, hb.tape, hb.output, hb.size, fun k hk => hb.block k (Nat.lt_of_lt_of_le hk h.size) (fun e => by injection e; omega)⟩
theorem Duo.app1 (h : Duo w W g1 c1 g2 c2 n1 n2 E F) {v' : Value} (ho : OwnR W' w.heap.size 28 .u64 8 v' (n1 + 1) E') (hb : W.grownBy W' (some g1)) : ∃ g c, v' = .slice (some ⟨g, 0, none⟩) (n1 + 1) c ∧ Duo w W' g c g2 c2 (n1 + 1) n2 E' F := by
  obtain ⟨g, c, rfl⟩ := ho.form (by omega)
  refine ⟨g, c, rfl, Duo.grown (h.r1.lt g1 rfl).2 h.bel hb, ho, World.ownsRow.kept h.r2 hb (.inr ?_)⟩
  intro e
  injection e with e
  exact (h.r1.apart h.r2 types_apart) e.symm
theorem Duo.app2 (h : Duo w W g1 c1 g2 c2 n1 n2 E F) {v' : Value} (ho : OwnR W' w.heap.size 34 .i64 16 v' (n2 + 1) F') (hb : W.grownBy W' (some g2)) : ∃ g c, v' = .slice (some ⟨g, 0, none⟩) (n2 + 1) c ∧ Duo w W' g1 c1 g c n1 (n2 + 1) E F' := by
  obtain ⟨g, c, rfl⟩ := ho.form (by omega)
  refine ⟨g, c, rfl, Duo.grown (h.r2.lt g2 rfl).2 h.bel hb, World.ownsRow.kept h.r1 hb (.inr ?_), ho⟩
  intro e
  injection e with e
  exact (h.r1.apart h.r2 types_apart) e
end
/-- One more at place n. -/
def setN (E : Nat → Nat → Nat) (n : Nat) (h : Nat → Nat) : Nat → Nat → Nat := fun i => if i = n then h else E i
def setY (Y : Nat → Nat) (n h : Nat) : Nat → Nat := fun i => if i = n then h else Y i
section
variable {P : Program} {md : Region.Mode} {ops : Array Oper} {Q : Exit → Act → World → Prop} {S : World → Prop} {fuel : Nat} {listed : Array Bool} {a : Act} {w : World} {ty : TypeId} {k : IntKind} {n : Nat}
/-- An element of a row is loaded, in a region that draws its order. -/
theorem held_at (i : Nat) (d : Tmp) {oi : Oper} (hT : IsRow P ty n) (hi : ops[i]? = some oi) (hd : oi.dst = some d) (hs : Region.noSelect ops = true) (hf : Region.free md ops listed i = true)
    (hr : (Region.ready md ops listed).contains i = true) (hw : Region.wanted oi (yielded ops a.tmps) = true) (hS : S w) {x : Operand} (ho : oi.op = .load ty x) {g o : Nat} (hx : a.eval x = .pointer (some ⟨g, o, none⟩))
    {f : Nat → Int} (hrow : ∀ w, S w → ∀ j, j < n → w.cell? ⟨g, o + j, none⟩ = some (.int k (f j)))
    (h : wpAnyH P md ops (NoPanic Q) S fuel (listed.setIfInBounds i true) (a.put (some d) (.agg (AZ k n f))) w) : wpAnyH P md ops (NoPanic Q) S (fuel + 1) listed a w :=
  held_value i d (.agg (AZ k n f)) hi hd hs hf hr hw hS (fun w hw' => by
    unfold execOp
    simp only [ho, hx, Sem.run_bind, run_load_one hT o (hrow w hw'), Result.andThen_ok]
    rfl) h
/-- A literal of one, in a region that draws its order. -/
theorem build1_wp {o : Oper} {K : Act → World → Prop} {Q : Exit → Act → World → Prop} {t ts : TypeId} {s by' : Nat} (dd : Tmp) (hd : o.dst = some dd) (hu : P.underlying ts = some (.slice t)) (hI : InfoR P t s by') (hs : 0 < s) (hms : s ≤ 1000) {x : Operand} (ho : o.op = .buildSlice ts 1 #[(0, x)])
    {f : Nat → Int} (hx : a.eval x = .agg (AZ k s f)) (hK : ∀ g, g = w.heap.size → K (a.put (some dd) (.slice (some ⟨g, 0, none⟩) 1 1)) (w.alloc (Blk t k s f))) : o.wp P a w K Q := by
  unfold Oper.wp execOp
  have h := run_build1 (P := P) (w := w) (k := k) hu hI hs hms f
  simp only [ho, List.map_toArray, List.map_cons, List.map_nil, hx, Sem.run_bind, h, Result.andThen_ok]
  show K (a.put o.dst _) _
  rw [hd]
  exact hK _ rfl
end
end Go.Proofs.YtieoapcakdaelaaDoor
