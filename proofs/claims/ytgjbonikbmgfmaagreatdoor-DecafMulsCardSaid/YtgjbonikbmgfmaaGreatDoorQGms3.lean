/- Lemmas; no statement is proved here. -/
import Derived.Test.YtgjbonikbmgfmaaGreatDoorQGmsBuJ
import Derived.Test.YtgjbonikbmgfmaaGreatDoorZPtAdd
import Derived.Test.YtgjbonikbmgfmaaGreatDoorZPtEq
set_option maxRecDepth 20000
set_option maxHeartbeats 3200000
namespace Go.Proofs.YtgjbonikbmgfmaaGreatDoor
open Go.RowKit
def zO (s : Value) (F : Nat → Int) : Nat → Value := fun j => if j = 0 then s else .int .u64 (F (j - 1))
theorem y1j (s : Value) (F : Nat → Int) : zO s F 0 = s := if_pos rfl
theorem y1k (s : Value) (F : Nat → Int) (j : Nat) : zO s F (1 + j) = .int .u64 (F j) := by
 unfold zO
 rw [if_neg (by omega), Nat.add_sub_cancel_left]
theorem z3l {s : Value} (hs : s.oneCell' = true) (F : Nat → Int) (j : Nat) : (zO s F j).oneCell' = true := by
 unfold zO
 split
 ·exact hs
 ·rfl
theorem y7y {n : Nat} (s : Value) (F r : Nat → Int) (o m : Nat) : AV n (layV (zO s F) (1 + o) m fun i => .int .u64 (r i)) = AV n (zO s (layZ F o m r)) := by
 congr 1
 funext j
 unfold layV zO layZ
 by_cases h0 : j = 0
 ·rw [if_neg (by omega), if_pos h0, if_pos h0]
 ·rw [if_neg h0, if_neg h0]
  by_cases h1 : 1 + o ≤ j ∧ j < 1 + o + m
  ·rw [if_pos h1, if_pos (by omega), show j - (1 + o) = j - 1 - o by omega]
  ·rw [if_neg h1, if_neg (by omega)]
theorem sci_slot {n : Nat} (s u : Value) (F : Nat → Int) : AV n (layV (zO s F) 0 1 fun _ => u) = AV n (zO u F) := by
 congr 1
 funext j
 unfold layV zO
 by_cases h0 : j = 0
 ·rw [if_pos (by omega), if_pos h0]
 ·rw [if_neg (by omega), if_neg h0, if_neg h0]
def grd (m : Nat) (G : Nat → Nat → Value) : Nat → Value := fun q => G (q / m) (q % m)
theorem z6t {m : Nat} (G : Nat → Nat → Value) (i j : Nat) (hj : j < m) : grd m G (i * m + j) = G i j := by
 unfold grd
 have e1 : (i * m + j) / m = i := by
  rw [Nat.mul_comm, Nat.mul_add_div (by omega), Nat.div_eq_of_lt hj, Nat.add_zero]
 have e2 : (i * m + j) % m = j := by rw [Nat.mul_comm, Nat.mul_add_mod, Nat.mod_eq_of_lt hj]
 rw [e1, e2]
theorem grd_lay {m : Nat} (hm : 0 < m) (G : Nat → Nat → Value) (i : Nat) (f : Nat → Value) {n : Nat} : AV n (layV (grd m G) (i * m) m f) = AV n (grd m fun k => if k = i then f else G k) := by
 congr 1
 funext q
 have hd := Nat.div_add_mod q m
 have hl := Nat.mod_lt q hm
 unfold layV grd
 by_cases h : i * m ≤ q ∧ q < i * m + m
 ·have e : q / m = i := by
   rw [Nat.div_eq_iff hm]
   omega
  rw [if_pos h, e]
  show _ = (if i = i then f else G i) (q % m)
  rw [if_pos rfl]
  congr 1
  rw [e, Nat.mul_comm] at hd
  omega
 ·have e : ¬ q / m = i := fun e => by
   rw [e, Nat.mul_comm] at hd
   omega
  rw [if_neg h]
  show _ = (if q / m = i then f else G (q / m)) (q % m)
  rw [if_neg e]
section
variable {P : Program} {ops : Array Oper} {rest : List Oper} {o : Oper} {a : Act} {w w0 : World} {l : List (Nat × Obj)} {Q : Exit → Act → World → Prop} {t ty : TypeId} {n m : Nat} {f g : Nat → Value}
theorem z61 (hT : IsRow P ty m) (hgd : o.guard = none) {x : Operand} (ho : o.op = .load ty x) {b p : Nat} (hx : a.eval x = .pointer (some ⟨b, p, none⟩)) (hc : ∀ j, j < m → w.cell? ⟨b, p + j, none⟩ = some (f j))
  (h : ∀ K : Act → World → Prop, (∀ a w, wpList P ops Q rest a w → K a w) → K (a.put o.dst (.agg (AV m f))) w) : wpList P ops Q (o :: rest) a w :=
 wpList_plain hgd fun K hK => by
  unfold Oper.wp execOp
  simp only [ho, hx, Sem.run_bind, z5r hT hc, Result.andThen_ok]
  exact h K hK
theorem z9b (hT : IsCell P ty) (hgd : o.guard = none) {x : Operand} (ho : o.op = .load ty x) {b p : Nat} (hx : a.eval x = .pointer (some ⟨b, p, none⟩)) {v : Value} (hc : w.cell? ⟨b, p, none⟩ = some v)
  (h : ∀ K : Act → World → Prop, (∀ a w, wpList P ops Q rest a w → K a w) → K (a.put o.dst v) w) : wpList P ops Q (o :: rest) a w :=
 wpList_plain hgd fun K hK => by
  have hrun : (Instr.loadAt ty (.pointer (some ⟨b, p, none⟩))).run P w = .ok v w := by simp [Instr.loadAt, Instr.sureAddr, loadVar, Sem.run_bind, hT.agg w, hc]
  unfold Oper.wp execOp
  simp only [ho, hx, Sem.run_bind, hrun, Result.andThen_ok]
  exact h K hK
end
section
variable {w w' : World} {B : Nat} {a : Option Addr} {n c m : Nat} {G : Nat → Nat → Value}
theorem y11 {g : Nat} {t : TypeId} (hr : w.heap[g]? = some (Cs t (AV (n * m) (grd m G)))) : Grid w w.heap.size (some ⟨g, 0, none⟩) n n m G := by
 refine ⟨Nat.le_refl _, (fun e => by cases e), fun ad e h0 => ⟨g, 0, (Option.some.inj e).symm, z01 hr, fun i hi j hj => ?_⟩⟩
 have hlt : i * m + j < n * m := by
  have h1 : (i + 1) * m ≤ n * m := Nat.mul_le_mul_right m hi
  rw [Nat.add_mul, Nat.one_mul] at h1
  omega
 rw [Nat.zero_add, z69 hr hlt, z6t G i j hj]
end
section
variable {P : Program} {md : Region.Mode} {ops : Array Oper} {Q : Exit → Act → World → Prop} {S : World → Prop} {fuel : Nat} {listed : Array Bool} {a : Act} {w : World} {ty : TypeId} {v : Value} {m : Nat} {f : Nat → Value}
theorem held_cell (i : Nat) (d : Tmp) {oi : Oper} (hT : IsCell P ty) (hi : ops[i]? = some oi) (hd : oi.dst = some d) (hw : Region.wanted oi (yielded ops a.tmps) = true) (hS : S w) {x : Operand} (ho : oi.op = .load ty x) {g p : Nat} (hx : a.eval x = .pointer (some ⟨g, p, none⟩))
  (hc : ∀ w, S w → w.cell? ⟨g, p, none⟩ = some v)
  (h : wpAnyH P md ops (NoPanic Q) S fuel (listed.setIfInBounds i true) (a.put (some d) v) w) (hs : Region.noSelect ops = true := by kernel_rfl) (hf : Region.free md ops listed i = true := by kernel_rfl) (hr : (Region.ready md ops listed).contains i = true := by kernel_rfl) : wpAnyH P md ops (NoPanic Q) S (fuel + 1) listed a w :=
 z0h i d v hi hd (hs := hs) (hf := hf) (hr := hr) hw hS (fun w hw' => by
  have hrun : (Instr.loadAt ty (.pointer (some ⟨g, p, none⟩))).run P w = .ok v w := by simp [Instr.loadAt, Instr.sureAddr, loadVar, Sem.run_bind, hT.agg w, hc w hw']
  unfold execOp
  simp only [ho, hx, Sem.run_bind, hrun, Result.andThen_ok]
  rfl) h
end
section
variable {P : Program} {o : Oper} {a : Act} {w w0 : World} {l : List (Nat × Obj)} {K : Act → World → Prop} {Q : Exit → Act → World → Prop} {t ty : TypeId} {n m : Nat} {f g : Nat → Value} {u v : Value}
theorem own_wp_ld1 (dd : Tmp) (hd : o.dst = some dd) (i : Nat) (hT : IsCell P ty) (H : Ow w0 w l) {x : Operand} (ho : o.op = .load ty x) {b : Nat} (hx : a.eval x = .pointer (some ⟨b, 0, none⟩))
  (hi : l[i]? = some (b, Oc t v)) (h : K (a.put (some dd) v) w) : o.wp P a w K Q := by
 unfold Oper.wp execOp
 simp only [ho, hx, Sem.run_bind, z9p hT (H.row i hi), Result.andThen_ok]
 show K (a.put o.dst _) _
 rw [hd]
 exact h
theorem own_wp_st1 (i : Nat) (hd : o.dst = none) (hT : IsCell P ty) (hv : OneV v) (H : Ow w0 w l) {x y : Operand} (ho : o.op = .store ty x y) {b : Nat} (hx : a.eval x = .pointer (some ⟨b, 0, none⟩)) (hy : a.eval y = v)
  (hi : l[i]? = some (b, Oc t u)) (h : ∀ w', Ow w0 w' (l.set i (b, Oc t v)) → Turn (fun j => j = b) w w' → K a w') : o.wp P a w K Q := by
 unfold Oper.wp execOp
 simp only [ho, hx, hy, Sem.run_bind, y0q hT (H.row i hi) hv, Result.andThen_ok]
 have hp : a.put o.dst undef = a := by
  rw [hd]
  rfl
 have h2 := h _ (H.setOc i hi v) ⟨rfl, rfl, rfl, by simp [World.setRow], fun c _ hc => setRow_other w b c _ hc⟩
 rw [← hp] at h2
 exact h2
theorem z04 (dd : Tmp) (hd : o.dst = some dd) {C : Array Value} (hz : ∀ w, (zeroValue t).run P w = .ok (.agg C) w) (H : Ow w0 w l) (ho : o.op = .alloc t)
  (h : ∀ w' g, Ow w0 w' ((g, Cs t C) :: l) → Below w.heap.size w w' → K (a.put (some dd) (.pointer (some ⟨g, 0, none⟩))) w') : o.wp P a w K Q := by
 unfold Oper.wp execOp
 simp only [ho, Instr.alloc, Sem.run_bind, hz, Result.andThen_ok, newVar, Value.cells]
 simp [go_sem]
 show K (a.put o.dst _) _
 rw [hd]
 exact h _ _ (H.alloc _) (z1z _ _)
end
section
variable {P : Program} {o : Oper} {a : Act} {w w0 : World} {l : List (Nat × Obj)} {K : Act → World → Prop} {Q : Exit → Act → World → Prop} {t ty : TypeId} {k : IntKind} {n : Nat}
theorem y2u (i : Nat) (hd : o.dst = none) (hT : IsRow P ty n) (H : Ow w0 w l) {x y : Operand} (ho : o.op = .store ty x y) {g : Nat} (hx : a.eval x = .pointer (some ⟨g, 0, none⟩)) {f f0 : Nat → Int} (hy : a.eval y = .agg (AZ k n f))
  (hi : l[i]? = some (g, zv t k n f0)) (h : ∀ w', Ow w0 w' (l.set i (g, zv t k n f)) → Turn (fun j => j = g) w w' → K a w') : o.wp P a w K Q := by
 unfold Oper.wp execOp
 have hs := z1m (o := 0) (g := f) hT (H.row i hi) (by omega)
 rw [z6j] at hs
 simp only [ho, hx, hy, Sem.run_bind, hs, Result.andThen_ok]
 have hp : a.put o.dst undef = a := by
  rw [hd]
  rfl
 have h2 := h _ (H.setRow i hi f) ⟨rfl, rfl, rfl, by simp [World.setRow], fun c _ hc => setRow_other w g c _ hc⟩
 rw [← hp] at h2
 exact h2
end
theorem Turn.callq {X : Nat → Prop} {a b c : World} (h : Turn X a b) (hb : Below b.heap.size b c) : Turn X a c := h.trans (z54 hb fun j h1 h2 => by omega)
section
variable {P : Program} {ops : Array Oper} {rest : List Oper} {o : Oper} {a : Act} {w w0 : World} {l : List (Nat × Obj)} {Q : Exit → Act → World → Prop} {t ty : TypeId} {k : IntKind} {n : Nat}
theorem own_storeT {i : Nat} (hT : IsRow P ty n) (H : Hid (Ow w0 w l)) (hgd : o.guard = none) {x y : Operand} (ho : o.op = .store ty x y) {g : Nat} (hx : a.eval x = .pointer (some ⟨g, 0, none⟩)) {f f0 : Nat → Int} (hy : a.eval y = .agg (AZ k n f))
  (hi : l[i]? = some (g, zv t k n f0)) (h : ∀ w', Hid (Ow w0 w' (l.set i (g, zv t k n f))) → Hid (Turn (fun j => j = g) w w') → ∀ K : Act → World → Prop, (∀ a w, wpList P ops Q rest a w → K a w) → K (a.put o.dst undef) w') : wpList P ops Q (o :: rest) a w :=
 wpList_plain hgd fun K hK => by
  unfold Oper.wp execOp
  have hs := z1m (o := 0) (g := f) hT (H.out.row i hi) (by omega)
  rw [z6j] at hs
  simp only [ho, hx, hy, Sem.run_bind, hs, Result.andThen_ok]
  exact h _ (za (H.out.setRow i hi f)) (za ⟨rfl, rfl, rfl, by simp [World.setRow], fun c _ hc => setRow_other w g c _ hc⟩) K hK
end
section
variable {P : Program} {ops : Array Oper} {rest : List Oper} {o : Oper} {a : Act} {w w0 : World} {l : List (Nat × Obj)} {Q : Exit → Act → World → Prop} {t : TypeId}
theorem own_allocVB {C : Array Value} (hz : ∀ w, (zeroValue t).run P w = .ok (.agg C) w) (H : Hid (Ow w0 w l)) (hgd : o.guard = none) (ho : o.op = .alloc t)
  (h : ∀ w' g, Hid (Ow w0 w' ((g, Cs t C) :: l)) → Hid (Below w.heap.size w w') → Hid (w.heap.size ≤ g) → ∀ K : Act → World → Prop, (∀ a w, wpList P ops Q rest a w → K a w) → K (a.put o.dst (.pointer (some ⟨g, 0, none⟩))) w') : wpList P ops Q (o :: rest) a w :=
 wpList_plain hgd fun K hK => by
  unfold Oper.wp execOp
  simp only [ho, Instr.alloc, Sem.run_bind, hz, Result.andThen_ok, newVar, Value.cells]
  simp [go_sem]
  exact h _ _ (za (H.out.alloc _)) (za (z1z _ _)) (za (Nat.le_refl _)) K hK
end
theorem z7z : IsRow Tryz.prog 193 25 := ⟨⟨_, Tryz.underlying193, rfl⟩, by kernel_rfl⟩
theorem rowRw : IsRow Tryz.prog 201 409 := ⟨⟨_, Tryz.underlying201, rfl⟩, by kernel_rfl⟩
theorem z7r : IsCell Tryz.prog 155 := ⟨fun w => by unfold isAgg; rw [Sem.run_bind, run_underlying Tryz.underlying155 w]; rfl, by kernel_rfl⟩
theorem y0d : IsCell Tryz.prog 205 := ⟨fun w => by unfold isAgg; rw [Sem.run_bind, run_underlying Tryz.underlying205 w]; rfl, by kernel_rfl⟩
theorem y9j : IsCell Tryz.prog 3 := ⟨fun w => by unfold isAgg; rw [Sem.run_bind, run_underlying Tryz.underlying3 w]; rfl, by kernel_rfl⟩
theorem nilInt (w : World) : (zeroValue 3).run Tryz.prog w = .ok (.int .i64 0) w := by kernel_rfl
theorem av_one {s : Value} (hs : OneV s) : s.cells = AV 1 fun _ => s := by
 rw [hs.cells]
 apply Array.ext_getElem?
 intro j
 by_cases hj : j < 1
 ·obtain rfl : j = 0 := by omega
  rw [z29 _ _ _ (by omega)]
  rfl
 ·rw [Array.getElem?_eq_none (by simp; omega), Array.getElem?_eq_none (by rw [z1l]; omega)]
theorem z7t {n : Nat} (s : Value) (F : Nat → Int) (h : 0 < n) : (AV n (zO s F))[0]? = some s := by rw [z29 _ _ _ h, y1j]
theorem y4p (n : Nat) (s : Value) : #[s] ++ Array.replicate n (.int .u64 0) = AV (n + 1) (zO s fun _ => 0) := by
 apply Array.ext_getElem?
 intro j
 by_cases hj : j < n + 1
 ·rw [z29 _ _ _ hj]
  by_cases h0 : j = 0
  ·subst h0
   rw [y1j, Array.getElem?_append_left (by simp)]
   rfl
  ·obtain ⟨i, rfl⟩ : ∃ i, j = 1 + i := ⟨j - 1, by omega⟩
   rw [y1k, Array.getElem?_append_right (by simp), Array.getElem?_replicate, if_pos (by simp; omega)]
 ·rw [Array.getElem?_eq_none (by simp; omega), Array.getElem?_eq_none (by rw [z1l]; omega)]
theorem y8k (w : World) : (zeroValue 193).run Tryz.prog w = .ok (.agg (AV 25 (zO (.slice none 0 0) fun _ => 0))) w :=
 y4p 24 (.slice none 0 0) ▸ (zero_of_info (show (Tryz.prog.info? 193).map (fun i => (i.zero, i.size)) = some (some (.agg (#[.slice none 0 0] ++ Array.replicate 24 (.int .u64 0))), 25) by kernel_rfl)).1 w
theorem nilRw (w : World) : (zeroValue 201).run Tryz.prog w = .ok (.agg (AV 409 (zO (.slice none 0 0) fun _ => 0))) w :=
 y4p 408 (.slice none 0 0) ▸ (zero_of_info (show (Tryz.prog.info? 201).map (fun i => (i.zero, i.size)) = some (some (.agg (#[.slice none 0 0] ++ Array.replicate 408 (.int .u64 0))), 409) by kernel_rfl)).1 w
theorem grd_get {s : Nat} (G : Nat → Nat → Value) (n k : Nat) (h : k < n * s) : (AV (n * s) (grd s G))[k]? = some (G (k / s) (k % s)) := by
 rw [z29 _ _ _ h]
 rfl
theorem y3c {s : Nat} (hs : 0 < s) (m : Nat) (G : Nat → Nat → Value) (cells : Array Value) (hc : cells.size = m * s) (parts : List (Nat × Value))
  (hp : parts = (((List.range m).map fun i => Value.agg (AV s (G i))).zipIdx 0).map fun x => (x.2, x.1)) : Instr.fill (fun i => some (i * s, s)) cells parts = some (AV (m * s) (grd s G)) := by
 obtain ⟨r, h1, h2, h3⟩ := Great.fill_dense hs ((List.range m).map fun i => Value.agg (AV s (G i))) 0 cells (fun v hv => by
  obtain ⟨i, _, rfl⟩ := List.mem_map.1 hv
  show (AV s (G i)).size = s
  exact z1l ..) (by simp [hc])
 rw [hp, h1]
 congr 1
 apply Array.ext_getElem?
 intro j
 rw [h3 j]
 simp only [List.length_map, List.length_range, Nat.zero_mul, Nat.zero_add, Nat.zero_le, true_and, Nat.sub_zero]
 by_cases h : j < m * s
 ·rw [if_pos h, grd_get G m j h, List.getElem?_map, List.getElem?_range ((Nat.div_lt_iff_lt_mul hs).2 h)]
  exact z29 _ _ _ (Nat.mod_lt _ hs)
 ·rw [if_neg h, Array.getElem?_eq_none (by omega), Array.getElem?_eq_none (by rw [z1l]; omega)]
theorem y84 {s : Nat} (f : Nat → Value) : AV (1 * s) (grd s fun _ => f) = AV s f := by
 rw [Nat.one_mul]
 exact z6n fun j hj => by
  unfold grd
  rw [Nat.mod_eq_of_lt hj]
theorem grd_congr {s n : Nat} (hs : 0 < s) {G G' : Nat → Nat → Value} (h : ∀ i, i < n → G i = G' i) : AV (n * s) (grd s G) = AV (n * s) (grd s G') := z6n fun j hj => by
 unfold grd
 rw [h _ ((Nat.div_lt_iff_lt_mul hs).2 hj)]
section
variable {P : Program} {w : World} {t ts : TypeId} {s by' : Nat}
theorem y0s (hu : P.underlying ts = some (.slice t)) (hI : InfoR P t s by') (hs : 0 < s) (m : Nat) (hm : 0 < m) (hms : m * s ≤ 16777216) (G : Nat → Nat → Value) (parts : Array (Nat × Value))
  (hp : parts.toList = (((List.range m).map fun i => Value.agg (AV s (G i))).zipIdx 0).map fun x => (x.2, x.1)) :
  (Instr.buildSlice ts m parts).run P w = .ok (.slice (some ⟨w.heap.size, 0, none⟩) m m) (w.alloc (Cs t (AV (m * s) (grd s G)))) := by
 obtain ⟨i, z, hi, hz, hsz, hbyt, hzs⟩ := hI.has
 have := Nat.mul_pos hm hs
 refine run_buildSlice w ts t m parts _ i z hu hi hz (by rw [hsz]; omega) (by rw [hsz]; omega) ?_
 rw [hsz]
 exact y3c hs m G _ (by simp) _ hp
theorem run_build1G (hu : P.underlying ts = some (.slice t)) (hI : InfoR P t s by') (hs : 0 < s) (hms : s ≤ 1000) (f : Nat → Value) :
  (Instr.buildSlice ts 1 #[(0, .agg (AV s f))]).run P w = .ok (.slice (some ⟨w.heap.size, 0, none⟩) 1 1) (w.alloc (Cs t (AV s f))) := by
 have h := y0s (P := P) (w := w) hu hI hs 1 (by omega) (by omega) (fun _ => f) #[(0, .agg (AV s f))] rfl
 rwa [y84] at h
end
def OwnG (w : World) (base : Nat) (t : TypeId) (s : Nat) (v : Value) (n : Nat) (G : Nat → Nat → Value) : Prop := w.ownsRow base t s v n (AV (n * s) (grd s G)).toList
section
variable {P : Program} {w W W' : World} {base n s : Nat} {t : TypeId} {v : Value} {G G' : Nat → Nat → Value}
theorem OwnG.nil (w : World) (base : Nat) (t : TypeId) (s : Nat) (G : Nat → Nat → Value) : OwnG w base t s (.slice none 0 0) 0 G := ⟨by rw [z3j], .inl ⟨rfl, rfl⟩⟩
theorem OwnG.kept (h : OwnG W base t s v n G) (hk : ∀ g, v.ownBlock = some g → W'.heap[g]? = W.heap[g]?) : OwnG W' base t s v n G := by
 obtain ⟨hl, hv⟩ := h
 refine ⟨hl, ?_⟩
 rcases hv with h0 | ⟨g, cap, cur, rfl, hg, hrow, hr⟩
 ·exact .inl h0
 ·exact .inr ⟨g, cap, cur, rfl, hg, (hk g rfl).trans hrow, hr⟩
theorem OwnG.lt (h : OwnG W base t s v n G) (g : Nat) (hv : v.ownBlock = some g) : g < W.heap.size ∧ base ≤ g := by
 obtain ⟨_, hx⟩ := h
 rcases hx with ⟨rfl, _⟩ | ⟨g', cap, cur, rfl, hg, hrow, _⟩
 ·cases hv
 ·obtain rfl : g' = g := by simpa [Value.ownBlock] using hv
  exact ⟨z01 hrow, hg⟩
theorem OwnG.call (h : OwnG W base t s v n G) (hb : Below W.heap.size W W') : OwnG W' base t s v n G := h.kept fun g hg => hb.block g (h.lt g hg).1
theorem OwnG.congr (h : OwnG W base t s v n G) (hs : 0 < s) (hG : ∀ i, i < n → G i = G' i) : OwnG W base t s v n G' := by
 unfold OwnG at h ⊢
 rwa [← grd_congr hs hG]
end
section
variable {P : Program} {ops : Array Oper} {rest : List Oper} {o : Oper} {a : Act} {w w0 : World} {l : List (Nat × Obj)} {Q : Exit → Act → World → Prop} {t ts : TypeId} {s by' : Nat}
theorem own_build1G (hu : P.underlying ts = some (.slice t)) (hI : InfoR P t s by') (hs : 0 < s) (hms : s ≤ 1000) (H : Hid (Ow w0 w l)) (hgd : o.guard = none) {x : Operand} (ho : o.op = .buildSlice ts 1 #[(0, x)]) {f : Nat → Value} (hx : a.eval x = .agg (AV s f))
  (h : ∀ w' g, Hid (Ow w0 w' ((g, Cs t (AV s f)) :: l)) → ∀ K : Act → World → Prop, (∀ a w, wpList P ops Q rest a w → K a w) → K (a.put o.dst (.slice (some ⟨g, 0, none⟩) 1 1)) w') : wpList P ops Q (o :: rest) a w :=
 wpList_plain hgd fun K hK => by
  unfold Oper.wp execOp
  simp only [ho, List.map_toArray, List.map_cons, List.map_nil, hx, Sem.run_bind, run_build1G (P := P) (w := w) hu hI hs hms f, Result.andThen_ok]
  exact h _ _ (za (H.out.alloc _)) K hK
end
theorem infoTm : InfoR Tryz.prog 193 25 216 := z9c (by kernel_rfl)
theorem infoRw : InfoR Tryz.prog 201 409 3288 := z9c (by kernel_rfl)
theorem built_tm (a : Option Addr) (n c : Nat) (v : Nat → Int) (w : World) : (Instr.build 193 #[(0, .slice a n c), (1, .agg (AZ .u64 24 v))]).run Tryz.prog w = .ok (.agg (AV 25 (zO (.slice a n c) v))) w :=
 run_build w _ _ _ (by kernel_rfl)
theorem zero_run_eq {P : Program} {t : TypeId} {i : TypeInfo} {z z' : Value} {w : World} (hi : P.info? t = some i) (hz : i.zero = some z) (h : (zeroValue t).run P w = .ok z' w) : z = z' := by
 simp [zeroValue, typeInfo, hi, hz] at h
 exact h
theorem made_av (m n : Nat) (f : Nat → Value) : madeCells (Value.agg (AV m f)).cells (n * m) = AV (n * m) (grd m fun _ => f) := by
 apply Array.ext_getElem?
 intro j
 unfold madeCells
 by_cases hj : j < n * m
 ·have hm : 0 < m := Nat.pos_of_ne_zero fun e => by subst e; omega
  have hl := Nat.mod_lt j hm
  rw [z29 _ _ _ hj, Array.getElem?_map, Array.getElem?_range, if_pos hj, Option.map_some]
  have e : (Value.agg (AV m f)).cells = AV m f := rfl
  rw [e, z1l, getElem!_pos _ _ (by rw [z1l]; exact hl)]
  have h2 := z29 m f _ hl
  rw [Array.getElem?_eq_getElem (by rw [z1l]; exact hl)] at h2
  exact h2
 ·rw [Array.getElem?_eq_none (by simpa using hj), Array.getElem?_eq_none (by rw [z1l]; omega)]
section
variable {ops : Array Oper} {rest : List Oper} {o : Oper} {a : Act} {w w0 : World} {l : List (Nat × Obj)} {Q : Exit → Act → World → Prop}
theorem z8p (hgd : o.guard = none) {x y : Operand} (ho : o.op = .build 193 #[(0, x), (1, y)]) {b : Option Addr} {n c : Nat} {v : Nat → Int} (hx : a.eval x = .slice b n c) (hy : a.eval y = .agg (AZ .u64 24 v))
  (k : ∀ K : Act → World → Prop, (∀ a w, wpList Tryz.prog ops Q rest a w → K a w) → K (a.put o.dst (.agg (AV 25 (zO (.slice b n c) v)))) w) : wpList Tryz.prog ops Q (o :: rest) a w :=
 wpList_plain hgd fun K hK => by
  unfold Oper.wp execOp
  simp only [ho, List.map_toArray, List.map_cons, List.map_nil, hx, hy, Sem.run_bind, built_tm, Result.andThen_ok]
  exact k K hK
theorem run_make_rws (w : World) (n : Nat) (hn : n ≤ 100) : (Instr.makeSlice 205 (.int .i64 (n : Int)) (.int .i64 (n : Int))).run Tryz.prog w = .ok (.slice (some ⟨w.heap.size, 0, none⟩) n n) (w.alloc (Cs 201 (AV (n * 409) (grd 409 fun _ => zO (.slice none 0 0) fun _ => 0)))) := by
 obtain ⟨i, z, hi, hz, hs, hb, _⟩ := infoRw.has
 have hz0 : i.zero = some (.agg (AV 409 (zO (.slice none 0 0) fun _ => 0))) := by
  have h := zero_run_eq (hi := hi) (hz := hz) (nilRw w)
  rw [hz, h]
 have h := run_makeSlice (P := Tryz.prog) w 205 201 i _ Tryz.underlying205 hi hz0 .i64 .i64 (n : Int) (n : Int) (by omega) (by omega) (by rw [hs, Int.toNat_natCast]; omega) (by rw [hb]; omega) (by omega)
 rw [hs, Int.toNat_natCast, made_av] at h
 exact h
theorem own_makeRw (H : Hid (Ow w0 w l)) (hgd : o.guard = none) {x y : Operand} (ho : o.op = .makeSlice 205 x y) {n : Nat} (hx : a.eval x = .int .i64 (n : Int)) (hy : a.eval y = .int .i64 (n : Int)) (hc : n ≤ 100)
  (k : ∀ w' g, Hid (Ow w0 w' ((g, Cs 201 (AV (n * 409) (grd 409 fun _ => zO (.slice none 0 0) fun _ => 0))) :: l)) → ∀ K : Act → World → Prop, (∀ a w, wpList Tryz.prog ops Q rest a w → K a w) → K (a.put o.dst (.slice (some ⟨g, 0, none⟩) n n)) w') : wpList Tryz.prog ops Q (o :: rest) a w :=
 wpList_plain hgd fun K hK => by
  unfold Oper.wp execOp
  simp only [ho, hx, hy, Sem.run_bind, run_make_rws w n hc, Result.andThen_ok]
  exact k _ _ (za (H.out.alloc _)) K hK
end
theorem Grid.congr {w : World} {B : Nat} {a : Option Addr} {n c m : Nat} {G G' : Nat → Nat → Value} (h : Grid w B a n c m G) (he : ∀ i, i < n → G i = G' i) : Grid w B a n c m G' := ⟨h.le, h.nil, fun ad e h0 => by
 obtain ⟨b, o, e', hlt, hc⟩ := h.low ad e h0
 exact ⟨b, o, e', hlt, fun i hi j hj => by rw [← he i hi]; exact hc i hi j hj⟩⟩
def zml (z : Int) (P : Pt pN dK) : Pt pN dK := if z < 0 then pneg (zF zB z.natAbs P) else zF zB z.natAbs P
theorem z9i (n : Nat) (P : Pt pN dK) : zml (n : Int) P = zF zB n P := by
 unfold zml
 rw [if_neg (by omega), Int.natAbs_natCast]
theorem y4m (P : Pt pN dK) : zml 0 P = z0v := z9i 0 P
theorem y3q (m n : Nat) (P : Pt pN dK) : zml ((m : Int) - (n : Int)) P = z6 zB (zF zB m P) (pneg (zF zB n P)) := by
 rcases Nat.lt_or_ge m n with h | h
 ·obtain ⟨k, rfl⟩ : ∃ k, n = m + k := ⟨n - m, by omega⟩
  have e : ((m : Int) - ((m + k : Nat) : Int)).natAbs = k := by omega
  unfold zml
  rw [if_pos (by omega), e, z2g, y2s zB, ← z0r, z2n, z2m]
 ·obtain ⟨k, rfl⟩ : ∃ k, m = k + n := ⟨m - n, by omega⟩
  have e : (((k + n : Nat) : Int) - (n : Int)) = (k : Int) := by omega
  rw [e, z9i, z2g, z0r, z2n, z0n]
theorem y24 (z : Int) : ∃ m n : Nat, z = (m : Int) - (n : Int) := ⟨z.toNat, (-z).toNat, by omega⟩
theorem zml_add (a b : Int) (P : Pt pN dK) : zml (a + b) P = z6 zB (zml a P) (zml b P) := by
 obtain ⟨m, n, rfl⟩ := y24 a
 obtain ⟨r, s, rfl⟩ := y24 b
 have e : (m : Int) - (n : Int) + ((r : Int) - (s : Int)) = ((m + r : Nat) : Int) - ((n + s : Nat) : Int) := by omega
 rw [e, y3q, y3q, y3q, z2g, z2g, y2s zB, z2y]
theorem zml_turn (z : Int) (P : Pt pN dK) {s : Int} (hs : s = if z < 0 then -1 else 0) : (if s % 2 = 0 then zF zB z.natAbs P else pneg (zF zB z.natAbs P)) = zml z P := by
 subst hs
 unfold zml
 by_cases h : z < 0
 ·rw [if_pos h, if_pos h, if_neg (by decide)]
 ·rw [if_neg h, if_neg h, if_pos (by decide)]
def tot (X : Nat → Int) (P : Nat → Pt pN dK) : Nat → Pt pN dK
 | 0 => z0v
 | n + 1 => z6 zB (tot X P n) (zml (X n) (P n))
theorem z5p {X Y : Nat → Int} (P : Nat → Pt pN dK) : ∀ n, (∀ i, i < n → X i = Y i) → tot X P n = tot Y P n
 | 0, _ => rfl
 | n + 1, h => by
  unfold tot
  rw [z5p P n fun i hi => h i (by omega), h n (by omega)]
theorem y1g (P : Nat → Pt pN dK) : ∀ n, tot (fun _ => 0) P n = z0v
 | 0 => rfl
 | n + 1 => by
  unfold tot
  rw [y1g P n, y4m, z0n]
theorem y3u (X Y : Nat → Int) (P : Nat → Pt pN dK) : ∀ n, tot (fun i => X i + Y i) P n = z6 zB (tot X P n) (tot Y P n)
 | 0 => (z0n zB z0v).symm
 | n + 1 => by
  unfold tot
  rw [y3u X Y P n, zml_add, z2y]
theorem y7i (X : Nat → Int) (P : Nat → Pt pN dK) (n : Nat) : ∀ m : Nat, zF zB m (tot X P n) = tot (fun i => (m : Int) * X i) P n
 | 0 => by
  rw [z4r, z5p (Y := fun _ => 0) P n fun i _ => by simp, y1g]
 | m + 1 => by
  rw [z1q, y7i X P n m, ← y3u]
  exact z5p P n fun i _ => by rw [Int.natCast_succ, Int.add_mul, Int.one_mul]
def hor (f : Nat → Int) (m : Nat) : Nat → Int
 | 0 => 0
 | t + 1 => 32 * hor f m t + f (m - 1 - t)
theorem y55 (f : Nat → Int) (m : Nat) : ∀ t, t ≤ m → vl f 5 m = vl f 5 (m - t) + hor f m t * 2 ^ (5 * (m - t))
 | 0, _ => by simp [hor]
 | t + 1, h => by
  rw [y55 f m t (by omega)]
  obtain ⟨j, hj⟩ : ∃ j, m - t = j + 1 := ⟨m - t - 1, by omega⟩
  have e1 : m - (t + 1) = j := by omega
  have e2 : m - 1 - t = j := by omega
  rw [hj, e1, hor, e2, vl, Nat.mul_succ, y52]
  have e3 : (2 : Int) ^ 5 = 32 := by decide
  rw [e3]
  generalize (2 : Int) ^ (5 * j) = P
  generalize hor f m t = q
  generalize vl f 5 j = z
  grind
theorem hor_all (f : Nat → Int) (m : Nat) : hor f m m = vl f 5 m := by
 have h := y55 f m m (Nat.le_refl _)
 rw [Nat.sub_self] at h
 rw [h]
 simp [vl]
def dgx (x M i : Nat) : Int := if i < M then sdg x 5 i else 0
theorem y7d (x M : Nat) : ∀ t, vl (dgx x M) 5 (M + t) = vl (sdg x 5) 5 M
 | 0 => y4v 5 M fun i hi => if_pos hi
 | t + 1 => by
  show vl (dgx x M) 5 (M + t) + dgx x M (M + t) * 2 ^ (5 * (M + t)) = _
  rw [y7d x M t]
  have e : dgx x M (M + t) = 0 := if_neg (by omega)
  rw [e, Int.zero_mul, Int.add_zero]
def zM (n : Nat) : Nat := (8 * n + 5 - 1) / 5 + 1
theorem z98 {n : Nat} (h : n ≤ 64) : zM n ≤ 104 := by
 unfold zM
 omega
theorem z68 {x n m : Nat} (h : x < 2 ^ (8 * n)) (hm : zM n ≤ m) : hor (dgx x (zM n)) m m = (x : Int) := by
 obtain ⟨t, rfl⟩ : ∃ t, m = zM n + t := ⟨m - zM n, by omega⟩
 rw [hor_all, y7d]
 exact sdg_all h (by omega) (by omega)
theorem tot_place (X : Nat → Nat → Int) (P : Nat → Pt pN dK) (n m t : Nat) : z6 zB (zF zB 32 (tot (fun k => hor (X k) m t) P n)) (tot (fun k => X k (m - 1 - t)) P n) = tot (fun k => hor (X k) m (t + 1)) P n := by
 rw [y7i, ← y3u]
 rfl
theorem tot_one (x : Nat) (P : Nat → Pt pN dK) : tot (fun _ => (x : Int)) P 1 = zF zB x (P 0) := by
 show z6 zB z0v (zml (x : Int) (P 0)) = _
 rw [z2m, z9i]
def Fill (F : Nat → Int) (k : Nat) (P : Nat → Pt pN dK) : Prop := ∀ i, i < k → ∃ v, PtK v (P i) ∧ ∀ j, j < 24 → F (i * 24 + j) = v j
theorem Fill.none (F : Nat → Int) (P : Nat → Pt pN dK) : Fill F 0 P := fun _ h => by omega
theorem Fill.put {F : Nat → Int} {k : Nat} {P : Nat → Pt pN dK} (h : Fill F k P) {r : Nat → Int} (hr : PtK r (P k)) : Fill (layZ F (k * 24) 24 r) (k + 1) P := fun i hi => by
 rcases (by omega : i < k ∨ i = k) with h' | rfl
 ·obtain ⟨v, hv, he⟩ := h i h'
  refine ⟨v, hv, fun j hj => ?_⟩
  unfold layZ
  rw [if_neg (by omega), he j hj]
 ·refine ⟨r, hr, fun j hj => ?_⟩
  unfold layZ
  rw [if_pos (by omega)]
  congr 1
  omega
theorem Fill.get {F : Nat → Int} {k : Nat} {P : Nat → Pt pN dK} (h : Fill F k P) {i : Nat} (hi : i < k) : ∃ v, PtK v (P i) ∧ AZ .u64 24 (fun j => F (i * 24 + j)) = AZ .u64 24 v := by
 obtain ⟨v, hv, he⟩ := h i hi
 exact ⟨v, hv, z1w he⟩
theorem same_int {a b : Int} (h1 : -9223372036854775808 ≤ a) (h2 : a ≤ 9223372036854775807) (h3 : -9223372036854775808 ≤ b) (h4 : b ≤ 9223372036854775807) :
  ∃ u : Nat, u < 18446744073709551616 ∧ IntKind.u64.wrap (bits .xor .i64 a b) = (u : Int) ∧ (u = 0 ↔ a = b) := by
 obtain ⟨x, hx⟩ : ∃ x : BitVec 64, BitVec.ofInt 64 a ^^^ BitVec.ofInt 64 b = x := ⟨_, rfl⟩
 have e1 : bits .xor .i64 a b = IntKind.i64.wrap (x.toNat : Int) := by rw [← hx]; rfl
 refine ⟨x.toNat, x.isLt, ?_, ?_⟩
 ·rw [e1, IntKind.wrap_u64, IntKind.wrap_i64]
  have := x.isLt
  omega
 ·constructor
  ·intro h
   have hz : x = 0#64 := BitVec.eq_of_toNat_eq h
   rw [hz] at hx
   have he := BitVec.xor_eq_zero_iff.1 hx
   have := congrArg BitVec.toNat he
   rw [BitVec.toNat_ofInt, BitVec.toNat_ofInt, show ((2 ^ 64 : Nat) : Int) = 18446744073709551616 from rfl] at this
   omega
  ·intro h
   rw [← hx, h, BitVec.xor_self]
   rfl
theorem same_top (u : Nat) (hu : u < 18446744073709551616) (h0 : u ≠ 0) : bits .or .u64 (u : Int) (IntKind.u64.wrap (-(u : Int))) / 9223372036854775808 = 1 := by
 have e : IntKind.u64.wrap (-(u : Int)) = ((18446744073709551616 - u : Nat) : Int) := by
  rw [IntKind.wrap_u64]
  omega
 rw [e, u64_or_nat _ _ hu (by omega)]
 have a1 : u ≤ u ||| (18446744073709551616 - u) := Nat.left_le_or
 have a2 : 18446744073709551616 - u ≤ u ||| (18446744073709551616 - u) := Nat.right_le_or
 have a3 : u ||| (18446744073709551616 - u) < 18446744073709551616 := Nat.or_lt_two_pow (n := 64) hu (by omega)
 omega
theorem y9h (a b : Int) (w : World) (h1 : -9223372036854775808 ≤ a) (h2 : a ≤ 9223372036854775807) (h3 : -9223372036854775808 ≤ b) (h4 : b ≤ 9223372036854775807) {z : Int} (hz : (if a = b then 1 else 0) = z) :
  Calls Tryz.prog 203 #[.int .i64 a, .int .i64 b] w fun e w' => e = .returned (.int .i64 z) ∧ Below w.heap.size w w' := by
 obtain ⟨u, hu, he, hi⟩ := same_int h1 h2 h3 h4
 have EX : Hid (bits .xor .i64 1 (wrap64 (bits .or .u64 (IntKind.u64.wrap (bits .xor .i64 a b)) (IntKind.u64.wrap (-IntKind.u64.wrap (bits .xor .i64 a b))) / 9223372036854775808)) = z) := za (by
  rw [he, ← hz]
  by_cases h : a = b
  ·rw [if_pos h, hi.2 h]
   decide +kernel
  ·rw [if_neg h, same_top u hu fun e => h (hi.1 e)]
   decide +kernel)
 clear hz he hi hu
 go_enter Tryz.func203, Tryz.ntmps203
 go_wp2_with fail
 go_ret
 exact ⟨by rw [← EX.out]; rfl, Below.refl _ _⟩
theorem beyond_k (a b c : Int) (w : World) {z : Bool} (hz : (decide (a < b) || decide (c < a)) = z) :
  Calls Tryz.prog 202 #[.int .i64 a, .int .i64 b, .int .i64 c] w fun e w' => e = .returned (.bool z) ∧ w' = w := by
 go_enter Tryz.func202, Tryz.ntmps202
 by_cases hx : a < b
 ·have d1 : decide (a < b) = true := by simpa using hx
  rw [d1] at hz
  have HZ := za hz
  clear hx hz
  go_wp2_with fail
  go_ret
  exact ⟨by rw [← HZ.out]; rfl, rfl⟩
 ·have d1 : decide (a < b) = false := by simpa using hx
  rw [d1] at hz
  have HZ := za hz
  clear hx hz
  go_wp2_with fail
  go_ret
  exact ⟨by rw [← HZ.out]; rfl, rfl⟩
theorem look_k {a : Option Addr} {n c : Nat} {P : Nat → Pt pN dK} (w : World) (hT : Tp w) (hs : Pts w w.heap.size a n c P) (hn : n ≤ 1000) (i : Nat) (hi : i < n) (z : Int) (hz : z = (i : Int)) :
  Calls Tryz.prog 198 #[.slice a n c, .int .i64 z] w fun e w' => ∃ r, e = .returned (.tuple #[PO r, .int .i64 0]) ∧ PtK r (P i) ∧ Below w.heap.size w w' := by
 subst hz
 obtain ⟨b, o, _, rfl, hb, _, _⟩ := hs.get i hi
 have HP : Hid (∀ k, k < n → ∃ v, PtK v (P k) ∧ ∀ W, Below w.heap.size w W → ∀ j, j < 24 → W.cell? ⟨b, o + k * 24 + j, none⟩ = some (.int .u64 (v j))) := za fun k hk => by
  obtain ⟨b', o', v, e, hb', hv, hc⟩ := hs.get k hk
  cases e
  exact ⟨v, hv, fun W hW j hj => (hW.cell (p := ⟨b, o + k * 24 + j, none⟩) hb').trans (hc j hj)⟩
 have BY1 : Hid ((decide ((i : Int) < 0) || decide ((n : Int) - 1 < (i : Int))) = false) := za (by simp; omega)
 have f1 : IntKind.i64.wrap ((n : Int) - 1) = (n : Int) - 1 := IntWalk.i64_in _ (by omega)
 have HI := za hi
 have n1000 : (n : Int) ≤ 1000 := by omega
 clear hs hb hi
 have HT := za hT
 clear hT
 have H := za (Ow.start w)
 go_enter Tryz.func198, Tryz.ntmps198
 go_wp2_with (first
  | ((fail_if_success have := g4); (with_reducible apply ze z1d H); (case hgd | ho => exact rfl); clear H; intro w4 g4 H _ _; go_simp)
  | ((fail_if_success have := V0); (with_reducible refine (z2k _ (HT.out.below H.out.bel)).mono ?_); rintro e wc ⟨k0, rfl, hv, hb⟩; replace H := zd H hb; have V0 := za hv; clear hb hv)
  | ((fail_if_success have := g6); (with_reducible apply ze z1d H); (case hgd | ho => exact rfl); clear H; intro w6 g6 H _ _; go_simp)
  | ((with_reducible apply zj zH H); (case hgd | ho | hx | hy => exact rfl); (case hi => repeat first|exact z5|apply z8); clear H; intro ws H _ _; simp only [qb] at H; go_simp)
  | ((fail_if_success have := by1); (with_reducible refine (beyond_k _ _ _ _ BY1.out).mono ?_); rintro e w' ⟨rfl, hww⟩; have hww' := hww.symm; subst hww'; have by1 := trivial; clear hww))
 clear BY1 by1 f1
 go_loopw [18] (fun v18 wr => ∃ (k : Nat) (v : Nat → Int), k ≤ n ∧ v18 = .int .i64 (k : Int) ∧ PtK v (if i < k then P i else z0v) ∧ Ow w wr [(g6, zv 32 .u64 24 v), (g4, zv 32 .u64 24 fun _ => 0)]) (fun v18 _ => (n - (intOf v18).toNat))
 case atStart => exact ⟨0, k0, Nat.zero_le _, rfl, V0.out.eq (by rw [if_neg (by omega)]), H.out⟩
 case round =>
  clear H V0
  obtain ⟨k, v, hk, rfl, hp, HR⟩ := hrel
  have VP := za hp
  have H := za HR
  clear hp HR
  by_cases hlt : k < n
  ·have hid : decide ((k : Int) < (n : Int)) = true := by simp; omega
   have hid' : decide (k < n) = true := by simpa using hlt
   have HL := za hlt
   have k999 : (k : Int) ≤ 999 := by omega
   have kn : (k : Int) < (n : Int) := by omega
   obtain ⟨v1, hv1, hc1⟩ := HP.out k hlt
   have V1 := za hv1
   have HC := za hc1
   have HQ : Hid ((if (if (i : Int) = (k : Int) then (1 : Int) else 0) % 2 = 0 then (if i < k then P i else z0v) else P k) = if i < k + 1 then P i else z0v) := za (by
    by_cases h : i = k
    ·subst h
     rw [if_pos rfl, if_neg (by decide), if_pos (by omega)]
    ·rw [if_neg (show ¬ (i : Int) = (k : Int) by omega), if_pos (by decide)]
     by_cases h2 : i < k
     ·rw [if_pos h2, if_pos (by omega)]
     ·rw [if_neg h2, if_neg (by omega)])
   obtain ⟨y, hy⟩ : ∃ y : Int, (if (i : Int) = (k : Int) then (1 : Int) else 0) = y := ⟨_, rfl⟩
   rw [hy] at HQ
   have HY := za hy
   have i9 : (i : Int) ≤ 9223372036854775807 := by have := HI.out; omega
   clear hlt hk hv1 hc1 hy hn
   go_upto_region 7 with (first
    | ((with_reducible apply y8z zH); (case hgd | ho | hx => exact rfl); (case hc => exact HC.out _ H.out.bel); intro _ _; go_simp)
    | ((fail_if_success have := g8); (with_reducible apply ze z1d H); (case hgd | ho => exact rfl); clear H; intro w8 g8 H _ _; go_simp)
    | ((with_reducible apply zj zH H); (case hgd | ho | hx | hy => exact rfl); (case hi => repeat first|exact z5|apply z8); clear H; intro ws H _ _; simp only [qb] at H; go_simp))
   refine wp_region_noPanic ?_
   refine wp_region_held_drew (S := fun W => W.heap[g8]? = some (zv 32 .u64 24 (v1))) (by kernel_rfl) (H.out.drew.row 0 rfl) (fun hH => ?_)
   replace H := za H.out.drew
   generalize World.drew _ = w8 at *
   refine zh 0 23 (.int .i64 i) hH ?_
   refine zh 1 24 (.int .i64 k) hH ?_
   refine zk 4 27 zH rfl rfl rfl hH rfl rfl (fun _ h => h) ?_
   refine zK [2, 3] (zG rfl (fun K hK => ?_) (zG rfl (fun K hK => ?_) zJ))
   ·skip
    go_simp
    refine (y9h _ _ _ (by omega) i9 (by omega) (by omega) HY.out).mono ?_
    rintro e wc ⟨rfl, hb⟩
    replace H := zd H hb
    refine zc hK (zb H 0) fun hH => zn 3 rfl fun K hK => ?_
    refine z4a 26 rfl 1 zH H.out rfl rfl rfl ?_
    refine hK.out _ _ hH (fun hN => ?_)
    have hH := hN
    clear hN
    try simp only [Act.put, qa, qb, qc]
    refine zn 5 rfl fun K hK => ?_
    go_simp
    refine (z6a y _ VP.out V1.out HQ.out).mono ?_
    rintro e wc ⟨k28, rfl, hv, hb⟩
    replace H := zd H hb
    have HV28 := za hv
    refine zc hK (zb H 0) fun hH => zn 6 rfl fun K hK => ?_
    refine zu 1 rfl zH H.out rfl rfl rfl rfl ?_
    intro ws HS
    simp only [qb, qc] at HS
    replace H := za HS
    refine zc hK (zb H 0) fun hH => ?_
    try simp only [qa]
    try simp only [Act.put]
    refine zm ?_
    go_wp2_with fail
    go_roundw
    case rel => exact ⟨k + 1, k28, by have := HL.out; omega, by go_num, HV28.out, H.out.pop⟩
    case measure => (have := HL.out; simp [intOf] <;> omega)
   ·skip
    refine z4a 26 rfl 1 zH H.out rfl rfl rfl ?_
    refine hK.out _ _ hH (fun hN => ?_)
    have hH := hN
    clear hN
    refine zn 2 rfl fun K hK => ?_
    go_simp
    refine (y9h _ _ _ (by omega) i9 (by omega) (by omega) HY.out).mono ?_
    rintro e wc ⟨rfl, hb⟩
    replace H := zd H hb
    refine zc hK (zb H 0) fun hH => ?_
    try simp only [Act.put, qa, qb, qc]
    refine zn 5 rfl fun K hK => ?_
    go_simp
    refine (z6a y _ VP.out V1.out HQ.out).mono ?_
    rintro e wc ⟨k28, rfl, hv, hb⟩
    replace H := zd H hb
    have HV28 := za hv
    refine zc hK (zb H 0) fun hH => zn 6 rfl fun K hK => ?_
    refine zu 1 rfl zH H.out rfl rfl rfl rfl ?_
    intro ws HS
    simp only [qb, qc] at HS
    replace H := za HS
    refine zc hK (zb H 0) fun hH => ?_
    try simp only [qa]
    try simp only [Act.put]
    refine zm ?_
    go_wp2_with fail
    go_roundw
    case rel => exact ⟨k + 1, k28, by have := HL.out; omega, by go_num, HV28.out, H.out.pop⟩
    case measure => (have := HL.out; simp [intOf] <;> omega)
  ·obtain rfl : n = k := by omega
   have hid : decide ((n : Int) < (n : Int)) = false := by simp
   have hid' : decide (n < n) = false := by simp
   clear hlt hk hn
   go_wp2_with (first
    | ((with_reducible apply zr zH H); (case hgd | ho | hx => exact rfl); (case hi => repeat first|exact z5|apply z8); intro _ _; go_simp)
    | ((with_reducible apply zj zH H); (case hgd | ho | hx | hy => exact rfl); (case hi => repeat first|exact z5|apply z8); clear H; intro ws H _ _; simp only [qb, qc] at H; go_simp))
   exact bodyPost_ret (z0c 1 zH rfl _ H rfl rfl rfl) rfl ⟨_, rfl, VP.out.eq (if_pos HI.out), H.out.bel⟩
end Go.Proofs.YtgjbonikbmgfmaaGreatDoor
