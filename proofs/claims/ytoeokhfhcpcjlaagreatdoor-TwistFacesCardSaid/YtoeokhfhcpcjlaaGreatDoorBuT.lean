/-
 Lemmas for the walks, several texts in one. No statement is proved here.
-/
import Derived.Test.YtoeokhfhcpcjlaaGreatDoorBuB
import Derived.RangeFuncSeq
import Derived.OrdersHeld
import Derived.Deep.RegionHeld3
import Derived.Test.YtoeokhfhcpcjlaaGreatDoorBuI
import Derived.Laws.MakeOwn
import Derived.Test.YtoeokhfhcpcjlaaGreatDoorZPtAdd
import Derived.Test.YtoeokhfhcpcjlaaGreatDoorZPtEq
import Derived.Laws.BitsAllLaws
import Derived.Deep.CutRange
set_option maxRecDepth 8000
set_option maxHeartbeats 3200000
namespace Go.Proofs.YtoeokhfhcpcjlaaGreatDoor
open Go.RowKit
structure Turn (X : Nat → Prop) (w w' : World) : Prop where
 os : w'.os = w.os
 tape : w'.tape = w.tape
 output : w'.output = w.output
 size : w.heap.size ≤ w'.heap.size
 block : ∀ k, k < w.heap.size → ¬ X k → w'.heap[k]? = w.heap[k]?
section
variable {X Y : Nat → Prop} {a b c : World}
theorem Turn.refl (X : Nat → Prop) (a : World) : Turn X a a := ⟨rfl, rfl, rfl, Nat.le_refl _, fun _ _ _ => rfl⟩
theorem Turn.trans (h : Turn X a b) (k : Turn X b c) : Turn X a c :=
 ⟨k.os.trans h.os, k.tape.trans h.tape, k.output.trans h.output, Nat.le_trans h.size k.size, fun i hi hx => (k.block i (Nat.lt_of_lt_of_le hi h.size) hx).trans (h.block i hi hx)⟩
theorem Turn.mono (h : Turn X a b) (hx : ∀ k, k < a.heap.size → X k → Y k) : Turn Y a b := ⟨h.os, h.tape, h.output, h.size, fun i hi hy => h.block i hi fun hi' => hy (hx i hi hi')⟩
theorem Turn.drew (h : Turn X a b) : Turn X a b.drew := ⟨h.os, h.tape, h.output, h.size, h.block⟩
theorem z23 {B : Nat} (h : Below B a b) (hx : ∀ k, B ≤ k → k < a.heap.size → X k) : Turn X a b := ⟨h.os, h.tape, h.output, h.size, fun i hi hn => h.block i (by
 rcases Nat.lt_or_ge i B with h' | h'
 ·exact h'
 ·exact absurd (hx i h' hi) hn)⟩
theorem Turn.below {B : Nat} (h : Turn X a b) (hx : ∀ k, k < B → ¬ X k) (hB : B ≤ a.heap.size) : Below B a b := ⟨h.os, h.tape, h.output, h.size, fun i hi => h.block i (by omega) (hx i hi)⟩
theorem Turn.row (h : Turn X a b) {k : Nat} {o : Obj} (hr : a.heap[k]? = some o) (hx : ¬ X k) : b.heap[k]? = some o := (h.block k (z0w hr) hx).trans hr
theorem z22 (w : World) (r : Nat) (o : Obj) (hx : X r) : Turn X w (w.putObj r o) :=
 ⟨rfl, rfl, rfl, by simp, fun k _ hk => World.putObj_heap_other fun e => hk (e ▸ hx)⟩
theorem Ow.turn {w0 : World} {l : List (Nat × Obj)} (h : Ow w0 a l) (ht : Turn X a b) (h1 : ∀ k, k < w0.heap.size → ¬ X k) (h2 : ∀ x ∈ l, ¬ X x.1) : Ow w0 b l :=
 ⟨h.bel.trans (ht.below h1 h.bel.size), fun x hx => ht.row (h.has x hx) (h2 x hx), h.new, h.apart⟩
theorem Ow.more {w0 : World} {l : List (Nat × Obj)} (h : Ow w0 a l) {k : Nat} {o : Obj} (hr : a.heap[k]? = some o) (hk : w0.heap.size ≤ k) (hn : ∀ x ∈ l, k ≠ x.1) : Ow w0 a ((k, o) :: l) :=
 ⟨h.bel, fun x hx => by
  rcases List.mem_cons.1 hx with rfl | hx
  ·exact hr
  ·exact h.has x hx, fun x hx => by
  rcases List.mem_cons.1 hx with rfl | hx
  ·exact hk
  ·exact h.new x hx, List.Pairwise.cons hn h.apart⟩
end
def z2z (o : Oper) : Bool := match o.op with
 | .defer _ => false
 | _ => true
theorem noDefer_ne {o : Oper} (h : z2z o = true) : ∀ c, o.op ≠ .defer c := fun c e => by
 unfold z2z at h
 rw [e] at h
 cases h
def Lets (F : Fence) : Prop := F = Fence.wide ∨ ∃ l, F = Fence.wide.inRound l
theorem Lets.fn {F : Fence} (h : Lets F) (f : FuncId) : F.fn f := by
 rcases h with rfl | ⟨l, rfl⟩
 ·trivial
 ·trivial
theorem Lets.depth {F : Fence} (h : Lets F) : F.depth.isSome = true → 1 ≤ 0 := by
 rcases h with rfl | ⟨l, rfl⟩
 ·intro e
  cases e
 ·intro e
  cases e
theorem Lets.calls {F : Fence} (h : Lets F) {n : Nat} {P : Program} {f : FuncId} {args : Array Value} {w : World} {R : Ending → World → Prop} (hc : Calls P f args w R) : CallsIn F n P f args w R := by
 rcases h with rfl | ⟨l, rfl⟩
 ·exact callsIn_wide.2 hc
 ·exact (callsIn_wide.2 hc : CallsIn Fence.wide n P f args w R)
theorem Lets.rows {F : Fence} (h : Lets F) {n : Nat} {P : Program} {f : String} {args : Array Value} {w : World} {R : Value → World → Prop} (hc : Rows P f args w R) : RowsIn F n P f args w R := by
 rcases h with rfl | ⟨l, rfl⟩
 ·intro c cs _
  obtain ⟨v, w', hr, hs⟩ := hc c cs
  exact ⟨v, w', hr, stepsIn_wide.2 hs⟩
 ·intro c cs _
  obtain ⟨v, w', hr, hs⟩ := hc c cs
  exact ⟨v, w', hr, (stepsIn_wide.2 hs : StepsIn (Machine.fenced P Fence.wide) P _ _)⟩
theorem Lets.round {F : Fence} (h : Lets F) {P : Program} {l : Nat} {f : FuncId} {tmps : Array Value} {assign body : Code} {w : World} {R : Ending → World → Prop} (hc : RoundIn Fence.wide 0 P l f tmps assign body w R) : RoundIn F 0 P l f tmps assign body w R := by
 rcases h with rfl | ⟨l, rfl⟩
 ·exact hc
 ·exact hc
section
variable {F : Fence} {P : Program} {ops : Array Oper} {Q : Exit → Act → World → Prop} {a : Act} {w : World}
theorem y0r {Q' : Exit → Act → World → Prop} (hF : Lets F) {o : Oper} (hd : z2z o = true) {K K' : Act → World → Prop} (hK : ∀ a w, K a w → K' a w) (hp : ∀ c a w, Q (.panic c) a w → Q' (.panic c) a w) (ho : LetsOut Q → LetsOut Q') (h : o.wp P a w K Q) : o.wpIn F 0 P a w K' Q' := by
 refine ⟨fun f _ => hF.fn f, ?_⟩
 rw [Oper.semAt_eq _ _ _ (noDefer_ne hd)]
 unfold Oper.wp at h
 generalize (execOp a.eval o).run P w = r at h ⊢
 cases r with
 | ok nx w' =>
  cases nx with
  | value v => exact hK _ _ h
  | skip => exact hK _ _ h
  | defer d => exact hK _ _ h
  | enter f args =>
   refine ⟨fun e => absurd (hF.depth e) (by omega), hF.calls (Calls.mono h ?_)⟩
   intro e w q
   cases e with
   | returned v => exact hK _ _ q
   | panicked c => exact hp _ _ _ q
   | outgrown => exact ho q
  | row row args =>
   refine ⟨fun e => absurd (hF.depth e) (by omega), hF.rows (fun c cs => ?_)⟩
   obtain ⟨v, w', q, s⟩ := h c cs
   exact ⟨v, w', hK _ _ q, s⟩
  | _ => exact h.elim
 | halt s w' =>
  cases s with
  | panic v => exact hp _ _ _ h
  | _ => exact h.elim
theorem z32 (hF : Lets F) (hd : ops.all z2z = true) (hQ : ∀ a w, ¬ Q .outgrown a w) : ∀ (li : List Nat) (a : Act) (w : World), wpOps P ops Q li a w → wpOpsIn F 0 P ops Q li a w
 | [], _, _, h => h
 | i :: rest, a, w, h => by
  unfold wpOps at h
  unfold wpOpsIn
  cases ho : ops[i]? with
  | none =>
   rw [ho] at h
   exact z32 hF hd hQ rest a w h
  | some o =>
   rw [ho] at h
   simp only at h ⊢
   have hdo : z2z o = true := (Array.all_eq_true'.1 hd) o (Array.mem_of_getElem? ho)
   by_cases hw : Region.wanted o (yielded ops a.tmps) = true
   ·rw [if_pos hw] at h ⊢
    rcases h with h | ⟨_, a', w', h⟩
    ·exact y0r hF hdo (fun a w => z32 hF hd hQ rest a w) (fun _ _ _ q => q) (fun q => q) h
    ·exact (hQ _ _ h).elim
   ·rw [if_neg hw] at h ⊢
    exact ⟨fun f _ => hF.fn f, z32 hF hd hQ rest _ _ h⟩
theorem z7j (hF : Lets F) (k : Nat) {l : List Oper} (hd : (l.take k).all z2z = true) (hQ : ∀ a w, ¬ Q .outgrown a w) (h : wpList P ops (Exit.then (wpListIn F 0 P ops Q (l.drop k)) Q) (l.take k) a w) : wpListIn F 0 P ops Q l a w := by
 induction k generalizing l a w with
 | zero => exact h
 | succ k ih =>
  cases l with
  | nil => exact h
  | cons o l =>
   simp only [List.take_succ_cons, List.all_cons, Bool.and_eq_true, List.drop_succ_cons] at hd h
   unfold wpList at h
   unfold wpListIn
   by_cases hw : Region.wanted o (yielded ops a.tmps) = true
   ·rw [if_pos hw] at h ⊢
    rcases h with h | ⟨_, a', w', h⟩
    ·exact y0r hF hd.1 (fun a w => ih hd.2) (fun _ _ _ q => q) (fun ⟨a, w, q⟩ => ⟨a, w, q⟩) h
    ·exact (hQ _ _ h).elim
   ·rw [if_neg hw] at h ⊢
    exact ⟨fun f _ => hF.fn f, ih hd.2 h⟩
theorem z0s (hF : Lets F) {id : Nat} {l : List Oper} (hd : l.all z2z = true) (hQ : ∀ a w, ¬ Q .outgrown a w) (h : wpList P l.toArray Q l a w) : (Code.region id l.toArray false).wpIn F 0 P Q a w := by
 refine wpIn_region (z32 hF (by simpa using hd) hQ _ _ _ ?_)
 rw [List.range_eq_range', List.size_toArray, wpOps_eq_wpList l 0 (by simp)]
 exact h
theorem held_lets (hF : Lets F) {id : Nat} {S : World → Prop} (hm : P.follows .mixedOrders = true) (hd : ops.all z2z = true) (hQ : ∀ a w, ¬ Q .outgrown a w) (hS : S w.drew)
  (h : S w.drew → wpAnyH P .any ops (NoPanic Q) S ops.size (Array.replicate ops.size false) a w.drew) : (Code.region id ops true).wpIn F 0 P Q a w := by
 have hx : (Code.region id ops true).wpIn F 0 P (NoPanic Q) a w := wpIn_region_draw fun t => by
  simp only [Region.schedule, hm, Bool.true_or, if_true]
  exact z32 (Q := NoPanic Q) hF hd (fun a w q => hQ a w q) _ _ _ (wpAny_sound ops.size t _ a _ (wpAny_of_held _ _ _ _ (h hS)))
 exact wpIn_mono hx NoPanic.imp
theorem list_yield (hF : Lets F) {rest : List Oper} {o : Oper} (hg : o.guard = none) {f : Operand} {xs : Array Operand} {ts : Array TypeId} (ho : o.op = .call { callee := .value f, args := xs, argTypes := ts }) {l : Nat} (hf : a.eval f = .func (.yield l) #[] #[])
  {args : Array Value} (hx : xs.map a.eval = args) {R : Ending → World → Prop} (hy : YieldAt Fence.wide 0 P l args w R) (h : ∀ e w', R e w' → ∃ v, e = .returned v ∧ wpListIn F 0 P ops Q rest (a.put o.dst v) w') : wpListIn F 0 P ops Q (o :: rest) a w := by
 obtain ⟨fn, tmps, assign, body, e1, e2⟩ := hy
 refine wpListIn_plain hg fun K hK => ⟨fun f _ => hF.fn f, ?_⟩
 rw [Oper.semAt_eq _ _ _ (fun c e => by rw [ho] at e; cases e)]
 have e0 : (execOp a.eval o).run P w = .ok (.round l fn tmps assign body) w := by
  unfold execOp
  rw [ho]
  simp only [resolve, hf, hx, Deferred.ofValue, Sem.run_bind, Sem.run_pure, Result.andThen_ok, invoke, Array.empty_append]
  exact e1
 rw [e0]
 refine ⟨fun e => absurd (hF.depth e) (by omega), hF.round (e2.mono fun e w' q => ?_)⟩
 obtain ⟨v, rfl, q'⟩ := h e w' q
 exact hK _ _ q'
end
def Only (Q : Exit → Act → World → Prop) : Exit → Act → World → Prop
 | .normal, a, w => Q .normal a w
 | _, _, _ => False
theorem Only.no {Q : Exit → Act → World → Prop} (a : Act) (w : World) : ¬ Only Q .outgrown a w := fun h => h
theorem wpIn_only {F : Fence} {n : Nat} {P : Program} {c : Code} {Q : Exit → Act → World → Prop} {a : Act} {w : World} (h : c.wpIn F n P (Only Q) a w) : c.wpIn F n P Q a w :=
 wpIn_mono h fun e a w q => by
  cases e with
  | normal => exact q
  | _ => exact q.elim
theorem wp_in {P : Program} {c : Code} {Q : Exit → Act → World → Prop} {a : Act} {w : World} (h : c.wpIn Fence.wide 0 P (Only Q) a w) : c.wp P Q a w := wpIn_wide.1 (wpIn_only h)
def Iter (P : Program) (g : Nat) (lb : Array Value) (m : Nat) (V : Nat → Array Value → Prop) (X : Nat → Prop) (w : World) : Prop :=
 ∀ (l : Nat) (J : Nat → World → Prop) (W : World), Turn X w W → (∀ i A B, J i A → W.heap.size ≤ A.heap.size → Turn (fun k => W.heap.size ≤ k) A B → J i B) →
  (∀ i args A, J i A → W.heap.size ≤ A.heap.size → i < m → V i args → YieldAt Fence.wide 0 P l args A fun e A' => e = .returned (.bool true) ∧ J (i + 1) A' ∧ Turn (fun k => X k ∨ (w.heap.size ≤ k ∧ k < W.heap.size)) A A') →
  J 0 W → Calls P g (#[.func (.yield l) #[] #[]] ++ lb) W fun e W' => (∃ v, e = .returned v) ∧ J m W'
def roundEnd (X : Nat → Prop) (I : World → Prop) (w : World) : Exit → Act → World → Prop
 | .normal, _, w' => Turn X w w' ∧ I w'
 | _, _, _ => False
theorem range_all {P : Program} {g : Operand} {ps : Array Tmp} {assign body : Code} {Q : Exit → Act → World → Prop} {a : Act} {w w0 : World} {gf : Nat} {lb : Array Value} (hg : a.eval g = .func (.func gf) #[] lb) (eg : ∀ args w, (callFunc gf args).run P w = .ok (.enter gf args) w)
  {m : Nat} {V : Nat → Array Value → Prop} {X : Nat → Prop} (hit : Iter P gf lb m V X w0) (ht : Turn X w0 w) (hps : ∀ i args, V i args → args.size = ps.size)
  (I : Nat → World → Prop) (hI : ∀ i A B, I i A → w.heap.size ≤ A.heap.size → Turn (fun k => w.heap.size ≤ k) A B → I i B) (h0 : I 0 w)
  (hround : ∀ l i args W, I i W → i < m → V i args → w.heap.size ≤ l → l < W.heap.size →
   assign.wpIn (Fence.wide.inRound l) 0 P (Exit.then (fun a₁ w₁ => Below W.heap.size W w₁ ∧ ∀ w₂, Turn (fun k => k = l) w₁ w₂ →
    body.wpIn (Fence.wide.inRound l) 0 P (roundEnd (fun k => (X k ∨ w0.heap.size ≤ k) ∧ k < w.heap.size) (I (i + 1)) w₂) a₁ w₂) (fun _ _ _ => False))
    { tmps := (ps.zip args).foldl (fun t (p, v) => t.setIfInBounds p v) a.tmps, defers := [] } W)
  (hdone : ∀ (D : Nat) (W : World), w.heap.size ≤ D → I m W → W.heap[D]? = some (.deferred (some [])) → Q .normal { a with defers := { target := .collected D, args := #[] } :: a.defers } W) :
  (Code.rangeFunc g ps assign body).wp P Q a w := by
 refine wpIn_wide (n := 0).1 (wpIn_rangeFunc ?_)
 intro fn _
 obtain ⟨rec, hrec⟩ : ∃ rec : LoopState → Option Code → Loop, rec = fun st pe => { state := st, pending := pe, fn, tmps := a.tmps, params := ps, assign, body, defers := w.heap.size } := ⟨_, rfl⟩
 obtain ⟨W1, hW1⟩ : ∃ W1, (w.alloc (.deferred (some []))).alloc (.loop (rec .ready none)) = W1 := ⟨_, rfl⟩
 have hs1 : W1.heap.size = w.heap.size + 2 := by rw [← hW1]; simp
 have hL1 : W1.heap[w.heap.size + 1]? = some (.loop (rec .ready none)) := by
  rw [← hW1]; have := World.alloc_heap_new (w.alloc (.deferred (some []))) (.loop (rec .ready none)); rwa [World.size_alloc] at this
 have hK1 : W1.heap[w.heap.size]? = some (.deferred (some [])) := by
  rw [← hW1]; exact (Below.heap_alloc _ _ _ (by simp)).trans (World.alloc_heap_new w _)
 have hB1 : Below w.heap.size w W1 := by
  rw [← hW1]; exact ((Below.refl _ w).alloc (Nat.le_refl _) _).alloc (by simp) _
 have hT1 : Turn X w0 W1 := ht.trans (z23 hB1 fun k h1 h2 => by omega)
 have hI1 : I 0 W1 := hI _ _ _ h0 (Nat.le_refl _) (z23 hB1 fun k h1 _ => h1)
 refine ⟨w.heap.size + 1, [{ target := .collected w.heap.size, args := #[] }], W1, { target := .fn (.func gf) lb, args := #[.func (.yield (w.heap.size + 1)) #[] #[]] }, W1, gf,
  #[.func (.yield (w.heap.size + 1)) #[] #[]] ++ lb, W1, ?_, ?_, ?_, ?_, (fun e => by cases e), callsIn_wide.2 ?_⟩
 ·rw [← hW1, hrec]; exact run_enterLoop_outer _ _ _ _ _
 ·simp only [resolve, hg]
  simp [go_sem]
 ·intro f' _; trivial
 ·simp [invoke, go_sem, eg]
 refine Calls.mono (hit (w.heap.size + 1) (fun i W => I i W ∧ W.heap[w.heap.size + 1]? = some (.loop (rec .ready none)) ∧ W.heap[w.heap.size]? = some (.deferred (some [])))
  W1 hT1 (fun i A B hs hA hk => ⟨hI i A B hs.1 (by omega) (hk.mono fun k _ h => by omega), hk.row hs.2.1 (by omega), hk.row hs.2.2 (by omega)⟩) ?_ ⟨hI1, hL1, hK1⟩) ?_
 ·rintro i args W ⟨hi, hl, hk⟩ _ hlen hV
  have hlt : w.heap.size + 1 < W.heap.size := z0w hl
  have hy := run_yield (P := P) (args := args) hl (by rw [hrec]; exact hps i args hV)
  rw [hrec] at hy
  refine ⟨fn, _, assign, body, hy, roundIn_of_wpIn trivial (wpIn_mono (hround (w.heap.size + 1) i args W hi hlen hV (by omega) hlt) ?_)⟩
  rintro e a₁ w₁ hq
  cases e with
  | normal =>
   obtain ⟨hb, hbody⟩ := hq
   have hl1 := (hb.block _ hlt).trans hl
   have hk1 := (hb.block w.heap.size (by omega)).trans hk
   have hlt1 := z0w hl1
   refine ⟨_, run_beginRound hl1 (by rw [hrec]), wpIn_mono (hbody _ (z22 _ _ _ rfl)) ?_⟩
   obtain ⟨w₂, hw₂⟩ : ∃ w₂, w₁.putObj (w.heap.size + 1) (.loop { rec .ready none with state := .busy }) = w₂ := ⟨_, rfl⟩
   have hl2 : w₂.heap[w.heap.size + 1]? = some (.loop { rec .ready none with state := .busy }) := by rw [← hw₂]; exact World.putObj_heap_same hlt1
   have hk2 : w₂.heap[w.heap.size]? = some (.deferred (some [])) := by rw [← hw₂]; exact (World.putObj_heap_other (by omega)).trans hk1
   have ht2 : Turn (fun k => k = w.heap.size + 1) w₁ w₂ := by rw [← hw₂]; exact z22 _ _ _ rfl
   rw [hw₂]
   rintro e a₃ w₃ hq
   cases e with
   | normal =>
    obtain ⟨ht3, hi3⟩ := hq
    have hl3 := ht3.row hl2 (by omega)
    have hk3 := ht3.row hk2 (by omega)
    have hr := run_endRound (P := P) none hl3
    refine ⟨_, _, hr, rfl, ⟨hI _ _ _ hi3 (by have := z0w hl3; omega) (z22 _ _ _ (by omega)), ?_, (World.putObj_heap_other (by omega)).trans hk3⟩, ?_⟩
    ·rw [World.putObj_heap_same (z0w hl3), hrec]
     rfl
    ·have hwX : w0.heap.size ≤ w.heap.size := ht.size
     refine Turn.trans (z23 hb fun k h1 h2 => by omega) (Turn.trans (ht2.mono fun k _ e => .inr (by omega)) (Turn.trans (ht3.mono fun k _ h => ?_) (z22 _ _ _ (.inr (by omega)))))
     rcases h with ⟨h | h, h'⟩
     ·exact .inl h
     ·exact .inr ⟨h, by omega⟩
   | _ => exact hq.elim
  | _ => exact hq.elim
 ·rintro e W2 ⟨⟨v, rfl⟩, hi, hl, hk⟩
  refine ⟨none, _, ?_, hdone w.heap.size _ (Nat.le_refl _) (hI _ _ _ hi (by have := z0w hl; omega) (z22 W2 (w.heap.size + 1) (.loop { rec .ready none with state := .exhausted }) (by omega))) ((World.putObj_heap_other (by omega)).trans hk)⟩
  have := run_endLoop (P := P) hl (by rw [hrec]; simp)
  rw [hrec] at this ⊢
  exact this
theorem calls_marks {P : Program} {f : FuncId} {fn : Func} {c : Code} {args : Array Value} {w : World} {R : Ending → World → Prop} (hf : P.funcs[f]? = some fn) (hb : fn.body = some c)
  (h : c.wp P (bodyPostM Fence.wide 0 P fn R) { tmps := args ++ Array.replicate (fn.ntmps - args.size) undef, defers := [] } w) : Calls P f args w R :=
 callsIn_wide.1 (callsIn_of_wp_marks hf hb trivial (wpIn_wide.2 h) rfl)
section
variable {ops : Array Oper} {rest : List Oper} {o : Oper} {a : Act} {w w0 : World} {l : List (Nat × Obj)} {Q : Exit → Act → World → Prop}
end
def Fill (F : Nat → Int) (k : Nat) (P : Nat → Pt pN dK) : Prop := ∀ i, i < k → ∃ v, PtK v (P i) ∧ ∀ j, j < 24 → F (i * 24 + j) = v j
theorem Fill.none (F : Nat → Int) (P : Nat → Pt pN dK) : Fill F 0 P := fun _ h => by omega
theorem Fill.put {F : Nat → Int} {k : Nat} {P : Nat → Pt pN dK} (h : Fill F k P) {r : Nat → Int} (hr : PtK r (P k)) : Fill (layZ F (k * 24) 24 r) (k + 1) P := fun i hi => by
 rcases (by omega : i < k ∨ i = k) with h' | rfl
 ·obtain ⟨v, hv, he⟩ := h i h'
  refine ⟨v, hv, fun j hj => ?_⟩
  unfold layZ
  rw [if_neg (by omega), he j hj]
 ·refine ⟨r, hr, fun j hj => ?_⟩
  unfold layZ
  rw [if_pos (by omega)]
  congr 1
  omega
theorem Fill.get {F : Nat → Int} {k : Nat} {P : Nat → Pt pN dK} (h : Fill F k P) {i : Nat} (hi : i < k) : ∃ v, PtK v (P i) ∧ AZ .u64 24 (fun j => F (i * 24 + j)) = AZ .u64 24 v := by
 obtain ⟨v, hv, he⟩ := h i hi
 exact ⟨v, hv, z0x he⟩
theorem same_int {a b : Int} (h1 : -9223372036854775808 ≤ a) (h2 : a ≤ 9223372036854775807) (h3 : -9223372036854775808 ≤ b) (h4 : b ≤ 9223372036854775807) :
  ∃ u : Nat, u < 18446744073709551616 ∧ IntKind.u64.wrap (bits .xor .i64 a b) = (u : Int) ∧ (u = 0 ↔ a = b) := by
 obtain ⟨x, hx⟩ : ∃ x : BitVec 64, BitVec.ofInt 64 a ^^^ BitVec.ofInt 64 b = x := ⟨_, rfl⟩
 have e1 : bits .xor .i64 a b = IntKind.i64.wrap (x.toNat : Int) := by rw [← hx]; rfl
 refine ⟨x.toNat, x.isLt, ?_, ?_⟩
 ·rw [e1, IntKind.wrap_u64, IntKind.wrap_i64]
  have := x.isLt
  omega
 ·constructor
  ·intro h
   have hz : x = 0#64 := BitVec.eq_of_toNat_eq h
   rw [hz] at hx
   have he := BitVec.xor_eq_zero_iff.1 hx
   have := congrArg BitVec.toNat he
   rw [BitVec.toNat_ofInt, BitVec.toNat_ofInt, show ((2 ^ 64 : Nat) : Int) = 18446744073709551616 from rfl] at this
   omega
  ·intro h
   rw [← hx, h, BitVec.xor_self]
   rfl
theorem same_top (u : Nat) (hu : u < 18446744073709551616) (h0 : u ≠ 0) : bits .or .u64 (u : Int) (IntKind.u64.wrap (-(u : Int))) / 9223372036854775808 = 1 := by
 have e : IntKind.u64.wrap (-(u : Int)) = ((18446744073709551616 - u : Nat) : Int) := by
  rw [IntKind.wrap_u64]
  omega
 rw [e, u64_or_nat _ _ hu (by omega)]
 have a1 : u ≤ u ||| (18446744073709551616 - u) := Nat.left_le_or
 have a2 : 18446744073709551616 - u ≤ u ||| (18446744073709551616 - u) := Nat.right_le_or
 have a3 : u ||| (18446744073709551616 - u) < 18446744073709551616 := Nat.or_lt_two_pow (n := 64) hu (by omega)
 omega
theorem y08 (a b : Int) (w : World) (h1 : -9223372036854775808 ≤ a) (h2 : a ≤ 9223372036854775807) (h3 : -9223372036854775808 ≤ b) (h4 : b ≤ 9223372036854775807) {z : Int} (hz : (if a = b then 1 else 0) = z) :
  Calls Tryz.prog 150 #[.int .i64 a, .int .i64 b] w fun e w' => e = .returned (.int .i64 z) ∧ Below w.heap.size w w' := by
 obtain ⟨u, hu, he, hi⟩ := same_int h1 h2 h3 h4
 have EX : Hid (bits .xor .i64 1 (wrap64 (bits .or .u64 (IntKind.u64.wrap (bits .xor .i64 a b)) (IntKind.u64.wrap (-IntKind.u64.wrap (bits .xor .i64 a b))) / 9223372036854775808)) = z) := Lib.hid (by
  rw [he, ← hz]
  by_cases h : a = b
  ·rw [if_pos h, hi.2 h]
   decide +kernel
  ·rw [if_neg h, same_top u hu fun e => h (hi.1 e)]
   decide +kernel)
 clear hz he hi hu
 go_enter Tryz.func150, Tryz.ntmps150
 go_wp2_with fail
 go_ret
 exact ⟨by rw [← EX.out]; rfl, Below.refl _ _⟩
theorem beyond_k (a b c : Int) (w : World) {z : Bool} (hz : (decide (a < b) || decide (c < a)) = z) :
  Calls Tryz.prog 149 #[.int .i64 a, .int .i64 b, .int .i64 c] w fun e w' => e = .returned (.bool z) ∧ w' = w := by
 go_enter Tryz.func149, Tryz.ntmps149
 by_cases hx : a < b
 ·have d1 : decide (a < b) = true := by simpa using hx
  rw [d1] at hz
  have HZ := Lib.hid hz
  clear hx hz
  go_wp2_with fail
  go_ret
  exact ⟨by rw [← HZ.out]; rfl, rfl⟩
 ·have d1 : decide (a < b) = false := by simpa using hx
  rw [d1] at hz
  have HZ := Lib.hid hz
  clear hx hz
  go_wp2_with fail
  go_ret
  exact ⟨by rw [← HZ.out]; rfl, rfl⟩
theorem look_k {a : Option Addr} {n c : Nat} {P : Nat → Pt pN dK} (w : World) (hT : Tp w) (hs : Pts w w.heap.size a n c P) (hn : n ≤ 1000) (i : Nat) (hi : i < n) (z : Int) (hz : z = (i : Int)) :
  Calls Tryz.prog 146 #[.slice a n c, .int .i64 z] w fun e w' => ∃ r, e = .returned (.tuple #[PO r, .int .i64 0]) ∧ PtK r (P i) ∧ Below w.heap.size w w' := by
 subst hz
 obtain ⟨b, o, _, rfl, hb, _, _⟩ := hs.get i hi
 have HP : Hid (∀ k, k < n → ∃ v, PtK v (P k) ∧ ∀ W, Below w.heap.size w W → ∀ j, j < 24 → W.cell? ⟨b, o + k * 24 + j, none⟩ = some (.int .u64 (v j))) := Lib.hid fun k hk => by
  obtain ⟨b', o', v, e, hb', hv, hc⟩ := hs.get k hk
  cases e
  exact ⟨v, hv, fun W hW j hj => (hW.cell (p := ⟨b, o + k * 24 + j, none⟩) hb').trans (hc j hj)⟩
 have BY1 : Hid ((decide ((i : Int) < 0) || decide ((n : Int) - 1 < (i : Int))) = false) := Lib.hid (by simp; omega)
 have f1 : IntKind.i64.wrap ((n : Int) - 1) = (n : Int) - 1 := IntWalk.i64_in _ (by omega)
 have HI := Lib.hid hi
 have n1000 : (n : Int) ≤ 1000 := by omega
 clear hs hb hi
 have HT := Lib.hid hT
 clear hT
 have H := Lib.hid (Ow.start w)
 go_enter Tryz.func146, Tryz.ntmps146
 go_wp2_with (first
  | ((fail_if_success have := g4); (with_reducible apply z0b nilPt H); (case hgd | ho => exact rfl); clear H; intro w4 g4 H _ _; go_simp)
  | ((fail_if_success have := V0); (with_reducible refine (z1c _ (HT.out.below H.out.bel)).mono ?_); rintro e wc ⟨k0, rfl, hv, hb⟩; replace H := hcall H hb; have V0 := Lib.hid hv; clear hb hv)
  | ((fail_if_success have := g6); (with_reducible apply z0b nilPt H); (case hgd | ho => exact rfl); clear H; intro w6 g6 H _ _; go_simp)
  | ((with_reducible apply z0e rowPt H); (case hgd | ho | hx | hy => exact rfl); (case hi => repeat first|exact at0|apply atS); clear H; intro ws H _ _; simp only [qb] at H; go_simp)
  | ((fail_if_success have := by1); (with_reducible refine (beyond_k _ _ _ _ BY1.out).mono ?_); rintro e w' ⟨rfl, hww⟩; have hww' := hww.symm; subst hww'; have by1 := trivial; clear hww))
 clear BY1 by1 f1
 go_loopw [18] (fun v18 wr => ∃ (k : Nat) (v : Nat → Int), k ≤ n ∧ v18 = .int .i64 (k : Int) ∧ PtK v (if i < k then P i else pzero) ∧ Ow w wr [(g6, Blk 38 .u64 24 v), (g4, Blk 38 .u64 24 fun _ => 0)]) (fun v18 _ => (n - (intOf v18).toNat))
 case atStart => exact ⟨0, k0, Nat.zero_le _, rfl, V0.out.eq (by rw [if_neg (by omega)]), H.out⟩
 case round =>
  clear H V0
  obtain ⟨k, v, hk, rfl, hp, HR⟩ := hrel
  have VP := Lib.hid hp
  have H := Lib.hid HR
  clear hp HR
  by_cases hlt : k < n
  ·have hid : decide ((k : Int) < (n : Int)) = true := by simp; omega
   have hid' : decide (k < n) = true := by simpa using hlt
   have HL := Lib.hid hlt
   have k999 : (k : Int) ≤ 999 := by omega
   have kn : (k : Int) < (n : Int) := by omega
   obtain ⟨v1, hv1, hc1⟩ := HP.out k hlt
   have V1 := Lib.hid hv1
   have HC := Lib.hid hc1
   have HQ : Hid ((if (if (i : Int) = (k : Int) then (1 : Int) else 0) % 2 = 0 then (if i < k then P i else pzero) else P k) = if i < k + 1 then P i else pzero) := Lib.hid (by
    by_cases h : i = k
    ·subst h
     rw [if_pos rfl, if_neg (by decide), if_pos (by omega)]
    ·rw [if_neg (show ¬ (i : Int) = (k : Int) by omega), if_pos (by decide)]
     by_cases h2 : i < k
     ·rw [if_pos h2, if_pos (by omega)]
     ·rw [if_neg h2, if_neg (by omega)])
   obtain ⟨y, hy⟩ : ∃ y : Int, (if (i : Int) = (k : Int) then (1 : Int) else 0) = y := ⟨_, rfl⟩
   rw [hy] at HQ
   have HY := Lib.hid hy
   have i9 : (i : Int) ≤ 9223372036854775807 := by have := HI.out; omega
   clear hlt hk hv1 hc1 hy hn
   go_upto_region 7 with (first
    | ((with_reducible apply y01 rowPt); (case hgd | ho | hx => exact rfl); (case hc => exact HC.out _ H.out.bel); intro _ _; go_simp)
    | ((fail_if_success have := g8); (with_reducible apply z0b nilPt H); (case hgd | ho => exact rfl); clear H; intro w8 g8 H _ _; go_simp)
    | ((with_reducible apply z0e rowPt H); (case hgd | ho | hx | hy => exact rfl); (case hi => repeat first|exact at0|apply atS); clear H; intro ws H _ _; simp only [qb] at H; go_simp))
   refine wp_region_noPanic ?_
   refine wp_region_held_drew (S := fun W => W.heap[g8]? = some (Blk 38 .u64 24 (v1))) (by kernel_rfl) (H.out.drew.row 0 rfl) (fun hH => ?_)
   replace H := Lib.hid H.out.drew
   generalize World.drew _ = w8 at *
   refine z0a 0 23 (.int .i64 i) rfl rfl rfl hH (fun w hw => by go_simp) ?_
   try simp only [Act.put, qa, qb, qc]
   refine z0a 1 24 (.int .i64 k) rfl rfl rfl hH (fun w hw => by go_simp) ?_
   try simp only [Act.put, qa, qb, qc]
   refine z0f 4 27 rowPt rfl rfl rfl hH rfl rfl (fun _ h => h) ?_
   try simp only [Act.put, qa, qb, qc]
   refine rdn [2, 3] (rdc rfl (fun K hK => ?_) (rdc rfl (fun K hK => ?_) rdz))
   ·skip
    go_simp
    refine (y08 _ _ _ (by omega) i9 (by omega) (by omega) HY.out).mono ?_
    rintro e wc ⟨rfl, hb⟩
    replace H := hcall H hb
    clear hH
    refine hK.out _ _ (H.out.row 0 rfl) fun hH => ?_
    clear hK K hb
    try simp only [Act.put, qa, qb, qc]
    refine rd1 3 rfl fun K hK => ?_
    refine z12 26 rfl 1 rowPt H.out rfl rfl rfl ?_
    refine hK.out _ _ hH (fun hN => ?_)
    clear hK K hH
    have hH := hN
    clear hN
    try simp only [Act.put, qa, qb, qc]
    refine rd1 5 rfl fun K hK => ?_
    go_simp
    refine (z4g y _ VP.out V1.out HQ.out).mono ?_
    rintro e wc ⟨k28, rfl, hv, hb⟩
    replace H := hcall H hb
    have HV28 := Lib.hid hv
    clear hH
    refine hK.out _ _ (H.out.row 0 rfl) fun hH => ?_
    clear hK K hb hv
    try simp only [Act.put, qa, qb, qc]
    refine rd1 6 rfl fun K hK => ?_
    refine z0l 1 rfl rowPt H.out rfl rfl rfl rfl ?_
    intro ws HS
    simp only [qb, qc] at HS
    replace H := Lib.hid HS
    clear hH
    refine hK.out _ _ (H.out.row 0 rfl) fun hH => ?_
    clear hK K HS
    try simp only [qa]
    try simp only [Act.put]
    refine wpAnyH_done (by kernel_rfl) ?_ _
    refine NoPanic.normal ?_
    clear hH
    go_wp2_with fail
    go_roundw
    case rel => exact ⟨k + 1, k28, by have := HL.out; omega, by go_num, HV28.out, H.out.pop⟩
    case measure => (have := HL.out; simp [intOf] <;> omega)
   ·skip
    refine z12 26 rfl 1 rowPt H.out rfl rfl rfl ?_
    refine hK.out _ _ hH (fun hN => ?_)
    clear hK K hH
    have hH := hN
    clear hN
    try simp only [Act.put, qa, qb, qc]
    refine rd1 2 rfl fun K hK => ?_
    go_simp
    refine (y08 _ _ _ (by omega) i9 (by omega) (by omega) HY.out).mono ?_
    rintro e wc ⟨rfl, hb⟩
    replace H := hcall H hb
    clear hH
    refine hK.out _ _ (H.out.row 0 rfl) fun hH => ?_
    clear hK K hb
    try simp only [Act.put, qa, qb, qc]
    refine rd1 5 rfl fun K hK => ?_
    go_simp
    refine (z4g y _ VP.out V1.out HQ.out).mono ?_
    rintro e wc ⟨k28, rfl, hv, hb⟩
    replace H := hcall H hb
    have HV28 := Lib.hid hv
    clear hH
    refine hK.out _ _ (H.out.row 0 rfl) fun hH => ?_
    clear hK K hb hv
    try simp only [Act.put, qa, qb, qc]
    refine rd1 6 rfl fun K hK => ?_
    refine z0l 1 rfl rowPt H.out rfl rfl rfl rfl ?_
    intro ws HS
    simp only [qb, qc] at HS
    replace H := Lib.hid HS
    clear hH
    refine hK.out _ _ (H.out.row 0 rfl) fun hH => ?_
    clear hK K HS
    try simp only [qa]
    try simp only [Act.put]
    refine wpAnyH_done (by kernel_rfl) ?_ _
    refine NoPanic.normal ?_
    clear hH
    go_wp2_with fail
    go_roundw
    case rel => exact ⟨k + 1, k28, by have := HL.out; omega, by go_num, HV28.out, H.out.pop⟩
    case measure => (have := HL.out; simp [intOf] <;> omega)
  ·obtain rfl : n = k := by omega
   have hid : decide ((n : Int) < (n : Int)) = false := by simp
   have hid' : decide (n < n) = false := by simp
   clear hlt hk hn
   go_wp2_with (first
    | ((with_reducible apply z0g rowPt H); (case hgd | ho | hx => exact rfl); (case hi => repeat first|exact at0|apply atS); intro _ _; go_simp)
    | ((with_reducible apply z0e rowPt H); (case hgd | ho | hx | hy => exact rfl); (case hi => repeat first|exact at0|apply atS); clear H; intro ws H _ _; simp only [qb, qc] at H; go_simp))
   exact bodyPost_ret (z0n 1 rowPt rfl _ H rfl rfl rfl) rfl ⟨_, rfl, VP.out.eq (if_pos HI.out), H.out.bel⟩
end Go.Proofs.YtoeokhfhcpcjlaaGreatDoor
