/- Lemmas; no statement is proved here. -/
import Derived.Test.YtgjbonikbmgfmaaGreatDoorBuE
import Derived.Test.YtgjbonikbmgfmaaGreatDoorBuR
import Derived.Test.YtgjbonikbmgfmaaGreatDoorRows
import Derived.ChangeSlices
import Derived.ProofKit
import Derived.OpenShut
import Derived.Carry
import Derived.Deep.DeepHandedRow
import Derived.Test.YtgjbonikbmgfmaaGreatDoorCards
import Derived.Test.YtgjbonikbmgfmaaGreatDoorTie
import Derived.Lib.LaidTab
import Derived.Deep.Matrix
set_option maxRecDepth 20000
namespace Go.Proofs.YtgjbonikbmgfmaaGreatDoor
open Go.ChangeShapes Go.WideShapes Go.ChangeAt Go.RowKit
section
variable {H : Type} {enc : TypeId × Value → H} {P : Program}
theorem stay_all (hl : laidOutB P = true) {W W' : World} (hb : Below W.heap.size W W') :
  ∀ (ts : List TypeId) (vs : List Value) (ds : List (DataW H)) (ps : List MemPlace), (∀ t ∈ ts, P.readableRec t = true ∧ t < P.types.size) →
   DataW.TrodAll enc P W 0 (fun _ => true) true ts vs ds ps → (∀ x ∈ ps, x.block < W.heap.size) → DataW.TrodAll enc P W' 0 (fun b => decide (b < W.heap.size)) true ts vs ds ps := by
 intro ts
 induction ts with
 | nil =>
  intro vs ds ps _ h _
  obtain ⟨rfl, rfl, rfl⟩ := trodAll_nil h
  exact trodAll_mk0
 | cons t ts ih =>
  intro vs ds ps ht h hlt
  obtain ⟨v, vs', d, ds', p, q, rfl, rfl, rfl, h1, h2⟩ := trodAll_cons h
  exact trodAll_cons_mk (Below.trod hl (ht t (by simp)).1 (ht t (by simp)).2 h1 hb fun x hx => hlt x (by simp [hx])) (ih vs' ds' q (fun t' h' => ht t' (by simp [h'])) h2 fun x hx => hlt x (by simp [hx]))
theorem z5c (hl : laidOutB P = true) {f : Func} {s : ChangeSpec} {W W' : World} {args : Array Value} {ds gs : List (DataW H)} {before : List MemPlace} {tb : TypeId}
  (hW : DataW.Whole enc P f.params.toList s.vars false W args.toList ds gs before) (hv : s.vars = []) (hp : ∀ t ∈ f.params.toList, P.readableRec t = true ∧ t < P.types.size)
  (hr : f.resultTypes = #[tb]) (htb : P.underlying tb = some .bool) (hfn : s.fn H (ds ++ gs) = { results := [.lit (.bool true)], args := ds }) (hb : Below W.heap.size W W') :
  s.post enc P f false true false false W args (.bool true) W' := by
 have hlt := hW.lt
 have hW' := hW
 obtain ⟨p, q, hA, hV, rfl, _, _⟩ := hW
 rw [hv] at hV
 obtain ⟨rfl, rfl⟩ := trodVars_none hV
 refine ⟨ds, [], p ++ [], [], p, [], hW', ?_, ?_, ?_, World.keptBut_mono (fun x hx => ⟨hx, .inr (.inl (by simpa using hx))⟩) (hb.frame (· ∈ p ++ [])), fun h => by cases h⟩
 ·rw [hfn, hr]
  exact trodAll_cons_mk (shut_bool htb _) trodAll_mk0
 ·rw [hfn]
  exact stay_all hl hb _ _ _ _ hp hA fun x hx => hlt x (by simp [hx])
 ·rw [hfn, hv]
  rfl
end
theorem own : ownKnob Tryz.prog.godebug = none := by kernel_rfl
theorem z64 : laidOutB Tryz.prog = true := by kernel_rfl
def y5d (c : Array Value) : Obj → Obj
 | .cells _ t frozen => .cells c t frozen
 | o => o
theorem y17 : Tryz.prog.cellsOf 27 = 1 := by kernel_rfl
theorem cellsT : Tryz.prog.cellsOf 28 = 8 := by kernel_rfl
theorem cells3 : Tryz.prog.cellsOf 3 = 1 := by kernel_rfl
theorem cells5 : Tryz.prog.cellsOf 5 = 1 := by kernel_rfl
theorem gPr : Tryz.prog.globalNamed "chicory/field.prime" = some 0 := by kernel_rfl
theorem gPrT : (Tryz.prog.globals[0]?).map (·.type) = some 28 := by kernel_rfl
def prZ : List Int := [72057594037927935, 72057594037927935, 72057594037927935, 72057594037927935, 72057594037927934, 72057594037927935, 72057594037927935, 72057594037927935]
theorem prZ_at : ∀ i, i < 8 → prZ.getD i 0 = ((prW i : Nat) : Int) := by decide +kernel
abbrev y51 : List (String × DataW Unit) := [("chicory/field.prime", Rows.laid_chicory_field_prime)]
theorem tp_of {W : World} (h : laidMetH Tryz.prog y51 W) : Tp W := by
 have h' : laidMet Tryz.prog y51 W := h
 have h1 : Lib.TabIs Tryz.prog W "chicory/field.prime" .u64 prZ := Lib.tabIs_of_head (rest := []) gPr gPrT Tryz.underlying28 Tryz.underlying27 y17 cellsT h'
 exact ⟨fun i hi => by rw [h1.cell gPr i hi, prZ_at i hi]⟩
noncomputable def laidWorld (os : Os) : World :=
 { World.holding Tryz.prog os ⟨#[], #[], []⟩ with heap := (World.holding Tryz.prog os ⟨#[], #[], []⟩).heap.modify 0 (y5d (prZ.map fun z => Value.int .u64 z).toArray) }
theorem y6q : Tryz.prog.cellsOf 22 = 1 := by kernel_rfl
theorem y3l : Tryz.prog.cellsOf 24 = 2 := by kernel_rfl
theorem addr_cell {w : World} {a : Addr} {v : Value} (h : w.cell? (a.add 0) = some v) : ∃ b o, a = ⟨b, o, none⟩ ∧ b < w.heap.size := by
 obtain ⟨b, o, sp⟩ := a
 have hsp : sp = none := by
  cases sp with
  | none => rfl
  | some k =>
   exfalso
   unfold World.cell? at h
   simp [Addr.add] at h
   split at h <;> simp_all
 subst hsp
 exact ⟨b, o, rfl, by have := block_lt_of_cell h; simpa [Addr.add] using this⟩
theorem two_of {cs : Array Value} (h : cs.size = 2) : ∃ x y, cs = #[x, y] ∧ cs.toList = [x, y] := by
 obtain ⟨l⟩ := cs
 match l, h with
 | [x, y], _ => exact ⟨x, y, rfl, rfl⟩
section
variable {H : Type} {enc : TypeId × Value → H}
theorem y1t {W : World} {fuel : Nat} {v : Value} {x : DataW H × List MemPlace} (h : DataW.trod enc Tryz.prog W 0 (fun _ => true) true fuel 22 [v] = some x) : ∃ a n c y, v = .slice a n c ∧ Sb W W.heap.size a n c y := by
 have key : ∀ a n c f, v = .slice a n c → Sl W W.heap.size a n c f → ∃ a n c y, v = .slice a n c ∧ Sb W W.heap.size a n c y := fun a n c f hv hs => by
  obtain ⟨y, hy, he⟩ := z9h f n
  exact ⟨a, n, c, y, hv, ⟨hs.congr fun i hi => (he i hi).symm, hy⟩⟩
 rcases open_ints Tryz.underlying22 Tryz.underlying5 cells5 h with ⟨hcs, _⟩ | ⟨a, len', cap', zs, hcs, _, hl, hm, hz, _, hcell, hwz⟩
 ·simp at hcs
  exact key none 0 0 (fun _ => 0) hcs ⟨Nat.le_refl _, (fun _ => rfl), (fun _ e _ => by cases e)⟩
 ·simp at hcs
  simp only [if_true] at hz
  refine key (some a) len' cap' (fun i => BitVec.ofInt 8 (zs.getD i 0)) hcs ⟨hl, (fun e => by cases e), fun ad e (h0 : 0 < len') => ?_⟩
  obtain rfl := Option.some.inj e
  obtain ⟨b, o, rfl, hb⟩ := addr_cell (hcell 0 (by omega))
  refine ⟨b, o, rfl, hb, fun i (hi : i < len') => ?_⟩
  have hc := hcell i (by omega)
  rw [Addr.add_mid] at hc
  rw [hc]
  have hw := hwz (zs.getD i 0) (by rw [List.getD_eq_getElem?_getD, List.getElem?_eq_getElem (by omega)]; exact List.getElem_mem _)
  have hb8 := bounds_u8 hw
  obtain ⟨k, hk⟩ := Int.eq_ofNat_of_zero_le hb8.1
  show some (Value.int .u8 (zs.getD i 0)) = some (Value.int .u8 (U8 (BitVec.ofInt 8 (zs.getD i 0))))
  rw [hk, U8, BitVec.ofInt_natCast, BitVec.toNat_ofNat, Nat.mod_eq_of_lt (by omega)]
theorem z8b {W : World} {fuel : Nat} {x y : Value} {r : DataW H × List MemPlace} (h : DataW.trod enc Tryz.prog W 0 (fun _ => true) true fuel 24 [x, y] = some r) :
  ∃ a n c q z, x = .slice a n c ∧ y = .int .i64 z ∧ Sb W W.heap.size a n c q := by
 obtain ⟨xs, n, _, _, _, hl, hel⟩ := DataW.trod_struct Tryz.underlying24 h
 have hl2 : xs.length = 2 := hl
 have h0 : DataW.trod enc Tryz.prog W 0 (fun _ => true) true n 22 (([x, y].drop 0).take (Tryz.prog.cellsOf 22)) = some (xs[0]'(by omega)) := (hel 0 _ rfl).trans (List.getElem?_eq_getElem (by omega))
 have h1 : DataW.trod enc Tryz.prog W 0 (fun _ => true) true n 3 (([x, y].drop 1).take (Tryz.prog.cellsOf 3)) = some (xs[1]'(by omega)) := (hel 1 _ rfl).trans (List.getElem?_eq_getElem (by omega))
 rw [y6q] at h0
 rw [cells3] at h1
 obtain ⟨a, m, c, q, hx, hs⟩ := y1t h0
 obtain ⟨z, hz, _, _⟩ := DataW.trod_int Tryz.underlying3 h1
 simp at hz
 exact ⟨a, m, c, q, z, hx, hz, hs⟩
theorem z8a {W : World} {base : Nat} {v : Value} {d : DataW H} {p : List MemPlace} (hv : Value.okWide Tryz.prog W .any base 24 v) (h : DataW.Trod enc Tryz.prog W 0 (fun _ => true) true 24 v d p) :
  ∃ a n c q z, v = .agg #[.slice a n c, .int .i64 z] ∧ Sb W W.heap.size a n c q := by
 obtain ⟨cs, rfl, hsz, _⟩ : ∃ cs, v = .agg cs ∧ cs.size = Tryz.prog.cellsOf 24 ∧ Row.okWide Tryz.prog W .any base 24 cs := by
  simpa [Value.okWide, Tryz.underlying24] using hv
 rw [y3l] at hsz
 obtain ⟨fuel, hf⟩ := h
 obtain ⟨x, y, rfl, e⟩ := two_of hsz
 obtain ⟨a, n, c, q, z, rfl, rfl, hs⟩ := z8b hf
 exact ⟨a, n, c, q, z, rfl, hs⟩
end
open Go.RowKit
structure Ones (w : World) (B : Nat) (a : Option Addr) (n c : Nat) (A : Nat → Option Addr) (N C X K : Nat → Nat) (Z : Nat → Int) : Prop where
 le : n ≤ c
 nil : a = none → c = 0
 low : ∀ ad, a = some ad → 0 < n → ∃ b o, ad = ⟨b, o, none⟩ ∧ b < B ∧ ∀ i, i < n → Sb w B (A i) (N i) (C i) (X i) ∧ w.cell? ⟨b, o + i * 3, none⟩ = some (.slice (A i) (N i) (C i)) ∧
  ∃ ki kc kx, Sb w B ki (K i) kc kx ∧ w.cell? ⟨b, o + i * 3 + 1, none⟩ = some (.slice ki (K i) kc) ∧ w.cell? ⟨b, o + i * 3 + 2, none⟩ = some (.int .i64 (Z i))
section
variable {w w' : World} {B : Nat} {a : Option Addr} {n c : Nat} {A : Nat → Option Addr} {N C X K : Nat → Nat} {Z : Nat → Int}
theorem Ones.get (h : Ones w w.heap.size a n c A N C X K Z) (i : Nat) (hi : i < n) : ∃ b o ki kc kx, a = some ⟨b, o, none⟩ ∧ b < w.heap.size ∧ ∀ W, Below w.heap.size w W → Sb W W.heap.size (A i) (N i) (C i) (X i) ∧ Sb W W.heap.size ki (K i) kc kx ∧
  W.cell? ⟨b, o + i * 3, none⟩ = some (.slice (A i) (N i) (C i)) ∧ W.cell? ⟨b, o + i * 3 + 1, none⟩ = some (.slice ki (K i) kc) ∧ W.cell? ⟨b, o + i * 3 + 2, none⟩ = some (.int .i64 (Z i)) := by
 cases ha : a with
 | none =>
  have := h.nil ha
  have := h.le
  omega
 | some ad =>
  obtain ⟨b, o, rfl, hb, hc⟩ := h.low ad ha (by omega)
  obtain ⟨hs, h1, ki, kc, kx, hk, h2, h3⟩ := hc i hi
  exact ⟨b, o, ki, kc, kx, rfl, hb, fun W hW => ⟨hs.call hW, hk.call hW, (hW.cell (p := ⟨b, o + i * 3, none⟩) hb).trans h1, (hW.cell (p := ⟨b, o + i * 3 + 1, none⟩) hb).trans h2, (hW.cell (p := ⟨b, o + i * 3 + 2, none⟩) hb).trans h3⟩⟩
end
theorem cellsS2 : Tryz.prog.cellsOf 58 = 4 := by kernel_rfl
theorem four_of {cs : Array Value} (h : cs.size = 4) : ∃ x y z u, cs = #[x, y, z, u] ∧ cs.toList = [x, y, z, u] := by
 obtain ⟨l⟩ := cs
 match l, h with
 | [x, y, z, u], _ => exact ⟨x, y, z, u, rfl, rfl⟩
section
variable {H : Type} {enc : TypeId × Value → H}
theorem z7n {W : World} {base : Nat} {v : Value} {d : DataW H} {p : List MemPlace} (hv : Value.okWide Tryz.prog W .any base 58 v) (h : DataW.Trod enc Tryz.prog W 0 (fun _ => true) true 58 v d p) :
  ∃ a n c q z a' n' c' q' z', v = .agg #[.slice a n c, .int .i64 z, .slice a' n' c', .int .i64 z'] ∧ Sb W W.heap.size a n c q ∧ Sb W W.heap.size a' n' c' q' := by
 obtain ⟨cs, rfl, hsz, _⟩ : ∃ cs, v = .agg cs ∧ cs.size = Tryz.prog.cellsOf 58 ∧ Row.okWide Tryz.prog W .any base 58 cs := by
  simpa [Value.okWide, Tryz.underlying58] using hv
 rw [cellsS2] at hsz
 obtain ⟨fuel, hf⟩ := h
 obtain ⟨x, y, x', y', rfl, e⟩ := four_of hsz
 obtain ⟨xs, m, _, _, _, hxl, hel⟩ := DataW.trod_array Tryz.underlying58 hf
 have h0 := hel 0 (by omega)
 have h1 := hel 1 (by omega)
 rw [y3l, List.getElem?_eq_getElem (by omega)] at h0 h1
 obtain ⟨a, n, c, q, z, hx, hy, hs⟩ := z8b (x := x) (y := y) h0
 obtain ⟨a', n', c', q', z', hx', hy', hs'⟩ := z8b (x := x') (y := y') h1
 exact ⟨a, n, c, q, z, a', n', c', q', z', by rw [hx, hy, hx', hy'], hs, hs'⟩
end
end Go.Proofs.YtgjbonikbmgfmaaGreatDoor
