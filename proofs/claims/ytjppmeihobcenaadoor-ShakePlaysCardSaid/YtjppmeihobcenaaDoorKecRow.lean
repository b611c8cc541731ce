/-
  From a law's contract ('it returns true; nothing that was there has turned') to its row: what is of no one law.
-/
import Derived.Test.YtjppmeihobcenaaDoorCards
import Derived.Test.YtjppmeihobcenaaDoorTie
import Derived.Test.YtjppmeihobcenaaDoorKecByte
import Derived.ChangeSlices
import Derived.ProofKit
import Derived.OpenShut
import Derived.Carry
import Derived.Deep.DeepHandedRow
import Derived.Lib.LaidTab
import Derived.Lib.LaidU8
namespace Go.Proofs.YtjppmeihobcenaaDoor
open Go.ChangeShapes Go.WideShapes Go.ChangeAt Go.RowKit

section
variable {H : Type} {enc : TypeId × Value → H} {P : Program}
/-- The arguments read behind the call as they read before. -/
theorem stay_all (hl : laidOutB P = true) {W W' : World} (hb : Below W.heap.size W W') :
    ∀ (ts : List TypeId) (vs : List Value) (ds : List (DataW H)) (ps : List MemPlace), (∀ t ∈ ts, P.readableRec t = true ∧ t < P.types.size) →
      DataW.TrodAll enc P W 0 (fun _ => true) true ts vs ds ps → (∀ x ∈ ps, x.block < W.heap.size) → DataW.TrodAll enc P W' 0 (fun b => decide (b < W.heap.size)) true ts vs ds ps := by
  intro ts
  induction ts with
  | nil =>
    intro vs ds ps _ h _
    obtain ⟨rfl, rfl, rfl⟩ := trodAll_nil h
    exact trodAll_mk0
  | cons t ts ih =>
    intro vs ds ps ht h hlt
    obtain ⟨v, vs', d, ds', p, q, rfl, rfl, rfl, h1, h2⟩ := trodAll_cons h
    exact trodAll_cons_mk (Below.trod hl (ht t (by simp)).1 (ht t (by simp)).2 h1 hb fun x hx => hlt x (by simp [hx])) (ih vs' ds' q (fun t' h' => ht t' (by simp [h'])) h2 fun x hx => hlt x (by simp [hx]))

/-- A law's post: the one result is 'true', the arguments read as they did. -/
theorem law_post (hl : laidOutB P = true) {f : Func} {s : ChangeSpec} {W W' : World} {args : Array Value} {ds gs : List (DataW H)} {before : List MemPlace} {tb : TypeId}
    (hW : DataW.Whole enc P f.params.toList s.vars false W args.toList ds gs before) (hv : s.vars = []) (hp : ∀ t ∈ f.params.toList, P.readableRec t = true ∧ t < P.types.size)
    (hr : f.resultTypes = #[tb]) (htb : P.underlying tb = some .bool) (hfn : s.fn H (ds ++ gs) = { results := [.lit (.bool true)], args := ds }) (hb : Below W.heap.size W W') :
    s.post enc P f false true false false W args (.bool true) W' := by
  have hlt := hW.lt
  have hW' := hW
  obtain ⟨p, q, hA, hV, rfl, _, _⟩ := hW
  rw [hv] at hV
  obtain ⟨rfl, rfl⟩ := trodVars_none hV
  refine ⟨ds, [], p ++ [], [], p, [], hW', ?_, ?_, ?_, World.keptBut_mono (fun x hx => ⟨hx, .inr (.inl (by simpa using hx))⟩) (hb.frame (· ∈ p ++ [])), fun h => by cases h⟩
  · rw [hfn, hr]
    exact trodAll_cons_mk (shut_bool htb _) trodAll_mk0
  · rw [hfn]
    exact stay_all hl hb _ _ _ _ hp hA fun x hx => hlt x (by simp [hx])
  · rw [hfn, hv]
    rfl

/-- An array of lanes that came in, by value. -/
theorem open_lanes {t : TypeId} {n : Nat} (hT : IsLanes P t n) (hce : P.cellsOf 50 = 1) (hct : P.cellsOf t = n) {W : World} {base b : Nat} {sp : Nat → Bool} {held : Bool} {v : Value} {d : DataW H} {p : List MemPlace}
    (hv : Value.okWide P W .any base t v) (h : DataW.Trod enc P W b sp held t v d p) : ∃ f, v = .agg (A n f) := by
  obtain ⟨cs, rfl, hsz, _⟩ : ∃ cs, v = .agg cs ∧ cs.size = P.cellsOf t ∧ Row.okWide P W .any base t cs := by
    simpa [Value.okWide, hT.under] using hv
  rw [hct] at hsz
  obtain ⟨fuel, hf⟩ := h
  obtain ⟨xs, m, _, _, _, hxl, hel⟩ := DataW.trod_array hT.under hf
  refine ⟨fun i => match cs[i]? with | some (.int _ z) => BitVec.ofInt 64 z | _ => 0, ?_⟩
  congr 1
  apply Array.ext_getElem?
  intro i
  by_cases hi : i < n
  · rw [A_get n _ i hi]
    have h1 := hel i hi
    rw [hce, Nat.mul_one, List.getElem?_eq_getElem (by omega)] at h1
    obtain ⟨z, hc, _, hwf⟩ := DataW.trod_int hT.elem h1
    have h2 : cs[i]? = some (.int .u64 z) := by
      have := congrArg (·[0]?) hc
      simpa [Value.cells, List.getElem?_take, List.getElem?_drop] using this
    have hz : 0 ≤ z ∧ z ≤ 18446744073709551615 := by
      simp [Lit.wf, IntKind.min, IntKind.max, IntKind.signed, IntKind.bits] at hwf
      omega
    rw [h2]
    obtain ⟨k, rfl⟩ := Int.eq_ofNat_of_zero_le hz.1
    show _ = some (Value.int .u64 (L (BitVec.ofInt 64 (k : Int))))
    rw [L, BitVec.ofInt_natCast, BitVec.toNat_ofNat, Nat.mod_eq_of_lt (by omega)]
  · rw [Array.getElem?_eq_none (by omega), Array.getElem?_eq_none (by rw [A_size]; omega)]

/-- A slice of bytes that came in. -/
theorem open_bytes {t e : TypeId} (ht : P.underlying t = some (.slice e)) (he : P.underlying e = some (.int .u8)) (hce : P.cellsOf e = 1) {W : World} {base : Nat} {v : Value} {d : DataW H} {p : List MemPlace}
    (hv : Value.okWide P W .any base t v) (h : DataW.Trod enc P W 0 (fun _ => true) true t v d p) : ∃ a n c g, v = .slice a n c ∧ n ≤ maxLen ∧ Sl W W.heap.size a n c g := by
  obtain ⟨a0, len, cap, rfl⟩ := okWide_slice ht hv
  obtain ⟨fuel, hf⟩ := h
  rcases open_ints ht he hce hf with ⟨hcs, _⟩ | ⟨a, len', cap', zs, hcs, _, hl, hm, hz, _, hcell, hwz⟩
  · simp [Value.cells] at hcs
    obtain ⟨rfl, rfl, rfl⟩ := hcs
    exact ⟨none, 0, 0, fun _ => 0, rfl, Nat.zero_le _, Nat.le_refl _, fun _ => rfl, fun _ e _ => by cases e⟩
  · simp [Value.cells] at hcs
    obtain ⟨rfl, rfl, rfl⟩ := hcs
    simp only [if_true] at hz
    refine ⟨some a, len, cap, fun i => BitVec.ofInt 8 (zs.getD i 0), rfl, Nat.le_trans hl hm, hl, (fun e => by cases e), fun ad e h0 => ?_⟩
    obtain rfl := Option.some.inj e
    have c0 := hcell 0 (by omega)
    obtain ⟨b, o, sp⟩ := a
    have hsp : sp = none := by
      cases sp with
      | none => rfl
      | some k =>
        exfalso
        unfold World.cell? at c0
        simp [Addr.add] at c0
        split at c0 <;> simp_all
    subst hsp
    refine ⟨b, o, rfl, ?_, fun i hi => ?_⟩
    · have := block_lt_of_cell c0
      simpa [Addr.add] using this
    · have hc := hcell i (by omega)
      have hadd : (⟨b, o, none⟩ : Addr).add i = ⟨b, o + i, none⟩ := by unfold Addr.add; split <;> simp_all
      rw [hadd] at hc
      rw [hc]
      have hw := hwz (zs.getD i 0) (by rw [List.getD_eq_getElem?_getD, List.getElem?_eq_getElem (by omega)]; exact List.getElem_mem _)
      have hb := bounds_u8 hw
      obtain ⟨k, hk⟩ := Int.eq_ofNat_of_zero_le hb.1
      show some (Value.int .u8 (zs.getD i 0)) = some (Value.int .u8 (U8 (BitVec.ofInt 8 (zs.getD i 0))))
      rw [hk, U8, BitVec.ofInt_natCast, BitVec.toNat_ofNat, Nat.mod_eq_of_lt (by omega)]
end

theorem own : ownKnob Tryd.prog.godebug = none := by kernel_rfl
theorem laidOut : laidOutB Tryd.prog = true := by kernel_rfl
theorem cells22 : Tryd.prog.cellsOf 50 = 1 := by kernel_rfl
theorem cells24 : Tryd.prog.cellsOf 54 = 25 := by kernel_rfl
theorem gCon : Tryd.prog.globalNamed "chicory/keccak.constants" = some 0 := by kernel_rfl
theorem gOff : Tryd.prog.globalNamed "chicory/keccak.offsets" = some 1 := by kernel_rfl
theorem gConT : (Tryd.prog.globals[0]?).map (·.type) = some 69 := by kernel_rfl
theorem gOffT : (Tryd.prog.globals[1]?).map (·.type) = some 59 := by kernel_rfl
theorem cells40 : Tryd.prog.cellsOf 69 = 24 := by kernel_rfl
theorem cells41 : Tryd.prog.cellsOf 59 = 25 := by kernel_rfl
theorem cells3 : Tryd.prog.cellsOf 3 = 1 := by kernel_rfl
theorem cells5 : Tryd.prog.cellsOf 5 = 1 := by kernel_rfl
theorem read29 : Tryd.prog.readableRec 25 = true ∧ 25 < Tryd.prog.types.size := ⟨by kernel_rfl, of_decide_eq_true (by kernel_rfl)⟩
theorem read24 : Tryd.prog.readableRec 54 = true ∧ 54 < Tryd.prog.types.size := ⟨by kernel_rfl, of_decide_eq_true (by kernel_rfl)⟩

/-- The rows' list of tables. -/
abbrev laidTabs : List (String × DataW Unit) := [("chicory/keccak.constants", Rows.laid_chicory_keccak_constants), ("chicory/keccak.offsets", Rows.laid_chicory_keccak_offsets)]
def conZ : List Int := [1, 32898, 9223372036854808714, 9223372039002292224, 32907, 2147483649, 9223372039002292353, 9223372036854808585, 138, 136, 2147516425, 2147483658, 2147516555, 9223372036854775947, 9223372036854808713, 9223372036854808579, 9223372036854808578, 9223372036854775936, 32778, 9223372039002259466, 9223372039002292353, 9223372036854808704, 2147483649, 9223372039002292232]
def offZ : List Int := [0, 1, 62, 28, 27, 36, 44, 6, 55, 20, 3, 10, 43, 25, 39, 41, 45, 15, 21, 8, 18, 2, 61, 56, 14]
theorem con_at : ∀ r, r < 24 → conZ.getD r 0 = L (rcs r) := by decide +kernel
theorem off_at : ∀ i, i < 25 → offZ.getD i 0 = (offs i : Int) := by decide +kernel
theorem tabs_of {W : World} (h : laidMetH Tryd.prog laidTabs W) : Tabs W := by
  have h' : laidMet Tryd.prog laidTabs W := h
  have h1 : Lib.TabIs Tryd.prog W "chicory/keccak.constants" .u64 conZ := Lib.tabIs_of_head (rest := [("chicory/keccak.offsets", Rows.laid_chicory_keccak_offsets)]) gCon gConT Tryd.underlying69 Tryd.underlying50 cells22 cells40 h'
  obtain ⟨g, t, cs, fuel, p, hg, ht, hvar, hd⟩ := Lib.laidMet.reads h' (n := "chicory/keccak.offsets") (d := Rows.laid_chicory_keccak_offsets) (.tail _ (.head _))
  obtain rfl := Option.some.inj (gOff.symm.trans hg)
  obtain rfl := Option.some.inj (gOffT.symm.trans ht)
  have h2 : Lib.TabIs Tryd.prog W "chicory/keccak.offsets" .i64 offZ := by
    unfold Lib.TabIs
    rw [hvar, ← Lib.cells_of_tab (zs := offZ) (k := .i64) Tryd.underlying59 Tryd.underlying3 cells3 cells41 hd]
  exact ⟨fun r hr => by rw [h1.cell gCon r hr, con_at r hr], fun i hi => by rw [h2.cell gOff i hi, off_at i hi]⟩

/-- A block whose cells are others. -/
def reCell (c : Array Value) : Obj → Obj
  | .cells _ t frozen => .cells c t frozen
  | o => o
/-- A world for the witness: the settled one, both tables holding what their initialisers lay. -/
noncomputable def laidWorld (os : Os) : World :=
  { World.holding Tryd.prog os ⟨#[], #[], []⟩ with heap := ((World.holding Tryd.prog os ⟨#[], #[], []⟩).heap.modify 0 (reCell (conZ.map fun z => Value.int .u64 z).toArray)).modify 1 (reCell (offZ.map fun z => Value.int .i64 z).toArray) }
end Go.Proofs.YtjppmeihobcenaaDoor
