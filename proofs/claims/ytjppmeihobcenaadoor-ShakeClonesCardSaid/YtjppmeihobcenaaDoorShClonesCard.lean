/-
  ShakeClones holds: a clone goes on as the hash would, whatever becomes of the other one, and both tell the same, if both go on alike, for all pieces, bytes and numbers.
  Conditions: none of its own. What the program's two tables (keccak.constants, keccak.offsets) hold is tied to the program's text by the given card.
-/
import Derived.Test.YtjppmeihobcenaaDoorShRow
import Derived.Test.YtjppmeihobcenaaDoorShPair
namespace Go.Proofs.YtjppmeihobcenaaDoor.clonesLaw
open Go.ChangeShapes Go.WideShapes Go.ChangeAt Go.RowKit

/-- What the walk gives, for every argument and every world that holds the tables. -/
theorem contract (H : Type) (enc : TypeId × Value → H) (W : World) (base : Nat) (args : Array Value) (ds gs : List (DataW H)) (before : List MemPlace)
    (hval : ∀ (j : Nat) t v, Tryd.f7.params[j]? = some t → args[j]? = some v → Value.okWide Tryd.prog W .any base t v)
    (hW : DataW.Whole enc Tryd.prog Tryd.f7.params.toList Rows.shakeClonesSpec.vars false W args.toList ds gs before) (hL : laidMetH Tryd.prog Rows.shakeClonesRow.laid W) :
    Calls Tryd.prog 7 args W fun e W' => ∃ v, e = .returned v ∧ Rows.shakeClonesSpec.post enc Tryd.prog Tryd.f7 false true false false W args v W' := by
  have hW' := hW
  obtain ⟨p, q, hA, hV, rfl, hfz, hnd⟩ := hW
  obtain ⟨rfl, rfl⟩ := trodVars_none hV
  rw [Tryd.params7] at hA hval
  obtain ⟨v0, v1, v2, d0, d1, d2, p0, p1, p2, rfl, rfl, rfl, h0, h1, h2⟩ := trodAll_three hA
  obtain ⟨a0, n0, c0, g0, rfl, hm0, hs0⟩ := open_pieces Tryd.underlying22 Tryd.underlying25 Tryd.underlying5 cellsBs cells5 (hval 0 _ _ rfl rfl) h0
  obtain ⟨a1, n1, c1, g1, rfl, hm1, hs1⟩ := open_bytes Tryd.underlying25 Tryd.underlying5 cells5 (hval 1 _ _ rfl rfl) h1
  obtain ⟨x2, y2, rfl⟩ := open_pair (hval 2 _ _ rfl rfl) h2
  have hT := tabs_of hL
  have walk : Calls Tryd.prog 7 #[.slice a0 n0 c0, .slice a1 n1 c1, .agg #[.int .i64 x2, .int .i64 y2]] W fun e w' => e = .returned (.bool true) ∧ Below W.heap.size W w' := by
    by_cases h : (n0 ≤ 12 ∧ ∀ i, i < n0 → (g0 i).n ≤ 400) ∧ n1 ≤ 400 ∧ 0 ≤ x2 ∧ x2 ≤ n0 ∧ 0 ≤ y2 ∧ y2 ≤ 400
    · obtain ⟨⟨k1, k2⟩, k3, k4, k5, k6, k7⟩ := h
      obtain ⟨t0, rfl⟩ := Int.eq_ofNat_of_zero_le k4
      obtain ⟨t1, rfl⟩ := Int.eq_ofNat_of_zero_le k6
      exact clones_near a0 n0 c0 g0 a1 n1 c1 g1 t0 t1 W hT hs0 hs1 k1 k2 k3 (by omega) (by omega)
    · exact clones_far a0 n0 c0 g0 a1 n1 c1 x2 y2 W hT hs0 hm0 h
  refine walk.mono fun e W' ⟨he, hb⟩ => ?_
  subst he
  exact ⟨_, rfl, law_post laidOut hW' rfl (fun t ht => by
    rw [Tryd.params7] at ht
    simp at ht
    rcases ht with rfl | rfl | rfl
    · exact ⟨by kernel_rfl, of_decide_eq_true (by kernel_rfl)⟩
    · exact ⟨by kernel_rfl, of_decide_eq_true (by kernel_rfl)⟩
    · exact ⟨by kernel_rfl, of_decide_eq_true (by kernel_rfl)⟩) rfl Tryd.underlying4 rfl hb⟩

theorem laid_met (os : Os) : laidMet Tryd.prog Rows.shakeClonesRow.laid ((laidWorld os).forCall (fun _ _ => 0) ⟨#[], #[.slice none 0 0, .slice none 0 0, .agg #[.int .i64 0, .int .i64 0]], []⟩).memory :=
  laidMet_of_run' 8 (by kernel_rfl) (by kernel_rfl)

set_option maxRecDepth 100000 in
theorem lifted (os : Os) (started : os.Started) (H : Type) (enc : TypeId × Value → H) (F : Stop.Interp) :
    ReturnsInHanded {} Tryd.checked os 7 .any ((OpenSpec.ofChange Rows.shakeClonesSpec).preRow enc Tryd.prog Tryd.f7 Rows.shakeClonesRow.domain false Rows.shakeClonesRow.laid) (((OpenSpec.ofChange Rows.shakeClonesSpec).at F).post enc Tryd.prog Tryd.f7 false true false false) := by
  refine returnsInHanded_of_row (C := Tryd.checked) (s := OpenSpec.ofChange Rows.shakeClonesSpec) own started (by kernel_rfl) Tryd.func7
    (witness_row_at (enc := enc) (C := Tryd.checked) false (laidWorld os) #[.slice none 0 0, .slice none 0 0, .agg #[.int .i64 0, .int .i64 0]] rfl (by kernel_rfl) (by kernel_rfl) (by kernel_rfl)
      (OpenSpec.preRow_of_cond 8 (x := ([.nil, .nil, .agg [.lit (.int .i64 0), .lit (.int .i64 0)]], [], [])) (by kernel_rfl) (by kernel_rfl) (fun k hk => by cases hk) (by kernel_rfl) (laid_met os))) ?_
  intro W base args ds gs before hval hW _ _ _ hL _ _
  exact contract H enc W base args ds gs before hval hW hL

theorem said : Rows.ShakeClonesSaid :=
  OpenClaim.holds_of_cond 7 Tryd.f7 rfl rfl rfl rfl rfl rfl rfl ⟨rfl, rfl, rfl, rfl, rfl⟩ rfl rfl rfl rfl rfl (by kernel_rfl) Tryd.func7 (by kernel_rfl)
    (of_decide_eq_true (by kernel_rfl)) (by unfold Func.isWrapper; first | (rw [if_pos (by decide +kernel)]; kernel_rfl) | (rw [if_neg (by decide +kernel)]; exact ⟨rfl, rfl⟩))
    (fun os started H enc _ F => by rw [OpenClaim.pre_eq_preRow]; exact lifted os started H enc F)

theorem plain (f : FuncId) (fn : Func) (hf : Tryd.pinned.checked.prog.funcNamed "chicory/chicorylaw02.ShakeClones" = some f) (hfn : Tryd.pinned.checked.prog.funcs[f]? = some fn) :
    false = Tryd.pinned.checked.prog.looks [] ∧ ∀ (j : Nat) t, fn.params[j]? = some t → Tryd.pinned.checked.prog.wantsStandIn t = false := by
  obtain rfl : f = 7 := Option.some.inj ((show Tryd.prog.funcNamed "chicory/chicorylaw02.ShakeClones" = some 7 by kernel_rfl).symm.trans hf) |>.symm
  obtain rfl : fn = Tryd.f7 := (Option.some.inj (Tryd.func7.symm.trans hfn)).symm
  refine ⟨by kernel_rfl, fun j t ht => ?_⟩
  rw [Tryd.params7] at ht
  have hm := Array.mem_of_getElem? ht
  simp at hm
  rcases hm with rfl | rfl | rfl
  · exact (show Tryd.prog.wantsStandIn 22 = false by kernel_rfl)
  · exact (show Tryd.prog.wantsStandIn 25 = false by kernel_rfl)
  · exact (show Tryd.prog.wantsStandIn 43 = false by kernel_rfl)

/-- The card. -/
theorem card : Rows.ShakeClonesCardSaid :=
  Claim7.holds_tied_plain_at .later [] _ _ _ _ said (fun _ h => by cases h) (by kernel_rfl) (fun _ h => by cases h) shakeClones_row_tie rfl ⟨rfl, rfl⟩ (by kernel_rfl) rfl plain (by kernel_rfl)
end Go.Proofs.YtjppmeihobcenaaDoor.clonesLaw
