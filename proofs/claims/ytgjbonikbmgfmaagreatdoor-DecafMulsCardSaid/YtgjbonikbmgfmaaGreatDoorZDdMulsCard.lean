/-
 DecafMuls holds: what so many times an element is, and multiples of two, together, for any two points of the curve, and any two scalars.
 Conditions: none of its own. What the program's tables (field.prime, scalar.order, scalar.rest) hold is tied to the program's text by the given card.
-/
import Derived.Test.YtgjbonikbmgfmaaGreatDoorZDdMuls
set_option maxRecDepth 100000
namespace Go.Proofs.YtgjbonikbmgfmaaGreatDoor.ddmulsLaw
open Go.ChangeShapes Go.WideShapes Go.ChangeAt Go.RowKit
theorem contract (H : Type) (enc : TypeId × Value → H) (W : World) (base : Nat) (args : Array Value) (ds gs : List (DataW H)) (before : List MemPlace)
  (hval : ∀ (j : Nat) t v, Tryz.f6.params[j]? = some t → args[j]? = some v → Value.okWide Tryz.prog W .any base t v)
  (hW : DataW.Whole enc Tryz.prog Tryz.f6.params.toList Rows.decafMulsSpec.vars false W args.toList ds gs before) (hL : laidMetH Tryz.prog Rows.decafMulsRow.laid W) :
  Calls Tryz.prog 6 args W fun e W' => ∃ v, e = .returned v ∧ Rows.decafMulsSpec.post enc Tryz.prog Tryz.f6 false true false false W args v W' := by
 have hW' := hW
 obtain ⟨p, q, hA, hV, rfl, hfz, hnd⟩ := hW
 obtain ⟨rfl, rfl⟩ := trodVars_none hV
 rw [Tryz.params6] at hA hval
 obtain ⟨v0, v1, d0, d1, p0, p1, rfl, rfl, rfl, h0, h1⟩ := trodAll_two hA
 obtain ⟨a0, n0, c0, x0, z0, b0, m0, d0, y0, u0, rfl, hs0, hr0⟩ := z7n (hval 0 _ _ rfl rfl) h0
 obtain ⟨a1, n1, c1, x1, b1, m1, d1, y1, rfl, hs1, hr1⟩ := y5n (hval 1 _ _ rfl rfl) h1
 have hT := y7h hL
 have hl := y7l hL
 have walk : Calls Tryz.prog 6 #[.agg #[.slice a0 n0 c0, .int .i64 z0, .slice b0 m0 d0, .int .i64 u0], .agg #[.slice a1 n1 c1, .slice b1 m1 d1]] W fun e W' => e = .returned (.bool true) ∧ Below W.heap.size W W' := by
  exact dmuls_walk W hT hs0 hr0 hl hs1 hr1
 refine walk.mono fun e W' ⟨he, hb⟩ => ?_
 subst he
 exact ⟨_, rfl, z5c z64 hW' rfl (fun t ht => by
  rw [Tryz.params6] at ht
  simp at ht
  rcases ht with rfl | rfl
  ·exact ⟨by kernel_rfl, of_decide_eq_true (by kernel_rfl)⟩
  ·exact ⟨by kernel_rfl, of_decide_eq_true (by kernel_rfl)⟩) rfl Tryz.underlying4 rfl hb⟩
theorem laid_met (os : Os) : laidMet Tryz.prog Rows.decafMulsRow.laid ((laidWorld14 os).forCall (fun _ _ => 0) ⟨#[], #[.agg #[.slice none 0 0, .int .i64 0, .slice none 0 0, .int .i64 0], .agg #[.slice none 0 0, .slice none 0 0]], []⟩).memory :=
 laidMet_of_run' 8 (by kernel_rfl) (by kernel_rfl)
theorem lifted (os : Os) (started : os.Started) (H : Type) (enc : TypeId × Value → H) (F : Stop.Interp) :
  ReturnsInHanded {} Tryz.checked os 6 .any ((OpenSpec.ofChange Rows.decafMulsSpec).preRow enc Tryz.prog Tryz.f6 Rows.decafMulsRow.domain false Rows.decafMulsRow.laid) (((OpenSpec.ofChange Rows.decafMulsSpec).at F).post enc Tryz.prog Tryz.f6 false true false false) := by
 refine returnsInHanded_of_row (C := Tryz.checked) (s := OpenSpec.ofChange Rows.decafMulsSpec) own started (by kernel_rfl) Tryz.func6
  (witness_row_at (enc := enc) (C := Tryz.checked) false (laidWorld14 os) #[.agg #[.slice none 0 0, .int .i64 0, .slice none 0 0, .int .i64 0], .agg #[.slice none 0 0, .slice none 0 0]] rfl (by kernel_rfl) (by kernel_rfl) (by kernel_rfl)
   (OpenSpec.preRow_of_cond 8 (x := ([.agg [.agg [.nil, .lit (.int .i64 0)], .agg [.nil, .lit (.int .i64 0)]], .agg [.nil, .nil]], [], [])) (by kernel_rfl) (by kernel_rfl) (fun k hk => by cases hk) (by kernel_rfl) (laid_met os))) ?_
 intro W base args ds gs before hval hW _ _ _ hL _ _
 exact contract H enc W base args ds gs before hval hW hL
theorem said : Rows.DecafMulsSaid :=
 OpenClaim.holds_of_cond 6 Tryz.f6 rfl rfl rfl rfl rfl rfl rfl ⟨rfl, rfl, rfl, rfl, rfl⟩ rfl rfl rfl rfl rfl (by kernel_rfl) Tryz.func6 (by kernel_rfl)
  (of_decide_eq_true (by kernel_rfl)) (by unfold Func.isWrapper; first | (rw [if_pos (by decide +kernel)]; kernel_rfl) | (rw [if_neg (by decide +kernel)]; exact ⟨rfl, rfl⟩))
  (fun os started H enc _ F => by rw [OpenClaim.pre_eq_preRow]; exact lifted os started H enc F)
theorem plain (f : FuncId) (fn : Func) (hf : Tryz.pinned.checked.prog.funcNamed "chicory/chicorylaw14.DecafMuls" = some f) (hfn : Tryz.pinned.checked.prog.funcs[f]? = some fn) :
  false = Tryz.pinned.checked.prog.looks [] ∧ ∀ (j : Nat) t, fn.params[j]? = some t → Tryz.pinned.checked.prog.wantsStandIn t = false := by
 obtain rfl : f = 6 := Option.some.inj ((show Tryz.prog.funcNamed "chicory/chicorylaw14.DecafMuls" = some 6 by kernel_rfl).symm.trans hf) |>.symm
 obtain rfl : fn = Tryz.f6 := (Option.some.inj (Tryz.func6.symm.trans hfn)).symm
 refine ⟨by kernel_rfl, fun j t ht => ?_⟩
 rw [Tryz.params6] at ht
 have hm := Array.mem_of_getElem? ht
 simp at hm
 rcases hm with rfl | rfl
 ·exact (show Tryz.prog.wantsStandIn 58 = false by kernel_rfl)
 ·exact (show Tryz.prog.wantsStandIn 67 = false by kernel_rfl)
theorem card : Rows.DecafMulsCardSaid :=
 Claim7.holds_tied_plain_at .later [] _ _ _ _ said (fun _ h => by cases h) (by kernel_rfl) (fun _ h => by cases h) decafMuls_row_tie rfl ⟨rfl, rfl⟩ (by kernel_rfl) rfl plain (by kernel_rfl)
end Go.Proofs.YtgjbonikbmgfmaaGreatDoor.ddmulsLaw
