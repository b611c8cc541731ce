/-
  The contract of the reference's Of; bytes tell lanes.
-/
import Derived.Test.YtjppmeihobcenaaDoorKecXmath
namespace Go.Proofs.YtjppmeihobcenaaDoor
open Go.RowKit

@[go_sem] theorem u64_mul256 (x : BitVec 64) : IntKind.u64.wrap (L x * 256) = L (shl x 8) := u64_shl x 8
@[go_sem] theorem u64_add (x y : BitVec 64) : IntKind.u64.wrap (L x + L y) = L (x + y) := by
  rw [IntKind.wrap_u64]
  unfold L
  rw [BitVec.toNat_add]
  show _ = (((x.toNat + y.toNat) % 18446744073709551616 : Nat) : Int)
  omega

/-- A lane when its m highest bytes are taken. -/
def laneTo (g : Nat → BitVec 8) (i : Nat) : Nat → BitVec 64
  | 0 => 0
  | m + 1 => shl (laneTo g i m) 8 + zx (g (8 * i + (7 - m)))
theorem join_byte (x : BitVec 64) (b : BitVec 8) : shl x 8 + zx b = shl x 8 ^^^ zx b := by
  have hz : shl x 8 &&& zx b = 0#64 := by
    apply BitVec.eq_of_getLsbD_eq
    intro i hi
    unfold shl zx
    rw [BitVec.getLsbD_and, BitVec.getLsbD_shiftLeft, BitVec.getLsbD_setWidth]
    by_cases h : i < 8
    · simp [h]
    · simp [BitVec.getLsbD_of_ge b i (by omega)]
  rw [BitVec.add_eq_or_of_and_eq_zero _ _ hz]
  apply BitVec.eq_of_getLsbD_eq
  intro i hi
  have h := congrArg (fun v => BitVec.getLsbD v i) hz
  simp only [BitVec.getLsbD_and, BitVec.getLsbD_zero] at h
  rw [BitVec.getLsbD_or, BitVec.getLsbD_xor]
  revert h
  cases (shl x 8).getLsbD i <;> cases (zx b).getLsbD i <;> simp
theorem low_shl (x : BitVec 64) (q : Nat) (hq : q < 7) : low8 (shr (shl x 8) (8 * (q + 1))) = low8 (shr x (8 * q)) := by
  apply BitVec.eq_of_getLsbD_eq
  intro i hi
  unfold low8 shr shl
  rw [BitVec.getLsbD_setWidth, BitVec.getLsbD_setWidth, BitVec.getLsbD_ushiftRight, BitVec.getLsbD_ushiftRight, BitVec.getLsbD_shiftLeft, show 8 * (q + 1) + i - 8 = 8 * q + i by omega]
  simp [show 8 * (q + 1) + i < 64 by omega, show ¬ (8 * (q + 1) + i < 8) by omega]
theorem low_shl0 (x : BitVec 64) : low8 (shr (shl x 8) 0) = 0 := by
  apply BitVec.eq_of_getLsbD_eq
  intro i hi
  unfold low8 shr shl
  rw [BitVec.getLsbD_setWidth, BitVec.getLsbD_ushiftRight, BitVec.getLsbD_shiftLeft]
  simp [hi]
theorem low_zx (b : BitVec 8) (q : Nat) (hq : q < 8) : low8 (shr (zx b) (8 * q)) = if 0 = q then b else 0 := by
  have h := byte_place b 0 q (by omega) hq
  rw [Nat.zero_mul, Nat.mul_comm q 8] at h
  rw [← h]
  unfold shl
  simp
theorem lane_byte (g : Nat → BitVec 8) (i : Nat) : ∀ (m q : Nat), m ≤ 8 → q < m → low8 (shr (laneTo g i m) (8 * q)) = g (8 * i + (8 - m) + q)
  | 0, q, _, h => by omega
  | m + 1, q, hm, hq => by
    rw [laneTo, join_byte, low8_xor, low_zx _ _ (by omega)]
    cases q with
    | zero =>
      rw [if_pos rfl, Nat.mul_zero, low_shl0, show (0 : BitVec 8) = 0#8 from rfl, BitVec.zero_xor]
      exact congrArg g (by omega)
    | succ q =>
      rw [if_neg (by omega), low_shl _ _ (by omega), lane_byte g i m q (by omega) (by omega), show (0 : BitVec 8) = 0#8 from rfl, BitVec.xor_zero]
      exact congrArg g (by omega)
theorem lane_bytes (g : Nat → BitVec 8) (i : Nat) : bytesF (fun l => laneTo g l 8) i = g i := by
  unfold bytesF
  rw [Nat.mul_comm (i % 8) 8, lane_byte g (i / 8) 8 (i % 8) (Nat.le_refl _) (Nat.mod_lt _ (by omega))]
  congr 1
  omega
/-- Two lanes of the same eight bytes are the same. -/
theorem lane_ext {x y : BitVec 64} (h : ∀ q, q < 8 → low8 (shr x (8 * q)) = low8 (shr y (8 * q))) : x = y := by
  apply BitVec.eq_of_getLsbD_eq
  intro i hi
  have h1 := congrArg (fun v => BitVec.getLsbD v (i % 8)) (h (i / 8) (by omega))
  simp only [low8, shr, BitVec.getLsbD_setWidth, BitVec.getLsbD_ushiftRight, show 8 * (i / 8) + i % 8 = i by omega, show i % 8 < 8 from Nat.mod_lt _ (by omega), decide_true, Bool.true_and] at h1
  exact h1
theorem lanes_ext {x y : Nat → BitVec 64} (h : ∀ i, i < 200 → bytesF x i = bytesF y i) : ∀ j, j < 25 → x j = y j := fun j hj =>
  lane_ext fun q hq => by
    have := h (8 * j + q) (by omega)
    rwa [bytesF_at _ _ _ hq, bytesF_at _ _ _ hq] at this
theorem zero_bytes (i : Nat) : bytesF (fun _ => 0) i = 0 := by
  unfold bytesF low8 shr
  simp
theorem of_bytes (g : Nat → BitVec 8) (i : Nat) (hi : i < 200) : bytesF (xorTo (fun _ => 0) g 200) i = g i := by
  rw [bytesF_xor, if_pos hi, zero_bytes]
  simp
theorem of_ref (g : Nat → BitVec 8) : ∀ j, j < 25 → xorTo (fun _ => 0) g 200 j = laneTo g j 8 :=
  lanes_ext (y := fun l => laneTo g l 8) fun i hi => by rw [of_bytes g i hi, lane_bytes g i]
theorem of_back (f : Nat → BitVec 64) : ∀ j, j < 25 → xorTo (fun _ => 0) (bytesF f) 200 j = f j :=
  lanes_ext fun i hi => of_bytes _ i hi

/-- The lanes when j of them are left, and m bytes of the one at i are taken. -/
def refTo (g : Nat → BitVec 8) (j l : Nat) : BitVec 64 := if j ≤ l then laneTo g l 8 else 0
def refAt (g : Nat → BitVec 8) (i m l : Nat) : BitVec 64 := if l = i then laneTo g i m else if i < l then laneTo g l 8 else 0
theorem refAt_start (g : Nat → BitVec 8) (i : Nat) : refAt g i 0 = refTo g (i + 1) := by
  funext l
  unfold refAt refTo
  by_cases e : l = i
  · subst e; rw [if_pos rfl, if_neg (by omega)]; rfl
  · rw [if_neg e]
    by_cases h : i < l
    · rw [if_pos h, if_pos (by omega)]
    · rw [if_neg h, if_neg (by omega)]
theorem refAt_step (g : Nat → BitVec 8) (i m : Nat) : upd (refAt g i m) i (laneTo g i (m + 1)) = refAt g i (m + 1) := by
  funext l
  show (if l = i then laneTo g i (m + 1) else refAt g i m l) = refAt g i (m + 1) l
  unfold refAt
  by_cases e : l = i
  · rw [if_pos e, if_pos e]
  · rw [if_neg e, if_neg e, if_neg e]
theorem refAt_end (g : Nat → BitVec 8) (i : Nat) : refAt g i 8 = refTo g i := by
  funext l
  unfold refAt refTo
  by_cases e : l = i
  · subst e; rw [if_pos rfl, if_pos (Nat.le_refl _)]
  · rw [if_neg e]
    by_cases h : i < l
    · rw [if_pos h, if_pos (by omega)]
    · rw [if_neg h, if_neg (by omega)]
theorem refAt_self (g : Nat → BitVec 8) (i m : Nat) : refAt g i m i = laneTo g i m := by
  unfold refAt
  rw [if_pos rfl]

section
variable {w wr : World} {t1 t2 : TypeId} {c1 c2 : Array Value}
theorem Two.row1 (h : Two w wr t1 t2 c1 c2) (c : Array Value) : Two w (wr.setRow w.heap.size c) t1 t2 c c2 :=
  ⟨⟨h.bel.os, h.bel.tape, h.bel.output, by simpa using h.bel.size, fun k hk => (setRow_other _ _ _ _ (by omega)).trans (h.bel.block k hk)⟩,
   setRow_heap _ _ _ _ _ _ h.r1, (setRow_other _ _ _ _ (by omega)).trans h.r2⟩
end

set_option maxHeartbeats 1600000 in
set_option maxRecDepth 100000 in
theorem refOf_any (a : Option Addr) (c : Nat) (g : Nat → BitVec 8) (w : World) (hs : Sl w w.heap.size a 200 c g) :
    Calls Tryd.prog 24 #[.slice a 200 c] w fun e w' => e = .returned (.agg (A 25 (refTo g 0))) ∧ Below w.heap.size w w' := by
  obtain ⟨b, o, rfl, hbB, _⟩ := hs.get 0 (by omega)
  have HS := Lib.hid hs
  clear hs
  go_enter Tryd.func24, Tryd.ntmps24
  go_wp2_with ((with_reducible apply lay_alloc lanes23); (case hgd => exact rfl); (case ho => exact rfl); intro _ _; go_simp)
  go_loopw [4] (fun v wr => ∃ j : Nat, j ≤ 25 ∧ v = .int .i64 ((j : Int) - 1) ∧ Two w wr 51 51 (A 25 fun _ => 0) (A 25 (refTo g j))) (fun v _ => (intOf v + 1).toNat)
  case atStart => exact ⟨25, by omega, rfl, by rw [A_congr (f := refTo g 25) (g := fun _ => 0) fun l hl => by unfold refTo; rw [if_neg (by omega)]]; exact Two.start _ _ _ _ _⟩
  case round =>
    obtain ⟨j, hj, rfl, HR⟩ := hrel
    by_cases hz : j = 0
    · subst hz
      rw [show (((0 : Nat) : Int) - 1) = -1 from rfl]
      have HH := Lib.hid HR
      clear HR hj
      go_wp2_with (first
        | ((with_reducible apply lay_load lanes23); (case hgd => exact rfl); (case ho => exact rfl); (case hx => exact rfl); (case hg => exact HH.out.r2); intro _ _; go_simp)
        | ((with_reducible apply lay_store lanes23); (case hgd => exact rfl); (case ho => exact rfl); (case hx => exact rfl); (case hy => exact rfl); (case hg => exact HH.out.r1); intro _ _; go_simp))
      refine bodyPost_ret (lanes_result lanes23 Tryd.results24 _ _ _ rfl (HH.out.row1 _).r1) rfl ⟨rfl, (HH.out.row1 _).bel⟩
    · obtain ⟨i, rfl⟩ : ∃ i, j = i + 1 := ⟨j - 1, by omega⟩
      rw [show (((i + 1 : Nat) : Int) - 1) = (i : Int) by omega]
      rw [← refAt_start] at HR
      have HH := Lib.hid HR
      have i25 : i < 25 := by omega
      clear HR hj hz
      have hge : decide ((0 : Int) ≤ (i : Int)) = true := by simp
      go_wp2_with fail
      go_loopw [5] (fun v wr => ∃ m : Nat, m ≤ 8 ∧ v = .int .i64 ((m : Int) - 1) ∧ Two w wr 51 51 (A 25 fun _ => 0) (A 25 (refAt g i (8 - m)))) (fun v _ => (intOf v + 1).toNat)
      case atStart => exact ⟨8, by omega, rfl, HH.out⟩
      case round =>
        clear HH
        obtain ⟨m, hm, rfl, HR⟩ := hrel
        by_cases hz : m = 0
        · subst hz
          rw [show (((0 : Nat) : Int) - 1) = -1 from rfl]
          have HH := Lib.hid HR
          clear HR hm
          go_wp2_with fail
          go_roundw
          case rel => exact ⟨i, by omega, by go_num, by rw [← refAt_end]; exact HH.out⟩
          case measure => simp [intOf]
        · obtain ⟨k, rfl⟩ : ∃ k, m = k + 1 := ⟨m - 1, by omega⟩
          rw [show (((k + 1 : Nat) : Int) - 1) = (k : Int) by omega]
          have HH := Lib.hid HR.drew
          clear HR hz
          have hgk : decide ((0 : Int) ≤ (k : Int)) = true := by simp
          go_wp2_with fail
          refine wp_region_still_tail 14 (by kernel_rfl) (by kernel_rfl) ?_
          change wpStill _ _ wr.drew (fun a' => wpList _ _ _ _ a' wr.drew) _ _
          generalize wr.drew = w2 at *
          obtain ⟨p, hp⟩ : ∃ p, 8 * i + k = p := ⟨_, rfl⟩
          obtain ⟨M, hM⟩ : ∃ M, 8 - (k + 1) = M := ⟨_, rfl⟩
          have hsm : 8 - k = M + 1 := by omega
          have hst : laneTo g i (M + 1) = shl (laneTo g i M) 8 + zx (g p) := by rw [laneTo, show 8 * i + (7 - M) = p by omega]
          rw [hM] at HH
          have p200 : p < 200 := by omega
          have p200' : (p : Int) < 200 := by omega
          have i25' : (i : Int) < 25 := by omega
          have hc : w2.cell? ⟨w.heap.size + 1, i, none⟩ = some (V (laneTo g i M)) := by rw [cell_of_row _ _ _ _ _ _ HH.out.r2, A_get _ _ _ i25, refAt_self]
          have hzz := HH.out.z2 i
          obtain ⟨b', o', eb, _, hcell⟩ := (HS.out.below HH.out.bel).get p p200
          have ho : b' = b ∧ o' = o := by
            have := Option.some.inj eb
            injection this with e1 e2
            exact ⟨e1.symm, e2.symm⟩
          rw [ho.1, ho.2] at hcell
          clear ho eb
          have e1 : IntKind.i64.wrap (8 * (i : Int)) = 8 * (i : Int) := IntWalk.i64_in _ (by omega)
          have e2 : IntKind.i64.wrap (8 * (i : Int) + (k : Int)) = (p : Int) := (IntWalk.i64_in _ (by omega)).trans (by omega)
          have Hst := Lib.hid hst
          have Hsm := Lib.hid hsm
          clear hst hsm hp hM
          simp only [List.take_succ_cons, List.take_zero, List.drop_succ_cons, List.drop_zero]
          iterate 14 still_step
          refine wpStill_nil ?_
          clear e1 e2
          go_wp2_with fail
          go_roundw
          case rel =>
            refine ⟨k, by omega, by go_num, ?_⟩
            have h := HH.out.set2 i (V (laneTo g i (M + 1)))
            rw [A_set, refAt_step] at h
            rw [Hsm.out, ← Hst.out]
            exact h
          case measure => simp [intOf]
end Go.Proofs.YtjppmeihobcenaaDoor
