/-
  What the laws of number call: few, Words, is, the equality of bytes; numbers that live through calls.
-/
import Derived.Test.YtieoapcakdaelaaDoorBuR
import Derived.Test.YtieoapcakdaelaaDoorBuO
namespace Go.Proofs.YtieoapcakdaelaaDoor
open Go.RowKit

/-- Numbers, as words and as bytes, that live through calls: nothing that was there at first has turned. -/
structure Lv (W w : World) (lw lb : List (Option Addr × Nat × Nat × Nat)) : Prop where
  bel : Below W.heap.size W w
  sw : ∀ q ∈ lw, Sw w w.heap.size q.1 q.2.1 q.2.2.1 q.2.2.2
  sb : ∀ q ∈ lb, Sb w w.heap.size q.1 q.2.1 q.2.2.1 q.2.2.2
section
variable {W w w' : World} {lw lb : List (Option Addr × Nat × Nat × Nat)}
theorem Lv.start (W : World) : Lv W W [] [] := ⟨Below.refl _ _, (fun _ h => by cases h), fun _ h => by cases h⟩
theorem Lv.call (h : Lv W w lw lb) (hb : Below w.heap.size w w') : Lv W w' lw lb :=
  ⟨h.bel.trans (hb.mono h.bel.size), fun q hq => (h.sw q hq).call hb, fun q hq => (h.sb q hq).call hb⟩
theorem Lv.addW (h : Lv W w lw lb) {a : Option Addr} {n c x : Nat} (hs : Sw w w.heap.size a n c x) : Lv W w ((a, n, c, x) :: lw) lb :=
  ⟨h.bel, fun q hq => by
    rcases List.mem_cons.1 hq with rfl | hq
    · exact hs
    · exact h.sw q hq, h.sb⟩
theorem Lv.addB (h : Lv W w lw lb) {a : Option Addr} {n c x : Nat} (hs : Sb w w.heap.size a n c x) : Lv W w lw ((a, n, c, x) :: lb) :=
  ⟨h.bel, h.sw, fun q hq => by
    rcases List.mem_cons.1 hq with rfl | hq
    · exact hs
    · exact h.sb q hq⟩
theorem Lv.alloc (h : Lv W w lw lb) (o : Obj) : Lv W (w.alloc o) lw lb := h.call ((Below.refl _ _).alloc (Nat.le_refl _) o)
theorem Lv.gw (h : Lv W w lw lb) (i : Nat) {a : Option Addr} {n c x : Nat} (e : lw[i]? = some (a, n, c, x)) : Sw w w.heap.size a n c x := h.sw _ (List.mem_of_getElem? e)
theorem Lv.gb (h : Lv W w lw lb) (i : Nat) {a : Option Addr} {n c x : Nat} (e : lb[i]? = some (a, n, c, x)) : Sb w w.heap.size a n c x := h.sb _ (List.mem_of_getElem? e)
end
















theorem neq_V (a : BitVec 64) : (L a != L a) = false := by simp
set_option maxRecDepth 8000 in
set_option maxHeartbeats 800000 in
/-- Two slices of the same bytes are the same. -/
theorem same_any (a a' : Option Addr) (n c c' x : Nat) (w : World) (hn : n ≤ 100000) (h1 : Sb w w.heap.size a n c x) (h2 : Sb w w.heap.size a' n c' x) :
    Calls Tryd.prog 67 #[.slice a n c, .slice a' n c'] w fun e w' => e = .returned (.bool true) ∧ Below w.heap.size w w' := by
  have H1 := Lib.hid h1.sl
  have H2 := Lib.hid h2.sl
  clear h1 h2
  have hn' : (n : Int) ≤ 100000 := by omega
  go_enter Tryd.func67, Tryd.ntmps67
  go_wp2_with fail
  go_loopw [5] (fun v wr => ∃ i : Nat, i ≤ n ∧ v = .int .i64 i ∧ Below w.heap.size w wr) (fun v _ => n - (intOf v).toNat)
  case atStart => exact ⟨0, by omega, rfl, Below.refl _ _⟩
  case round =>
    obtain ⟨i, hi, rfl, HR⟩ := hrel
    by_cases hlt : i < n
    · have hid : decide ((i : Int) < (n : Int)) = true := by simp; omega
      obtain ⟨b, o, rfl, hbB, hcell⟩ := (H1.out.below HR).get i hlt
      obtain ⟨b', o', rfl, hbB', hcell'⟩ := (H2.out.below HR).get i hlt
      have HH := Lib.hid HR
      clear HR
      go_wp2_with fail
      refine wp_region_still_lit (by kernel_rfl) (by kernel_rfl) ?_
      have HD := Lib.hid (Below.drew HH.out)
      have hc : wr.drew.cell? ⟨b, o + i, none⟩ = some (U (bt x i)) := hcell
      have hc' : wr.drew.cell? ⟨b', o' + i, none⟩ = some (U (bt x i)) := hcell'
      clear HH hcell hcell'
      change wpStill _ _ wr.drew (fun a' => Exit.then _ _ Exit.normal a' wr.drew) _ _
      generalize wr.drew = w2 at *
      have hlt' : (i : Int) < (n : Int) := by omega
      iterate 9 still_step
      refine wpStill_nil ?_
      go_wp2_with fail
      go_roundw
      case rel => exact ⟨i + 1, by omega, by go_num, HD.out⟩
      case measure => simp [intOf]; omega
    · obtain rfl : i = n := by omega
      have HH := Lib.hid HR
      clear HR
      go_wp2_with fail
      go_ret
      exact ⟨rfl, HH.out⟩
set_option maxRecDepth 8000 in
set_option maxHeartbeats 800000 in
/-- Two numbers of the same words are the same. -/
theorem words_any (a a' : Option Addr) (n c c' x : Nat) (w : World) (hn : n ≤ 100000) (h1 : Sw w w.heap.size a n c x) (h2 : Sw w w.heap.size a' n c' x) :
    Calls Tryd.prog 47 #[.slice a n c, .slice a' n c'] w fun e w' => e = .returned (.bool true) ∧ Below w.heap.size w w' := by
  have H1 := Lib.hid h1
  have H2 := Lib.hid h2
  clear h1 h2
  have hn' : (n : Int) ≤ 100000 := by omega
  go_enter Tryd.func47, Tryd.ntmps47
  go_wp2_with fail
  go_loopw [5] (fun v wr => ∃ i : Nat, i ≤ n ∧ v = .int .i64 i ∧ Below w.heap.size w wr) (fun v _ => n - (intOf v).toNat)
  case atStart => exact ⟨0, by omega, rfl, Below.refl _ _⟩
  case round =>
    obtain ⟨i, hi, rfl, HR⟩ := hrel
    by_cases hlt : i < n
    · have hid : decide ((i : Int) < (n : Int)) = true := by simp; omega
      obtain ⟨b, o, rfl, hbB, hcell⟩ := (H1.out.below HR).get i hlt
      obtain ⟨b', o', rfl, hbB', hcell'⟩ := (H2.out.below HR).get i hlt
      have HH := Lib.hid HR
      clear HR
      go_wp2_with fail
      refine wp_region_still_lit (by kernel_rfl) (by kernel_rfl) ?_
      have HD := Lib.hid (Below.drew HH.out)
      have hc : wr.drew.cell? ⟨b, o + i, none⟩ = some (V (wd x i)) := hcell
      have hc' : wr.drew.cell? ⟨b', o' + i, none⟩ = some (V (wd x i)) := hcell'
      clear HH hcell hcell'
      change wpStill _ _ wr.drew (fun a' => Exit.then _ _ Exit.normal a' wr.drew) _ _
      generalize wr.drew = w2 at *
      have hlt' : (i : Int) < (n : Int) := by omega
      iterate 9 still_step
      refine wpStill_nil ?_
      go_wp2_with fail
      go_roundw
      case rel => exact ⟨i + 1, by omega, by go_num, HD.out⟩
      case measure => simp [intOf]; omega
    · obtain rfl : i = n := by omega
      have HH := Lib.hid HR
      clear HR
      go_wp2_with fail
      go_ret
      exact ⟨rfl, HH.out⟩













































end Go.Proofs.YtieoapcakdaelaaDoor
