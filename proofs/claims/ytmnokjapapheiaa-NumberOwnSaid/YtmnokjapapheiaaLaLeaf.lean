/-
  What the laws of number call: few, Words, is, the equality of bytes; numbers that live through calls.
-/
import Derived.Test.YtmnokjapapheiaaRfBytes
import Derived.Test.YtmnokjapapheiaaNuBytes
namespace Go.Proofs.Ytmnokjapapheiaa
open Go.RowKit

/-- Numbers, as words and as bytes, that live through calls: nothing that was there at first has turned. -/
structure Lv (W w : World) (lw lb : List (Option Addr × Nat × Nat × Nat)) : Prop where
  bel : Below W.heap.size W w
  sw : ∀ q ∈ lw, Sw w w.heap.size q.1 q.2.1 q.2.2.1 q.2.2.2
  sb : ∀ q ∈ lb, Sb w w.heap.size q.1 q.2.1 q.2.2.1 q.2.2.2
section
variable {W w w' : World} {lw lb : List (Option Addr × Nat × Nat × Nat)}
theorem Lv.start (W : World) : Lv W W [] [] := ⟨Below.refl _ _, (fun _ h => by cases h), fun _ h => by cases h⟩
theorem Lv.call (h : Lv W w lw lb) (hb : Below w.heap.size w w') : Lv W w' lw lb :=
  ⟨h.bel.trans (hb.mono h.bel.size), fun q hq => (h.sw q hq).call hb, fun q hq => (h.sb q hq).call hb⟩
theorem Lv.addW (h : Lv W w lw lb) {a : Option Addr} {n c x : Nat} (hs : Sw w w.heap.size a n c x) : Lv W w ((a, n, c, x) :: lw) lb :=
  ⟨h.bel, fun q hq => by
    rcases List.mem_cons.1 hq with rfl | hq
    · exact hs
    · exact h.sw q hq, h.sb⟩
theorem Lv.addB (h : Lv W w lw lb) {a : Option Addr} {n c x : Nat} (hs : Sb w w.heap.size a n c x) : Lv W w lw ((a, n, c, x) :: lb) :=
  ⟨h.bel, h.sw, fun q hq => by
    rcases List.mem_cons.1 hq with rfl | hq
    · exact hs
    · exact h.sb q hq⟩
theorem Lv.alloc (h : Lv W w lw lb) (o : Obj) : Lv W (w.alloc o) lw lb := h.call ((Below.refl _ _).alloc (Nat.le_refl _) o)
theorem Lv.gw (h : Lv W w lw lb) (i : Nat) {a : Option Addr} {n c x : Nat} (e : lw[i]? = some (a, n, c, x)) : Sw w w.heap.size a n c x := h.sw _ (List.mem_of_getElem? e)
theorem Lv.gb (h : Lv W w lw lb) (i : Nat) {a : Option Addr} {n c x : Nat} (e : lb[i]? = some (a, n, c, x)) : Sb w w.heap.size a n c x := h.sb _ (List.mem_of_getElem? e)
end

theorem few_yes (a : Option Addr) (n c : Nat) (w : World) (h : n ≤ 20) :
    Calls Try.prog 12 #[.slice a n c] w fun e w' => e = .returned (.bool true) ∧ w' = w := by
  have hd : decide ((n : Int) ≤ 20) = true := by simp; omega
  go_enter Try.func12, Try.ntmps12
  go_wp2
  go_ret
  exact ⟨rfl, rfl⟩
theorem few_no (a : Option Addr) (n c : Nat) (w : World) (h : ¬ n ≤ 20) :
    Calls Try.prog 12 #[.slice a n c] w fun e w' => e = .returned (.bool false) ∧ w' = w := by
  have hd : decide ((n : Int) ≤ 20) = false := by simp; omega
  go_enter Try.func12, Try.ntmps12
  go_wp2
  go_ret
  exact ⟨rfl, rfl⟩

theorem neq_V (a : BitVec 64) : (L a != L a) = false := by simp
set_option maxHeartbeats 800000 in
/-- Two slices of the same bytes are the same. -/
theorem same_any (a a' : Option Addr) (n c c' x : Nat) (w : World) (hn : n ≤ 100000) (h1 : Sb w w.heap.size a n c x) (h2 : Sb w w.heap.size a' n c' x) :
    Calls Try.prog 17 #[.slice a n c, .slice a' n c'] w fun e w' => e = .returned (.bool true) ∧ Below w.heap.size w w' := by
  have H1 := Lib.hid h1.sl
  have H2 := Lib.hid h2.sl
  clear h1 h2
  have hn' : (n : Int) ≤ 100000 := by omega
  go_enter Try.func17, Try.ntmps17
  go_wp2_with fail
  go_loopw [5] (fun v wr => ∃ i : Nat, i ≤ n ∧ v = .int .i64 i ∧ Below w.heap.size w wr) (fun v _ => n - (intOf v).toNat)
  case atStart => exact ⟨0, by omega, rfl, Below.refl _ _⟩
  case round =>
    obtain ⟨i, hi, rfl, HR⟩ := hrel
    by_cases hlt : i < n
    · have hid : decide ((i : Int) < (n : Int)) = true := by simp; omega
      obtain ⟨b, o, rfl, hbB, hcell⟩ := (H1.out.below HR).get i hlt
      obtain ⟨b', o', rfl, hbB', hcell'⟩ := (H2.out.below HR).get i hlt
      have HH := Lib.hid HR
      clear HR
      go_wp2_with fail
      refine wp_region_still_lit (by kernel_rfl) (by kernel_rfl) ?_
      have HD := Lib.hid (Below.drew HH.out)
      have hc : wr.drew.cell? ⟨b, o + i, none⟩ = some (U (bt x i)) := hcell
      have hc' : wr.drew.cell? ⟨b', o' + i, none⟩ = some (U (bt x i)) := hcell'
      clear HH hcell hcell'
      change wpStill _ _ wr.drew (fun a' => Exit.then _ _ Exit.normal a' wr.drew) _ _
      generalize wr.drew = w2 at *
      have hlt' : (i : Int) < (n : Int) := by omega
      iterate 9 still_step
      refine wpStill_nil ?_
      go_wp2_with fail
      go_roundw
      case rel => exact ⟨i + 1, by omega, by go_num, HD.out⟩
      case measure => simp [intOf]; omega
    · obtain rfl : i = n := by omega
      have HH := Lib.hid HR
      clear HR
      go_wp2_with fail
      go_ret
      exact ⟨rfl, HH.out⟩
set_option maxHeartbeats 800000 in
/-- Two numbers of the same words are the same. -/
theorem words_any (a a' : Option Addr) (n c c' x : Nat) (w : World) (hn : n ≤ 100000) (h1 : Sw w w.heap.size a n c x) (h2 : Sw w w.heap.size a' n c' x) :
    Calls Try.prog 35 #[.slice a n c, .slice a' n c'] w fun e w' => e = .returned (.bool true) ∧ Below w.heap.size w w' := by
  have H1 := Lib.hid h1
  have H2 := Lib.hid h2
  clear h1 h2
  have hn' : (n : Int) ≤ 100000 := by omega
  go_enter Try.func35, Try.ntmps35
  go_wp2_with fail
  go_loopw [5] (fun v wr => ∃ i : Nat, i ≤ n ∧ v = .int .i64 i ∧ Below w.heap.size w wr) (fun v _ => n - (intOf v).toNat)
  case atStart => exact ⟨0, by omega, rfl, Below.refl _ _⟩
  case round =>
    obtain ⟨i, hi, rfl, HR⟩ := hrel
    by_cases hlt : i < n
    · have hid : decide ((i : Int) < (n : Int)) = true := by simp; omega
      obtain ⟨b, o, rfl, hbB, hcell⟩ := (H1.out.below HR).get i hlt
      obtain ⟨b', o', rfl, hbB', hcell'⟩ := (H2.out.below HR).get i hlt
      have HH := Lib.hid HR
      clear HR
      go_wp2_with fail
      refine wp_region_still_lit (by kernel_rfl) (by kernel_rfl) ?_
      have HD := Lib.hid (Below.drew HH.out)
      have hc : wr.drew.cell? ⟨b, o + i, none⟩ = some (V (wd x i)) := hcell
      have hc' : wr.drew.cell? ⟨b', o' + i, none⟩ = some (V (wd x i)) := hcell'
      clear HH hcell hcell'
      change wpStill _ _ wr.drew (fun a' => Exit.then _ _ Exit.normal a' wr.drew) _ _
      generalize wr.drew = w2 at *
      have hlt' : (i : Int) < (n : Int) := by omega
      iterate 9 still_step
      refine wpStill_nil ?_
      go_wp2_with fail
      go_roundw
      case rel => exact ⟨i + 1, by omega, by go_num, HD.out⟩
      case measure => simp [intOf]; omega
    · obtain rfl : i = n := by omega
      have HH := Lib.hid HR
      clear HR
      go_wp2_with fail
      go_ret
      exact ⟨rfl, HH.out⟩
set_option maxHeartbeats 800000 in
/-- What is answered is the number of bytes, and has no word 0 at its end. -/
theorem is_any (a : Option Addr) (c x : Nat) (a' : Option Addr) (m c' : Nat) (w : World) (hd : dl 64 x ≤ 10000) (hm : m ≤ 100000) (h : Sw w w.heap.size a (dl 64 x) c x) (h' : Sb w w.heap.size a' m c' x) :
    Calls Try.prog 16 #[.slice a (dl 64 x) c, .slice a' m c'] w fun e w' => e = .returned (.bool true) ∧ Below w.heap.size w w' := by
  have L0 := Lib.hid (((Lv.start w).addW h).addB h')
  have hd8 : dl 8 x ≤ 100000 := Nat.le_trans ((dl_le 8 x (8 * dl 64 x) (by omega)).2 (by have := fits_dl 64 x (by omega); rwa [show 8 * (8 * dl 64 x) = 64 * dl 64 x by omega])) (by omega)
  have K := Lib.hid hd8
  have htop : 0 < dl 64 x → wd x (dl 64 x - 1) ≠ 0 := fun h0 hz => by
    have h1 := dl_low (b := 64) (x := x) (by omega) h0
    obtain ⟨j, hj⟩ : ∃ j, dl 64 x = j + 1 := ⟨dl 64 x - 1, by omega⟩
    have h2 := fits_dl 64 x (by omega)
    rw [hj] at h1 h2 hz
    rw [Nat.add_sub_cancel] at h1 hz
    have := (wd_top h2).1 hz
    omega
  have HT := Lib.hid htop
  generalize hn : dl 64 x = n at *
  clear hd8 htop h h' hn
  rcases Nat.eq_zero_or_pos n with h0 | h0
  · subst h0
    go_enter Try.func16, Try.ntmps16
    go_wp2_with (first
      | ((with_reducible refine (refBytes_any a 0 c x _ (by omega) (L0.out.gw 0 rfl)).mono ?_); rintro e w1 ⟨v, rfl, hv⟩; obtain ⟨a1, c1, rfl, S1, B1⟩ := hv; have L0 := Lib.hid ((L0.out.call B1).addB S1); clear S1 B1)
      | ((with_reducible refine (cut_any a' m c' x _ (by omega) (L0.out.gb 1 rfl)).mono ?_); rintro e w2 ⟨rfl, rfl⟩)
      | ((with_reducible refine (same_any a1 a' (dl 8 x) c1 c' x _ K.out (L0.out.gb 0 rfl) (L0.out.gb 1 rfl).cut).mono ?_); rintro e w3 ⟨rfl, B3⟩; have L0 := Lib.hid (L0.out.call B3); clear B3))
    go_ret
    exact ⟨rfl, L0.out.bel⟩
  · obtain ⟨j, rfl⟩ : ∃ j, n = j + 1 := ⟨n - 1, by omega⟩
    have hne : wd x j ≠ 0 := HT.out h0
    have hL := L_ne0 _ hne
    have hL2 : (L (wd x j) != 0) = true := by simp only [bne, hL]; rfl
    have hj1 : (j : Int) < (j : Int) + 1 := by omega
    have hj2 : (((j + 1 : Nat) : Int) == 0) = false := by simp; omega
    have hj3 : ((j : Int) + 1 == 0) = false := by simp; omega
    obtain ⟨b, o, rfl, _, _⟩ := (L0.out.gw 0 rfl).get j (by omega)
    have HN := Lib.hid hne
    clear hne h0
    go_enter Try.func16, Try.ntmps16
    go_wp2_with (first
      | ((with_reducible refine (refBytes_any (some ⟨b, o, none⟩) (j + 1) c x _ (by omega) (L0.out.gw 0 rfl)).mono ?_); rintro e w1 ⟨v, rfl, hv⟩; obtain ⟨a1, c1, rfl, S1, B1⟩ := hv; have L0 := Lib.hid ((L0.out.call B1).addB S1); clear S1 B1)
      | ((with_reducible refine (cut_any a' m c' x _ (by omega) (L0.out.gb 1 rfl)).mono ?_); rintro e w2 ⟨rfl, rfl⟩)
      | ((with_reducible refine (same_any a1 a' (dl 8 x) c1 c' x _ K.out (L0.out.gb 0 rfl) (L0.out.gb 1 rfl).cut).mono ?_); rintro e w3 ⟨rfl, B3⟩; have L0 := Lib.hid (L0.out.call B3); clear B3; obtain ⟨b4, o4, e4, _, hcell⟩ := (L0.out.gw 0 rfl).get j (by omega); cases e4))
    go_ret
    exact ⟨rfl, L0.out.bel⟩
end Go.Proofs.Ytmnokjapapheiaa
