/-
  The walk of ShakeNil.
-/
import Derived.Test.YtjppmeihobcenaaDoorShAwake
import Derived.Test.YtjppmeihobcenaaDoorShSame
namespace Go.Proofs.YtjppmeihobcenaaDoor
open Go.RowKit

set_option maxHeartbeats 800000 in
theorem reset_nil (w : World) : Calls Tryd.prog 17 #[.pointer none] w fun e w' => e = .returned (.tuple #[]) ∧ w' = w := by
  go_enter Tryd.func17, Tryd.ntmps17
  go_wp2_with fail
  exact bodyPost_end (results_none Tryd.results17 _ _ _) rfl ⟨rfl, rfl⟩
set_option maxHeartbeats 800000 in
theorem clone_nil (w : World) : Calls Tryd.prog 18 #[.pointer none] w fun e w' => e = .returned (.pointer none) ∧ w' = w := by
  go_enter Tryd.func18, Tryd.ntmps18
  go_wp2_with fail
  go_ret
  exact ⟨rfl, rfl⟩
set_option maxHeartbeats 800000 in
theorem nil_far (a : Option Addr) (L c : Nat) (n : Int) (w : World) (hT : Tabs w) (h : 400 < L ∨ (400 < n ∧ n ≤ 65536)) :
    Calls Tryd.prog 6 #[.slice a L c, .int .i64 n] w fun e w' => e = .returned (.bool true) ∧ Below w.heap.size w w' := by
  have HT := Lib.hid hT
  clear hT
  by_cases h0 : 400 < L
  · have hd : decide ((400 : Int) < (L : Int)) = true := by simp; omega
    clear h
    go_enter Tryd.func6, Tryd.ntmps6
    go_wp2_with fail
    refine (awake_any _ HT.out).mono ?_
    rintro e w1 ⟨rfl, hb⟩
    go_wp2_with fail
    go_ret
    exact ⟨rfl, hb⟩
  · have hd : decide ((400 : Int) < (L : Int)) = false := by simp; omega
    have hd1 : decide ((400 : Int) < n) = true := by simp; omega
    have hd2 : decide (n ≤ (65536 : Int)) = true := by simp; omega
    clear h
    go_enter Tryd.func6, Tryd.ntmps6
    go_wp2_with fail
    refine (awake_any _ HT.out).mono ?_
    rintro e w1 ⟨rfl, hb⟩
    go_wp2_with fail
    go_ret
    exact ⟨rfl, hb⟩
set_option maxHeartbeats 1600000 in
theorem nil_near (a : Option Addr) (L c : Nat) (f : Nat → BitVec 8) (n : Nat) (w : World) (hT : Tabs w) (hL : L ≤ 400) (hn : n ≤ 400) (hS : Sl w w.heap.size a L c f) :
    Calls Tryd.prog 6 #[.slice a L c, .int .i64 n] w fun e w' => e = .returned (.bool true) ∧ Below w.heap.size w w' := by
  have hz := hT.size
  have HT := Lib.hid hT
  have hd : decide ((400 : Int) < (L : Int)) = false := by simp; omega
  have hd1 : decide ((400 : Int) < (n : Int)) = false := by simp; omega
  have HS0 := Lib.hid hS
  clear hT hS
  go_enter Tryd.func6, Tryd.ntmps6
  go_wp2_with fail
  refine (reset_nil w).mono ?_
  rintro e w1 ⟨rfl, rfl⟩
  go_wp2_with fail
  refine (read_nil _ _).mono ?_
  rintro e w1 ⟨rfl, rfl⟩
  go_wp2_with fail
  refine (new_any _).mono ?_
  rintro e w1 ⟨rfl, rfl⟩
  have B1 := Lib.hid ((Below.refl _ _).alloc (Nat.le_refl _) (.cells (HB zeroH) 57) : Below w1.heap.size w1 _)
  have L1 := Lib.hid (Lies.new w1 zeroH)
  have Z1 := Lib.hid (show (w1.alloc (.cells (HB zeroH) 57)).heap.size = w1.heap.size + 1 by simp)
  generalize w1.alloc (.cells (HB zeroH) 57) = W at B1 L1 Z1 ⊢
  have T1 := Lib.hid (HT.out.below B1.out)
  have S1 := Lib.hid ((Sg.of_sl HS0.out (Nat.le_refl _) (Nat.le_refl _)).below B1.out)
  go_wp2_with fail
  refine (write_nil _ _ _ _).mono ?_
  rintro e w2 ⟨rfl, rfl⟩
  go_wp2_with fail
  refine (clone_nil _).mono ?_
  rintro e w3 ⟨rfl, rfl⟩
  go_wp2_with fail
  have hX : (takeN zeroH f L).k < 136 := takeN_k _ _ (by decide) _
  have hX2 : (takeN zeroH f L).tl = false := takeN_tl _ _ _
  obtain ⟨X, hXd⟩ : ∃ X, takeN zeroH f L = X := ⟨_, rfl⟩
  have HX := Lib.hid hXd
  rw [hXd] at hX hX2
  clear hXd
  refine (write_any w1.heap.size zeroH a L c f w3 T1.out hz L1.out (by decide) rfl S1.out).mono ?_
  rintro e w4 ⟨rfl, h4⟩
  have H4 := Lib.hid (h4.eq HX.out)
  clear h4
  go_wp2_with fail
  refine (read_any w1.heap.size X 7 w4 (H4.out.tabs hz T1.out) hz H4.out.row (by omega) (fun _ => hX) (by omega)).mono ?_
  rintro e w5 ⟨v, rfl, b5, rfl, hb5, hr5, h5⟩
  have H5 := Lib.hid (H4.out.trans h5)
  clear h5 hr5 hb5 H4
  go_wp2_with fail
  refine (reset_any w1.heap.size _ w5 H5.out.row).mono ?_
  rintro e w6 ⟨rfl, hw6⟩
  have h6 := H5.out.set zeroH
  rw [← hw6] at h6
  have H6 := Lib.hid h6
  clear h6 hw6 H5
  go_wp2_with fail
  refine (write_any w1.heap.size zeroH a L c f w6 (H6.out.tabs hz T1.out) hz H6.out.row (by decide) rfl (S1.out.hs H6.out)).mono ?_
  rintro e w7 ⟨rfl, h7⟩
  have H7 := Lib.hid (H6.out.trans (h7.eq HX.out))
  clear h7 H6
  go_wp2_with fail
  refine (read_any w1.heap.size X n w7 (H7.out.tabs hz T1.out) hz H7.out.row (by omega) (fun _ => hX) (by omega)).mono ?_
  rintro e w8 ⟨v, rfl, b8, rfl, hb8, hr8, h8⟩
  have H8 := Lib.hid (H7.out.trans h8)
  have R8 := Lib.hid hr8
  clear h8 hr8 H7
  have S9 := Lib.hid (S1.out.hs H8.out)
  have Q9 := Lib.hid (row1 w8 (.cells #[.slice a L c] 25))
  have A9 := Lib.hid ((Below.refl w8.heap.size w8).alloc (Nat.le_refl _) (.cells #[.slice a L c] 25))
  have Z9 := Lib.hid (show (w8.alloc (.cells #[.slice a L c] 25)).heap.size = w8.heap.size + 1 by simp)
  go_wp2_with fail
  generalize w8.alloc (.cells #[.slice a L c] 25) = W9 at Q9 A9 Z9 ⊢
  have T9 := Lib.hid ((H8.out.tabs hz T1.out).below A9.out)
  have P9 := Lib.hid (Pc.one (g := W9.heap.size) (q := ⟨a, L, c, f⟩) Q9.out (by have := Z9.out; omega) (Nat.le_refl 1) (Sg.of_sl (S9.out.sl.below A9.out) (by have := Z9.out; omega) (by have := Z9.out; omega)))
  refine (sum_any (some ⟨w8.heap.size, 0, none⟩) 1 1 (fun _ => ⟨a, L, c, f⟩) n W9 T9.out P9.out (by omega) (by omega)).mono ?_
  rintro e w10 ⟨v, rfl, b10, rfl, hb10, hr10, h10⟩
  have R10 := Lib.hid (hr10.congr (f' := tellB X.opened) fun i _ => by show tellB (takeN zeroH f L).opened i = _; rw [HX.out])
  have R8' := Lib.hid ((R8.out.below A9.out).below h10)
  have B10 := Lib.hid ((B1.out.trans (H8.out.below (Nat.le_refl _) (by have := Z1.out; omega))).trans ((A9.out.trans (h10.mono (by have := Z9.out; omega))).mono (by have := B1.out.size; have := H8.out.size; omega)))
  have T10 := Lib.hid (T9.out.below h10)
  clear hr10 h10 hb10 R8 Q9 A9 Z9 T9 P9 S9 H8 hb8
  go_wp2_with fail
  refine (same_any (some ⟨b8, 0, none⟩) (some ⟨b10, 0, none⟩) n n n _ _ w10 (by omega) R8'.out.sl R10.out.sl (fun _ _ => rfl)).mono ?_
  rintro e w11 ⟨rfl, h11⟩
  have B11 := Lib.hid (B10.out.trans (h11.mono B10.out.size))
  have T11 := Lib.hid (T10.out.below h11)
  clear h11 R8' R10 B10 T10
  go_wp2_with fail
  refine (awake_any _ T11.out).mono ?_
  rintro e w12 ⟨rfl, h12⟩
  have B12 := Lib.hid (B11.out.trans (h12.mono B11.out.size))
  clear h12
  go_wp2_with fail
  go_ret
  exact ⟨rfl, B12.out⟩
set_option maxHeartbeats 1600000 in
theorem nil_wrong (a : Option Addr) (L c : Nat) (f : Nat → BitVec 8) (n : Int) (w : World) (hT : Tabs w) (hL : L ≤ 400) (hn : n < 0 ∨ 65536 < n) (hS : Sl w w.heap.size a L c f) :
    Calls Tryd.prog 6 #[.slice a L c, .int .i64 n] w fun e w' => e = .returned (.bool true) ∧ Below w.heap.size w w' := by
  have hz := hT.size
  have HT := Lib.hid hT
  have hd : decide ((400 : Int) < (L : Int)) = false := by simp; omega
  have HN := Lib.hid hn
  clear hn
  have HS0 := Lib.hid hS
  clear hT hS
  by_cases h4 : 400 < n
  · have hd1 : decide ((400 : Int) < n) = true := by simp; omega
    have hd2 : decide (n ≤ (65536 : Int)) = false := by have := HN.out; simp; omega
    go_enter Tryd.func6, Tryd.ntmps6
    go_wp2_with fail
    refine (reset_nil w).mono ?_
    rintro e w1 ⟨rfl, rfl⟩
    go_wp2_with fail
    refine (read_nil _ _).mono ?_
    rintro e w1 ⟨rfl, rfl⟩
    go_wp2_with fail
    refine (new_any _).mono ?_
    rintro e w1 ⟨rfl, rfl⟩
    have B1 := Lib.hid ((Below.refl _ _).alloc (Nat.le_refl _) (.cells (HB zeroH) 57) : Below w1.heap.size w1 _)
    have L1 := Lib.hid (Lies.new w1 zeroH)
    have Z1 := Lib.hid (show (w1.alloc (.cells (HB zeroH) 57)).heap.size = w1.heap.size + 1 by simp)
    generalize w1.alloc (.cells (HB zeroH) 57) = W at B1 L1 Z1 ⊢
    have T1 := Lib.hid (HT.out.below B1.out)
    have S1 := Lib.hid ((Sg.of_sl HS0.out (Nat.le_refl _) (Nat.le_refl _)).below B1.out)
    go_wp2_with fail
    refine (write_nil _ _ _ _).mono ?_
    rintro e w2 ⟨rfl, rfl⟩
    go_wp2_with fail
    refine (clone_nil _).mono ?_
    rintro e w3 ⟨rfl, rfl⟩
    go_wp2_with fail
    have hX : (takeN zeroH f L).k < 136 := takeN_k _ _ (by decide) _
    have hX2 : (takeN zeroH f L).tl = false := takeN_tl _ _ _
    obtain ⟨X, hXd⟩ : ∃ X, takeN zeroH f L = X := ⟨_, rfl⟩
    have HX := Lib.hid hXd
    rw [hXd] at hX hX2
    clear hXd
    refine (write_any w1.heap.size zeroH a L c f w3 T1.out hz L1.out (by decide) rfl S1.out).mono ?_
    rintro e w4 ⟨rfl, h4⟩
    have H4 := Lib.hid (h4.eq HX.out)
    clear h4
    go_wp2_with fail
    refine (read_any w1.heap.size X 7 w4 (H4.out.tabs hz T1.out) hz H4.out.row (by omega) (fun _ => hX) (by omega)).mono ?_
    rintro e w5 ⟨v, rfl, b5, rfl, hb5, hr5, h5⟩
    have H5 := Lib.hid (H4.out.trans h5)
    clear h5 hr5 hb5 H4
    go_wp2_with fail
    refine (reset_any w1.heap.size _ w5 H5.out.row).mono ?_
    rintro e w6 ⟨rfl, hw6⟩
    have h6 := H5.out.set zeroH
    rw [← hw6] at h6
    have H6 := Lib.hid h6
    clear h6 hw6 H5
    go_wp2_with fail
    refine (write_any w1.heap.size zeroH a L c f w6 (H6.out.tabs hz T1.out) hz H6.out.row (by decide) rfl (S1.out.hs H6.out)).mono ?_
    rintro e w7 ⟨rfl, h7⟩
    have H7 := Lib.hid (H6.out.trans (h7.eq HX.out))
    clear h7 H6
    go_wp2_with fail
    refine (read_far _ n w7 HN.out).mono ?_
    rintro e w8 ⟨rfl, hw8⟩
    have H8 := Lib.hid (show Hs w3 w1.heap.size w8 X from hw8 ▸ H7.out)
    clear hw8 H7
    have S9 := Lib.hid (S1.out.hs H8.out)
    have Q9 := Lib.hid (row1 w8 (.cells #[.slice a L c] 25))
    have A9 := Lib.hid ((Below.refl w8.heap.size w8).alloc (Nat.le_refl _) (.cells #[.slice a L c] 25))
    have Z9 := Lib.hid (show (w8.alloc (.cells #[.slice a L c] 25)).heap.size = w8.heap.size + 1 by simp)
    go_wp2_with fail
    generalize w8.alloc (.cells #[.slice a L c] 25) = W9 at Q9 A9 Z9 ⊢
    refine (sum_far _ n W9 HN.out).mono ?_
    rintro e w10 ⟨rfl, hw10⟩
    rw [hw10]
    clear hw10
    have T10 := Lib.hid ((H8.out.tabs hz T1.out).below A9.out)
    have B10 := Lib.hid ((B1.out.trans (H8.out.below (Nat.le_refl _) (by have := Z1.out; omega))).trans (A9.out.mono (by have := B1.out.size; have := H8.out.size; omega)))
    clear Q9 A9 Z9 S9 H8
    go_wp2_with fail
    refine (same_any none none 0 0 0 (fun _ => 0) (fun _ => 0) W9 (by omega) ⟨Nat.le_refl _, fun _ => rfl, (fun _ e => by cases e)⟩ ⟨Nat.le_refl _, fun _ => rfl, (fun _ e => by cases e)⟩ (fun _ _ => rfl)).mono ?_
    rintro e w11 ⟨rfl, h11⟩
    have B11 := Lib.hid (B10.out.trans (h11.mono B10.out.size))
    have T11 := Lib.hid (T10.out.below h11)
    clear h11 B10 T10
    go_wp2_with fail
    refine (awake_any _ T11.out).mono ?_
    rintro e w12 ⟨rfl, h12⟩
    have B12 := Lib.hid (B11.out.trans (h12.mono B11.out.size))
    clear h12
    go_wp2_with fail
    go_ret
    exact ⟨rfl, B12.out⟩
  · have hd1 : decide ((400 : Int) < n) = false := by simp; omega
    go_enter Tryd.func6, Tryd.ntmps6
    go_wp2_with fail
    refine (reset_nil w).mono ?_
    rintro e w1 ⟨rfl, rfl⟩
    go_wp2_with fail
    refine (read_nil _ _).mono ?_
    rintro e w1 ⟨rfl, rfl⟩
    go_wp2_with fail
    refine (new_any _).mono ?_
    rintro e w1 ⟨rfl, rfl⟩
    have B1 := Lib.hid ((Below.refl _ _).alloc (Nat.le_refl _) (.cells (HB zeroH) 57) : Below w1.heap.size w1 _)
    have L1 := Lib.hid (Lies.new w1 zeroH)
    have Z1 := Lib.hid (show (w1.alloc (.cells (HB zeroH) 57)).heap.size = w1.heap.size + 1 by simp)
    generalize w1.alloc (.cells (HB zeroH) 57) = W at B1 L1 Z1 ⊢
    have T1 := Lib.hid (HT.out.below B1.out)
    have S1 := Lib.hid ((Sg.of_sl HS0.out (Nat.le_refl _) (Nat.le_refl _)).below B1.out)
    go_wp2_with fail
    refine (write_nil _ _ _ _).mono ?_
    rintro e w2 ⟨rfl, rfl⟩
    go_wp2_with fail
    refine (clone_nil _).mono ?_
    rintro e w3 ⟨rfl, rfl⟩
    go_wp2_with fail
    have hX : (takeN zeroH f L).k < 136 := takeN_k _ _ (by decide) _
    have hX2 : (takeN zeroH f L).tl = false := takeN_tl _ _ _
    obtain ⟨X, hXd⟩ : ∃ X, takeN zeroH f L = X := ⟨_, rfl⟩
    have HX := Lib.hid hXd
    rw [hXd] at hX hX2
    clear hXd
    refine (write_any w1.heap.size zeroH a L c f w3 T1.out hz L1.out (by decide) rfl S1.out).mono ?_
    rintro e w4 ⟨rfl, h4⟩
    have H4 := Lib.hid (h4.eq HX.out)
    clear h4
    go_wp2_with fail
    refine (read_any w1.heap.size X 7 w4 (H4.out.tabs hz T1.out) hz H4.out.row (by omega) (fun _ => hX) (by omega)).mono ?_
    rintro e w5 ⟨v, rfl, b5, rfl, hb5, hr5, h5⟩
    have H5 := Lib.hid (H4.out.trans h5)
    clear h5 hr5 hb5 H4
    go_wp2_with fail
    refine (reset_any w1.heap.size _ w5 H5.out.row).mono ?_
    rintro e w6 ⟨rfl, hw6⟩
    have h6 := H5.out.set zeroH
    rw [← hw6] at h6
    have H6 := Lib.hid h6
    clear h6 hw6 H5
    go_wp2_with fail
    refine (write_any w1.heap.size zeroH a L c f w6 (H6.out.tabs hz T1.out) hz H6.out.row (by decide) rfl (S1.out.hs H6.out)).mono ?_
    rintro e w7 ⟨rfl, h7⟩
    have H7 := Lib.hid (H6.out.trans (h7.eq HX.out))
    clear h7 H6
    go_wp2_with fail
    refine (read_far _ n w7 HN.out).mono ?_
    rintro e w8 ⟨rfl, hw8⟩
    have H8 := Lib.hid (show Hs w3 w1.heap.size w8 X from hw8 ▸ H7.out)
    clear hw8 H7
    have S9 := Lib.hid (S1.out.hs H8.out)
    have Q9 := Lib.hid (row1 w8 (.cells #[.slice a L c] 25))
    have A9 := Lib.hid ((Below.refl w8.heap.size w8).alloc (Nat.le_refl _) (.cells #[.slice a L c] 25))
    have Z9 := Lib.hid (show (w8.alloc (.cells #[.slice a L c] 25)).heap.size = w8.heap.size + 1 by simp)
    go_wp2_with fail
    generalize w8.alloc (.cells #[.slice a L c] 25) = W9 at Q9 A9 Z9 ⊢
    refine (sum_far _ n W9 HN.out).mono ?_
    rintro e w10 ⟨rfl, hw10⟩
    rw [hw10]
    clear hw10
    have T10 := Lib.hid ((H8.out.tabs hz T1.out).below A9.out)
    have B10 := Lib.hid ((B1.out.trans (H8.out.below (Nat.le_refl _) (by have := Z1.out; omega))).trans (A9.out.mono (by have := B1.out.size; have := H8.out.size; omega)))
    clear Q9 A9 Z9 S9 H8
    go_wp2_with fail
    refine (same_any none none 0 0 0 (fun _ => 0) (fun _ => 0) W9 (by omega) ⟨Nat.le_refl _, fun _ => rfl, (fun _ e => by cases e)⟩ ⟨Nat.le_refl _, fun _ => rfl, (fun _ e => by cases e)⟩ (fun _ _ => rfl)).mono ?_
    rintro e w11 ⟨rfl, h11⟩
    have B11 := Lib.hid (B10.out.trans (h11.mono B10.out.size))
    have T11 := Lib.hid (T10.out.below h11)
    clear h11 B10 T10
    go_wp2_with fail
    refine (awake_any _ T11.out).mono ?_
    rintro e w12 ⟨rfl, h12⟩
    have B12 := Lib.hid (B11.out.trans (h12.mono B11.out.size))
    clear h12
    go_wp2_with fail
    go_ret
    exact ⟨rfl, B12.out⟩
end Go.Proofs.YtjppmeihobcenaaDoor
