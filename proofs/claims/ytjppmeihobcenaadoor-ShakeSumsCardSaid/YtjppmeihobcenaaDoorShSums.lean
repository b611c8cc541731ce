/-
  The walk of ShakeSums.
-/
import Derived.Test.YtjppmeihobcenaaDoorShRefSum
import Derived.Test.YtjppmeihobcenaaDoorShAwake
import Derived.Test.YtjppmeihobcenaaDoorShSame
namespace Go.Proofs.YtjppmeihobcenaaDoor
open Go.RowKit

def fewP (n : Nat) (p : Nat → Piece) : Prop := n ≤ 12 ∧ ∀ i, i < n → (p i).n ≤ 400

set_option maxHeartbeats 800000 in
theorem sums_far (a : Option Addr) (n c : Nat) (p : Nat → Piece) (m : Int) (w : World) (hT : Tabs w) (hp : Pc w w.heap.size a n c p) (hn : n ≤ maxLen) (h : ¬ fewP n p ∨ (1000 < m ∧ m ≤ 65536)) :
    Calls Tryd.prog 3 #[.slice a n c, .int .i64 m] w fun e w' => e = .returned (.bool true) ∧ Below w.heap.size w w' := by
  have HT := Lib.hid hT
  have HP := Lib.hid hp
  have HN := Lib.hid hn
  have HF := Lib.hid h
  clear hT hp h hn
  go_enter Tryd.func3, Tryd.ntmps3
  go_wp2_with fail
  refine (few_any a n c p w HP.out HN.out).mono ?_
  rintro e w1 ⟨r, rfl, rfl, hr⟩
  have HRR := Lib.hid hr
  clear hr
  cases r with
  | false =>
    go_wp2_with fail
    refine (awake_any _ HT.out).mono ?_
    rintro e w2 ⟨rfl, hb⟩
    go_wp2_with fail
    go_ret
    exact ⟨rfl, hb⟩
  | true =>
    have h12 : 1000 < m ∧ m ≤ 65536 := by
      rcases HF.out with h1 | h1
      · exact absurd (HRR.out.1 rfl) h1
      · exact h1
    have hd : decide ((1000 : Int) < m) = true := by simp; omega
    have hd2 : decide (m ≤ (65536 : Int)) = true := by simp; omega
    obtain ⟨hm1, hm2⟩ := h12
    go_wp2_with fail
    refine (awake_any _ HT.out).mono ?_
    rintro e w2 ⟨rfl, hb⟩
    go_wp2_with fail
    go_ret
    exact ⟨rfl, hb⟩
set_option maxHeartbeats 800000 in
theorem sums_wrong (a : Option Addr) (n c : Nat) (p : Nat → Piece) (m : Int) (w : World) (hT : Tabs w) (hp : Pc w w.heap.size a n c p) (hf : fewP n p) (hm : m < 0 ∨ 65536 < m) :
    Calls Tryd.prog 3 #[.slice a n c, .int .i64 m] w fun e w' => e = .returned (.bool true) ∧ Below w.heap.size w w' := by
  have HT := Lib.hid hT
  have HP := Lib.hid hp
  have HN := Lib.hid (show n ≤ maxLen by have := hf.1; unfold maxLen; omega)
  have HF := Lib.hid hf
  have HM := Lib.hid hm
  clear hT hp hf
  by_cases h0 : m < 0
  · clear hm
    have hd0 : decide (m < 0) = true := by simp; omega
    have hd : decide ((1000 : Int) < m) = false := by simp; omega
    go_enter Tryd.func3, Tryd.ntmps3
    go_wp2_with fail
    refine (few_any a n c p w HP.out HN.out).mono ?_
    rintro e w1 ⟨r, rfl, hw1, hr⟩
    obtain rfl : r = true := hr.2 HF.out
    rw [hw1]
    clear hr hw1
    go_wp2_with fail
    refine (sum_far _ m w HM.out).mono ?_
    rintro e w2 ⟨rfl, hw2⟩
    rw [hw2]
    clear hw2
    go_wp2_with fail
    refine (awake_any _ HT.out).mono ?_
    rintro e w2 ⟨rfl, hb⟩
    go_wp2_with fail
    go_ret
    exact ⟨rfl, hb⟩
  · have h1 : 65536 < m := by omega
    clear hm
    have hd0 : decide (m < 0) = false := by simp; omega
    have hd : decide ((1000 : Int) < m) = true := by simp; omega
    have hd2 : decide (m ≤ (65536 : Int)) = false := by simp; omega
    have hd3 : decide ((65536 : Int) < m) = true := by simp; omega
    go_enter Tryd.func3, Tryd.ntmps3
    go_wp2_with fail
    refine (few_any a n c p w HP.out HN.out).mono ?_
    rintro e w1 ⟨r, rfl, hw1, hr⟩
    obtain rfl : r = true := hr.2 HF.out
    rw [hw1]
    clear hr hw1
    go_wp2_with fail
    refine (sum_far _ m w HM.out).mono ?_
    rintro e w2 ⟨rfl, hw2⟩
    rw [hw2]
    clear hw2
    go_wp2_with fail
    refine (awake_any _ HT.out).mono ?_
    rintro e w2 ⟨rfl, hb⟩
    go_wp2_with fail
    go_ret
    exact ⟨rfl, hb⟩
set_option maxHeartbeats 800000 in
theorem sums_near (a : Option Addr) (n c : Nat) (p : Nat → Piece) (m : Nat) (w : World) (hT : Tabs w) (hp : Pc w w.heap.size a n c p) (hf : fewP n p) (hm : m ≤ 1000) :
    Calls Tryd.prog 3 #[.slice a n c, .int .i64 m] w fun e w' => e = .returned (.bool true) ∧ Below w.heap.size w w' := by
  have HT := Lib.hid hT
  have HP := Lib.hid hp
  have HN := Lib.hid (show n ≤ maxLen by have := hf.1; unfold maxLen; omega)
  have hn := hf.1
  have hall : allN p n ≤ 20000 := Nat.le_trans (allN_le p 400 n hf.2) (by omega)
  have HF := Lib.hid hf
  clear hT hp hf
  have hd0 : decide ((m : Int) < 0) = false := by simp
  have hd : decide ((1000 : Int) < (m : Int)) = false := by simp; omega
  have hd3 : decide ((65536 : Int) < (m : Int)) = false := by simp; omega
  go_enter Tryd.func3, Tryd.ntmps3
  go_wp2_with fail
  refine (few_any a n c p w HP.out HN.out).mono ?_
  rintro e w1 ⟨r, rfl, hw1, hr⟩
  obtain rfl : r = true := hr.2 HF.out
  rw [hw1]
  clear hr hw1
  go_wp2_with fail
  refine (sum_any a n c p m w HT.out HP.out (by omega) (by omega)).mono ?_
  rintro e w2 ⟨v, rfl, b, rfl, hb, hrow, hbel⟩
  have R2 := Lib.hid hrow
  have B2 := Lib.hid hbel
  clear hrow hbel
  go_wp2_with fail
  refine (refSum_any a n c p m w2 (HP.out.move B2.out w2.heap.size B2.out.size) hn hall (by omega)).mono ?_
  rintro e w3 ⟨v, rfl, hown, hb3⟩
  obtain ⟨a3, c3, rfl, hs3, _⟩ := hown.any
  have R3 := Lib.hid (R2.out.below hb3)
  have S3 := Lib.hid hs3
  have B3 := Lib.hid (B2.out.trans (hb3.mono B2.out.size))
  clear hown hb3 hs3 R2 B2
  go_wp2_with fail
  refine (same_any (some ⟨b, 0, none⟩) a3 m m c3 _ _ w3 (by omega) R3.out.sl S3.out (fun _ _ => rfl)).mono ?_
  rintro e w4 ⟨rfl, hb4⟩
  have B4 := Lib.hid (B3.out.trans (hb4.mono B3.out.size))
  clear hb4 R3 S3 B3
  go_wp2_with fail
  refine (awake_any _ (HT.out.below B4.out)).mono ?_
  rintro e w5 ⟨rfl, hb5⟩
  have B5 := Lib.hid (B4.out.trans (hb5.mono B4.out.size))
  clear hb5
  go_wp2_with fail
  go_ret
  exact ⟨rfl, B5.out⟩
end Go.Proofs.YtjppmeihobcenaaDoor
