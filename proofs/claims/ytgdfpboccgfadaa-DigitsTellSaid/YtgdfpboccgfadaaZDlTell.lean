/-
  The walk of DigitsTell. No statement is proved here: lemmas for the card.
-/
import Derived.Test.YtgdfpboccgfadaaZDlNaf
import Derived.Test.YtgdfpboccgfadaaZDrColumns
import Derived.Test.YtgdfpboccgfadaaZDrSigned
import Derived.Test.YtgdfpboccgfadaaZDrNaf
namespace Go.Proofs.Ytgdfpboccgfadaa
open Go.RowKit

theorem refPlain_z (a : Option Addr) (n c x k m : Nat) (z : Int) (w : World) (hz : z = (k : Int)) (hn : n ≤ 64) (hk : 1 ≤ k) (hk8 : k ≤ 8) (hm : (8 * n + k - 1) / k = m) (hs : Sb w w.heap.size a n c x) :
    Calls Try.prog 15 #[.slice a n c, .int .i64 z] w fun e w' => ∃ b d, e = .returned (.slice b m d) ∧ SlZ w' w'.heap.size b m d (fun i => ((pl x k i : Nat) : Int)) ∧ Below w.heap.size w w' := by
  subst hz
  refine (refPlain_v a n c x k m w hn hk hk8 hm hs).mono ?_
  rintro e w' ⟨v, rfl, hO, hb⟩
  obtain ⟨b, d, rfl, hsl⟩ := hO.sl
  exact ⟨b, d, rfl, hsl, hb⟩
theorem refColumns_z (a : Option Addr) (n c x k m : Nat) (z : Int) (w : World) (hz : z = (k : Int)) (hn : n ≤ 64) (hk : 1 ≤ k) (hk8 : k ≤ 8) (hm : (8 * n + k - 1) / k = m) (hs : Sb w w.heap.size a n c x) :
    Calls Try.prog 16 #[.slice a n c, .int .i64 z] w fun e w' => ∃ b d, e = .returned (.slice b m d) ∧ SlZ w' w'.heap.size b m d (fun i => ((tog x i m k : Nat) : Int)) ∧ Below w.heap.size w w' := by
  subst hz
  refine (refColumns_v a n c x k m w hn hk hk8 hm hs).mono ?_
  rintro e w' ⟨v, rfl, hO, hb⟩
  obtain ⟨b, d, rfl, hsl⟩ := hO.sl
  exact ⟨b, d, rfl, hsl, hb⟩
theorem refSigned_z (a : Option Addr) (n c x k m m1 : Nat) (z : Int) (w : World) (hz : z = (k : Int)) (hn : n ≤ 64) (hk : 2 ≤ k) (hk8 : k ≤ 8) (hm : (8 * n + k - 1) / k = m) (hm1 : m + 1 = m1) (hs : Sb w w.heap.size a n c x) :
    Calls Try.prog 17 #[.slice a n c, .int .i64 z] w fun e w' => ∃ b d, e = .returned (.slice b m1 d) ∧ SlZ w' w'.heap.size b m1 d (sdg x k) ∧ Below w.heap.size w w' := by
  subst hz hm1
  refine (refSigned_v a n c x k m w hn hk hk8 hm hs.fits hs).mono ?_
  rintro e w' ⟨v, rfl, hO, hb⟩
  obtain ⟨b, d, rfl, hsl⟩ := hO.sl
  exact ⟨b, d, rfl, hsl, hb⟩
theorem refNaf_z (a : Option Addr) (n c x k m : Nat) (z : Int) (w : World) (hz : z = (k : Int)) (hn : n ≤ 64) (hk : 2 ≤ k) (hk8 : k ≤ 8) (hm : 8 * n + 1 = m) (hs : Sb w w.heap.size a n c x) :
    Calls Try.prog 18 #[.slice a n c, .int .i64 z] w fun e w' => ∃ b d, e = .returned (.slice b m d) ∧ SlZ w' w'.heap.size b m d (ndg x k) ∧ Below w.heap.size w w' := by
  subst hz hm
  refine (refNaf_v a n c x k w hn hk hk8 hs).mono ?_
  rintro e w' ⟨v, rfl, hO, hb⟩
  obtain ⟨b, d, rfl, hsl⟩ := hO.sl
  exact ⟨b, d, rfl, hsl, hb⟩
theorem ask_ok {n : Nat} {k least : Int} (hn : n ≤ 64) (h1 : least ≤ k) (h2 : k ≤ 8) : ask n k least = 0 := by unfold ask; rw [if_neg (by omega), if_neg (by omega)]
theorem ask_bad {n : Nat} {k least : Int} (h : 64 < n ∨ k < least ∨ 8 < k) : ask n k least = 10 ∨ ask n k least = 11 := by
  unfold ask
  by_cases h1 : 64 < n
  · rw [if_pos h1]; exact .inr rfl
  · rw [if_neg h1, if_pos (h.resolve_left h1)]; exact .inl rfl
set_option maxRecDepth 20000 in
set_option maxHeartbeats 6400000 in
theorem dtell_far (a : Option Addr) (n c : Nat) (z : Int) (w : World) (h : 100 < n) :
    Calls Try.prog 3 #[.slice a n c, .int .i64 z] w fun e w' => e = .returned (.bool true) ∧ Below w.heap.size w w' := by
  have d0 : decide ((100 : Int) < (n : Int)) = true := by simp; omega
  clear h
  go_enter Try.func3, Try.ntmps3
  go_wp2_with ((with_reducible refine (dawake_v _).mono ?_); rintro e w1 ⟨rfl, hb⟩; have HB := Lib.hid hb; clear hb)
  go_ret
  exact ⟨rfl, HB.out⟩
set_option maxRecDepth 20000 in
set_option maxHeartbeats 6400000 in
theorem dtell_bad (a : Option Addr) (n c : Nat) (z : Int) (w : World) (hn : n ≤ 100) (h : 64 < n ∨ z < 1 ∨ 8 < z) :
    Calls Try.prog 3 #[.slice a n c, .int .i64 z] w fun e w' => e = .returned (.bool true) ∧ Below w.heap.size w w' := by
  have d0 : decide ((100 : Int) < (n : Int)) = false := by simp; omega
  obtain ⟨r, hr⟩ : ∃ r, ask n z 1 = r := ⟨_, rfl⟩
  obtain ⟨s, hs⟩ : ∃ s, ask n z 2 = s := ⟨_, rfl⟩
  have E1 := Lib.hid hr
  have E2 := Lib.hid hs
  have r0 : r ≠ 0 := by
    have := ask_bad (least := 1) h
    rw [hr] at this
    omega
  have s0 : s ≠ 0 := by
    have := ask_bad (n := n) (k := z) (least := 2) (by omega)
    rw [hs] at this
    omega
  have R0 := Lib.hid r0
  have S0 := Lib.hid s0
  have q1 : (r != 0) = true := by simpa using r0
  have L := Lib.hid (Lz.start w)
  clear h hr hs r0 s0
  go_enter Try.func3, Try.ntmps3
  go_wp2_with (first
    | ((with_reducible refine (wrong_v a n c z 1 _).mono ?_); rintro e w' ⟨rfl, hww⟩; have hww' := hww.symm; subst hww'; rw [E1.out])
    | ((with_reducible refine (wrong_v a n c z 2 _).mono ?_); rintro e w' ⟨rfl, hww⟩; have hww' := hww.symm; subst hww'; rw [E2.out])
    | ((with_reducible refine (plain_bad a n c z r _ E1.out R0.out).mono ?_); rintro e w1 ⟨rfl, hb⟩; replace L := Lib.hid (L.out.call hb); clear hb)
    | ((with_reducible refine (signed_bad a n c z s _ E2.out S0.out).mono ?_); rintro e w2 ⟨rfl, hb⟩; replace L := Lib.hid (L.out.call hb); clear hb)
    | ((with_reducible refine (naf_bad a n c z s _ E2.out S0.out).mono ?_); rintro e w3 ⟨rfl, hb⟩; replace L := Lib.hid (L.out.call hb); clear hb)
    | ((with_reducible refine (columns_bad a n c z r _ E1.out R0.out).mono ?_); rintro e w4 ⟨rfl, hb⟩; replace L := Lib.hid (L.out.call hb); clear hb)
    | ((with_reducible refine (same_bad r none 0 0 _ R0.out).mono ?_); rintro e w' ⟨rfl, hww⟩; have hww' := hww.symm; subst hww')
    | ((with_reducible refine (same_bad s none 0 0 _ S0.out).mono ?_); rintro e w' ⟨rfl, hww⟩; have hww' := hww.symm; subst hww')
    | ((with_reducible refine (dawake_v _).mono ?_); rintro e wz ⟨rfl, hb⟩; replace L := Lib.hid (L.out.call hb); clear hb))
  go_ret
  exact ⟨rfl, L.out.bel⟩
set_option maxRecDepth 20000 in
set_option maxHeartbeats 6400000 in
theorem dtell_one (a : Option Addr) (n c x : Nat) (w : World) (hn : n ≤ 64) (hs : Sb w w.heap.size a n c x) :
    Calls Try.prog 3 #[.slice a n c, .int .i64 1] w fun e w' => e = .returned (.bool true) ∧ Below w.heap.size w w' := by
  have d0 : decide ((100 : Int) < (n : Int)) = false := by simp; omega
  have HS := Lib.hid hs
  obtain ⟨m, hm⟩ : ∃ m, (8 * n + 1 - 1) / 1 = m := ⟨_, rfl⟩
  have HM := Lib.hid hm
  have hmb : m ≤ 600 := by
    have := Nat.div_le_self (8 * n + 1 - 1) 1
    omega
  have E1 : Hid (ask n 1 1 = 0) := Lib.hid (ask_ok hn (by omega) (by omega))
  have e2 : ask n 1 2 = 10 := by unfold ask; rw [if_neg (by omega), if_pos (by omega)]
  have E2 := Lib.hid e2
  have S0 : Hid ((10 : Int) ≠ 0) := Lib.hid (by decide)
  have L := Lib.hid (Lz.start w)
  clear hs hm e2
  go_enter Try.func3, Try.ntmps3
  go_wp2_with (first
    | ((with_reducible refine (wrong_v a n c 1 1 _).mono ?_); rintro e w' ⟨rfl, hww⟩; have hww' := hww.symm; subst hww'; rw [E1.out])
    | ((with_reducible refine (wrong_v a n c 1 2 _).mono ?_); rintro e w' ⟨rfl, hww⟩; have hww' := hww.symm; subst hww'; rw [E2.out])
    | ((with_reducible refine (plain_z a n c x 1 m 1 _ rfl hn (by omega) (by omega) HM.out (HS.out.call L.out.bel)).mono ?_); rintro e w1 ⟨g1, rfl, hr, hb⟩; replace L := Lib.hid ((L.out.call hb).add hr); clear hr hb)
    | ((with_reducible refine (signed_bad a n c 1 10 _ E2.out S0.out).mono ?_); rintro e w2 ⟨rfl, hb⟩; replace L := Lib.hid (L.out.call hb); clear hb)
    | ((with_reducible refine (naf_bad a n c 1 10 _ E2.out S0.out).mono ?_); rintro e w3 ⟨rfl, hb⟩; replace L := Lib.hid (L.out.call hb); clear hb)
    | ((with_reducible refine (columns_z a n c x 1 m 1 _ rfl hn (by omega) (by omega) HM.out (HS.out.call L.out.bel)).mono ?_); rintro e w4 ⟨g4, rfl, hr, hb⟩; replace L := Lib.hid ((L.out.call hb).add hr); clear hr hb)
    | ((with_reducible refine (refPlain_z a n c x 1 m 1 _ rfl hn (by omega) (by omega) HM.out (HS.out.call L.out.bel)).mono ?_); rintro e w5 ⟨b5, d5, rfl, hr, hb⟩; replace L := Lib.hid ((L.out.call hb).add hr); clear hr hb)
    | ((with_reducible refine (same_ok (some ⟨g1, 0, none⟩) b5 m m d5 _ _ (by omega) (L.out.gz 2 rfl) (L.out.gz 0 rfl)).mono ?_); rintro e w6 ⟨rfl, hb⟩; replace L := Lib.hid (L.out.call hb); clear hb)
    | ((with_reducible refine (refColumns_z a n c x 1 m 1 _ rfl hn (by omega) (by omega) HM.out (HS.out.call L.out.bel)).mono ?_); rintro e w7 ⟨b7, d7, rfl, hr, hb⟩; replace L := Lib.hid ((L.out.call hb).add hr); clear hr hb)
    | ((with_reducible refine (same_ok (some ⟨g4, 0, none⟩) b7 m m d7 _ _ (by omega) (L.out.gz 2 rfl) (L.out.gz 0 rfl)).mono ?_); rintro e w8 ⟨rfl, hb⟩; replace L := Lib.hid (L.out.call hb); clear hb)
    | ((with_reducible refine (same_bad 10 none 0 0 _ S0.out).mono ?_); rintro e w' ⟨rfl, hww⟩; have hww' := hww.symm; subst hww')
    | ((with_reducible refine (dawake_v _).mono ?_); rintro e wz ⟨rfl, hb⟩; replace L := Lib.hid (L.out.call hb); clear hb))
  go_ret
  exact ⟨rfl, L.out.bel⟩
set_option maxRecDepth 20000 in
set_option maxHeartbeats 6400000 in
theorem dtell_near (a : Option Addr) (n c x k : Nat) (w : World) (hn : n ≤ 64) (hk : 2 ≤ k) (hk8 : k ≤ 8) (hs : Sb w w.heap.size a n c x) :
    Calls Try.prog 3 #[.slice a n c, .int .i64 (k : Int)] w fun e w' => e = .returned (.bool true) ∧ Below w.heap.size w w' := by
  have d0 : decide ((100 : Int) < (n : Int)) = false := by simp; omega
  have HS := Lib.hid hs
  obtain ⟨m, hm⟩ : ∃ m, (8 * n + k - 1) / k = m := ⟨_, rfl⟩
  have HM := Lib.hid hm
  have hmb : m ≤ 600 := by
    have := Nat.div_le_self (8 * n + k - 1) k
    omega
  have E1 : Hid (ask n (k : Int) 1 = 0) := Lib.hid (ask_ok hn (by omega) (by omega))
  have E2 : Hid (ask n (k : Int) 2 = 0) := Lib.hid (ask_ok hn (by omega) (by omega))
  obtain ⟨m1, hm1⟩ : ∃ m1, m + 1 = m1 := ⟨_, rfl⟩
  obtain ⟨m8, hm8⟩ : ∃ m8, 8 * n + 1 = m8 := ⟨_, rfl⟩
  have HM1 := Lib.hid hm1
  have HM8 := Lib.hid hm8
  have hb1 : m1 ≤ 1000 := by omega
  have hb8 : m8 ≤ 1000 := by omega
  have k1 : 1 ≤ k := by omega
  have L := Lib.hid (Lz.start w)
  clear hs hm hm1 hm8
  go_enter Try.func3, Try.ntmps3
  go_wp2_with (first
    | ((with_reducible refine (wrong_v a n c (k : Int) 1 _).mono ?_); rintro e w' ⟨rfl, hww⟩; have hww' := hww.symm; subst hww'; rw [E1.out])
    | ((with_reducible refine (wrong_v a n c (k : Int) 2 _).mono ?_); rintro e w' ⟨rfl, hww⟩; have hww' := hww.symm; subst hww'; rw [E2.out])
    | ((with_reducible refine (plain_z a n c x k m (k : Int) _ rfl hn k1 hk8 HM.out (HS.out.call L.out.bel)).mono ?_); rintro e w1 ⟨g1, rfl, hr, hb⟩; replace L := Lib.hid ((L.out.call hb).add hr); clear hr hb)
    | ((with_reducible refine (signed_z a n c x k m m1 (k : Int) _ rfl hn hk hk8 HM.out HM1.out (HS.out.call L.out.bel)).mono ?_); rintro e w2 ⟨g2, rfl, hr, hb⟩; replace L := Lib.hid ((L.out.call hb).add hr); clear hr hb)
    | ((with_reducible refine (naf_z a n c x k m8 (k : Int) _ rfl hn hk hk8 HM8.out (HS.out.call L.out.bel)).mono ?_); rintro e w3 ⟨g3, rfl, hr, hb⟩; replace L := Lib.hid ((L.out.call hb).add hr); clear hr hb)
    | ((with_reducible refine (columns_z a n c x k m (k : Int) _ rfl hn k1 hk8 HM.out (HS.out.call L.out.bel)).mono ?_); rintro e w4 ⟨g4, rfl, hr, hb⟩; replace L := Lib.hid ((L.out.call hb).add hr); clear hr hb)
    | ((with_reducible refine (refPlain_z a n c x k m (k : Int) _ rfl hn k1 hk8 HM.out (HS.out.call L.out.bel)).mono ?_); rintro e w5 ⟨b5, d5, rfl, hr, hb⟩; replace L := Lib.hid ((L.out.call hb).add hr); clear hr hb)
    | ((with_reducible refine (same_ok (some ⟨g1, 0, none⟩) b5 m m d5 _ _ (by omega) (L.out.gz 4 rfl) (L.out.gz 0 rfl)).mono ?_); rintro e w6 ⟨rfl, hb⟩; replace L := Lib.hid (L.out.call hb); clear hb)
    | ((with_reducible refine (refColumns_z a n c x k m (k : Int) _ rfl hn k1 hk8 HM.out (HS.out.call L.out.bel)).mono ?_); rintro e w7 ⟨b7, d7, rfl, hr, hb⟩; replace L := Lib.hid ((L.out.call hb).add hr); clear hr hb)
    | ((with_reducible refine (same_ok (some ⟨g4, 0, none⟩) b7 m m d7 _ _ (by omega) (L.out.gz 2 rfl) (L.out.gz 0 rfl)).mono ?_); rintro e w8 ⟨rfl, hb⟩; replace L := Lib.hid (L.out.call hb); clear hb)
    | ((with_reducible refine (refSigned_z a n c x k m m1 (k : Int) _ rfl hn hk hk8 HM.out HM1.out (HS.out.call L.out.bel)).mono ?_); rintro e w9 ⟨b9, d9, rfl, hr, hb⟩; replace L := Lib.hid ((L.out.call hb).add hr); clear hr hb)
    | ((with_reducible refine (same_ok (some ⟨g2, 0, none⟩) b9 m1 m1 d9 _ _ (by omega) (L.out.gz 5 rfl) (L.out.gz 0 rfl)).mono ?_); rintro e w10 ⟨rfl, hb⟩; replace L := Lib.hid (L.out.call hb); clear hb)
    | ((with_reducible refine (refNaf_z a n c x k m8 (k : Int) _ rfl hn hk hk8 HM8.out (HS.out.call L.out.bel)).mono ?_); rintro e w11 ⟨b11, d11, rfl, hr, hb⟩; replace L := Lib.hid ((L.out.call hb).add hr); clear hr hb)
    | ((with_reducible refine (same_ok (some ⟨g3, 0, none⟩) b11 m8 m8 d11 _ _ (by omega) (L.out.gz 5 rfl) (L.out.gz 0 rfl)).mono ?_); rintro e w12 ⟨rfl, hb⟩; replace L := Lib.hid (L.out.call hb); clear hb)
    | ((with_reducible refine (dawake_v _).mono ?_); rintro e wz ⟨rfl, hb⟩; replace L := Lib.hid (L.out.call hb); clear hb))
  go_ret
  exact ⟨rfl, L.out.bel⟩
end Go.Proofs.Ytgdfpboccgfadaa
