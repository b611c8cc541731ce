/-
  The walk of LadderShares. No statement is proved here: lemmas for the walks.
-/
import Derived.Test.YtckmboebipbpbaaDoorZLdAwake
import Derived.Test.YtckmboebipbpbaaDoorZLdRefX
import Derived.Deep.CutRange
namespace Go.Proofs.YtckmboebipbpbaaDoor
open Go.RowKit

theorem cmp_zero {a : Option Addr} {c x : Nat} (w : World) (h : Sb w w.heap.size a 0 c x) :
    Calls Tryd.prog 24 #[.slice a 0 c, .slice none 0 0] w fun e w' => e = .returned (.bool true) ∧ Below w.heap.size w w' :=
  (cmp_same a none 0 c 0 x x w (by omega) h ⟨⟨Nat.le_refl _, fun _ => rfl, fun _ e _ => by cases e⟩, h.fits⟩).mono fun _ _ ⟨he, hb⟩ => ⟨by rw [he, decide_eq_true rfl], hb⟩
theorem cmp_ld {a a' : Option Addr} {n c c' x : Nat} (w : World) (hn : n ≤ 100000) (h1 : Sb w w.heap.size a n c x) (h2 : Sb w w.heap.size a' n c' x) :
    Calls Tryd.prog 24 #[.slice a n c, .slice a' n c'] w fun e w' => e = .returned (.bool true) ∧ Below w.heap.size w w' :=
  (cmp_same a a' n c c' x x w hn h1 h2).mono fun _ _ ⟨he, hb⟩ => ⟨by rw [he, decide_eq_true rfl], hb⟩
theorem five_ref (x : Nat) {R : K} (h : ldV (ofZ 5) x = R) : ldV (cN pN (ofZ 5).val) x = R := by rw [cN_val, h]
set_option maxRecDepth 20000 in
set_option maxHeartbeats 12800000 in
theorem shares_far0 {a b : Option Addr} {n m c d x y : Nat} (w : World) (hT : Tp w) (hx : Sb w w.heap.size a n c x) (hy : Sb w w.heap.size b m d y) (hn : 80 < n) :
    Calls Tryd.prog 5 #[.slice a n c, .slice b m d] w fun e w' => e = .returned (.bool true) ∧ Below w.heap.size w w' := by
  have HK := Lib.hid hx
  have HU := Lib.hid hy
  clear hx hy
  have hd : decide ((80 : Int) < (n : Int)) = true := by simp; omega
  clear hn
  have BS := Lib.hid (Sbs.nil w)
  have HT := Lib.hid hT
  clear hT
  have H := Lib.hid (Ow.start w)
  go_enter Tryd.func5, Tryd.ntmps5
  go_wp2_with (first
    | ((with_reducible refine (awake10_k _ (HT.out.below H.out.bel)).mono ?_); rintro e wc ⟨rfl, hb⟩; replace H := Lib.hid (H.out.call hb); replace BS := Lib.hid ((BS.out.call hb)); clear hb))
  go_ret
  exact ⟨rfl, H.out.bel⟩
set_option maxRecDepth 20000 in
set_option maxHeartbeats 12800000 in
theorem shares_far1 {a b : Option Addr} {n m c d x y : Nat} (w : World) (hT : Tp w) (hx : Sb w w.heap.size a n c x) (hy : Sb w w.heap.size b m d y) (hn : n ≤ 80) (hm : 80 < m) :
    Calls Tryd.prog 5 #[.slice a n c, .slice b m d] w fun e w' => e = .returned (.bool true) ∧ Below w.heap.size w w' := by
  have HK := Lib.hid hx
  have HU := Lib.hid hy
  clear hx hy
  have hd : decide ((80 : Int) < (n : Int)) = false := by simp; omega
  have hd2 : decide ((80 : Int) < (m : Int)) = true := by simp; omega
  clear hn hm
  have BS := Lib.hid (Sbs.nil w)
  have HT := Lib.hid hT
  clear hT
  have H := Lib.hid (Ow.start w)
  go_enter Tryd.func5, Tryd.ntmps5
  go_wp2_with (first
    | ((with_reducible refine (awake10_k _ (HT.out.below H.out.bel)).mono ?_); rintro e wc ⟨rfl, hb⟩; replace H := Lib.hid (H.out.call hb); replace BS := Lib.hid ((BS.out.call hb)); clear hb))
  go_ret
  exact ⟨rfl, H.out.bel⟩
set_option maxRecDepth 20000 in
set_option maxHeartbeats 12800000 in
theorem shares_bad {a b : Option Addr} {n m c d x y : Nat} (w : World) (hT : Tp w) (hx : Sb w w.heap.size a n c x) (hy : Sb w w.heap.size b m d y) (hn : n ≤ 80) (hm : m ≤ 80) (h56 : n ≠ 56) :
    Calls Tryd.prog 5 #[.slice a n c, .slice b m d] w fun e w' => e = .returned (.bool true) ∧ Below w.heap.size w w' := by
  have HK := Lib.hid hx
  have HU := Lib.hid hy
  clear hx hy
  have hd : decide ((80 : Int) < (n : Int)) = false := by simp; omega
  have hd2 : decide ((80 : Int) < (m : Int)) = false := by simp; omega
  have hd3 : ((n : Int) != 56) = true := by rw [bne_iff_ne]; omega
  have HN := Lib.hid h56
  clear hn hm h56
  have BS := Lib.hid (Sbs.nil w)
  have HT := Lib.hid hT
  clear hT
  have H := Lib.hid (Ow.start w)
  go_enter Tryd.func5, Tryd.ntmps5
  go_wp2_with (first
    | ((fail_if_success have := mk1); (with_reducible refine (x448_bad _ (HT.out.below H.out.bel) (.inl HN.out)).mono ?_); rintro e wc ⟨a1, c1, rfl, hb⟩; replace H := Lib.hid (H.out.call hb); replace BS := Lib.hid ((BS.out.call hb)); have mk1 := trivial; clear hb)
    | ((fail_if_success have := mk2); (with_reducible refine (public_bad _ (HT.out.below H.out.bel) HN.out).mono ?_); rintro e wc ⟨a2, c2, rfl, hb⟩; replace H := Lib.hid (H.out.call hb); replace BS := Lib.hid ((BS.out.call hb)); have mk2 := trivial; clear hb)
    | ((with_reducible refine (awake10_k _ (HT.out.below H.out.bel)).mono ?_); rintro e wc ⟨rfl, hb⟩; replace H := Lib.hid (H.out.call hb); replace BS := Lib.hid ((BS.out.call hb)); clear hb))
  go_ret
  exact ⟨rfl, H.out.bel⟩
set_option maxRecDepth 20000 in
set_option maxHeartbeats 12800000 in
theorem shares_zb {a b : Option Addr} {m c d x y : Nat} (w : World) (hT : Tp w) (hx : Sb w w.heap.size a 56 c x) (hy : Sb w w.heap.size b m d y) {R5 : K} (h5 : ldV (ofZ 5) (clN x) = R5) (z5 : R5 = 0) (hm : m ≤ 80) (h56 : m ≠ 56) :
    Calls Tryd.prog 5 #[.slice a 56 c, .slice b m d] w fun e w' => e = .returned (.bool true) ∧ Below w.heap.size w w' := by
  have HK := Lib.hid hx
  have HU := Lib.hid hy
  clear hx hy
  have H5 := Lib.hid h5
  have Z5 := Lib.hid z5
  clear h5 z5
  have hd2 : decide ((80 : Int) < (m : Int)) = false := by simp; omega
  have hd3 : ((m : Int) != 56) = true := by rw [bne_iff_ne]; omega
  have HN := Lib.hid h56
  clear hm h56
  have BS := Lib.hid (Sbs.nil w)
  have HT := Lib.hid hT
  clear hT
  have H := Lib.hid (Ow.start w)
  go_enter Tryd.func5, Tryd.ntmps5
  go_wp2_with (first
    | ((fail_if_success have := mk1); (with_reducible refine (x448_bad _ (HT.out.below H.out.bel) (.inr HN.out)).mono ?_); rintro e wc ⟨a1, c1, rfl, hb⟩; replace H := Lib.hid (H.out.call hb); replace BS := Lib.hid ((BS.out.call hb)); have mk1 := trivial; clear hb)
    | ((fail_if_success have := mk2); (with_reducible refine (public_z _ (HT.out.below H.out.bel) ((HK.out.below H.out.bel).more H.out.bel.size) H5.out Z5.out).mono ?_); rintro e wc ⟨a2, c2, rfl, hs, hb⟩; replace H := Lib.hid (H.out.call hb); replace BS := Lib.hid ((BS.out.call hb).add hs); have mk2 := trivial; clear hb hs)
    | ((fail_if_success have := mk3); (with_reducible refine (refInt_k _ 5 (by omega) (by omega)).mono ?_); rintro e wc ⟨rfl, hb⟩; replace H := Lib.hid (H.out.call hb); replace BS := Lib.hid ((BS.out.call hb)); have mk3 := trivial; clear hb)
    | ((fail_if_success have := mk4); (with_reducible refine (refBytes_sb _).mono ?_); rintro e wc ⟨a3, c3, rfl, hs, hb⟩; replace H := Lib.hid (H.out.call hb); replace BS := Lib.hid ((BS.out.call hb).add hs); have mk4 := trivial; clear hb hs)
    | ((fail_if_success have := mk5); (with_reducible refine (refX_z _ ((HK.out.below H.out.bel).more H.out.bel.size) (BS.out.at 0 rfl) (five_ref _ H5.out) (decide_eq_true Z5.out)).mono ?_); rintro e wc ⟨rfl, hb⟩; replace H := Lib.hid (H.out.call hb); replace BS := Lib.hid ((BS.out.call hb)); have mk5 := trivial; clear hb)
    | ((fail_if_success have := mk6); (with_reducible refine (cmp_zero _ (BS.out.at 1 rfl)).mono ?_); rintro e wc ⟨rfl, hb⟩; replace H := Lib.hid (H.out.call hb); replace BS := Lib.hid ((BS.out.call hb)); have mk6 := trivial; clear hb)
    | ((with_reducible refine (awake10_k _ (HT.out.below H.out.bel)).mono ?_); rintro e wc ⟨rfl, hb⟩; replace H := Lib.hid (H.out.call hb); replace BS := Lib.hid ((BS.out.call hb)); clear hb))
  go_ret
  exact ⟨rfl, H.out.bel⟩
set_option maxRecDepth 20000 in
set_option maxHeartbeats 12800000 in
theorem shares_zz {a b : Option Addr} {c d x y : Nat} (w : World) (hT : Tp w) (hx : Sb w w.heap.size a 56 c x) (hy : Sb w w.heap.size b 56 d y) {R5 : K} (h5 : ldV (ofZ 5) (clN x) = R5) (z5 : R5 = 0) {R : K} (hR : ldV (cN pN y) (clN x) = R) (zR : R = 0) :
    Calls Tryd.prog 5 #[.slice a 56 c, .slice b 56 d] w fun e w' => e = .returned (.bool true) ∧ Below w.heap.size w w' := by
  have HK := Lib.hid hx
  have HU := Lib.hid hy
  clear hx hy
  have H5 := Lib.hid h5
  have Z5 := Lib.hid z5
  clear h5 z5
  have HR := Lib.hid hR
  have ZR := Lib.hid zR
  clear hR zR
  have BS := Lib.hid (Sbs.nil w)
  have HT := Lib.hid hT
  clear hT
  have H := Lib.hid (Ow.start w)
  go_enter Tryd.func5, Tryd.ntmps5
  go_wp2_with (first
    | ((fail_if_success have := mk1); (with_reducible refine (x448_z _ (HT.out.below H.out.bel) ((HK.out.below H.out.bel).more H.out.bel.size) ((HU.out.below H.out.bel).more H.out.bel.size) HR.out ZR.out).mono ?_); rintro e wc ⟨a1, c1, rfl, hs, hb⟩; replace H := Lib.hid (H.out.call hb); replace BS := Lib.hid ((BS.out.call hb).add hs); have mk1 := trivial; clear hb hs)
    | ((fail_if_success have := mk2); (with_reducible refine (public_z _ (HT.out.below H.out.bel) ((HK.out.below H.out.bel).more H.out.bel.size) H5.out Z5.out).mono ?_); rintro e wc ⟨a2, c2, rfl, hs, hb⟩; replace H := Lib.hid (H.out.call hb); replace BS := Lib.hid ((BS.out.call hb).add hs); have mk2 := trivial; clear hb hs)
    | ((fail_if_success have := mk3); (with_reducible refine (refInt_k _ 5 (by omega) (by omega)).mono ?_); rintro e wc ⟨rfl, hb⟩; replace H := Lib.hid (H.out.call hb); replace BS := Lib.hid ((BS.out.call hb)); have mk3 := trivial; clear hb)
    | ((fail_if_success have := mk4); (with_reducible refine (refBytes_sb _).mono ?_); rintro e wc ⟨a3, c3, rfl, hs, hb⟩; replace H := Lib.hid (H.out.call hb); replace BS := Lib.hid ((BS.out.call hb).add hs); have mk4 := trivial; clear hb hs)
    | ((fail_if_success have := mk5); (with_reducible refine (refX_z _ ((HK.out.below H.out.bel).more H.out.bel.size) (BS.out.at 0 rfl) (five_ref _ H5.out) (decide_eq_true Z5.out)).mono ?_); rintro e wc ⟨rfl, hb⟩; replace H := Lib.hid (H.out.call hb); replace BS := Lib.hid ((BS.out.call hb)); have mk5 := trivial; clear hb)
    | ((fail_if_success have := mk6); (with_reducible refine (cmp_zero _ (BS.out.at 1 rfl)).mono ?_); rintro e wc ⟨rfl, hb⟩; replace H := Lib.hid (H.out.call hb); replace BS := Lib.hid ((BS.out.call hb)); have mk6 := trivial; clear hb)
    | ((fail_if_success have := mk7); (with_reducible refine (refX_z _ ((HK.out.below H.out.bel).more H.out.bel.size) ((HU.out.below H.out.bel).more H.out.bel.size) HR.out (decide_eq_true ZR.out)).mono ?_); rintro e wc ⟨rfl, hb⟩; replace H := Lib.hid (H.out.call hb); replace BS := Lib.hid ((BS.out.call hb)); have mk7 := trivial; clear hb)
    | ((with_reducible refine (awake10_k _ (HT.out.below H.out.bel)).mono ?_); rintro e wc ⟨rfl, hb⟩; replace H := Lib.hid (H.out.call hb); replace BS := Lib.hid ((BS.out.call hb)); clear hb))
  go_ret
  exact ⟨rfl, H.out.bel⟩
set_option maxRecDepth 20000 in
set_option maxHeartbeats 12800000 in
theorem shares_zn {a b : Option Addr} {c d x y : Nat} (w : World) (hT : Tp w) (hx : Sb w w.heap.size a 56 c x) (hy : Sb w w.heap.size b 56 d y) {R5 : K} (h5 : ldV (ofZ 5) (clN x) = R5) (z5 : R5 = 0) {R : K} (hR : ldV (cN pN y) (clN x) = R) (zR : R ≠ 0) :
    Calls Tryd.prog 5 #[.slice a 56 c, .slice b 56 d] w fun e w' => e = .returned (.bool true) ∧ Below w.heap.size w w' := by
  have HK := Lib.hid hx
  have HU := Lib.hid hy
  clear hx hy
  have H5 := Lib.hid h5
  have Z5 := Lib.hid z5
  clear h5 z5
  have HR := Lib.hid hR
  have ZR := Lib.hid zR
  clear hR zR
  have BS := Lib.hid (Sbs.nil w)
  have HT := Lib.hid hT
  clear hT
  have H := Lib.hid (Ow.start w)
  go_enter Tryd.func5, Tryd.ntmps5
  go_wp2_with (first
    | ((fail_if_success have := mk1); (with_reducible refine (x448_n _ (HT.out.below H.out.bel) ((HK.out.below H.out.bel).more H.out.bel.size) ((HU.out.below H.out.bel).more H.out.bel.size) HR.out ZR.out).mono ?_); rintro e wc ⟨a1, c1, rfl, hs, hb⟩; replace H := Lib.hid (H.out.call hb); replace BS := Lib.hid ((BS.out.call hb).add hs); have mk1 := trivial; clear hb hs)
    | ((fail_if_success have := mk2); (with_reducible refine (public_z _ (HT.out.below H.out.bel) ((HK.out.below H.out.bel).more H.out.bel.size) H5.out Z5.out).mono ?_); rintro e wc ⟨a2, c2, rfl, hs, hb⟩; replace H := Lib.hid (H.out.call hb); replace BS := Lib.hid ((BS.out.call hb).add hs); have mk2 := trivial; clear hb hs)
    | ((fail_if_success have := mk3); (with_reducible refine (refInt_k _ 5 (by omega) (by omega)).mono ?_); rintro e wc ⟨rfl, hb⟩; replace H := Lib.hid (H.out.call hb); replace BS := Lib.hid ((BS.out.call hb)); have mk3 := trivial; clear hb)
    | ((fail_if_success have := mk4); (with_reducible refine (refBytes_sb _).mono ?_); rintro e wc ⟨a3, c3, rfl, hs, hb⟩; replace H := Lib.hid (H.out.call hb); replace BS := Lib.hid ((BS.out.call hb).add hs); have mk4 := trivial; clear hb hs)
    | ((fail_if_success have := mk5); (with_reducible refine (refX_z _ ((HK.out.below H.out.bel).more H.out.bel.size) (BS.out.at 0 rfl) (five_ref _ H5.out) (decide_eq_true Z5.out)).mono ?_); rintro e wc ⟨rfl, hb⟩; replace H := Lib.hid (H.out.call hb); replace BS := Lib.hid ((BS.out.call hb)); have mk5 := trivial; clear hb)
    | ((fail_if_success have := mk6); (with_reducible refine (cmp_zero _ (BS.out.at 1 rfl)).mono ?_); rintro e wc ⟨rfl, hb⟩; replace H := Lib.hid (H.out.call hb); replace BS := Lib.hid ((BS.out.call hb)); have mk6 := trivial; clear hb)
    | ((fail_if_success have := mk7); (with_reducible refine (refX_n _ ((HK.out.below H.out.bel).more H.out.bel.size) ((HU.out.below H.out.bel).more H.out.bel.size) HR.out (decide_eq_false ZR.out)).mono ?_); rintro e wc ⟨a5, c5, rfl, hs, hb⟩; replace H := Lib.hid (H.out.call hb); replace BS := Lib.hid ((BS.out.call hb).add hs); have mk7 := trivial; clear hb hs)
    | ((fail_if_success have := mk8); (with_reducible refine (cmp_ld (n := 56) _ (by omega) (BS.out.at 3 rfl) (BS.out.at 0 rfl)).mono ?_); rintro e wc ⟨rfl, hb⟩; replace H := Lib.hid (H.out.call hb); replace BS := Lib.hid ((BS.out.call hb)); have mk8 := trivial; clear hb)
    | ((with_reducible refine (awake10_k _ (HT.out.below H.out.bel)).mono ?_); rintro e wc ⟨rfl, hb⟩; replace H := Lib.hid (H.out.call hb); replace BS := Lib.hid ((BS.out.call hb)); clear hb))
  go_ret
  exact ⟨rfl, H.out.bel⟩
set_option maxRecDepth 20000 in
set_option maxHeartbeats 12800000 in
theorem shares_nb {a b : Option Addr} {m c d x y : Nat} (w : World) (hT : Tp w) (hx : Sb w w.heap.size a 56 c x) (hy : Sb w w.heap.size b m d y) {R5 : K} (h5 : ldV (ofZ 5) (clN x) = R5) (z5 : R5 ≠ 0) (hm : m ≤ 80) (h56 : m ≠ 56) :
    Calls Tryd.prog 5 #[.slice a 56 c, .slice b m d] w fun e w' => e = .returned (.bool true) ∧ Below w.heap.size w w' := by
  have HK := Lib.hid hx
  have HU := Lib.hid hy
  clear hx hy
  have H5 := Lib.hid h5
  have Z5 := Lib.hid z5
  clear h5 z5
  have hd2 : decide ((80 : Int) < (m : Int)) = false := by simp; omega
  have hd3 : ((m : Int) != 56) = true := by rw [bne_iff_ne]; omega
  have HN := Lib.hid h56
  clear hm h56
  have BS := Lib.hid (Sbs.nil w)
  have HT := Lib.hid hT
  clear hT
  have H := Lib.hid (Ow.start w)
  go_enter Tryd.func5, Tryd.ntmps5
  go_wp2_with (first
    | ((fail_if_success have := mk1); (with_reducible refine (x448_bad _ (HT.out.below H.out.bel) (.inr HN.out)).mono ?_); rintro e wc ⟨a1, c1, rfl, hb⟩; replace H := Lib.hid (H.out.call hb); replace BS := Lib.hid ((BS.out.call hb)); have mk1 := trivial; clear hb)
    | ((fail_if_success have := mk2); (with_reducible refine (public_n _ (HT.out.below H.out.bel) ((HK.out.below H.out.bel).more H.out.bel.size) H5.out Z5.out).mono ?_); rintro e wc ⟨a2, c2, rfl, hs, hb⟩; replace H := Lib.hid (H.out.call hb); replace BS := Lib.hid ((BS.out.call hb).add hs); have mk2 := trivial; clear hb hs)
    | ((fail_if_success have := mk3); (with_reducible refine (refInt_k _ 5 (by omega) (by omega)).mono ?_); rintro e wc ⟨rfl, hb⟩; replace H := Lib.hid (H.out.call hb); replace BS := Lib.hid ((BS.out.call hb)); have mk3 := trivial; clear hb)
    | ((fail_if_success have := mk4); (with_reducible refine (refBytes_sb _).mono ?_); rintro e wc ⟨a3, c3, rfl, hs, hb⟩; replace H := Lib.hid (H.out.call hb); replace BS := Lib.hid ((BS.out.call hb).add hs); have mk4 := trivial; clear hb hs)
    | ((fail_if_success have := mk5); (with_reducible refine (refX_n _ ((HK.out.below H.out.bel).more H.out.bel.size) (BS.out.at 0 rfl) (five_ref _ H5.out) (decide_eq_false Z5.out)).mono ?_); rintro e wc ⟨a4, c4, rfl, hs, hb⟩; replace H := Lib.hid (H.out.call hb); replace BS := Lib.hid ((BS.out.call hb).add hs); have mk5 := trivial; clear hb hs)
    | ((fail_if_success have := mk6); (with_reducible refine (cmp_ld (n := 56) _ (by omega) (BS.out.at 2 rfl) (BS.out.at 0 rfl)).mono ?_); rintro e wc ⟨rfl, hb⟩; replace H := Lib.hid (H.out.call hb); replace BS := Lib.hid ((BS.out.call hb)); have mk6 := trivial; clear hb)
    | ((with_reducible refine (awake10_k _ (HT.out.below H.out.bel)).mono ?_); rintro e wc ⟨rfl, hb⟩; replace H := Lib.hid (H.out.call hb); replace BS := Lib.hid ((BS.out.call hb)); clear hb))
  go_ret
  exact ⟨rfl, H.out.bel⟩
set_option maxRecDepth 20000 in
set_option maxHeartbeats 12800000 in
theorem shares_nz {a b : Option Addr} {c d x y : Nat} (w : World) (hT : Tp w) (hx : Sb w w.heap.size a 56 c x) (hy : Sb w w.heap.size b 56 d y) {R5 : K} (h5 : ldV (ofZ 5) (clN x) = R5) (z5 : R5 ≠ 0) {R : K} (hR : ldV (cN pN y) (clN x) = R) (zR : R = 0) :
    Calls Tryd.prog 5 #[.slice a 56 c, .slice b 56 d] w fun e w' => e = .returned (.bool true) ∧ Below w.heap.size w w' := by
  have HK := Lib.hid hx
  have HU := Lib.hid hy
  clear hx hy
  have H5 := Lib.hid h5
  have Z5 := Lib.hid z5
  clear h5 z5
  have HR := Lib.hid hR
  have ZR := Lib.hid zR
  clear hR zR
  have BS := Lib.hid (Sbs.nil w)
  have HT := Lib.hid hT
  clear hT
  have H := Lib.hid (Ow.start w)
  go_enter Tryd.func5, Tryd.ntmps5
  go_wp2_with (first
    | ((fail_if_success have := mk1); (with_reducible refine (x448_z _ (HT.out.below H.out.bel) ((HK.out.below H.out.bel).more H.out.bel.size) ((HU.out.below H.out.bel).more H.out.bel.size) HR.out ZR.out).mono ?_); rintro e wc ⟨a1, c1, rfl, hs, hb⟩; replace H := Lib.hid (H.out.call hb); replace BS := Lib.hid ((BS.out.call hb).add hs); have mk1 := trivial; clear hb hs)
    | ((fail_if_success have := mk2); (with_reducible refine (public_n _ (HT.out.below H.out.bel) ((HK.out.below H.out.bel).more H.out.bel.size) H5.out Z5.out).mono ?_); rintro e wc ⟨a2, c2, rfl, hs, hb⟩; replace H := Lib.hid (H.out.call hb); replace BS := Lib.hid ((BS.out.call hb).add hs); have mk2 := trivial; clear hb hs)
    | ((fail_if_success have := mk3); (with_reducible refine (refInt_k _ 5 (by omega) (by omega)).mono ?_); rintro e wc ⟨rfl, hb⟩; replace H := Lib.hid (H.out.call hb); replace BS := Lib.hid ((BS.out.call hb)); have mk3 := trivial; clear hb)
    | ((fail_if_success have := mk4); (with_reducible refine (refBytes_sb _).mono ?_); rintro e wc ⟨a3, c3, rfl, hs, hb⟩; replace H := Lib.hid (H.out.call hb); replace BS := Lib.hid ((BS.out.call hb).add hs); have mk4 := trivial; clear hb hs)
    | ((fail_if_success have := mk5); (with_reducible refine (refX_n _ ((HK.out.below H.out.bel).more H.out.bel.size) (BS.out.at 0 rfl) (five_ref _ H5.out) (decide_eq_false Z5.out)).mono ?_); rintro e wc ⟨a4, c4, rfl, hs, hb⟩; replace H := Lib.hid (H.out.call hb); replace BS := Lib.hid ((BS.out.call hb).add hs); have mk5 := trivial; clear hb hs)
    | ((fail_if_success have := mk6); (with_reducible refine (cmp_ld (n := 56) _ (by omega) (BS.out.at 2 rfl) (BS.out.at 0 rfl)).mono ?_); rintro e wc ⟨rfl, hb⟩; replace H := Lib.hid (H.out.call hb); replace BS := Lib.hid ((BS.out.call hb)); have mk6 := trivial; clear hb)
    | ((fail_if_success have := mk7); (with_reducible refine (refX_z _ ((HK.out.below H.out.bel).more H.out.bel.size) ((HU.out.below H.out.bel).more H.out.bel.size) HR.out (decide_eq_true ZR.out)).mono ?_); rintro e wc ⟨rfl, hb⟩; replace H := Lib.hid (H.out.call hb); replace BS := Lib.hid ((BS.out.call hb)); have mk7 := trivial; clear hb)
    | ((with_reducible refine (awake10_k _ (HT.out.below H.out.bel)).mono ?_); rintro e wc ⟨rfl, hb⟩; replace H := Lib.hid (H.out.call hb); replace BS := Lib.hid ((BS.out.call hb)); clear hb))
  go_ret
  exact ⟨rfl, H.out.bel⟩
set_option maxRecDepth 20000 in
set_option maxHeartbeats 12800000 in
theorem shares_nn {a b : Option Addr} {c d x y : Nat} (w : World) (hT : Tp w) (hx : Sb w w.heap.size a 56 c x) (hy : Sb w w.heap.size b 56 d y) {R5 : K} (h5 : ldV (ofZ 5) (clN x) = R5) (z5 : R5 ≠ 0) {R : K} (hR : ldV (cN pN y) (clN x) = R) (zR : R ≠ 0) :
    Calls Tryd.prog 5 #[.slice a 56 c, .slice b 56 d] w fun e w' => e = .returned (.bool true) ∧ Below w.heap.size w w' := by
  have HK := Lib.hid hx
  have HU := Lib.hid hy
  clear hx hy
  have H5 := Lib.hid h5
  have Z5 := Lib.hid z5
  clear h5 z5
  have HR := Lib.hid hR
  have ZR := Lib.hid zR
  clear hR zR
  have BS := Lib.hid (Sbs.nil w)
  have HT := Lib.hid hT
  clear hT
  have H := Lib.hid (Ow.start w)
  go_enter Tryd.func5, Tryd.ntmps5
  go_wp2_with (first
    | ((fail_if_success have := mk1); (with_reducible refine (x448_n _ (HT.out.below H.out.bel) ((HK.out.below H.out.bel).more H.out.bel.size) ((HU.out.below H.out.bel).more H.out.bel.size) HR.out ZR.out).mono ?_); rintro e wc ⟨a1, c1, rfl, hs, hb⟩; replace H := Lib.hid (H.out.call hb); replace BS := Lib.hid ((BS.out.call hb).add hs); have mk1 := trivial; clear hb hs)
    | ((fail_if_success have := mk2); (with_reducible refine (public_n _ (HT.out.below H.out.bel) ((HK.out.below H.out.bel).more H.out.bel.size) H5.out Z5.out).mono ?_); rintro e wc ⟨a2, c2, rfl, hs, hb⟩; replace H := Lib.hid (H.out.call hb); replace BS := Lib.hid ((BS.out.call hb).add hs); have mk2 := trivial; clear hb hs)
    | ((fail_if_success have := mk3); (with_reducible refine (refInt_k _ 5 (by omega) (by omega)).mono ?_); rintro e wc ⟨rfl, hb⟩; replace H := Lib.hid (H.out.call hb); replace BS := Lib.hid ((BS.out.call hb)); have mk3 := trivial; clear hb)
    | ((fail_if_success have := mk4); (with_reducible refine (refBytes_sb _).mono ?_); rintro e wc ⟨a3, c3, rfl, hs, hb⟩; replace H := Lib.hid (H.out.call hb); replace BS := Lib.hid ((BS.out.call hb).add hs); have mk4 := trivial; clear hb hs)
    | ((fail_if_success have := mk5); (with_reducible refine (refX_n _ ((HK.out.below H.out.bel).more H.out.bel.size) (BS.out.at 0 rfl) (five_ref _ H5.out) (decide_eq_false Z5.out)).mono ?_); rintro e wc ⟨a4, c4, rfl, hs, hb⟩; replace H := Lib.hid (H.out.call hb); replace BS := Lib.hid ((BS.out.call hb).add hs); have mk5 := trivial; clear hb hs)
    | ((fail_if_success have := mk6); (with_reducible refine (cmp_ld (n := 56) _ (by omega) (BS.out.at 2 rfl) (BS.out.at 0 rfl)).mono ?_); rintro e wc ⟨rfl, hb⟩; replace H := Lib.hid (H.out.call hb); replace BS := Lib.hid ((BS.out.call hb)); have mk6 := trivial; clear hb)
    | ((fail_if_success have := mk7); (with_reducible refine (refX_n _ ((HK.out.below H.out.bel).more H.out.bel.size) ((HU.out.below H.out.bel).more H.out.bel.size) HR.out (decide_eq_false ZR.out)).mono ?_); rintro e wc ⟨a5, c5, rfl, hs, hb⟩; replace H := Lib.hid (H.out.call hb); replace BS := Lib.hid ((BS.out.call hb).add hs); have mk7 := trivial; clear hb hs)
    | ((fail_if_success have := mk8); (with_reducible refine (cmp_ld (n := 56) _ (by omega) (BS.out.at 4 rfl) (BS.out.at 0 rfl)).mono ?_); rintro e wc ⟨rfl, hb⟩; replace H := Lib.hid (H.out.call hb); replace BS := Lib.hid ((BS.out.call hb)); have mk8 := trivial; clear hb)
    | ((with_reducible refine (awake10_k _ (HT.out.below H.out.bel)).mono ?_); rintro e wc ⟨rfl, hb⟩; replace H := Lib.hid (H.out.call hb); replace BS := Lib.hid ((BS.out.call hb)); clear hb))
  go_ret
  exact ⟨rfl, H.out.bel⟩
theorem shares_walk {a b : Option Addr} {n m c d x y : Nat} (w : World) (hT : Tp w) (hx : Sb w w.heap.size a n c x) (hy : Sb w w.heap.size b m d y) :
    Calls Tryd.prog 5 #[.slice a n c, .slice b m d] w fun e w' => e = .returned (.bool true) ∧ Below w.heap.size w w' := by
  by_cases h1 : 80 < n
  · exact shares_far0 w hT hx hy h1
  by_cases h2 : 80 < m
  · exact shares_far1 w hT hx hy (by omega) h2
  by_cases h3 : n = 56
  · subst h3
    by_cases h4 : m = 56
    · subst h4
      by_cases z5 : ldV (ofZ 5) (clN x) = 0 <;> by_cases zR : ldV (cN pN y) (clN x) = 0
      · exact shares_zz w hT hx hy rfl z5 rfl zR
      · exact shares_zn w hT hx hy rfl z5 rfl zR
      · exact shares_nz w hT hx hy rfl z5 rfl zR
      · exact shares_nn w hT hx hy rfl z5 rfl zR
    · by_cases z5 : ldV (ofZ 5) (clN x) = 0
      · exact shares_zb w hT hx hy rfl z5 (by omega) h4
      · exact shares_nb w hT hx hy rfl z5 (by omega) h4
  · exact shares_bad w hT hx hy (by omega) (by omega) h3
end Go.Proofs.YtckmboebipbpbaaDoor
