/-
  The contract of the law's twice. No statement is proved here: lemmas for the walks.
-/
import Derived.Test.YtckmboebipbpbaaDoorZLdAwake
import Derived.Test.YtckmboebipbpbaaDoorBuN
import Derived.Deep.CutRange
namespace Go.Proofs.YtckmboebipbpbaaDoor
open Go.RowKit

set_option maxRecDepth 20000 in
set_option maxHeartbeats 12800000 in
theorem twice_dead {a b v : Option Addr} {c d q j k y : Nat} {r : K} (w : World) (hT : Tp w) (hj : Sb w w.heap.size a 56 c j) (hk : Sb w w.heap.size b 56 d k) (hu : Sb w w.heap.size v 56 q y) (h1 : ldV (cN pN y) (clN j) = r) (hz : r = 0) :
    Calls Tryd.prog 28 #[.slice a 56 c, .slice b 56 d, .slice v 56 q] w fun e w' => e = .returned (.tuple #[.slice none 0 0, .int .i64 15]) ∧ Below w.heap.size w w' := by
  have HJ := Lib.hid hj
  have HK := Lib.hid hk
  have HU := Lib.hid hu
  have H1 := Lib.hid h1
  have Z := Lib.hid hz
  clear hj hk hu h1 hz
  have HT := Lib.hid hT
  clear hT
  have H := Lib.hid (Ow.start w)
  go_enter Tryd.func28, Tryd.ntmps28
  go_wp2_with (first
    | ((with_reducible refine (x448_z _ (HT.out.below H.out.bel) ((HJ.out.below H.out.bel).more H.out.bel.size) ((HU.out.below H.out.bel).more H.out.bel.size) H1.out Z.out).mono ?_); rintro e wc ⟨a1, c1, rfl, hs, hb⟩; replace H := Lib.hid (H.out.call hb); clear hb hs))
  go_ret2
  exact ⟨rfl, H.out.bel⟩
set_option maxRecDepth 20000 in
set_option maxHeartbeats 12800000 in
theorem twice_go {a b v : Option Addr} {c d q j k y : Nat} {r R : K} (w : World) (hT : Tp w) (hj : Sb w w.heap.size a 56 c j) (hk : Sb w w.heap.size b 56 d k) (hu : Sb w w.heap.size v 56 q y) (h1 : ldV (cN pN y) (clN j) = r) (hz : r ≠ 0) (h2 : ldV r (clN k) = R) :
    Calls Tryd.prog 28 #[.slice a 56 c, .slice b 56 d, .slice v 56 q] w fun e w' => ∃ a' c', e = .returned (.tuple #[.slice a' (lnR R) c', .int .i64 (erR R)]) ∧ Sb w' w'.heap.size a' (lnR R) c' R.val ∧ Below w.heap.size w w' := by
  have H2 : Hid (ldV (cN pN r.val) (clN k) = R) := Lib.hid (by rw [cN_val, h2])
  clear h2
  have HJ := Lib.hid hj
  have HK := Lib.hid hk
  have HU := Lib.hid hu
  have H1 := Lib.hid h1
  have Z := Lib.hid hz
  clear hj hk hu h1 hz
  have HT := Lib.hid hT
  clear hT
  have H := Lib.hid (Ow.start w)
  go_enter Tryd.func28, Tryd.ntmps28
  go_wp2_with (first
    | ((fail_if_success have := mk1); (with_reducible refine (x448_n _ (HT.out.below H.out.bel) ((HJ.out.below H.out.bel).more H.out.bel.size) ((HU.out.below H.out.bel).more H.out.bel.size) H1.out Z.out).mono ?_); rintro e wc ⟨a1, c1, rfl, hs, hb⟩; replace H := Lib.hid (H.out.call hb); have SB := Lib.hid hs; have mk1 := trivial; clear hb hs)
    | ((with_reducible refine (x448_k _ (HT.out.below H.out.bel) ((HK.out.below H.out.bel).more H.out.bel.size) SB.out H2.out).mono ?_); rintro e wc ⟨a2, c2, rfl, hs, hb⟩; replace H := Lib.hid (H.out.call hb); clear SB; have SB := Lib.hid hs; clear hb hs))
  go_ret2
  exact ⟨_, _, rfl, SB.out, H.out.bel⟩
theorem twice_k {a b v : Option Addr} {c d q j k y : Nat} {R : K} (w : World) (hT : Tp w) (hj : Sb w w.heap.size a 56 c j) (hk : Sb w w.heap.size b 56 d k) (hu : Sb w w.heap.size v 56 q y) (hR : ldV (ldV (cN pN y) (clN j)) (clN k) = R) :
    Calls Tryd.prog 28 #[.slice a 56 c, .slice b 56 d, .slice v 56 q] w fun e w' => ∃ a' c', e = .returned (.tuple #[.slice a' (lnR R) c', .int .i64 (erR R)]) ∧ Sb w' w'.heap.size a' (lnR R) c' R.val ∧ Below w.heap.size w w' := by
  by_cases hz : ldV (cN pN y) (clN j) = 0
  · have h0 : R = 0 := by rw [← hR, hz, ldV_dead]
    refine (twice_dead w hT hj hk hu rfl hz).mono fun _ _ ⟨he, hb⟩ => ⟨none, 0, ?_, ?_, hb⟩
    · rw [h0, lnR_zero, erR_zero]
      exact he
    · rw [h0, lnR_zero]
      exact ⟨⟨Nat.le_refl _, fun _ => rfl, fun _ e _ => by cases e⟩, by decide⟩
  · exact twice_go w hT hj hk hu rfl hz hR
theorem twice_z {a b v : Option Addr} {c d q j k y : Nat} {R : K} (w : World) (hT : Tp w) (hj : Sb w w.heap.size a 56 c j) (hk : Sb w w.heap.size b 56 d k) (hu : Sb w w.heap.size v 56 q y) (hR : ldV (ldV (cN pN y) (clN j)) (clN k) = R) (h0 : R = 0) :
    Calls Tryd.prog 28 #[.slice a 56 c, .slice b 56 d, .slice v 56 q] w fun e w' => ∃ a' c', e = .returned (.tuple #[.slice a' 0 c', .int .i64 15]) ∧ Sb w' w'.heap.size a' 0 c' R.val ∧ Below w.heap.size w w' :=
  (twice_k w hT hj hk hu hR).mono fun _ _ ⟨a', c', h, hs, hb⟩ => by
    subst h0
    rw [lnR_zero] at h hs
    rw [erR_zero] at h
    exact ⟨a', c', h, hs, hb⟩
theorem twice_n {a b v : Option Addr} {c d q j k y : Nat} {R : K} (w : World) (hT : Tp w) (hj : Sb w w.heap.size a 56 c j) (hk : Sb w w.heap.size b 56 d k) (hu : Sb w w.heap.size v 56 q y) (hR : ldV (ldV (cN pN y) (clN j)) (clN k) = R) (h0 : R ≠ 0) :
    Calls Tryd.prog 28 #[.slice a 56 c, .slice b 56 d, .slice v 56 q] w fun e w' => ∃ a' c', e = .returned (.tuple #[.slice a' 56 c', .int .i64 0]) ∧ Sb w' w'.heap.size a' 56 c' R.val ∧ Below w.heap.size w w' :=
  (twice_k w hT hj hk hu hR).mono fun _ _ ⟨a', c', h, hs, hb⟩ => by
    rw [lnR_ne h0] at h hs
    rw [erR_ne h0] at h
    exact ⟨a', c', h, hs, hb⟩
theorem cmp_any {a a' : Option Addr} {n c c' x : Nat} (w : World) (hn : n ≤ 100000) (h1 : Sb w w.heap.size a n c x) (h2 : Sb w w.heap.size a' n c' x) :
    Calls Tryd.prog 24 #[.slice a n c, .slice a' n c'] w fun e w' => e = .returned (.bool true) ∧ Below w.heap.size w w' :=
  (cmp_same a a' n c c' x x w hn h1 h2).mono fun _ _ ⟨he, hb⟩ => ⟨by rw [he, decide_eq_true rfl], hb⟩
end Go.Proofs.YtckmboebipbpbaaDoor
