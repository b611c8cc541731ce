/-
  Slices of bytes that are numbers and live through calls; the law's raws as bytes; two secrets one after the other. No statement is proved here: lemmas for the walks.
-/
import Derived.Test.YtckmboebipbpbaaDoorZLdX
import Derived.Test.YtckmboebipbpbaaDoorBuV
import Derived.Test.YtckmboebipbpbaaDoorBuN
import Derived.Test.YtckmboebipbpbaaDoorBuE
namespace Go.Proofs.YtckmboebipbpbaaDoor
open Go.RowKit

/-- A slice: its address, how many bytes, its capacity, its number. -/
structure Sq where
  a : Option Addr
  n : Nat
  c : Nat
  x : Nat
/-- These slices hold their numbers now. -/
def Sbs (W : World) (l : List Sq) : Prop := ∀ t ∈ l, Sb W W.heap.size t.a t.n t.c t.x
theorem Sbs.nil (W : World) : Sbs W [] := fun _ h => nomatch h
theorem Sbs.call {W W' : World} {l : List Sq} (h : Sbs W l) (hb : Below W.heap.size W W') : Sbs W' l := fun t ht => (h t ht).call hb
theorem Sbs.add {W : World} {l : List Sq} {a : Option Addr} {n c x : Nat} (h : Sbs W l) (hs : Sb W W.heap.size a n c x) : Sbs W (⟨a, n, c, x⟩ :: l) := fun t ht => by
  rcases List.mem_cons.1 ht with rfl | ht
  · exact hs
  · exact h t ht
theorem Sbs.at {W : World} {l : List Sq} (h : Sbs W l) (i : Nat) {t : Sq} (hi : l[i]? = some t) : Sb W W.heap.size t.a t.n t.c t.x := h t (List.mem_of_getElem? hi)
/-- Raw bytes as a slice. -/
theorem lawBytes_x {f : Nat → BitVec 8} {x : Nat} (w : World) (hx : x < 2 ^ (8 * 56)) (he : ∀ i, i < 56 → bt x i = f i) :
    Calls Tryd.prog 25 #[.agg (AZ .u8 56 (UB f))] w fun e w' => ∃ a c, e = .returned (.slice a 56 c) ∧ Sb w' w'.heap.size a 56 c x ∧ Below w.heap.size w w' :=
  (lawBytes_any f w).mono fun _ _ ⟨a, c, h, hs, hb⟩ => ⟨a, c, h, ⟨hs.congr fun i hi => (he i hi).symm, hx⟩, hb⟩
theorem x448_z {a b : Option Addr} {c d x y : Nat} {R : K} (w : World) (hT : Tp w) (hx : Sb w w.heap.size a 56 c x) (hy : Sb w w.heap.size b 56 d y) (hR : ldV (cN pN y) (clN x) = R) (h0 : R = 0) :
    Calls Tryd.prog 19 #[.slice a 56 c, .slice b 56 d] w fun e w' => ∃ a' c', e = .returned (.tuple #[.slice a' 0 c', .int .i64 15]) ∧ Sb w' w'.heap.size a' 0 c' R.val ∧ Below w.heap.size w w' :=
  (x448_k w hT hx hy hR).mono fun _ _ ⟨a', c', h, hs, hb⟩ => by
    subst h0
    rw [lnR_zero] at h hs
    rw [erR_zero] at h
    exact ⟨a', c', h, hs, hb⟩
theorem x448_n {a b : Option Addr} {c d x y : Nat} {R : K} (w : World) (hT : Tp w) (hx : Sb w w.heap.size a 56 c x) (hy : Sb w w.heap.size b 56 d y) (hR : ldV (cN pN y) (clN x) = R) (h0 : R ≠ 0) :
    Calls Tryd.prog 19 #[.slice a 56 c, .slice b 56 d] w fun e w' => ∃ a' c', e = .returned (.tuple #[.slice a' 56 c', .int .i64 0]) ∧ Sb w' w'.heap.size a' 56 c' R.val ∧ Below w.heap.size w w' :=
  (x448_k w hT hx hy hR).mono fun _ _ ⟨a', c', h, hs, hb⟩ => by
    rw [lnR_ne h0] at h hs
    rw [erR_ne h0] at h
    exact ⟨a', c', h, hs, hb⟩
theorem public_z {a : Option Addr} {c x : Nat} {R : K} (w : World) (hT : Tp w) (hx : Sb w w.heap.size a 56 c x) (hR : ldV (ofZ 5) (clN x) = R) (h0 : R = 0) :
    Calls Tryd.prog 20 #[.slice a 56 c] w fun e w' => ∃ a' c', e = .returned (.tuple #[.slice a' 0 c', .int .i64 15]) ∧ Sb w' w'.heap.size a' 0 c' R.val ∧ Below w.heap.size w w' :=
  (public_k w hT hx hR).mono fun _ _ ⟨a', c', h, hs, hb⟩ => by
    subst h0
    rw [lnR_zero] at h hs
    rw [erR_zero] at h
    exact ⟨a', c', h, hs, hb⟩
theorem public_n {a : Option Addr} {c x : Nat} {R : K} (w : World) (hT : Tp w) (hx : Sb w w.heap.size a 56 c x) (hR : ldV (ofZ 5) (clN x) = R) (h0 : R ≠ 0) :
    Calls Tryd.prog 20 #[.slice a 56 c] w fun e w' => ∃ a' c', e = .returned (.tuple #[.slice a' 56 c', .int .i64 0]) ∧ Sb w' w'.heap.size a' 56 c' R.val ∧ Below w.heap.size w w' :=
  (public_k w hT hx hR).mono fun _ _ ⟨a', c', h, hs, hb⟩ => by
    rw [lnR_ne h0] at h hs
    rw [erR_ne h0] at h
    exact ⟨a', c', h, hs, hb⟩
end Go.Proofs.YtckmboebipbpbaaDoor
