/-
  The chapter's examples of digits hold. No statement is proved here: lemmas for the walks.
-/
import Derived.Test.YtgdfpboccgfadaaZDgPlain
import Derived.Test.YtgdfpboccgfadaaZDgColumns
import Derived.Test.YtgdfpboccgfadaaZDgSignedV
import Derived.Test.YtgdfpboccgfadaaZDlLeaf
import Derived.Test.YtgdfpboccgfadaaZOwnZB
namespace Go.Proofs.Ytgdfpboccgfadaa
open Go.RowKit

/-- Slices of ints that live through calls: nothing that was there at first has turned. -/
structure Lz (W w : World) (l : List (Option Addr × Nat × Nat × (Nat → Int))) : Prop where
  bel : Below W.heap.size W w
  sz : ∀ q ∈ l, SlZ w w.heap.size q.1 q.2.1 q.2.2.1 q.2.2.2
section
variable {W w w' : World} {l : List (Option Addr × Nat × Nat × (Nat → Int))}
theorem Lz.start (W : World) : Lz W W [] := ⟨Below.refl _ _, fun _ h => by cases h⟩
theorem Lz.call (h : Lz W w l) (hb : Below w.heap.size w w') : Lz W w' l := ⟨h.bel.trans (hb.mono h.bel.size), fun q hq => (h.sz q hq).call hb⟩
theorem Lz.alloc (h : Lz W w l) (o : Obj) : Lz W (w.alloc o) l := h.call (below_alloc _ _)
theorem Lz.add (h : Lz W w l) {a : Option Addr} {n c : Nat} {f : Nat → Int} (hs : SlZ w w.heap.size a n c f) : Lz W w ((a, n, c, f) :: l) :=
  ⟨h.bel, fun q hq => by
    rcases List.mem_cons.1 hq with rfl | hq
    · exact hs
    · exact h.sz q hq⟩
theorem Lz.gz (h : Lz W w l) (i : Nat) {a : Option Addr} {n c : Nat} {f : Nat → Int} (e : l[i]? = some (a, n, c, f)) : SlZ w w.heap.size a n c f := h.sz _ (List.mem_of_getElem? e)
end
/-- A literal of ints. -/
theorem lit_z (w : World) (cs : Array Value) (n : Nat) (f : Nat → Int) (h : ∀ i, i < n → cs[i]? = some (.int .i64 (f i))) : SlZ (w.alloc (.cells cs 3)) (w.alloc (.cells cs 3)).heap.size (some ⟨w.heap.size, 0, none⟩) n n f :=
  ⟨Nat.le_refl _, (fun e => by cases e), fun ad e _ => ⟨w.heap.size, 0, (Option.some.inj e).symm, by simp, fun i hi => by
    rw [Nat.zero_add, cell_of_row _ _ _ _ _ _ (heap_alloc_last w _)]
    exact h i hi⟩⟩
theorem lit_at {cs : Array Value} {i : Nat} {z z' : Int} (h : cs[i]? = some (.int .i64 z)) (e : z = z') : cs[i]? = some (.int .i64 z') := e ▸ h
theorem sb_255 (w : World) : Sb (w.alloc (.cells #[.int .u8 255] 5)) (w.alloc (.cells #[.int .u8 255] 5)).heap.size (some ⟨w.heap.size, 0, none⟩) 1 1 255 := sb_one w 255 (by omega)
theorem lit_plain (w : World) : SlZ (w.alloc (.cells #[.int .i64 7, .int .i64 7, .int .i64 3] 3)) (w.alloc (.cells #[.int .i64 7, .int .i64 7, .int .i64 3] 3)).heap.size (some ⟨w.heap.size, 0, none⟩) 3 3 (fun i => ((pl 255 3 i : Nat) : Int)) :=
  lit_z w _ 3 _ fun i hi => by rcases (by omega : i = 0 ∨ i = 1 ∨ i = 2) with rfl | rfl | rfl <;> exact lit_at rfl (by decide)
theorem lit_signed (w : World) : SlZ (w.alloc (.cells #[.int .i64 (-1), .int .i64 0, .int .i64 (-4), .int .i64 1] 3)) (w.alloc (.cells #[.int .i64 (-1), .int .i64 0, .int .i64 (-4), .int .i64 1] 3)).heap.size (some ⟨w.heap.size, 0, none⟩) 4 4 (sdg 255 3) :=
  lit_z w _ 4 _ fun i hi => by rcases (by omega : i = 0 ∨ i = 1 ∨ i = 2 ∨ i = 3) with rfl | rfl | rfl | rfl <;> exact lit_at rfl (by decide)
theorem lit_columns (w : World) : SlZ (w.alloc (.cells #[.int .i64 15, .int .i64 15] 3)) (w.alloc (.cells #[.int .i64 15, .int .i64 15] 3)).heap.size (some ⟨w.heap.size, 0, none⟩) 2 2 (fun i => ((tog 255 i 2 4 : Nat) : Int)) :=
  lit_z w _ 2 _ fun i hi => by rcases (by omega : i = 0 ∨ i = 1) with rfl | rfl <;> exact lit_at rfl (by decide)
theorem plain_z (a : Option Addr) (n c x k m : Nat) (z : Int) (w : World) (hz : z = (k : Int)) (hn : n ≤ 64) (hk : 1 ≤ k) (hk8 : k ≤ 8) (hm : (8 * n + k - 1) / k = m) (hs : Sb w w.heap.size a n c x) :
    Calls Try.prog 10 #[.slice a n c, .int .i64 z] w fun e w' => ∃ g, e = .returned (.tuple #[.slice (some ⟨g, 0, none⟩) m m, .int .i64 0]) ∧ SlZ w' w'.heap.size (some ⟨g, 0, none⟩) m m (fun i => ((pl x k i : Nat) : Int)) ∧ Below w.heap.size w w' := by
  subst hz
  exact (plain_v a n c x k m w hn hk hk8 hm hs).mono fun _ _ ⟨g, he, _, hr, hb⟩ => ⟨g, he, SlZ.row hr, hb⟩
theorem columns_z (a : Option Addr) (n c x k m : Nat) (z : Int) (w : World) (hz : z = (k : Int)) (hn : n ≤ 64) (hk : 1 ≤ k) (hk8 : k ≤ 8) (hm : (8 * n + k - 1) / k = m) (hs : Sb w w.heap.size a n c x) :
    Calls Try.prog 13 #[.slice a n c, .int .i64 z] w fun e w' => ∃ g, e = .returned (.tuple #[.slice (some ⟨g, 0, none⟩) m m, .int .i64 0]) ∧ SlZ w' w'.heap.size (some ⟨g, 0, none⟩) m m (fun i => ((tog x i m k : Nat) : Int)) ∧ Below w.heap.size w w' := by
  subst hz
  exact (columns_v a n c x k m w hn hk hk8 hm hs).mono fun _ _ ⟨g, he, _, hr, hb⟩ => ⟨g, he, SlZ.row hr, hb⟩
theorem signed_z (a : Option Addr) (n c x k m m1 : Nat) (z : Int) (w : World) (hz : z = (k : Int)) (hn : n ≤ 64) (hk : 2 ≤ k) (hk8 : k ≤ 8) (hm : (8 * n + k - 1) / k = m) (hm1 : m + 1 = m1) (hs : Sb w w.heap.size a n c x) :
    Calls Try.prog 11 #[.slice a n c, .int .i64 z] w fun e w' => ∃ g, e = .returned (.tuple #[.slice (some ⟨g, 0, none⟩) m1 m1, .int .i64 0]) ∧ SlZ w' w'.heap.size (some ⟨g, 0, none⟩) m1 m1 (sdg x k) ∧ Below w.heap.size w w' := by
  subst hz hm1
  exact (signed_v a n c x k m w hn hk hk8 hm hs).mono fun _ _ ⟨g, he, _, hr, hb⟩ => ⟨g, he, SlZ.row hr, hb⟩
set_option maxRecDepth 8000 in
set_option maxHeartbeats 1600000 in
theorem dawake_v (w : World) : Calls Try.prog 8 #[] w fun e w' => e = .returned (.bool true) ∧ Below w.heap.size w w' := by
  go_enter Try.func8, Try.ntmps8
  go_wp2_with (first
    | ((with_reducible refine (plain_z (some ⟨w.heap.size, 0, none⟩) 1 1 255 3 3 3 _ rfl (by omega) (by omega) (by omega) rfl (sb_255 w)).mono ?_); rintro e w1 ⟨g1, rfl, hr, hb⟩; have L := Lib.hid ((((Lz.start w).alloc _).call hb).add hr); clear hr hb)
    | ((with_reducible refine (signed_z (some ⟨w1.heap.size, 0, none⟩) 1 1 255 3 3 4 3 _ rfl (by omega) (by omega) (by omega) rfl rfl (sb_255 w1)).mono ?_); rintro e w2 ⟨g2, rfl, hr, hb⟩; replace L := Lib.hid (((L.out.alloc _).call hb).add hr); clear hr hb)
    | ((with_reducible refine (columns_z (some ⟨w2.heap.size, 0, none⟩) 1 1 255 4 2 4 _ rfl (by omega) (by omega) (by omega) rfl (sb_255 w2)).mono ?_); rintro e w3 ⟨g3, rfl, hr, hb⟩; replace L := Lib.hid (((L.out.alloc _).call hb).add hr); clear hr hb)
    | ((with_reducible refine (ints_v (some ⟨g1, 0, none⟩) (some ⟨w3.heap.size, 0, none⟩) 3 3 3 _ _ (by omega) ((L.out.alloc (.cells #[.int .i64 7, .int .i64 7, .int .i64 3] 3)).gz 2 rfl) (lit_plain w3)).mono ?_); rintro e w4 ⟨rfl, hb⟩; replace L := Lib.hid ((L.out.alloc _).call hb); clear hb)
    | ((with_reducible refine (ints_v (some ⟨g2, 0, none⟩) (some ⟨w4.heap.size, 0, none⟩) 4 4 4 _ _ (by omega) ((L.out.alloc (.cells #[.int .i64 (-1), .int .i64 0, .int .i64 (-4), .int .i64 1] 3)).gz 1 rfl) (lit_signed w4)).mono ?_); rintro e w5 ⟨rfl, hb⟩; replace L := Lib.hid ((L.out.alloc _).call hb); clear hb)
    | ((with_reducible refine (ints_v (some ⟨g3, 0, none⟩) (some ⟨w5.heap.size, 0, none⟩) 2 2 2 _ _ (by omega) ((L.out.alloc (.cells #[.int .i64 15, .int .i64 15] 3)).gz 0 rfl) (lit_columns w5)).mono ?_); rintro e w6 ⟨rfl, hb⟩; replace L := Lib.hid ((L.out.alloc _).call hb); clear hb))
  go_ret
  exact ⟨rfl, L.out.bel⟩
end Go.Proofs.Ytgdfpboccgfadaa
