/- Lemmas; no statement is proved here. -/
import Derived.Test.YtgjbonikbmgfmaaGreatDoorBuZ
namespace Go.Proofs.YtgjbonikbmgfmaaGreatDoor
open Go.RowKit
abbrev LZ (g : Nat → BitVec 64) : Nat → Int := fun i => L (g i)
abbrev WB (t : TypeId) (n : Nat) (g : Nat → BitVec 64) : Obj := zv t .u64 n (LZ g)
structure Tl (r : Bool) (w : World) : Prop where
 ord : ∀ i, i < 7 → w.cell? ⟨1, i, none⟩ = some (V (wd lN i))
 rst : r = true → ∀ i, i < 4 → w.cell? ⟨2, i, none⟩ = some (V (wd rN i))
theorem Tl.below {r : Bool} {w w' : World} (h : Tl r w) (hb : Below w.heap.size w w') : Tl r w' :=
 ⟨fun i hi => (hb.cell (p := ⟨_, i, none⟩) (block_lt_of_cell (h.ord i hi))).trans (h.ord i hi), fun hr i hi => (hb.cell (p := ⟨_, i, none⟩) (block_lt_of_cell (h.rst hr i hi))).trans (h.rst hr i hi)⟩
def more (x : Nat) : Nat := tN + x
@[go_sem] theorem and62_bv (a : BitVec 64) : bits .and .u64 (L a) 4611686018427387903 = L (a &&& 4611686018427387903) := and_bv a 4611686018427387903
@[go_sem] theorem u64_add (a b : BitVec 64) : IntKind.u64.wrap (L a + L b) = L (a + b) := by
 rw [IntKind.wrap_u64]
 unfold L
 rw [BitVec.toNat_add]
 show _ = (((a.toNat + b.toNat) % 18446744073709551616 : Nat) : Int)
 omega
theorem z81.setCell {g : Nat} {w w' : World} (h : z81 g w w') (i : Nat) (v : Value) : z81 g w (w'.setCell ⟨g, i, none⟩ v) := fun b hb => (heap_setCell_other _ _ _ _ (by show b ≠ g; exact hb)).trans (h b hb)
theorem z81.refl (g : Nat) (w : World) : z81 g w w := fun _ _ => rfl
def come (X i : Nat) : Nat := X % qN + X / qN % 2 ^ (64 * i) * rN
theorem Ow.sw {w W : World} {l : List (Nat × Obj)} (h : Ow w W l) (i : Nat) {g n N x c : Nat} {t : TypeId} (hi : l[i]? = some (g, WB t N (wd x))) (hn : n ≤ N) (hc : n ≤ c) (hx : x < 2 ^ (64 * n)) : Sw W W.heap.size (some ⟨g, 0, none⟩) n c x :=
 ⟨hc, (fun e => by cases e), fun ad e _ => ⟨g, 0, (Option.some.inj e).symm, z01 (h.row i hi), fun j hj => by rw [Nat.zero_add]; exact h.cell i hi j (by omega)⟩, hx⟩
@[go_sem] theorem u8_andNot3 (a : BitVec 8) : bits .andNot .u8 (U8 a) 3 = U8 (a &&& ~~~3) := by
 revert a
 decide +kernel
@[go_sem] theorem u8_or128 (a : BitVec 8) : bits .or .u8 (U8 a) 128 = U8 (a ||| 128) := by
 revert a
 decide +kernel
theorem z2f {w w' : World} {g n c x : Nat} {o : Obj} (h : w.heap[g]? = some o) (h' : w'.heap[g]? = some o) (hs : Sb w w.heap.size (some ⟨g, 0, none⟩) n c x) : Sb w' w'.heap.size (some ⟨g, 0, none⟩) n c x :=
 ⟨⟨hs.sl.le, (fun e => by cases e), fun ad e h0 => by
  obtain ⟨b, q, e1, _, hc⟩ := hs.sl.low ad e h0
  cases e
  cases e1
  exact ⟨g, 0, rfl, z01 h', fun i hi => by
   have h1 := hc i hi
   unfold World.cell? at h1 ⊢
   simp only [h, h'] at h1 ⊢
   exact h1⟩⟩, hs.fits⟩
end Go.Proofs.YtgjbonikbmgfmaaGreatDoor
