/-
  A hash as it lies in memory, and the laws of the walk on it.
-/
import Derived.Test.YtjppmeihobcenaaDoorShMath
import Derived.Test.YtjppmeihobcenaaDoorKecSt
import Derived.Test.YtjppmeihobcenaaDoorKecHeld
import Derived.Laws.CopyOwn
import Derived.Deep.LoopGhost
namespace Go.Proofs.YtjppmeihobcenaaDoor
open Go.RowKit

def HB (h : HS) : Array Value := A 25 h.s ++ AB 136 h.b ++ #[.int .i64 (h.k : Int), .bool h.tl]
theorem HB_size (h : HS) : (HB h).size = 163 := by simp [HB, A_size, AB_size]
def HBat (h : HS) (j : Nat) : Option Value := if j < 25 then some (V (h.s j)) else if j < 161 then some (U (h.b (j - 25))) else if j = 161 then some (.int .i64 (h.k : Int)) else if j = 162 then some (.bool h.tl) else none
theorem HBat_s (h : HS) (j : Nat) (hj : j < 25) : HBat h j = some (V (h.s j)) := by unfold HBat; rw [if_pos hj]
theorem HBat_b (h : HS) (j : Nat) (h1 : 25 ≤ j) (h2 : j < 161) : HBat h j = some (U (h.b (j - 25))) := by unfold HBat; rw [if_neg (by omega), if_pos h2]
theorem HBat_k (h : HS) (j : Nat) (hj : j = 161) : HBat h j = some (.int .i64 (h.k : Int)) := by subst hj; rfl
theorem HBat_t (h : HS) (j : Nat) (hj : j = 162) : HBat h j = some (.bool h.tl) := by subst hj; rfl
theorem HBat_o (h : HS) (j : Nat) (hj : 163 ≤ j) : HBat h j = none := by unfold HBat; rw [if_neg (by omega), if_neg (by omega), if_neg (by omega), if_neg (by omega)]
theorem HBat_of (h h' : HS) (j : Nat) (hs : j < 25 → h.s j = h'.s j) (hb : 25 ≤ j → j < 161 → h.b (j - 25) = h'.b (j - 25)) (hk : j = 161 → h.k = h'.k) (ht : j = 162 → h.tl = h'.tl) : HBat h j = HBat h' j := by
  by_cases h1 : j < 25
  · rw [HBat_s _ _ h1, HBat_s _ _ h1, hs h1]
  · by_cases h2 : j < 161
    · rw [HBat_b _ _ (by omega) h2, HBat_b _ _ (by omega) h2, hb (by omega) h2]
    · by_cases h3 : j = 161
      · rw [HBat_k _ _ h3, HBat_k _ _ h3, hk h3]
      · by_cases h4 : j = 162
        · rw [HBat_t _ _ h4, HBat_t _ _ h4, ht h4]
        · rw [HBat_o _ _ (by omega), HBat_o _ _ (by omega)]
theorem HB_get (h : HS) (j : Nat) : (HB h)[j]? = HBat h j := by
  unfold HB HBat
  by_cases h1 : j < 25
  · rw [if_pos h1, Array.append_assoc, Array.getElem?_append_left (by rw [A_size]; exact h1), A_get _ _ _ h1]
  · rw [if_neg h1, Array.append_assoc, Array.getElem?_append_right (by rw [A_size]; omega), A_size]
    by_cases h2 : j < 161
    · rw [if_pos h2, Array.getElem?_append_left (by rw [AB_size]; omega), AB_get _ _ _ (by omega)]
    · rw [if_neg h2, Array.getElem?_append_right (by rw [AB_size]; omega), AB_size]
      by_cases h3 : j = 161
      · subst h3; rfl
      · rw [if_neg h3]
        by_cases h4 : j = 162
        · subst h4; rfl
        · rw [if_neg h4]
          exact Array.getElem?_eq_none (by simp; omega)
theorem HB_ext (c : Array Value) (h : HS) (hc : ∀ j, c[j]? = HBat h j) : c = HB h := by
  apply Array.ext_getElem?
  intro j
  rw [hc, HB_get]
theorem HB_one (h : HS) : (HB h).all (·.oneCell') = true := by
  rw [Array.all_eq_true']
  intro v hv
  obtain ⟨j, hj⟩ := Array.getElem?_of_mem hv
  rw [HB_get] at hj
  unfold HBat at hj
  split at hj
  · obtain rfl := Option.some.inj hj; rfl
  · split at hj
    · obtain rfl := Option.some.inj hj; rfl
    · split at hj
      · obtain rfl := Option.some.inj hj; rfl
      · split at hj
        · obtain rfl := Option.some.inj hj; rfl
        · cases hj
theorem splice_get (c : Array Value) (o : Nat) (cs : List Value) (hf : o + cs.length ≤ c.size) (j : Nat) :
    ((c.toList.take o ++ cs ++ c.toList.drop (o + cs.length)).toArray)[j]? = if j < o then c[j]? else if j < o + cs.length then cs[j - o]? else c[j]? := by
  have hl : (c.toList.take o).length = o := by simp; omega
  rw [List.getElem?_toArray, List.append_assoc]
  by_cases h1 : j < o
  · rw [if_pos h1, List.getElem?_append_left (by omega), List.getElem?_take_of_lt h1, Array.getElem?_toList]
  · rw [if_neg h1, List.getElem?_append_right (by omega), hl]
    by_cases h2 : j < o + cs.length
    · rw [if_pos h2, List.getElem?_append_left (by omega)]
    · rw [if_neg h2, List.getElem?_append_right (by omega), List.getElem?_drop, Array.getElem?_toList]
      congr 1
      omega
theorem A_cells_at (n : Nat) (f : Nat → BitVec 64) (j : Nat) (h : j < n) : (A n f).toList[j]? = some (V (f j)) := by rw [Array.getElem?_toList, A_get _ _ _ h]
theorem AB_cells_at (n : Nat) (f : Nat → BitVec 8) (j : Nat) (h : j < n) : (AB n f).toList[j]? = some (U (f j)) := by rw [Array.getElem?_toList, AB_get _ _ _ h]
theorem news_at (n : Nat) (f : Nat → BitVec 8) (j : Nat) (h : j < n) : ((List.range n).map fun i => U (f i))[j]? = some (U (f j)) := by simp [h]

/-- What a splice makes of a hash. -/
def Spl (h : HS) (o : Nat) (cs : List Value) (h' : HS) : Prop := o + cs.length ≤ 163 ∧ ((HB h).toList.take o ++ cs ++ (HB h).toList.drop (o + cs.length)).toArray = HB h'
theorem spl_of (h h' : HS) (o : Nat) (cs : List Value) (hf : o + cs.length ≤ 163) (hb : ∀ j, j < o → HBat h j = HBat h' j) (ha : ∀ j, o + cs.length ≤ j → HBat h j = HBat h' j) (hi : ∀ j, j < cs.length → cs[j]? = HBat h' (o + j)) : Spl h o cs h' := by
  refine ⟨hf, HB_ext _ _ fun j => ?_⟩
  rw [splice_get _ _ _ (by rw [HB_size]; exact hf)]
  by_cases h1 : j < o
  · rw [if_pos h1, HB_get, hb j h1]
  · rw [if_neg h1]
    by_cases h2 : j < o + cs.length
    · rw [if_pos h2, hi _ (by omega)]
      congr 1
      omega
    · rw [if_neg h2, HB_get, ha j (by omega)]
theorem spl_s (h : HS) (f : Nat → BitVec 64) : Spl h 0 (A 25 f).toList { h with s := f } := by
  have hl : (A 25 f).toList.length = 25 := by rw [Array.length_toList, A_size]
  refine spl_of _ _ _ _ (by omega) (fun j hj => by omega) (fun j hj => ?_) (fun j hj => ?_)
  · exact HBat_of _ _ _ (fun h1 => by omega) (fun _ _ => rfl) (fun _ => rfl) (fun _ => rfl)
  · rw [A_cells_at _ _ _ (by omega), Nat.zero_add, HBat_s _ _ (by omega)]
theorem spl_b (h : HS) (f : Nat → BitVec 8) : Spl h 25 (AB 136 f).toList { h with b := f } := by
  have hl : (AB 136 f).toList.length = 136 := by rw [Array.length_toList, AB_size]
  refine spl_of _ _ _ _ (by omega) (fun j hj => ?_) (fun j hj => ?_) (fun j hj => ?_)
  · exact HBat_of _ _ _ (fun _ => rfl) (fun h1 _ => by omega) (fun _ => rfl) (fun _ => rfl)
  · exact HBat_of _ _ _ (fun _ => rfl) (fun _ h1 => by omega) (fun _ => rfl) (fun _ => rfl)
  · rw [AB_cells_at _ _ _ (by omega), HBat_b _ _ (by omega) (by omega), Nat.add_sub_cancel_left]
theorem spl_k (h : HS) (k : Nat) : Spl h 161 [.int .i64 (k : Int)] { h with k := k } := by
  refine spl_of _ _ _ _ (by simp) (fun j hj => ?_) (fun j hj => ?_) (fun j hj => ?_)
  · exact HBat_of _ _ _ (fun _ => rfl) (fun _ _ => rfl) (fun h1 => by omega) (fun _ => rfl)
  · simp at hj; exact HBat_of _ _ _ (fun _ => rfl) (fun _ _ => rfl) (fun h1 => by omega) (fun _ => rfl)
  · simp at hj; subst hj; rfl
theorem spl_t (h : HS) (t : Bool) : Spl h 162 [.bool t] { h with tl := t } := by
  refine spl_of _ _ _ _ (by simp) (fun j hj => ?_) (fun j hj => ?_) (fun j hj => ?_)
  · exact HBat_of _ _ _ (fun _ => rfl) (fun _ _ => rfl) (fun _ => rfl) (fun h1 => by omega)
  · simp at hj; exact HBat_of _ _ _ (fun _ => rfl) (fun _ _ => rfl) (fun _ => rfl) (fun h1 => by omega)
  · simp at hj; subst hj; rfl
/-- Bytes laid onto the block. -/
theorem spl_copy (h : HS) (m : Nat) (f : Nat → BitVec 8) (hm : h.k + m ≤ 136) : Spl h (25 + h.k) ((List.range m).map fun i => U (f i)) { h with b := ov h.b h.k m f } := by
  have hl : ((List.range m).map fun i => U (f i)).length = m := by simp
  refine spl_of _ _ _ _ (by omega) (fun j hj => ?_) (fun j hj => ?_) (fun j hj => ?_)
  · refine HBat_of _ _ _ (fun _ => rfl) (fun h1 _ => ?_) (fun _ => rfl) (fun _ => rfl)
    simp only [ov]
    rw [if_neg (by omega)]
  · refine HBat_of _ _ _ (fun _ => rfl) (fun h1 _ => ?_) (fun _ => rfl) (fun _ => rfl)
    simp only [ov]
    rw [if_neg (by omega)]
  · rw [news_at _ _ _ (by omega), HBat_b _ _ (by omega) (by omega)]
    simp only [ov]
    rw [if_pos (by omega)]
    congr 3
    omega

/-- A hash lies in block g. -/
def Lies (w : World) (g : Nat) (h : HS) : Prop := w.heap[g]? = some (.cells (HB h) 57)
theorem Lies.lt {w : World} {g : Nat} {h : HS} (hg : Lies w g h) : g < w.heap.size := row_lt hg
theorem Lies.cell {w : World} {g : Nat} {h : HS} (hg : Lies w g h) (j : Nat) : w.cell? ⟨g, j, none⟩ = HBat h j := by rw [cell_of_row _ _ _ _ _ _ hg, HB_get]
theorem Lies.thaw {w : World} {g : Nat} {h : HS} (hg : Lies w g h) (j : Nat) : w.frozen? ⟨g, j, none⟩ = false := frozen_of_row _ _ _ _ _ hg
theorem Lies.k {w : World} {g : Nat} {h : HS} (hg : Lies w g h) : w.cell? ⟨g, 161, none⟩ = some (.int .i64 (h.k : Int)) := (hg.cell 161).trans rfl
theorem Lies.t {w : World} {g : Nat} {h : HS} (hg : Lies w g h) : w.cell? ⟨g, 162, none⟩ = some (.bool h.tl) := (hg.cell 162).trans rfl
theorem Lies.below {w w' : World} {g : Nat} {h : HS} (hg : Lies w g h) (hb : Below w.heap.size w w') : Lies w' g h := (hb.block _ hg.lt).trans hg
theorem Lies.drew {w : World} {g : Nat} {h : HS} (hg : Lies w g h) : Lies w.drew g h := hg
theorem Lies.alloc {w : World} {g : Nat} {h : HS} (hg : Lies w g h) (o : Obj) : Lies (w.alloc o) g h := (heap_alloc_past _ _ _ hg.lt).trans hg
theorem Lies.new (w : World) (h : HS) : Lies (w.alloc (.cells (HB h) 57)) w.heap.size h := heap_alloc_last _ _
theorem Lies.set {w : World} {g : Nat} {h : HS} (hg : Lies w g h) (h' : HS) : Lies (w.setRow g (HB h')) g h' := setRow_heap _ _ _ _ _ _ hg
/-- The block as a slice of bytes. -/
theorem Lies.sl {w : World} {g : Nat} {h : HS} (hg : Lies w g h) (c : Nat) (hc : 136 ≤ c) : Sl w w.heap.size (some ⟨g, 25, none⟩) 136 c h.b :=
  ⟨hc, (fun e => by cases e), fun ad e _ => ⟨g, 25, (Option.some.inj e).symm, hg.lt, fun i hi => by
    rw [hg.cell]; unfold HBat; rw [if_neg (by omega), if_pos (by omega), Nat.add_sub_cancel_left]⟩⟩

/-- From w to W nothing has turned but block g, in which a hash lies. -/
structure Hs (w : World) (g : Nat) (W : World) (h : HS) : Prop where
  os : W.os = w.os
  tape : W.tape = w.tape
  output : W.output = w.output
  size : w.heap.size ≤ W.heap.size
  oth : ∀ k, k < w.heap.size → k ≠ g → W.heap[k]? = w.heap[k]?
  row : Lies W g h
section
variable {w W W' : World} {g : Nat} {h h' : HS}
theorem Hs.setOther (H : Hs w g W h) (k : Nat) (c : Array Value) (hk : w.heap.size ≤ k) (hne : k ≠ g) : Hs w g (W.setRow k c) h :=
  ⟨H.os, H.tape, H.output, by simpa using H.size, fun j hj hj' => (setRow_other _ _ _ _ (by omega)).trans (H.oth j hj hj'), (setRow_other _ _ _ _ (fun e => hne e.symm)).trans H.row⟩
theorem Hs.start (hg : Lies w g h) : Hs w g w h := ⟨rfl, rfl, rfl, Nat.le_refl _, fun _ _ _ => rfl, hg⟩
theorem Hs.call (H : Hs w g W h) (hb : Below W.heap.size W W') : Hs w g W' h :=
  ⟨hb.os.trans H.os, hb.tape.trans H.tape, hb.output.trans H.output, Nat.le_trans H.size hb.size, fun k hk hne => (hb.block k (Nat.lt_of_lt_of_le hk H.size)).trans (H.oth k hk hne), H.row.below hb⟩
theorem Hs.drew (H : Hs w g W h) : Hs w g W.drew h := ⟨H.os, H.tape, H.output, H.size, H.oth, H.row⟩
theorem Hs.alloc (H : Hs w g W h) (o : Obj) : Hs w g (W.alloc o) h := H.call ((Below.refl _ _).alloc (Nat.le_refl _) o)
theorem Hs.set (H : Hs w g W h) (h' : HS) : Hs w g (W.setRow g (HB h')) h' :=
  ⟨H.os, H.tape, H.output, by simpa using H.size, fun k hk hne => (setRow_other _ _ _ _ hne).trans (H.oth k hk hne), H.row.set h'⟩
theorem Hs.trans (H : Hs w g W h) (H' : Hs W g W' h') : Hs w g W' h' :=
  ⟨H'.os.trans H.os, H'.tape.trans H.tape, H'.output.trans H.output, Nat.le_trans H.size H'.size, fun k hk hne => (H'.oth k (Nat.lt_of_lt_of_le hk H.size) hne).trans (H.oth k hk hne), H'.row⟩
theorem Hs.below {B : Nat} (H : Hs w g W h) (hB : B ≤ g) (hw : B ≤ w.heap.size) : Below B w W :=
  ⟨H.os, H.tape, H.output, H.size, fun k hk => H.oth k (by omega) (by omega)⟩
theorem Hs.tabs (H : Hs w g W h) (h2 : 2 ≤ g) (hT : Tabs w) : Tabs W := by
  have hs := hT.size
  have hb := H.below h2 hs
  exact ⟨fun r hr => (hb.cell (p := ⟨_, r, none⟩) (by show 0 < 2; omega)).trans (hT.con r hr), fun i hi => (hb.cell (p := ⟨_, i, none⟩) (by show 1 < 2; omega)).trans (hT.off i hi)⟩
theorem Hs.eq (H : Hs w g W h) (e : h = h') : Hs w g W h' := e ▸ H
end

/-- A slice of bytes that does not lie in block g. -/
structure Sg (w : World) (g : Nat) (a : Option Addr) (n c : Nat) (f : Nat → BitVec 8) : Prop where
  le : n ≤ c
  nil : a = none → c = 0
  low : ∀ ad, a = some ad → 0 < n → ∃ b o, ad = ⟨b, o, none⟩ ∧ b < w.heap.size ∧ b ≠ g ∧ ∀ i, i < n → w.cell? ⟨b, o + i, none⟩ = some (U (f i))
section
variable {w W : World} {g : Nat} {h : HS} {a : Option Addr} {n c : Nat} {f : Nat → BitVec 8}
theorem Sg.sl (H : Sg w g a n c f) : Sl w w.heap.size a n c f :=
  ⟨H.le, H.nil, fun ad ha h0 => by obtain ⟨b, o, e, hb, _, hc⟩ := H.low ad ha h0; exact ⟨b, o, e, hb, hc⟩⟩
theorem Sg.of_sl {B : Nat} (H : Sl w B a n c f) (hB : B ≤ g) (hw : B ≤ w.heap.size) : Sg w g a n c f :=
  ⟨H.le, H.nil, fun ad ha h0 => by obtain ⟨b, o, e, hb, hc⟩ := H.low ad ha h0; exact ⟨b, o, e, by omega, by omega, hc⟩⟩
theorem Sg.whole (H : Sg w g a n c f) : Sg w.drew g a n n f :=
  ⟨Nat.le_refl _, fun e => by have := H.nil e; have := H.le; omega, H.low⟩
theorem Sg.head (H : Sg w g a n c f) (m : Nat) (hm : m ≤ n) : Sg w g a m m f :=
  ⟨Nat.le_refl _, fun e => by have := H.nil e; have := H.le; omega, fun ad ha h0 => by
    obtain ⟨b, o, e, hb, hne, hc⟩ := H.low ad ha (by omega)
    exact ⟨b, o, e, hb, hne, fun i hi => hc i (by omega)⟩⟩
theorem Sg.congr {f' : Nat → BitVec 8} (H : Sg w g a n c f) (h : ∀ i, i < n → f i = f' i) : Sg w g a n c f' :=
  ⟨H.le, H.nil, fun ad ha h0 => by
    obtain ⟨b, o, e, hb, hne, hc⟩ := H.low ad ha h0
    exact ⟨b, o, e, hb, hne, fun i hi => by rw [← h i hi]; exact hc i hi⟩⟩
/-- The rest of a slice. -/
theorem Sg.cut (H : Sg w g a n c f) (m : Nat) (hm : m ≤ n) : Sg w g (if c = m then a else Option.map (fun x => Addr.add x m) a) (n - m) (c - m) (fun j => f (m + j)) := by
  have hle := H.le
  refine ⟨by omega, fun e => ?_, fun ad ha h0 => ?_⟩
  · by_cases h : c = m
    · omega
    · rw [if_neg h] at e
      cases a with
      | none => have := H.nil rfl; omega
      | some x => cases e
  · rw [if_neg (by omega)] at ha
    cases a with
    | none => cases ha
    | some x =>
      obtain ⟨b, o, rfl, hb, hne, hc⟩ := H.low x rfl (by omega)
      obtain rfl := (Option.some.inj ha)
      refine ⟨b, o + m, Addr.add_mid _ _ _, hb, hne, fun i hi => ?_⟩
      rw [Nat.add_assoc]
      exact hc (m + i) (by omega)
theorem Sg.hs (H : Sg w g a n c f) (hH : Hs w g W h) : Sg W g a n c f :=
  ⟨H.le, H.nil, fun ad ha h0 => by
    obtain ⟨b, o, e, hb, hne, hc⟩ := H.low ad ha h0
    exact ⟨b, o, e, Nat.lt_of_lt_of_le hb hH.size, hne, fun i hi => (World.cell?_of_block (w := w) (hH.oth b hb hne)).trans (hc i hi)⟩⟩
theorem Sg.below (H : Sg w g a n c f) (hb : Below w.heap.size w W) : Sg W g a n c f :=
  ⟨H.le, H.nil, fun ad ha h0 => by
    obtain ⟨b, o, e, hlt, hne, hc⟩ := H.low ad ha h0
    exact ⟨b, o, e, Nat.lt_of_lt_of_le hlt hb.size, hne, fun i hi => (hb.cell (p := ⟨b, o + i, none⟩) hlt).trans (hc i hi)⟩⟩
end

/-- Pieces: a slice of slices of bytes, none of which lies in block g. -/
structure Pc (w : World) (g : Nat) (a : Option Addr) (n c : Nat) (p : Nat → Piece) : Prop where
  le : n ≤ c
  nil : a = none → c = 0
  low : ∀ ad, a = some ad → 0 < n → ∃ b o, ad = ⟨b, o, none⟩ ∧ b < w.heap.size ∧ b ≠ g ∧ ∀ i, i < n → w.cell? ⟨b, o + i, none⟩ = some (.slice (p i).a (p i).n (p i).c)
  each : ∀ i, i < n → Sg w g (p i).a (p i).n (p i).c (p i).f
section
variable {w W : World} {g : Nat} {h : HS} {a : Option Addr} {n c : Nat} {p : Nat → Piece}
theorem Pc.hs (H : Pc w g a n c p) (hH : Hs w g W h) : Pc W g a n c p :=
  ⟨H.le, H.nil, fun ad ha h0 => by
    obtain ⟨b, o, e, hb, hne, hc⟩ := H.low ad ha h0
    exact ⟨b, o, e, Nat.lt_of_lt_of_le hb hH.size, hne, fun i hi => (World.cell?_of_block (w := w) (hH.oth b hb hne)).trans (hc i hi)⟩, fun i hi => (H.each i hi).hs hH⟩
theorem Pc.below (H : Pc w g a n c p) (hb : Below w.heap.size w W) : Pc W g a n c p :=
  ⟨H.le, H.nil, fun ad ha h0 => by
    obtain ⟨b, o, e, hlt, hne, hc⟩ := H.low ad ha h0
    exact ⟨b, o, e, Nat.lt_of_lt_of_le hlt hb.size, hne, fun i hi => (hb.cell (p := ⟨b, o + i, none⟩) hlt).trans (hc i hi)⟩, fun i hi => (H.each i hi).below hb⟩
theorem Pc.get (H : Pc w g a n c p) (i : Nat) (hi : i < n) : ∃ b o, a = some ⟨b, o, none⟩ ∧ b < w.heap.size ∧ b ≠ g ∧ w.cell? ⟨b, o + i, none⟩ = some (.slice (p i).a (p i).n (p i).c) := by
  cases ha : a with
  | none =>
    have h1 := H.nil ha
    have h2 := H.le
    exfalso; omega
  | some ad =>
    obtain ⟨b, o, rfl, hb, hne, hc⟩ := H.low ad ha (by omega)
    exact ⟨b, o, rfl, hb, hne, hc i hi⟩
/-- One piece alone, in a row of the call's own. -/
theorem Pc.one {k cc : Nat} {t : TypeId} {q : Piece} (hk : w.heap[k]? = some (.cells #[.slice q.a q.n q.c] t)) (hne : k ≠ g) (hc : 1 ≤ cc) (hs : Sg w g q.a q.n q.c q.f) : Pc w g (some ⟨k, 0, none⟩) 1 cc (fun _ => q) :=
  ⟨hc, (fun e => by cases e), fun ad e _ => ⟨k, 0, (Option.some.inj e).symm, row_lt hk, hne, fun i hi => by
    obtain rfl : i = 0 := by omega
    rw [cell_of_row _ _ _ _ _ _ hk]; rfl⟩, fun _ _ => hs⟩
end

theorem map_add_zero (a : Option Addr) : Option.map (fun x => Addr.add x 0) a = a := by
  cases a with
  | none => rfl
  | some x =>
    show some (Addr.add x 0) = some x
    congr 1
theorem want {c : Prop} [Decidable c] {p q : Prop} (hc : c) (h : p) : if c then p else q := by rw [if_pos hc]; exact h
theorem sizeS : (Tryd.prog.info? 54).map (·.size) = some 25 := by kernel_rfl
theorem sizeB : (Tryd.prog.info? 55).map (·.size) = some 136 := by kernel_rfl
theorem sizeK : (Tryd.prog.info? 3).map (·.size) = some 1 := by kernel_rfl
theorem sizeT : (Tryd.prog.info? 4).map (·.size) = some 1 := by kernel_rfl
theorem sizeH : (Tryd.prog.info? 57).map (·.size) = some 163 := by kernel_rfl
theorem sizeU : (Tryd.prog.info? 5).map (·.size) = some 1 := by kernel_rfl

section
variable {w : World} {g : Nat} {h : HS}
theorem Lies.rangeS (hg : Lies w g h) : w.rangeAt g 0 (A 25 h.s).toList := fun j v hv => by
  rw [Nat.zero_add, hg.cell]
  have hj : j < 25 := by
    rcases Nat.lt_or_ge j 25 with h' | h'
    · exact h'
    · rw [List.getElem?_eq_none (by rw [Array.length_toList, A_size]; exact h')] at hv; cases hv
  rw [A_cells_at _ _ _ hj] at hv
  unfold HBat
  rw [if_pos hj, hv]
theorem run_load_s (hg : Lies w g h) : (Instr.loadAt 54 (.pointer (some ⟨g, 0, none⟩))).run Tryd.prog w = .ok (.agg (A 25 h.s)) w := by
  have := run_loadAt_mid (P := Tryd.prog) w g 0 54 (A 25 h.s).toList _ hg.rangeS Tryd.underlying54 rfl (by rw [Array.length_toList, A_size]; exact sizeS)
  rwa [Array.toArray_toList] at this
theorem run_load_h (hg : Lies w g h) : (Instr.loadAt 57 (.pointer (some ⟨g, 0, none⟩))).run Tryd.prog w = .ok (.agg (HB h)) w := by
  simp only [Instr.loadAt, Instr.sureAddr, Sem.run_bind, Sem.run_pure, Result.andThen_ok, run_loadVar_row w g _ 57 _ (0, 0) _ hg Tryd.underlying57 rfl (by rw [HB_size]; exact sizeH)]
theorem run_store_part (hg : Lies w g h) (o : Nat) (v : Value) (ty : TypeId) (h' : HS) (hsz : (Tryd.prog.info? ty).map (·.size) = some v.cells.size) (h1 : ∀ u ∈ v.cells.toList, u.oneCell' = true) (hs : Spl h o v.cells.toList h') :
    (Instr.storeAt ty (.pointer (some ⟨g, o, none⟩)) v).run Tryd.prog w = .ok () (w.setRow g (HB h')) := by
  have hst := run_storeCells_at Tryd.prog g o 57 v.cells.toList 0 (HB h) w hg (by rw [HB_size]; exact hs.1) h1
  rw [Nat.add_zero, hs.2] at hst
  cases hq : Tryd.prog.info? ty with
  | none => simp [hq] at hsz
  | some i =>
    have hi : i.size = v.cells.size := by simpa [hq] using hsz
    simp [Instr.storeAt, Instr.sureAddr, storeVar, sizeOf, typeInfo, Sem.run_bind, hq, hi, hst]
end
theorem all_A (f : Nat → BitVec 64) : ∀ u ∈ (Value.agg (A 25 f)).cells.toList, u.oneCell' = true := fun u hu => by
  have := A_one 25 f
  rw [Array.all_eq_true'] at this
  exact this u (by simpa [Value.cells] using hu)
theorem all_AB (f : Nat → BitVec 8) : ∀ u ∈ (Value.agg (AB 136 f)).cells.toList, u.oneCell' = true := fun u hu => by
  have hu' : u ∈ AB 136 f := by simpa [Value.cells] using hu
  obtain ⟨j, hj⟩ := Array.getElem?_of_mem hu'
  have : j < 136 := by
    rcases Nat.lt_or_ge j 136 with h' | h'
    · exact h'
    · rw [Array.getElem?_eq_none (by rw [AB_size]; exact h')] at hj; cases hj
  rw [AB_get _ _ _ this] at hj
  obtain rfl := Option.some.inj hj
  rfl
theorem spl_h (h h' : HS) : Spl h 0 (HB h').toList h' := by
  have hl : (HB h').toList.length = 163 := by rw [Array.length_toList, HB_size]
  refine spl_of _ _ _ _ (by omega) (fun j hj => by omega) (fun j hj => ?_) (fun j hj => ?_)
  · rw [HBat_o _ _ (by omega), HBat_o _ _ (by omega)]
  · rw [Nat.zero_add, Array.getElem?_toList, HB_get]

section
variable {md : Region.Mode} {ops : Array Oper} {Q : Exit → Act → World → Prop} {S : World → Prop} {fuel : Nat} {listed : Array Bool} {a : Act} {w : World}
/-- In a region that draws its order: a hash's state is read first. -/
theorem held_load_s (i : Nat) (d : Tmp) {oi : Oper} (hi : ops[i]? = some oi) (hd : oi.dst = some d) (hs : Region.noSelect ops = true) (hf : Region.free md ops listed i = true)
    (hr : (Region.ready md ops listed).contains i = true) (hw : Region.wanted oi (yielded ops a.tmps) = true) (hS : S w) {x : Operand} (ho : oi.op = .load 54 x) {g : Nat} (hx : a.eval x = .pointer (some ⟨g, 0, none⟩))
    {h : HS} (hrow : ∀ w, S w → Lies w g h)
    (k : wpAnyH Tryd.prog md ops (NoPanic Q) S fuel (listed.setIfInBounds i true) (a.put (some d) (.agg (A 25 h.s))) w) : wpAnyH Tryd.prog md ops (NoPanic Q) S (fuel + 1) listed a w :=
  held_value i d (.agg (A 25 h.s)) hi hd hs hf hr hw hS (fun w hw' => by
    unfold execOp
    simp only [ho, hx, Sem.run_bind, run_load_s (hrow w hw'), Result.andThen_ok]
    rfl) k
end
section
variable {o : Oper} {a : Act} {w : World} {K : Act → World → Prop} {Q : Exit → Act → World → Prop} {g : Nat} {h : HS}
theorem wp_store_part (ty : TypeId) {x y : Operand} (ho : o.op = .store ty x y) {off : Nat} (hx : a.eval x = .pointer (some ⟨g, off, none⟩)) {v : Value} (hy : a.eval y = v) (hg : Lies w g h)
    (hsz : (Tryd.prog.info? ty).map (·.size) = some v.cells.size) (h1 : ∀ u ∈ v.cells.toList, u.oneCell' = true) {h' : HS} (hs : Spl h off v.cells.toList h')
    (k : K (a.put o.dst undef) (w.setRow g (HB h'))) : o.wp Tryd.prog a w K Q := by
  unfold Oper.wp execOp
  simp only [ho, hx, hy, Sem.run_bind, run_store_part hg off v ty h' hsz h1 hs, Result.andThen_ok]
  exact k
theorem wp_store_k (hdst : o.dst = none) {x y : Operand} (ho : o.op = .store 3 x y) (hx : a.eval x = .pointer (some ⟨g, 161, none⟩)) {n : Nat} (hy : a.eval y = .int .i64 (n : Int)) (hg : Lies w g h)
    (k : K a (w.setRow g (HB { h with k := n }))) : o.wp Tryd.prog a w K Q :=
  wp_store_part _ ho hx hy hg sizeK (fun u hu => by simp [Value.cells] at hu; subst hu; rfl) (spl_k h n) (by rw [hdst]; exact k)
/-- Bytes are copied onto the rest of the block. -/
theorem wp_copy_h (dd : Tmp) (hdst : o.dst = some dd) {d s : Operand} (ho : o.op = .call { callee := .builtin .copy, args := #[d, s], argTypes := #[25, 25] }) {cd : Nat} {k0 : Nat} (hk : h.k = k0) (hd : a.eval d = .slice (some ⟨g, 25 + k0, none⟩) (136 - k0) cd)
    {sa : Option Addr} {m cs : Nat} {f : Nat → BitVec 8} (hs : a.eval s = .slice sa m cs) (hm : k0 + m ≤ 136) (hS : Sg w g sa m cs f) (hg : Lies w g h)
    (k : K (a.put (some dd) (.int .i64 (m : Int))) (w.setRow g (HB (h.over m f)))) : o.wp Tryd.prog a w K Q := by
  subst hk
  rw [← hdst] at k
  have hl : ((List.range m).map fun i => U (f i)).length = m := by simp
  by_cases h0 : m = 0
  · subst h0
    unfold HS.over at k
    rw [ov_zero, setRow_self w g _ _ _ hg] at k
    have hrun := run_copy_none (P := Tryd.prog) w 25 25 o.type 5 (some ⟨g, 25 + h.k, none⟩) sa (136 - h.k) cd 0 cs Tryd.underlying25 sizeU (by simp)
    unfold Oper.wp
    simp [execOp, ho, resolve, invoke, builtin, hd, hs, hrun, Result.andThen]
    exact k
  · cases sa with
    | none => have := hS.nil rfl; have := hS.le; omega
    | some ad =>
      obtain ⟨b, off, rfl, _, _, hc⟩ := hS.low ad rfl (by omega)
      have hsp := spl_copy h m f hm
      have hrun := run_copy_row (P := Tryd.prog) w 25 25 o.type 5 g (25 + h.k) (136 - h.k) cd ⟨b, off, none⟩ m cs (HB h) 57 ((List.range m).map fun i => U (f i)) Tryd.underlying25 sizeU hg
        (by rw [hl]; exact (Nat.min_eq_left (by omega : m ≤ 136 - h.k)).symm) (fun j v hv => by obtain ⟨hj, rfl⟩ := newsB_get m f j v hv; rw [Addr.add_mid]; exact hc j hj) (by rw [HB_size]; exact hsp.1) (fun u hu => by obtain ⟨i, _, rfl⟩ := List.mem_map.1 hu; rfl)
      rw [hsp.2, hl] at hrun
      unfold Oper.wp
      simp [execOp, ho, resolve, invoke, builtin, hd, hs, hrun, Result.andThen]
      exact k
end
section
variable {ops : Array Oper} {rest : List Oper} {o : Oper} {a : Act} {w : World} {Q : Exit → Act → World → Prop} {g : Nat} {h : HS}
theorem lay_load_s (hgd : o.guard = none) {x : Operand} (ho : o.op = .load 54 x) (hx : a.eval x = .pointer (some ⟨g, 0, none⟩)) (hg : Lies w g h)
    (k : ∀ K : Act → World → Prop, (∀ a w, wpList Tryd.prog ops Q rest a w → K a w) → K (a.put o.dst (.agg (A 25 h.s))) w) : wpList Tryd.prog ops Q (o :: rest) a w :=
  wpList_plain hgd fun K hK => by
    unfold Oper.wp execOp
    simp only [ho, hx, Sem.run_bind, run_load_s hg, Result.andThen_ok]
    exact k K hK
theorem lay_load_h (hgd : o.guard = none) {x : Operand} (ho : o.op = .load 57 x) (hx : a.eval x = .pointer (some ⟨g, 0, none⟩)) (hg : Lies w g h)
    (k : ∀ K : Act → World → Prop, (∀ a w, wpList Tryd.prog ops Q rest a w → K a w) → K (a.put o.dst (.agg (HB h))) w) : wpList Tryd.prog ops Q (o :: rest) a w :=
  wpList_plain hgd fun K hK => by
    unfold Oper.wp execOp
    simp only [ho, hx, Sem.run_bind, run_load_h hg, Result.andThen_ok]
    exact k K hK
theorem lay_store_part (hgd : o.guard = none) {x y : Operand} {ty : TypeId} (ho : o.op = .store ty x y) {off : Nat} (hx : a.eval x = .pointer (some ⟨g, off, none⟩)) {v : Value} (hy : a.eval y = v) (hg : Lies w g h)
    (hsz : (Tryd.prog.info? ty).map (·.size) = some v.cells.size) (h1 : ∀ u ∈ v.cells.toList, u.oneCell' = true) {h' : HS} (hs : Spl h off v.cells.toList h')
    (k : ∀ K : Act → World → Prop, (∀ a w, wpList Tryd.prog ops Q rest a w → K a w) → K (a.put o.dst undef) (w.setRow g (HB h'))) : wpList Tryd.prog ops Q (o :: rest) a w :=
  wpList_plain hgd fun K hK => by
    unfold Oper.wp execOp
    simp only [ho, hx, hy, Sem.run_bind, run_store_part hg off v ty h' hsz h1 hs, Result.andThen_ok]
    exact k K hK
theorem lay_store_s (hgd : o.guard = none) {x y : Operand} (ho : o.op = .store 54 x y) (hx : a.eval x = .pointer (some ⟨g, 0, none⟩)) {f : Nat → BitVec 64} (hy : a.eval y = .agg (A 25 f)) (hg : Lies w g h)
    (k : ∀ K : Act → World → Prop, (∀ a w, wpList Tryd.prog ops Q rest a w → K a w) → K (a.put o.dst undef) (w.setRow g (HB { h with s := f }))) : wpList Tryd.prog ops Q (o :: rest) a w :=
  lay_store_part hgd ho hx hy hg (by show _ = some (A 25 f).size; rw [A_size]; exact sizeS) (all_A f) (spl_s h f) k
theorem lay_store_b (hgd : o.guard = none) {x y : Operand} (ho : o.op = .store 55 x y) (hx : a.eval x = .pointer (some ⟨g, 25, none⟩)) {f : Nat → BitVec 8} (hy : a.eval y = .agg (AB 136 f)) (hg : Lies w g h)
    (k : ∀ K : Act → World → Prop, (∀ a w, wpList Tryd.prog ops Q rest a w → K a w) → K (a.put o.dst undef) (w.setRow g (HB { h with b := f }))) : wpList Tryd.prog ops Q (o :: rest) a w :=
  lay_store_part hgd ho hx hy hg (by show _ = some (AB 136 f).size; rw [AB_size]; exact sizeB) (all_AB f) (spl_b h f) k
theorem lay_store_k (hgd : o.guard = none) {x y : Operand} (ho : o.op = .store 3 x y) (hx : a.eval x = .pointer (some ⟨g, 161, none⟩)) {n : Nat} (hy : a.eval y = .int .i64 (n : Int)) (hg : Lies w g h)
    (k : ∀ K : Act → World → Prop, (∀ a w, wpList Tryd.prog ops Q rest a w → K a w) → K (a.put o.dst undef) (w.setRow g (HB { h with k := n }))) : wpList Tryd.prog ops Q (o :: rest) a w :=
  lay_store_part hgd ho hx hy hg sizeK (fun u hu => by simp [Value.cells] at hu; subst hu; rfl) (spl_k h n) k
theorem lay_store_t (hgd : o.guard = none) {x y : Operand} (ho : o.op = .store 4 x y) (hx : a.eval x = .pointer (some ⟨g, 162, none⟩)) {t : Bool} (hy : a.eval y = .bool t) (hg : Lies w g h)
    (k : ∀ K : Act → World → Prop, (∀ a w, wpList Tryd.prog ops Q rest a w → K a w) → K (a.put o.dst undef) (w.setRow g (HB { h with tl := t }))) : wpList Tryd.prog ops Q (o :: rest) a w :=
  lay_store_part hgd ho hx hy hg sizeT (fun u hu => by simp [Value.cells] at hu; subst hu; rfl) (spl_t h t) k
theorem lay_store_h (hgd : o.guard = none) {x y : Operand} (ho : o.op = .store 57 x y) (hx : a.eval x = .pointer (some ⟨g, 0, none⟩)) {h' : HS} (hy : a.eval y = .agg (HB h')) (hg : Lies w g h)
    (k : ∀ K : Act → World → Prop, (∀ a w, wpList Tryd.prog ops Q rest a w → K a w) → K (a.put o.dst undef) (w.setRow g (HB h'))) : wpList Tryd.prog ops Q (o :: rest) a w :=
  lay_store_part hgd ho hx hy hg (by show _ = some (HB h').size; rw [HB_size]; exact sizeH) (fun u hu => by
    have := HB_one h'
    rw [Array.all_eq_true'] at this
    exact this u (by simpa [Value.cells] using hu)) (spl_h h h') k
end
theorem zeroHB : HB zeroH = Array.replicate 25 (.int .u64 0) ++ Array.replicate 136 (.int .u8 0) ++ #[.int .i64 0, .bool false] := by
  unfold HB zeroH
  rw [AB_zero]
  congr 2
  rw [zero25]
  rfl
theorem built_h (w : World) : (Instr.build 57 #[]).run Tryd.prog w = .ok (.agg (HB zeroH)) w := by
  rw [zeroHB]
  exact run_build w 57 _ _ (by kernel_rfl)
theorem built_b (w : World) : (Instr.build 55 #[]).run Tryd.prog w = .ok (.agg (AB 136 fun _ => 0)) w := by
  rw [AB_zero]
  exact run_build w 55 _ _ (by kernel_rfl)
theorem zero_h (w : World) : (zeroValue 57).run Tryd.prog w = .ok (.agg (HB zeroH)) w := by
  rw [zeroHB]
  exact (zero_of_info (show (Tryd.prog.info? 57).map (fun i => (i.zero, i.size)) = some (some (.agg (Array.replicate 25 (.int .u64 0) ++ Array.replicate 136 (.int .u8 0) ++ #[.int .i64 0, .bool false])), 163) by kernel_rfl)).1 w
section
variable {ops : Array Oper} {rest : List Oper} {o : Oper} {a : Act} {w : World} {Q : Exit → Act → World → Prop}
theorem lay_build_h (hgd : o.guard = none) (ho : o.op = .build 57 #[])
    (k : ∀ K : Act → World → Prop, (∀ a w, wpList Tryd.prog ops Q rest a w → K a w) → K (a.put o.dst (.agg (HB zeroH))) w) : wpList Tryd.prog ops Q (o :: rest) a w :=
  wpList_plain hgd fun K hK => by
    unfold Oper.wp execOp
    simp only [ho, Array.map_empty, Sem.run_bind, built_h, Result.andThen_ok]
    exact k K hK
theorem lay_build_b (hgd : o.guard = none) (ho : o.op = .build 55 #[])
    (k : ∀ K : Act → World → Prop, (∀ a w, wpList Tryd.prog ops Q rest a w → K a w) → K (a.put o.dst (.agg (AB 136 fun _ => 0))) w) : wpList Tryd.prog ops Q (o :: rest) a w :=
  wpList_plain hgd fun K hK => by
    unfold Oper.wp execOp
    simp only [ho, Array.map_empty, Sem.run_bind, built_b, Result.andThen_ok]
    exact k K hK
theorem lay_alloc_h (hgd : o.guard = none) (ho : o.op = .alloc 57)
    (k : ∀ K : Act → World → Prop, (∀ a w, wpList Tryd.prog ops Q rest a w → K a w) → K (a.put o.dst (.pointer (some ⟨w.heap.size, 0, none⟩))) (w.alloc (.cells (HB zeroH) 57))) : wpList Tryd.prog ops Q (o :: rest) a w :=
  wpList_alloc_agg hgd _ ho _ zero_h (k _ fun _ _ h => h)
theorem lay_box_h (hgd : o.guard = none) {x : Operand} (ho : o.op = .box 57 x) {h : HS} (hx : a.eval x = .agg (HB h))
    (k : ∀ K : Act → World → Prop, (∀ a w, wpList Tryd.prog ops Q rest a w → K a w) → K (a.put o.dst (.pointer (some ⟨w.heap.size, 0, none⟩))) (w.alloc (.cells (HB h) 57))) : wpList Tryd.prog ops Q (o :: rest) a w :=
  wpList_box_agg hgd _ x ho _ hx (k _ fun _ _ h => h)
end
end Go.Proofs.YtjppmeihobcenaaDoor
