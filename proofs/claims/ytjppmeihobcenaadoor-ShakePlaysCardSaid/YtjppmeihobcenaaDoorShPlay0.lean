/-
  Where ShakePlays stands between two calls.
-/
import Derived.Test.YtjppmeihobcenaaDoorShFair
import Derived.Deep.Cut
namespace Go.Proofs.YtjppmeihobcenaaDoor
open Go.RowKit

theorem OwnB.ne {w : World} {base : Nat} {v : Value} {n g : Nat} {f : Nat → BitVec 8} {Z : HS} (H : OwnB w base v n f) (hl : Lies w g Z) (k : Nat) (hk : v.ownBlock = some k) : k ≠ g := by
  obtain ⟨_, hv⟩ := H
  rcases hv with ⟨rfl, _⟩ | ⟨b, cap, cur, rfl, hg, hrow, _⟩
  · cases hk
  · have : b = k := by simpa [Value.ownBlock] using hk
    subst this
    intro e
    subst e
    have h2 := Option.some.inj (hrow.symm.trans hl)
    injection h2 with _ h3
    exact absurd h3 (by decide)
theorem OwnB.keep {w W : World} {base : Nat} {v : Value} {n : Nat} {f : Nat → BitVec 8} (h : OwnB w base v n f) (hk : ∀ k, v.ownBlock = some k → W.heap[k]? = w.heap[k]?) : OwnB W base v n f := by
  obtain ⟨hl, hv⟩ := h
  refine ⟨hl, ?_⟩
  rcases hv with h0 | ⟨g, cap, cur, hv, hg, hrow, hr⟩
  · exact .inl h0
  · exact .inr ⟨g, cap, cur, hv, hg, (hk g (by rw [hv]; rfl)).trans hrow, hr⟩
theorem OwnB.hs2 {w W : World} {base : Nat} {v : Value} {n g : Nat} {f : Nat → BitVec 8} {Z h : HS} (H : OwnB w base v n f) (hl : Lies w g Z) (hH : Hs w g W h) : OwnB W base v n f :=
  H.keep fun k hk => hH.oth k (H.blockLt k hk) (H.ne hl k hk)

/-- Between two calls: the hash, what it took, and how much it told. -/
structure Pl (w wr : World) (gh : Nat) (Z : HS) (v4 : Value) (T : Nat) (F : Nat → BitVec 8) (D : Nat) (tl : Bool) : Prop where
  bel : Below w.heap.size w wr
  ge : w.heap.size ≤ gh
  row : Lies wr gh Z
  own : OwnB wr w.heap.size v4 T F
  kk : Z.k ≤ 136
  kl : Z.tl = false → Z.k < 136
  tls : Z.tl = tl
  opn : Z.opened = tellS (takeN zeroH F T).opened D
  fresh : tl = false → Z = takeN zeroH F T ∧ D = 0
theorem Pl.start (w : World) : Pl w (w.alloc (.cells (HB zeroH) 57)) w.heap.size zeroH (.slice none 0 0) 0 (fun _ => 0) 0 false :=
  ⟨(Below.refl _ _).alloc (Nat.le_refl _) _, Nat.le_refl _, Lies.new _ _, OwnB.nil _ _ _, by decide, fun _ => by decide, rfl, rfl, fun _ => ⟨rfl, rfl⟩⟩
section
variable {w wr W : World} {gh : Nat} {Z : HS} {v4 : Value} {T D : Nat} {F : Nat → BitVec 8} {tl : Bool}
theorem Pl.call (H : Pl w wr gh Z v4 T F D tl) (hb : Below wr.heap.size wr W) : Pl w W gh Z v4 T F D tl :=
  ⟨H.bel.trans (hb.mono H.bel.size), H.ge, H.row.below hb, H.own.below hb, H.kk, H.kl, H.tls, H.opn, H.fresh⟩
theorem Pl.tell (H : Pl w wr gh Z v4 T F D tl) (m : Nat) (hH : Hs wr gh W (tellS Z.opened m)) : Pl w W gh (tellS Z.opened m) v4 T F (D + m) true := by
  have ht : (tellS Z.opened m).tl = true := (tellS_tl _ _).trans (opened_tl _)
  refine ⟨H.bel.trans (hH.below H.ge H.bel.size), H.ge, hH.row, H.own.hs2 H.row hH, tellS_k _ (opened_k Z H.kk H.kl) m, (fun h => by rw [ht] at h; cases h), ht, ?_, (fun h => by cases h)⟩
  rw [opened_of_tl _ ht, H.opn, tellS_add]
theorem Pl.reset (H : Pl w wr gh Z v4 T F D tl) : Pl w (wr.setRow gh (HB zeroH)) gh zeroH (.slice none 0 0) 0 (fun _ => 0) 0 false :=
  ⟨H.bel.trans ((Hs.set (Hs.start H.row) zeroH).below H.ge H.bel.size), H.ge, H.row.set _, OwnB.nil _ _ _, by decide, fun _ => by decide, rfl, rfl, fun _ => ⟨rfl, rfl⟩⟩
/-- What becomes of another hash does not count. -/
theorem Pl.aside (H : Pl w wr gh Z v4 T F D tl) {g : Nat} {h h' : HS} (hl : Lies wr g h) (hg : w.heap.size ≤ g) (hne : gh ≠ g) (hH : Hs wr g W h') : Pl w W gh Z v4 T F D tl :=
  ⟨H.bel.trans (hH.below hg H.bel.size), H.ge, (hH.oth gh H.row.lt hne).trans H.row, H.own.hs2 hl hH, H.kk, H.kl, H.tls, H.opn, H.fresh⟩
theorem Pl.clone (H : Pl w wr gh Z v4 T F D tl) : Pl w (wr.alloc (.cells (HB Z) 57)) wr.heap.size Z v4 T F D tl :=
  ⟨H.bel.alloc H.bel.size _, H.bel.size, Lies.new _ _, H.own.alloc _, H.kk, H.kl, H.tls, H.opn, H.fresh⟩
end
end Go.Proofs.YtjppmeihobcenaaDoor
