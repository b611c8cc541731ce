/-
  Steps of ShakePlays: taking bytes.
-/
import Derived.Test.YtjppmeihobcenaaDoorShPlay0
namespace Go.Proofs.YtjppmeihobcenaaDoor
open Go.RowKit

theorem takeN_cat (h : HS) (F f : Nat → BitVec 8) (T n : Nat) : takeN h (cat F T f) (T + n) = takeN (takeN h F T) f n := by
  rw [takeN_add, takeN_congr h T (f := cat F T f) (g := F) (fun i hi => by unfold cat; rw [if_pos hi])]
  refine takeN_congr _ _ fun i _ => ?_
  show cat F T f (T + i) = f i
  unfold cat
  rw [if_neg (by omega), Nat.add_sub_cancel_left]
section
variable {w wr W : World} {gh : Nat} {Z : HS} {v4 : Value} {T D : Nat} {F : Nat → BitVec 8} {tl : Bool}
theorem Pl.back {B : Nat} (H : Pl w wr gh Z v4 T F D tl) (hb : Below B wr W) (hB : w.heap.size ≤ B) (hg : gh < B) (hk : ∀ k, v4.ownBlock = some k → k < B) : Pl w W gh Z v4 T F D tl :=
  ⟨H.bel.trans (hb.mono hB), H.ge, (hb.block gh hg).trans H.row, H.own.keep fun k h => hb.block k (hk k h), H.kk, H.kl, H.tls, H.opn, H.fresh⟩
/-- Bytes were taken. -/
theorem Pl.took {w' : World} {v' : Value} {n : Nat} {f : Nat → BitVec 8} (hf : Z = takeN zeroH F T) (hbel : Below w.heap.size w w') (hge : w.heap.size ≤ gh) (hrow : Lies w' gh (takeN Z f n)) (hown : OwnB w' w.heap.size v' (T + n) (cat F T f)) : Pl w w' gh (takeN Z f n) v' (T + n) (cat F T f) 0 false := by
  have hz : takeN Z f n = takeN zeroH (cat F T f) (T + n) := by rw [takeN_cat, hf]
  have hk : (takeN Z f n).k < 136 := by rw [hz]; exact takeN_k _ _ (by decide) _
  have ht : (takeN Z f n).tl = false := by rw [hz]; exact takeN_tl _ _ _
  exact ⟨hbel, hge, hrow, hown, Nat.le_of_lt hk, fun _ => hk, ht, by rw [hz]; rfl, fun _ => ⟨hz, rfl⟩⟩
end
section
variable {w : World} {ops : Array Oper} {rest : List Oper} {o : Oper} {act : Act} {Q : Exit → Act → World → Prop}
/-- append onto a row of the call's own: what lies in other blocks stays. -/
theorem lay_append_keep (hgd : o.guard = none) {s x : Operand} (ho : o.op = .call { callee := .builtin .append, args := #[s, x], argTypes := #[25, 25] }) {v : Value} (hs : act.eval s = v)
    {a : Option Addr} {m c : Nat} (hx : act.eval x = .slice a m c) {base n : Nat} {f g : Nat → BitVec 8} (hown : OwnB w base v n f) (hS : Sl w w.heap.size a m c g) (hn : n + m ≤ 100000) (hbase : base ≤ w.heap.size)
    (h : ∀ v' w', OwnB w' base v' (n + m) (cat f n g) → Below base w w' → (∀ k, k < w.heap.size → some k ≠ v.ownBlock → w'.heap[k]? = w.heap[k]?) → ∀ K : Act → World → Prop, (∀ a w, wpList Tryd.prog ops Q rest a w → K a w) → K (act.put o.dst v') w') : wpList Tryd.prog ops Q (o :: rest) act w := by
  cases a with
  | none =>
    obtain ⟨i, hi, hz, hsz, hby⟩ := info_u8
    have hc := hS.nil rfl
    have hle := hS.le
    obtain rfl : m = 0 := by omega
    subst hc
    exact wpList_append_own_none hgd s x _ ho base 5 i 1 Tryd.underlying25 hi v n _ hs hown hx
      (h v w (hown.congr fun i hi => by unfold cat; rw [if_pos hi]) (Below.refl _ _) (fun _ _ _ => rfl) _ fun _ _ h => h)
  | some ad => exact lay_append_more hgd ho hs hx hown hS hn hbase h
end
end Go.Proofs.YtjppmeihobcenaaDoor
