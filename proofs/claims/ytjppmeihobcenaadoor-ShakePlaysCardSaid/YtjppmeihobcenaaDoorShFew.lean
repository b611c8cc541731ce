/-
  few; bytes put together out of pieces.
-/
import Derived.Test.YtjppmeihobcenaaDoorShRow
import Derived.Test.YtjppmeihobcenaaDoorKecRefB
import Derived.Test.YtjppmeihobcenaaDoorShOut
namespace Go.Proofs.YtjppmeihobcenaaDoor
open Go.RowKit

set_option maxHeartbeats 800000 in
theorem few_any (a : Option Addr) (n c : Nat) (p : Nat → Piece) (w : World) (hp : Pc w w.heap.size a n c p) (hn : n ≤ maxLen) :
    Calls Tryd.prog 8 #[.slice a n c] w fun e w' => ∃ r, e = .returned (.bool r) ∧ w' = w ∧ (r = true ↔ n ≤ 12 ∧ ∀ i, i < n → (p i).n ≤ 400) := by
  have hn' : n ≤ 9223372036854775807 := Nat.le_trans hn (by decide)
  have HP := Lib.hid hp
  clear hp hn
  go_enter Tryd.func8, Tryd.ntmps8
  go_wp2_with fail
  go_loopw [3] (fun v wr => ∃ i : Nat, i ≤ n ∧ v = .int .i64 i ∧ wr = w ∧ Hid (∀ j, j < i → (p j).n ≤ 400)) (fun v _ => n - (intOf v).toNat)
  case atStart => exact ⟨0, by omega, rfl, rfl, Lib.hid fun j hj => by omega⟩
  case round =>
    obtain ⟨i, hi, rfl, rfl, HF⟩ := hrel
    by_cases hlt : i < n
    · have hid : decide ((i : Int) < (n : Int)) = true := by simp; omega
      have hlt' : (i : Int) < (n : Int) := by omega
      obtain ⟨b, o, rfl, hb, hbg, hc⟩ := HP.out.get i hlt
      obtain ⟨pa, hpa⟩ : ∃ x, (p i).a = x := ⟨_, rfl⟩
      obtain ⟨pn, hpn⟩ : ∃ x, (p i).n = x := ⟨_, rfl⟩
      obtain ⟨pc, hpc⟩ : ∃ x, (p i).c = x := ⟨_, rfl⟩
      rw [hpa, hpn, hpc] at hc
      have Hpn := Lib.hid hpn
      clear hpn hpa hpc
      by_cases h4 : pn ≤ 400
      · have hd : decide ((400 : Int) < (pn : Int)) = false := by simp; omega
        go_wp2_with fail
        go_roundw
        case rel =>
          refine ⟨i + 1, by omega, by go_num, by trivial, Lib.hid fun j hj => ?_⟩
          by_cases e : j = i
          · rw [e, Hpn.out]; exact h4
          · exact HF.out j (by omega)
        case measure => simp [intOf]; omega
      · have hd : decide ((400 : Int) < (pn : Int)) = true := by simp; omega
        go_wp2_with fail
        go_ret
        exact ⟨false, rfl, rfl, ⟨(fun h => by cases h), fun h => by have := h.2 i hlt; rw [Hpn.out] at this; omega⟩⟩
    · obtain rfl : i = n := by omega
      by_cases h12 : i ≤ 12
      · have hd : decide ((i : Int) ≤ 12) = true := by simp; omega
        go_wp2_with fail
        go_ret
        exact ⟨true, rfl, rfl, ⟨fun _ => ⟨h12, HF.out⟩, fun _ => rfl⟩⟩
      · have hd : decide ((i : Int) ≤ 12) = false := by simp; omega
        go_wp2_with fail
        go_ret
        exact ⟨false, rfl, rfl, ⟨(fun h => by cases h), fun h => by omega⟩⟩

/-- Bytes behind bytes. -/
def cat (f : Nat → BitVec 8) (n : Nat) (g : Nat → BitVec 8) : Nat → BitVec 8 := fun i => if i < n then f i else g (i - n)
theorem cat_map (f g : Nat → BitVec 8) (n m : Nat) : ((List.range n).map fun i => U (f i)) ++ ((List.range m).map fun i => U (g i)) = (List.range (n + m)).map fun i => U (cat f n g i) := by
  apply List.ext_getElem?
  intro j
  by_cases h1 : j < n
  · rw [List.getElem?_append_left (by simpa using h1), news_at _ _ _ h1, news_at _ _ _ (by omega)]
    unfold cat
    rw [if_pos h1]
  · rw [List.getElem?_append_right (by simpa using h1)]
    simp only [List.length_map, List.length_range]
    by_cases h2 : j < n + m
    · rw [news_at _ _ _ (by omega), news_at _ _ _ h2]
      unfold cat
      rw [if_neg h1]
    · rw [List.getElem?_eq_none (by simp; omega), List.getElem?_eq_none (by simp; omega)]
theorem OwnB.congr {w : World} {base : Nat} {v : Value} {n : Nat} {f g : Nat → BitVec 8} (h : OwnB w base v n f) (hfg : ∀ i, i < n → f i = g i) : OwnB w base v n g := by
  unfold OwnB at h ⊢
  rwa [List.map_congr_left (g := fun i => U (g i)) (fun i hi => by rw [hfg i (List.mem_range.1 hi)])] at h
/-- A row of the call's own, as a slice. -/
theorem OwnB.any {w : World} {base : Nat} {v : Value} {n : Nat} {f : Nat → BitVec 8} (h : OwnB w base v n f) : ∃ a c, v = .slice a n c ∧ Sl w w.heap.size a n c f ∧ ∀ ad, a = some ad → base ≤ ad.block := by
  obtain ⟨_, hv⟩ := h
  rcases hv with ⟨rfl, rfl⟩ | ⟨g, cap, cur, rfl, hg, hrow, hle, _, hcs, htake⟩
  · exact ⟨none, 0, rfl, ⟨Nat.le_refl _, fun _ => rfl, (fun _ e => by cases e)⟩, fun _ e => by cases e⟩
  · refine ⟨some ⟨g, 0, none⟩, cap, rfl, ⟨hle, (fun e => by cases e), fun ad e _ => ⟨g, 0, (Option.some.inj e).symm, row_lt hrow, fun i hi => ?_⟩⟩, fun ad e => by rw [← Option.some.inj e]; exact hg⟩
    rw [Nat.zero_add, cell_of_row _ _ _ _ _ _ hrow]
    have := congrArg (·[i]?) htake
    rw [Nat.mul_one] at this
    simpa [hi] using this
theorem OwnB.sg {w : World} {base : Nat} {v : Value} {n g : Nat} {f : Nat → BitVec 8} (h : OwnB w base v n f) (hg : g < base) : ∃ a c, v = .slice a n c ∧ Sg w g a n c f := by
  obtain ⟨a, c, rfl, hs, hb⟩ := h.any
  refine ⟨a, c, rfl, hs.le, hs.nil, fun ad ha h0 => ?_⟩
  obtain ⟨b, o, rfl, h1, h2⟩ := hs.low ad ha h0
  have := hb _ ha
  exact ⟨b, o, rfl, h1, by simp at this; omega, h2⟩
theorem opened_of_tl (h : HS) (ht : h.tl = true) : h.opened = h := by
  unfold HS.opened
  rw [ht]
  rfl
/-- What leaves the row's block alone leaves the row. -/
theorem OwnB.other {w W : World} {base : Nat} {v : Value} {n : Nat} {f : Nat → BitVec 8} (h : OwnB w base v n f) (hk : ∀ k, base ≤ k → k < w.heap.size → W.heap[k]? = w.heap[k]?) : OwnB W base v n f := by
  obtain ⟨hl, hv⟩ := h
  refine ⟨hl, ?_⟩
  rcases hv with h0 | ⟨g, cap, cur, hv, hg, hrow, hr⟩
  · exact .inl h0
  · exact .inr ⟨g, cap, cur, hv, hg, (hk g hg (row_lt hrow)).trans hrow, hr⟩
theorem OwnB.hs {w W : World} {base : Nat} {v : Value} {n g : Nat} {f : Nat → BitVec 8} {h : HS} (H : OwnB w base v n f) (hH : Hs w g W h) (hg : g < base) : OwnB W base v n f := H.other fun k h1 h2 => hH.oth k h2 (by omega)
theorem OwnB.below {w W : World} {base : Nat} {v : Value} {n : Nat} {f : Nat → BitVec 8} (H : OwnB w base v n f) (hb : Below w.heap.size w W) : OwnB W base v n f := H.other fun k _ h2 => hb.block k h2
theorem OwnB.mono {w : World} {base base' : Nat} {v : Value} {n : Nat} {f : Nat → BitVec 8} (H : OwnB w base v n f) (hb : base' ≤ base) : OwnB w base' v n f := by
  obtain ⟨hl, hv⟩ := H
  refine ⟨hl, ?_⟩
  rcases hv with h0 | ⟨g, cap, cur, hv, hg, hr⟩
  · exact .inl h0
  · exact .inr ⟨g, cap, cur, hv, Nat.le_trans hb hg, hr⟩
theorem Hs.grow {w W W' : World} {g : Nat} {h : HS} {B : Nat} (H : Hs w g W h) (hb : Below B W W') (hB : w.heap.size ≤ B) (hg : g < w.heap.size) : Hs w g W' h :=
  ⟨hb.os.trans H.os, hb.tape.trans H.tape, hb.output.trans H.output, Nat.le_trans H.size hb.size, fun k hk hne => (hb.block k (by omega)).trans (H.oth k hk hne), (hb.block g (by omega)).trans H.row⟩

section
variable {w : World} {ops : Array Oper} {rest : List Oper} {o : Oper} {act : Act} {Q : Exit → Act → World → Prop}
theorem lay_append_many (hgd : o.guard = none) {s x : Operand} (ho : o.op = .call { callee := .builtin .append, args := #[s, x], argTypes := #[25, 25] }) {v : Value} (hs : act.eval s = v)
    {a : Option Addr} {m c : Nat} (hx : act.eval x = .slice a m c) {base n : Nat} {f g : Nat → BitVec 8} (hown : OwnB w base v n f) (hS : Sl w w.heap.size a m c g) (hn : n + m ≤ 100000) (hbase : base ≤ w.heap.size)
    (h : ∀ v' w', OwnB w' base v' (n + m) (cat f n g) → Below base w w' → ∀ K : Act → World → Prop, (∀ a w, wpList Tryd.prog ops Q rest a w → K a w) → K (act.put o.dst v') w') : wpList Tryd.prog ops Q (o :: rest) act w := by
  obtain ⟨i, hi, hz, hsz, hby⟩ := info_u8
  cases a with
  | none =>
    have hc := hS.nil rfl
    have hle := hS.le
    obtain rfl : m = 0 := by omega
    subst hc
    exact wpList_append_own_none hgd s x _ ho base 5 i 1 Tryd.underlying25 hi v n _ hs hown hx
      (h v w (hown.congr fun i hi => by unfold cat; rw [if_pos hi]) (Below.refl _ _) _ fun _ _ h => h)
  | some ad =>
    refine wpList_append_own w hgd s x _ ho base 5 i (.int .u8 0) 1 1 Tryd.underlying25 hi hz hsz hby rfl (by omega) v n _ hs hown
      ad m c ((List.range m).map fun i => U (g i)) hx (by simp) (fun j u hu => ?_) (fun u hu => ?_) (by unfold maxLen; omega) (by omega) hbase ?_
    · obtain ⟨hj, rfl⟩ := newsB_get m g j u hu
      obtain ⟨b, off, rfl, hb, hc⟩ := hS.low ad rfl (by omega)
      rw [Addr.add_mid]
      exact hc j hj
    · obtain ⟨i, _, rfl⟩ := List.mem_map.1 hu
      rfl
    · intro v' w' ho' hgrow _
      refine h v' w' ?_ ((Below.refl _ _).grown hgrow hbase fun k hk => ?_) _ fun _ _ h => h
      · unfold OwnB
        rw [← cat_map]
        exact ho'
      · obtain ⟨_, hv⟩ := hown
        rcases hv with ⟨rfl, _⟩ | ⟨g, cap, cur, rfl, hg, _⟩
        · cases hk
        · have : g = k := by simpa [Value.ownBlock] using hk
          omega
end

/-- All bytes of the first k pieces. -/
def allN (p : Nat → Piece) : Nat → Nat
  | 0 => 0
  | k + 1 => allN p k + (p k).n
def allF (p : Nat → Piece) : Nat → Nat → BitVec 8
  | 0 => fun _ => 0
  | k + 1 => cat (allF p k) (allN p k) (p k).f
theorem take_all (h : HS) (p : Nat → Piece) : ∀ k, takeN h (allF p k) (allN p k) = takeP h p k
  | 0 => rfl
  | k + 1 => by
    show takeN h (cat (allF p k) (allN p k) (p k).f) (allN p k + (p k).n) = takeN (takeP h p k) (p k).f (p k).n
    rw [takeN_add, ← take_all h p k, takeN_congr h (allN p k) (f := cat (allF p k) (allN p k) (p k).f) (g := allF p k) (fun i hi => by unfold cat; rw [if_pos hi])]
    refine takeN_congr _ _ fun i _ => ?_
    show cat (allF p k) (allN p k) (p k).f (allN p k + i) = (p k).f i
    unfold cat
    rw [if_neg (by omega), Nat.add_sub_cancel_left]
theorem allN_le (p : Nat → Piece) (B : Nat) : ∀ k, (∀ i, i < k → (p i).n ≤ B) → allN p k ≤ k * B
  | 0, _ => by simp [allN]
  | k + 1, h => by
    have h1 := allN_le p B k fun i hi => h i (by omega)
    have h2 := h k (by omega)
    show allN p k + (p k).n ≤ (k + 1) * B
    rw [Nat.add_mul]
    omega
end Go.Proofs.YtjppmeihobcenaaDoor
