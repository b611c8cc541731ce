/-
  What comes in to ShakePlays: calls; fair.
-/
import Derived.Test.YtjppmeihobcenaaDoorShRow
import Derived.Test.YtjppmeihobcenaaDoorShRefSum
import Derived.Test.YtjppmeihobcenaaDoorShAwake
import Derived.Test.YtjppmeihobcenaaDoorShSame
namespace Go.Proofs.YtjppmeihobcenaaDoor
open Go.RowKit

/-- A call: which one, its bytes, its number. -/
structure OpV where
  k : Int
  b : Piece
  m : Int
/-- A slice of calls that lies below block B. -/
structure SlO (w : World) (B : Nat) (a : Option Addr) (n c : Nat) (q : Nat → OpV) : Prop where
  le : n ≤ c
  nil : a = none → c = 0
  low : ∀ ad, a = some ad → 0 < n → ∃ b o, ad = ⟨b, o, none⟩ ∧ b < B ∧ ∀ i, i < n → w.cell? ⟨b, o + i * 3, none⟩ = some (.int .i64 (q i).k) ∧ w.cell? ⟨b, o + i * 3 + 1, none⟩ = some (.slice (q i).b.a (q i).b.n (q i).b.c) ∧ w.cell? ⟨b, o + i * 3 + 2, none⟩ = some (.int .i64 (q i).m)
  each : ∀ i, i < n → Sl w B (q i).b.a (q i).b.n (q i).b.c (q i).b.f
section
variable {w w' : World} {B : Nat} {a : Option Addr} {n c : Nat} {q : Nat → OpV}
theorem SlO.get (h : SlO w B a n c q) (i : Nat) (hi : i < n) : ∃ b o, a = some ⟨b, o, none⟩ ∧ b < B ∧ w.cell? ⟨b, o + i * 3, none⟩ = some (.int .i64 (q i).k) ∧ w.cell? ⟨b, o + i * 3 + 1, none⟩ = some (.slice (q i).b.a (q i).b.n (q i).b.c) ∧ w.cell? ⟨b, o + i * 3 + 2, none⟩ = some (.int .i64 (q i).m) := by
  cases ha : a with
  | none =>
    have h1 := h.nil ha
    have h2 := h.le
    exfalso; omega
  | some ad =>
    obtain ⟨b, o, rfl, hb, hc⟩ := h.low ad ha (by omega)
    exact ⟨b, o, rfl, hb, hc i hi⟩
theorem SlO.below (h : SlO w B a n c q) (hb : Below B w w') : SlO w' B a n c q :=
  ⟨h.le, h.nil, fun ad ha h0 => by
    obtain ⟨b, o, rfl, hlt, hc⟩ := h.low ad ha h0
    exact ⟨b, o, rfl, hlt, fun i hi => ⟨(hb.cell (p := ⟨b, _, none⟩) hlt).trans (hc i hi).1, (hb.cell (p := ⟨b, _, none⟩) hlt).trans (hc i hi).2.1, (hb.cell (p := ⟨b, _, none⟩) hlt).trans (hc i hi).2.2⟩⟩, fun i hi => (h.each i hi).below hb⟩
end
def fairO (x : OpV) : Prop := x.b.n ≤ 400 ∧ ¬ (400 < x.m ∧ x.m ≤ 65536)

set_option maxHeartbeats 1600000 in
theorem fair_any (a : Option Addr) (n c : Nat) (q : Nat → OpV) (w : World) (hp : SlO w w.heap.size a n c q) (hn : n ≤ maxLen) :
    Calls Tryd.prog 13 #[.slice a n c] w fun e w' => ∃ r, e = .returned (.bool r) ∧ w' = w ∧ (r = true ↔ n ≤ 25 ∧ ∀ i, i < n → fairO (q i)) := by
  have hn' : n ≤ 9223372036854775807 := Nat.le_trans hn (by decide)
  have HP := Lib.hid hp
  clear hp hn
  go_enter Tryd.func13, Tryd.ntmps13
  go_wp2_with fail
  go_loopw [3] (fun v wr => ∃ i : Nat, i ≤ n ∧ v = .int .i64 i ∧ wr = w ∧ Hid (∀ j, j < i → fairO (q j))) (fun v _ => n - (intOf v).toNat)
  case atStart => exact ⟨0, by omega, rfl, rfl, Lib.hid fun j hj => by omega⟩
  case round =>
    obtain ⟨i, hi, rfl, rfl, HF⟩ := hrel
    by_cases hlt : i < n
    · have hid : decide ((i : Int) < (n : Int)) = true := by simp; omega
      have hlt' : (i : Int) < (n : Int) := by omega
      obtain ⟨b, o, rfl, hb, hc1, hc2, hc3⟩ := HP.out.get i hlt
      obtain ⟨x, hx⟩ : ∃ x, q i = x := ⟨_, rfl⟩
      rw [hx] at hc1 hc2 hc3
      have HX := Lib.hid hx
      clear hx
      obtain ⟨k, ⟨pa, pn, pc, pf⟩, m⟩ := x
      dsimp only at hc1 hc2 hc3
      have no : ¬ fairO ⟨k, ⟨pa, pn, pc, pf⟩, m⟩ → ¬ (n ≤ 25 ∧ ∀ i, i < n → fairO (q i)) := fun h1 h2 => h1 (by rw [← HX.out]; exact h2.2 i hlt)
      have NO := Lib.hid no
      have yes : fairO ⟨k, ⟨pa, pn, pc, pf⟩, m⟩ → ∀ j, j < i + 1 → fairO (q j) := fun h1 j hj => by
        by_cases e : j = i
        · rw [e, HX.out]; exact h1
        · exact HF.out j (by omega)
      have YES := Lib.hid yes
      clear no yes
      by_cases h4 : 400 < pn
      · have hd : decide ((400 : Int) < (pn : Int)) = true := by simp; omega
        go_wp2_with fail
        go_ret
        exact ⟨false, rfl, rfl, ⟨(fun h => by cases h), fun h => absurd h (NO.out fun h' => by have := h'.1; dsimp only at this; omega)⟩⟩
      · have hd : decide ((400 : Int) < (pn : Int)) = false := by simp; omega
        by_cases h5 : 400 < m
        · have hd1 : decide ((400 : Int) < m) = true := by simp; omega
          by_cases h6 : m ≤ 65536
          · have hd2 : decide (m ≤ (65536 : Int)) = true := by simp; omega
            go_wp2_with fail
            go_ret
            exact ⟨false, rfl, rfl, ⟨(fun h => by cases h), fun h => absurd h (NO.out fun h' => h'.2 ⟨h5, h6⟩)⟩⟩
          · have hd2 : decide (m ≤ (65536 : Int)) = false := by simp; omega
            go_wp2_with fail
            go_roundw
            case rel => exact ⟨i + 1, by omega, by go_num, by trivial, Lib.hid (YES.out ⟨by dsimp only; omega, fun h' => h6 h'.2⟩)⟩
            case measure => simp [intOf]; omega
        · have hd1 : decide ((400 : Int) < m) = false := by simp; omega
          go_wp2_with fail
          go_roundw
          case rel => exact ⟨i + 1, by omega, by go_num, by trivial, Lib.hid (YES.out ⟨by dsimp only; omega, fun h' => h5 h'.1⟩)⟩
          case measure => simp [intOf]; omega
    · obtain rfl : i = n := by omega
      by_cases h12 : i ≤ 25
      · have hd : decide ((i : Int) ≤ 25) = true := by simp; omega
        go_wp2_with fail
        go_ret
        exact ⟨true, rfl, rfl, ⟨fun _ => ⟨h12, HF.out⟩, fun _ => rfl⟩⟩
      · have hd : decide ((i : Int) ≤ 25) = false := by simp; omega
        go_wp2_with fail
        go_ret
        exact ⟨false, rfl, rfl, ⟨(fun h => by cases h), fun h => by omega⟩⟩
end Go.Proofs.YtjppmeihobcenaaDoor
