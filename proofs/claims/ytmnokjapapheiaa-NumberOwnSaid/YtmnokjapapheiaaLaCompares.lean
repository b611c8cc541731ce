/-
  The walk of NumberCompares.
-/
import Derived.Test.YtmnokjapapheiaaLaAwake
import Derived.Test.YtmnokjapapheiaaRfCmp
import Derived.Test.YtmnokjapapheiaaRfBit
import Derived.Test.YtmnokjapapheiaaNuCmp
import Derived.Test.YtmnokjapapheiaaNuLen
namespace Go.Proofs.Ytmnokjapapheiaa
open Go.RowKit

theorem dl8_le {x n k : Nat} (h : x < 2 ^ (64 * n)) (hk : 8 * n ≤ k) : dl 8 x ≤ k := Nat.le_trans ((dl_le 8 x (8 * n) (by omega)).2 (by rwa [show 8 * (8 * n) = 64 * n by omega])) hk
set_option maxRecDepth 4000 in
set_option maxHeartbeats 4000000 in
theorem compares_far (a : Option Addr) (n c : Nat) (a' : Option Addr) (m c' : Nat) (i : Int) (w : World) (h : 20 < n ∨ 20 < m) :
    Calls Try.prog 4 #[.slice a n c, .slice a' m c', .int .i64 i] w fun e w' => e = .returned (.bool true) ∧ Below w.heap.size w w' := by
  have L := Lib.hid (Lv.start w)
  by_cases hn : n ≤ 20
  · have hm : ¬ m ≤ 20 := by omega
    clear h
    go_enter Try.func4, Try.ntmps4
    go_wp2_with (first
      | ((with_reducible refine (few_yes a n c _ hn).mono ?_); rintro e w' ⟨rfl, rfl⟩)
      | ((with_reducible refine (few_no a' m c' _ hm).mono ?_); rintro e w' ⟨rfl, rfl⟩)
      | ((with_reducible refine (awake_any _).mono ?_); rintro e w1 ⟨rfl, B1⟩; replace L := Lib.hid (L.out.call B1); clear B1))
    go_ret
    exact ⟨rfl, L.out.bel⟩
  · clear h
    go_enter Try.func4, Try.ntmps4
    go_wp2_with (first
      | ((with_reducible refine (few_no a n c _ hn).mono ?_); rintro e w' ⟨rfl, rfl⟩)
      | ((with_reducible refine (awake_any _).mono ?_); rintro e w1 ⟨rfl, B1⟩; replace L := Lib.hid (L.out.call B1); clear B1))
    go_ret
    exact ⟨rfl, L.out.bel⟩
set_option maxRecDepth 4000 in
set_option maxHeartbeats 4000000 in
theorem compares_near (a : Option Addr) (n c x : Nat) (a' : Option Addr) (m c' y : Nat) (i : Int) (w : World) (Hn : n ≤ 20) (Hm : m ≤ 20) (hi : i ≤ 9223372036854775807) (h : Sw w w.heap.size a n c x) (h' : Sw w w.heap.size a' m c' y) :
    Calls Try.prog 4 #[.slice a n c, .slice a' m c', .int .i64 i] w fun e w' => e = .returned (.bool true) ∧ Below w.heap.size w w' := by
  have L := Lib.hid (((Lv.start w).addW h).addW h')
  have Kx : Hid (dl 8 x ≤ 1000000) := Lib.hid (dl8_le h.fits (by omega))
  have Ky : Hid (dl 8 y ≤ 1000000) := Lib.hid (dl8_le h'.fits (by omega))
  obtain ⟨z, hz⟩ : ∃ z, cmp x y = z := ⟨_, rfl⟩
  obtain ⟨l, hl⟩ : ∃ l, bl x = l := ⟨_, rfl⟩
  obtain ⟨b, hb⟩ : ∃ b, bitI x i = b := ⟨_, rfl⟩
  have Ec := Lib.hid hz
  have El := Lib.hid hl
  have Ei := Lib.hid hb
  clear h h' hz hl hb
  go_enter Try.func4, Try.ntmps4
  go_wp2_with (first
    | ((with_reducible refine (few_yes a n c _ Hn).mono ?_); rintro e w' ⟨rfl, rfl⟩)
    | ((with_reducible refine (few_yes a' m c' _ Hm).mono ?_); rintro e w' ⟨rfl, rfl⟩)
    | ((with_reducible refine (refBytes_any a n c x _ (by omega) (L.out.gw 1 rfl)).mono ?_); rintro e w1 ⟨v, rfl, hv⟩; obtain ⟨a1, c1, rfl, S1, B1⟩ := hv; replace L := Lib.hid ((L.out.call B1).addB S1); clear S1 B1)
    | ((with_reducible refine (refBytes_any a' m c' y _ (by omega) (L.out.gw 0 rfl)).mono ?_); rintro e w2 ⟨v, rfl, hv⟩; obtain ⟨a2, c2, rfl, S2, B2⟩ := hv; replace L := Lib.hid ((L.out.call B2).addB S2); clear S2 B2)
    | ((with_reducible refine (compare_any a n c x a' m c' y _ (by omega) (by omega) (L.out.gw 1 rfl) (L.out.gw 0 rfl)).mono ?_); rintro e w' ⟨rfl, rfl⟩; rw [Ec.out])
    | ((with_reducible refine (refCompare_any a1 (dl 8 x) c1 x a2 (dl 8 y) c2 y _ Kx.out Ky.out (L.out.gb 1 rfl) (L.out.gb 0 rfl)).mono ?_); rintro e w' ⟨rfl, rfl⟩; rw [Ec.out])
    | ((with_reducible refine (len_any a n c x _ (by omega) (L.out.gw 1 rfl)).mono ?_); rintro e w' ⟨rfl, rfl⟩; rw [El.out])
    | ((with_reducible refine (refLen_any a1 (dl 8 x) c1 x _ Kx.out (L.out.gb 1 rfl)).mono ?_); rintro e w' ⟨rfl, rfl⟩; rw [El.out])
    | ((with_reducible refine (bit_any a n c x i _ (by omega) hi (L.out.gw 1 rfl)).mono ?_); rintro e w' ⟨rfl, rfl⟩; rw [Ei.out])
    | ((with_reducible refine (refBit_any a1 (dl 8 x) c1 x i _ Kx.out hi (L.out.gb 1 rfl)).mono ?_); rintro e w' ⟨rfl, rfl⟩; rw [Ei.out])
    | ((with_reducible refine (awake_any _).mono ?_); rintro e w3 ⟨rfl, B3⟩; replace L := Lib.hid (L.out.call B3); clear B3))
  go_ret
  exact ⟨rfl, L.out.bel⟩
end Go.Proofs.Ytmnokjapapheiaa
