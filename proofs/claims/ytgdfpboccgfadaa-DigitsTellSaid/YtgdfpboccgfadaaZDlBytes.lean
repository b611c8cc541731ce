/-
  The walk of DigitsBytes. No statement is proved here: lemmas for the card.
-/
import Derived.Test.YtgdfpboccgfadaaZDlAwake
namespace Go.Proofs.Ytgdfpboccgfadaa
open Go.RowKit

theorem Lz.drew {W w : World} {l : List (Option Addr × Nat × Nat × (Nat → Int))} (h : Lz W w l) : Lz W w.drew l := h.call (Below.drew (Below.refl _ _))
theorem SlZ.at0 {w : World} {B b n c : Nat} {f : Nat → Int} (h : SlZ w B (some ⟨b, 0, none⟩) n c f) (i : Nat) (hi : i < n) : w.cell? ⟨b, i, none⟩ = some (.int .i64 (f i)) := by
  obtain ⟨b', o', e, _, hc⟩ := h.low _ rfl (by omega)
  cases e
  have := hc i hi
  rwa [Nat.zero_add] at this
theorem pl_byte (x i : Nat) : pl x 8 i = dg x i := by
  unfold pl dg
  rw [Nat.mul_comm]
theorem pl_halves (x i s t : Nat) (hs : 2 * i = s) (ht : s + 1 = t) : pl x 4 s + 16 * pl x 4 t = dg x i := by
  subst ht
  subst hs
  unfold pl dg
  rw [show (2 * i + 1) * 4 = 8 * i + 4 by omega, show 2 * i * 4 = 8 * i by omega, Nat.pow_add, ← Nat.div_div_eq_div_mul]
  generalize x / 2 ^ (8 * i) = z
  omega
theorem pl_column (x i m : Nat) : tog x i m 1 = pl x 1 i := by
  unfold pl tog tog tb
  simp
set_option maxRecDepth 20000 in
set_option maxHeartbeats 3200000 in
theorem bytes_far (a : Option Addr) (n c : Nat) (w : World) (h : 64 < n) :
    Calls Try.prog 7 #[.slice a n c] w fun e w' => e = .returned (.bool true) ∧ Below w.heap.size w w' := by
  have d0 : decide ((64 : Int) < (n : Int)) = true := by simp; omega
  clear h
  go_enter Try.func7, Try.ntmps7
  go_wp2_with ((with_reducible refine (dawake_v _).mono ?_); rintro e w1 ⟨rfl, hb⟩; have HB := Lib.hid hb; clear hb)
  go_ret
  exact ⟨rfl, HB.out⟩
set_option maxRecDepth 20000 in
set_option maxHeartbeats 3200000 in
theorem bytes_near (a : Option Addr) (n c x : Nat) (w : World) (hn : n ≤ 64) (hs : Sb w w.heap.size a n c x) :
    Calls Try.prog 7 #[.slice a n c] w fun e w' => e = .returned (.bool true) ∧ Below w.heap.size w w' := by
  have d0 : decide ((64 : Int) < (n : Int)) = false := by simp; omega
  have HS := Lib.hid hs
  obtain ⟨m2, e2⟩ : ∃ m2, 2 * n = m2 := ⟨_, rfl⟩
  obtain ⟨m8, e8⟩ : ∃ m8, 8 * n = m8 := ⟨_, rfl⟩
  have M1 : Hid ((8 * n + 8 - 1) / 8 = n) := Lib.hid (by omega)
  have M2 : Hid ((8 * n + 4 - 1) / 4 = m2) := Lib.hid (by omega)
  have M3 : Hid ((8 * n + 1 - 1) / 1 = m8) := Lib.hid (by omega)
  have z2 : 2 * (n : Int) = (m2 : Int) := by omega
  have hne : ((n : Int) != (n : Int)) = false := by simp
  have hne2 : ((m2 : Int) != (m2 : Int)) = false := by simp
  have HE2 := Lib.hid e2
  have m8b : m8 ≤ 512 := by omega
  clear hs e2 e8
  go_enter Try.func7, Try.ntmps7
  go_wp2_with (first
    | ((with_reducible refine (plain_z a n c x 8 n 8 _ rfl hn (by omega) (by omega) M1.out HS.out).mono ?_); rintro e w1 ⟨g1, rfl, hr, hb⟩; have L := Lib.hid (((Lz.start w).call hb).add hr); clear hr hb)
    | ((with_reducible refine (plain_z a n c x 4 m2 4 _ rfl hn (by omega) (by omega) M2.out (HS.out.call L.out.bel)).mono ?_); rintro e w2 ⟨g2, rfl, hr, hb⟩; replace L := Lib.hid ((L.out.call hb).add hr); clear hr hb)
    | ((with_reducible refine (plain_z a n c x 1 m8 1 _ rfl hn (by omega) (by omega) M3.out (HS.out.call L.out.bel)).mono ?_); rintro e w3 ⟨g3, rfl, hr, hb⟩; replace L := Lib.hid ((L.out.call hb).add hr); clear hr hb)
    | ((with_reducible refine (columns_z a n c x 1 m8 1 _ rfl hn (by omega) (by omega) M3.out (HS.out.call L.out.bel)).mono ?_); rintro e w4 ⟨g4, rfl, hr, hb⟩; replace L := Lib.hid ((L.out.call hb).add hr); clear hr hb)
    | ((with_reducible refine (ints_v (some ⟨g3, 0, none⟩) (some ⟨g4, 0, none⟩) m8 m8 m8 _ _ (by omega) (L.out.gz 1 rfl) ((L.out.gz 0 rfl).congr fun i _ => by rw [pl_column])).mono ?_); rintro e w5 ⟨rfl, hb⟩; replace L := Lib.hid (L.out.call hb); clear hb))
  go_loopw [11] (fun v wr => ∃ i : Nat, i ≤ n ∧ v = .int .i64 i ∧ Lz w wr [(some ⟨g4, 0, none⟩, m8, m8, fun i => ((tog x i m8 1 : Nat) : Int)), (some ⟨g3, 0, none⟩, m8, m8, fun i => ((pl x 1 i : Nat) : Int)), (some ⟨g2, 0, none⟩, m2, m2, fun i => ((pl x 4 i : Nat) : Int)), (some ⟨g1, 0, none⟩, n, n, fun i => ((pl x 8 i : Nat) : Int))]) (fun v _ => n - (intOf v).toNat)
  case atStart => exact ⟨0, by omega, rfl, L.out⟩
  case round =>
    clear L
    obtain ⟨i, hi, rfl, HO⟩ := hrel
    have L := Lib.hid HO
    clear HO
    by_cases hlt : i < n
    · have hid : decide ((i : Int) < (n : Int)) = true := by simp; omega
      have hlt' : (i : Int) < (n : Int) := by omega
      obtain ⟨s, es⟩ : ∃ s, 2 * i = s := ⟨_, rfl⟩
      obtain ⟨t, et⟩ : ∃ t, s + 1 = t := ⟨_, rfl⟩
      have hE2 := HE2.out
      have zs : 2 * (i : Int) = (s : Int) := by omega
      have zt : (s : Int) + 1 = (t : Int) := by omega
      have hs2 : (s : Int) < (m2 : Int) := by omega
      have ht2 : (t : Int) < (m2 : Int) := by omega
      have P1 := pl_byte x i
      have P2 := pl_halves x i s t es et
      have hy := dg_lt x i
      obtain ⟨b, o, rfl, _, hb0⟩ := (HS.out.call L.out.bel).sl.get i hlt
      have c1 := (L.out.gz 3 rfl).at0 i hlt
      have c2 := (L.out.gz 2 rfl).at0 s (by omega)
      have c3 := (L.out.gz 2 rfl).at0 t (by omega)
      have U1 := U8_bt x i
      obtain ⟨y, ey⟩ : ∃ y, dg x i = y := ⟨_, rfl⟩
      obtain ⟨p, ep⟩ : ∃ p, pl x 4 s = p := ⟨_, rfl⟩
      obtain ⟨q, eq⟩ : ∃ q, pl x 4 t = q := ⟨_, rfl⟩
      rw [ey] at P1 P2 hy U1
      rw [ep, eq] at P2
      simp only [P1] at c1
      simp only [ep] at c2
      simp only [eq] at c3
      unfold U at hb0
      rw [U1] at hb0
      have q16 : q ≤ 256 := by omega
      have p16 : p ≤ 256 := by omega
      obtain ⟨r, er⟩ : ∃ r, 16 * q = r := ⟨_, rfl⟩
      have ewy : IntKind.i64.wrap (y : Int) = (y : Int) := by rw [IntKind.wrap_i64]; omega
      have ew1 : IntKind.i64.wrap (2 * (i : Int)) = (s : Int) := by rw [IntKind.wrap_i64]; omega
      have ew2 : IntKind.i64.wrap ((s : Int) + 1) = (t : Int) := by rw [IntKind.wrap_i64]; omega
      have ew3 : IntKind.i64.wrap (16 * (q : Int)) = (r : Int) := by rw [IntKind.wrap_i64]; omega
      have ew4 : IntKind.i64.wrap ((p : Int) + (r : Int)) = (y : Int) := by rw [IntKind.wrap_i64]; omega
      have hyy : ((y : Int) != (y : Int)) = false := by simp
      clear hE2 es et P1 P2 U1 ey ep eq er hlt zs zt
      go_wp2_with fail
      refine wp_region_still_lit (by kernel_rfl) (by kernel_rfl) ?_
      replace L := Lib.hid L.out.drew
      have c1' : wr.drew.cell? ⟨g1, i, none⟩ = some (.int .i64 (y : Int)) := c1
      have c2' : wr.drew.cell? ⟨g2, s, none⟩ = some (.int .i64 (p : Int)) := c2
      have c3' : wr.drew.cell? ⟨g2, t, none⟩ = some (.int .i64 (q : Int)) := c3
      have cb' : wr.drew.cell? ⟨b, o + i, none⟩ = some (.int .u8 (y : Int)) := hb0
      clear c1 c2 c3 hb0
      change wpStill _ _ wr.drew (fun a' => Exit.then _ _ Exit.normal a' wr.drew) _ _
      generalize wr.drew = w9 at *
      iterate 30 still_step
      refine wpStill_nil ?_
      go_wp2_with fail
      go_roundw
      case rel => exact ⟨i + 1, by omega, by go_num, L.out⟩
      case measure => simp [intOf]; omega
    · obtain rfl : n = i := by omega
      have hid : decide ((n : Int) < (n : Int)) = false := by simp
      clear hlt hi
      go_wp2_with ((with_reducible refine (dawake_v _).mono ?_); rintro e w6 ⟨rfl, hb⟩; replace L := Lib.hid (L.out.call hb); clear hb)
      go_ret
      exact ⟨rfl, L.out.bel⟩
end Go.Proofs.Ytgdfpboccgfadaa
