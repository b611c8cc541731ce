/-
 The contract of the reference's Times. No statement is proved here: lemmas for the walks.
-/
import Derived.Test.YtoeokhfhcpcjlaaGreatDoorZRfAddPt
import Derived.Test.YtoeokhfhcpcjlaaGreatDoorBuN
import Derived.Test.YtoeokhfhcpcjlaaGreatDoorBuR
import Derived.Deep.LoopGhost
set_option maxRecDepth 8000
set_option maxHeartbeats 3200000
namespace Go.Proofs.YtoeokhfhcpcjlaaGreatDoor
open Go.RowKit
theorem half_bit (x j : Nat) : x / 2 ^ j = 2 * (x / 2 ^ (j + 1)) + x / 2 ^ j % 2 := by
 rw [Nat.pow_succ, ← Nat.div_div_eq_div_mul]
 omega
theorem z4e (a : Option Addr) (n c x : Nat) {v : Nat → Int} {P : Pt pN dK} (w : World) (hn : n ≤ 100) (hs : Sb w w.heap.size a n c x) (p1 : RfK v P) :
  Calls Tryz.prog 46 #[.slice a n c, QO v] w fun e w' => ∃ r, e = .returned (QO r) ∧ RfK r (pmul edK x P) ∧ Below w.heap.size w w' := by
 have HS := Lib.hid hs
 have Q := Lib.hid p1
 have hl : bl x ≤ 8 * n := (bl_le x _).2 hs.fits
 obtain ⟨nn, hnn⟩ : ∃ nn, bl x = nn := ⟨_, rfl⟩
 have HX : Hid (x / 2 ^ nn = 0) := Lib.hid (by rw [← hnn]; exact Nat.div_eq_of_lt (bl_fits x))
 have HL : Hid (∀ w, Sb w w.heap.size a n c x → Calls Tryz.prog 85 #[.slice a n c] w fun e w' => e = .returned (.int .i64 (nn : Int)) ∧ w' = w) := Lib.hid (fun w h => hnn ▸ refLen_any a n c x w (by omega) h)
 have HBI : Hid (∀ (j : Nat) w, j ≤ 800 → Sb w w.heap.size a n c x → Calls Tryz.prog 86 #[.slice a n c, .int .i64 (j : Int)] w fun e w' => e = .returned (.int .i64 (((x / 2 ^ j % 2 : Nat)) : Int)) ∧ w' = w) := Lib.hid (fun j w hj h => by
  have := z25 a n c x (j : Int) w (by omega) (by omega) h
  have e : bitI x (j : Int) = ((x / 2 ^ j % 2 : Nat) : Int) := by
   unfold bitI
   rw [if_neg (by omega)]
   rfl
  rwa [e] at this)
 have n800 : (nn : Int) ≤ 800 := by omega
 have fn1 : IntKind.i64.wrap ((nn : Int) - 1) = (nn : Int) - 1 := IntWalk.i64_in _ (by omega)
 clear hs p1 hl hnn hn
 have H := Lib.hid (Ow.start w)
 go_enter Tryz.func46, Tryz.ntmps46
 go_wp2_with (first
  | ((fail_if_success have := g3); (with_reducible apply z0h H); (case hgd | ho | hx => exact rfl); clear H; intro w3 g3 H _ _; go_simp)
  | ((fail_if_success have := g4); (fail_if_success have := g4); (with_reducible apply z0b nilQt H); (case hgd | ho => exact rfl); clear H; intro w4 g4 H _ _; go_simp)
  | ((fail_if_success have := V0); (with_reducible refine (z1u _).mono ?_); rintro e wc ⟨k0, rfl, hv, hb⟩; replace H := hcall H hb; clear hb; have V0 := Lib.hid hv; clear hv)
  | ((fail_if_success have := g5); (fail_if_success have := g5); (with_reducible apply z0b nilQt H); (case hgd | ho => exact rfl); clear H; intro w5 g5 H _ _; go_simp)
  | ((with_reducible apply z0e rowQt H); (case hgd | ho | hx | hy => exact rfl); (case hi => repeat first|exact at0|apply atS); clear H; intro ws H _ _; simp only [qb] at H; go_simp)
  | ((with_reducible refine (HL.out _ ((HS.out.below H.out.bel).more H.out.bel.size)).mono ?_); rintro e w' ⟨rfl, hww⟩; have hww' := hww.symm; subst hww'))
 clear fn1
 go_loopw [6] (fun v6 wr => ∃ (m : Nat) (r : Nat → Int), m ≤ nn ∧ v6 = .int .i64 ((m : Int) - 1) ∧ RfK r (pmul edK (x / 2 ^ m) P) ∧ Ow w wr [(g5, Blk 40 .i64 48 r), (g4, Blk 40 .i64 48 fun _ => 0), (g3, Blk 40 .i64 48 v)]) (fun v6 _ => (intOf v6 + 1).toNat)
 case atStart => exact ⟨nn, k0, Nat.le_refl _, rfl, by rw [HX.out]; exact V0.out.eq (z5g edK P).symm, H.out⟩
 case round =>
  clear H V0
  obtain ⟨m, r, hm, rfl, hp, HR⟩ := hrel
  have VP := Lib.hid hp
  have H := Lib.hid HR
  clear hp HR
  cases m with
  | zero =>
   rw [show ((0 : Nat) : Int) - 1 = -1 from rfl]
   go_wp2_with (first
    | ((with_reducible apply z0g rowQt H); (case hgd | ho | hx => exact rfl); (case hi => repeat first|exact at0|apply atS); intro _ _; go_simp)
    | ((with_reducible apply z0e rowQt H); (case hgd | ho | hx | hy => exact rfl); (case hi => repeat first|exact at0|apply atS); clear H; intro ws H _ _; simp only [qb, qc] at H; go_simp))
   exact bodyPost_ret (z0i 1 rowQt rfl _ H rfl rfl) rfl ⟨_, rfl, VP.out.eq (by rw [Nat.pow_zero, Nat.div_one]), H.out.bel⟩
  | succ j =>
   have ej : ((j + 1 : Nat) : Int) - 1 = (j : Int) := by omega
   rw [ej]
   clear ej
   have hid : decide ((0 : Int) ≤ (j : Int)) = true := by simp
   have HJ := Lib.hid hm
   have j800 : (j : Int) ≤ 800 := by omega
   have j800' : j ≤ 800 := by omega
   have HE : Hid (x / 2 ^ j = 2 * (x / 2 ^ (j + 1)) + x / 2 ^ j % 2) := Lib.hid (half_bit x j)
   have HBJ := Lib.hid (fun w h => HBI.out j w j800' h)
   rcases Nat.mod_two_eq_zero_or_one (x / 2 ^ j) with hu2 | hu2
   ·rw [hu2] at HE HBJ
    clear hu2 hm
    go_wp2_with (first
     | ((with_reducible apply z0g rowQt H); (case hgd | ho | hx => exact rfl); (case hi => repeat first|exact at0|apply atS); intro _ _; go_simp)
     | ((with_reducible apply z0e rowQt H); (case hgd | ho | hx | hy => exact rfl); (case hi => repeat first|exact at0|apply atS); clear H; intro ws H _ _; simp only [qb] at H; go_simp)
     | ((fail_if_success have := V1); (with_reducible refine (z1g _ VP.out VP.out).mono ?_); rintro e wc ⟨k1, rfl, hv, hb⟩; replace H := hcall H hb; clear hb; have V1 := Lib.hid hv; clear hv)
     | ((with_reducible refine (HBJ.out _ ((HS.out.below H.out.bel).more H.out.bel.size)).mono ?_); rintro e w' ⟨rfl, hww⟩; have hww' := hww.symm; subst hww'))
    go_roundw
    case rel => exact ⟨j, k1, by have := HJ.out; omega, by go_num, by rw [HE.out, Nat.add_zero, z3w]; exact V1.out, H.out⟩
    case measure => (simp [intOf] <;> omega)
   ·rw [hu2] at HE HBJ
    clear hu2 hm
    go_wp2_with (first
     | ((with_reducible apply z0g rowQt H); (case hgd | ho | hx => exact rfl); (case hi => repeat first|exact at0|apply atS); intro _ _; go_simp)
     | ((with_reducible apply z0e rowQt H); (case hgd | ho | hx | hy => exact rfl); (case hi => repeat first|exact at0|apply atS); clear H; intro ws H _ _; simp only [qb] at H; go_simp)
     | ((fail_if_success have := V1); (with_reducible refine (z1g _ VP.out VP.out).mono ?_); rintro e wc ⟨k1, rfl, hv, hb⟩; replace H := hcall H hb; clear hb; have V1 := Lib.hid hv; clear hv)
     | ((with_reducible refine (HBJ.out _ ((HS.out.below H.out.bel).more H.out.bel.size)).mono ?_); rintro e w' ⟨rfl, hww⟩; have hww' := hww.symm; subst hww')
     | ((fail_if_success have := V2); (with_reducible refine (z1g _ V1.out Q.out).mono ?_); rintro e wc ⟨k2, rfl, hv, hb⟩; replace H := hcall H hb; clear hb; have V2 := Lib.hid hv; clear hv))
    go_roundw
    case rel => exact ⟨j, k2, by have := HJ.out; omega, by go_num, by rw [HE.out, z3x, z3w]; exact V2.out, H.out⟩
    case measure => (simp [intOf] <;> omega)
end Go.Proofs.YtoeokhfhcpcjlaaGreatDoor
