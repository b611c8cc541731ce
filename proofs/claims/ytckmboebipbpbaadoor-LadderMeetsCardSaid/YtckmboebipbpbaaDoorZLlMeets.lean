/-
  The walk of LadderMeets. No statement is proved here: lemmas for the walks.
-/
import Derived.Test.YtckmboebipbpbaaDoorZLdTwice
import Derived.Test.YtckmboebipbpbaaDoorBuE
import Derived.Deep.CutRange
namespace Go.Proofs.YtckmboebipbpbaaDoor
open Go.RowKit

set_option maxRecDepth 20000 in
set_option maxHeartbeats 12800000 in
theorem meets_zzz {j k y : Nat} {P5 R5 RU : K} (f g h : Nat → BitVec 8) (w : World) (hT : Tp w) (hj : j < 2 ^ (8 * 56)) (ej : ∀ i, i < 56 → bt j i = f i) (hk : k < 2 ^ (8 * 56)) (ek : ∀ i, i < 56 → bt k i = g i) (hy : y < 2 ^ (8 * 56)) (ey : ∀ i, i < 56 → bt y i = h i)
    (e1 : ldV (ofZ 5) (clN k) = P5) (e2 : ldV (ldV (ofZ 5) (clN j)) (clN k) = R5) (e3 : ldV (ldV (cN pN y) (clN j)) (clN k) = RU) (z1 : P5 = 0) (z2 : R5 = 0) (z3 : RU = 0) :
    Calls Tryd.prog 6 #[.agg (AZ .u8 56 (UB f)), .agg (AZ .u8 56 (UB g)), .agg (AZ .u8 56 (UB h))] w fun e w' => e = .returned (.bool true) ∧ Below w.heap.size w w' := by
  have HJ1 := Lib.hid hj
  have HJ2 := Lib.hid ej
  have HK1 := Lib.hid hk
  have HK2 := Lib.hid ek
  have HY1 := Lib.hid hy
  have HY2 := Lib.hid ey
  have E1 := Lib.hid e1
  have E2a : Hid (ldV (ldV (cN pN (ofZ 5).val) (clN j)) (clN k) = R5) := Lib.hid (by rw [cN_val, e2])
  have E2b : Hid (ldV (ldV (cN pN (ofZ 5).val) (clN k)) (clN j) = R5) := Lib.hid (by rw [cN_val, ← e2, ldV_swap])
  have E2c : Hid (ldV (cN pN P5.val) (clN j) = R5) := Lib.hid (by rw [cN_val, ← e1, ← e2, ldV_swap])
  have E3a := Lib.hid e3
  have E3b : Hid (ldV (ldV (cN pN y) (clN k)) (clN j) = RU) := Lib.hid (by rw [← e3, ldV_swap])
  have Z1 := Lib.hid z1
  have Z2 := Lib.hid z2
  have Z3 := Lib.hid z3
  clear hj ej hk ek hy ey e1 e2 e3 z1 z2 z3
  have HT := Lib.hid hT
  clear hT
  have H := Lib.hid (Ow.start w)
  go_enter Tryd.func6, Tryd.ntmps6
  go_wp2_with (first
    | ((fail_if_success have := g3); (with_reducible apply own_box H); (case hgd => exact rfl); (case ho => exact rfl); (case hx => exact rfl); intro w3 g3 H' _ _; replace H := H'; clear H'; go_simp)
    | ((fail_if_success have := g4); (fail_if_success have := g4); (with_reducible apply own_box H); (case hgd => exact rfl); (case ho => exact rfl); (case hx => exact rfl); intro w4 g4 H' _ _; replace H := H'; clear H'; go_simp)
    | ((fail_if_success have := g5); (fail_if_success have := g5); (with_reducible apply own_box H); (case hgd => exact rfl); (case ho => exact rfl); (case hx => exact rfl); intro w5 g5 H' _ _; replace H := H'; clear H'; go_simp)
    | ((with_reducible apply own_load rowB H); (case hgd => exact rfl); (case ho => exact rfl); (case hx => exact rfl); (case hi => first | exact at0 | exact at1 | exact at2 | exact at3 | exact at4 | exact at5 | exact at6 | exact at7 | exact at8 | exact at9); intro _ _; go_simp)
    | ((fail_if_success have := mk1); (with_reducible refine (lawBytes_x _ HJ1.out HJ2.out).mono ?_); rintro e wc ⟨aj, cj, rfl, hs, hb⟩; replace H := Lib.hid (H.out.call hb); have BS := Lib.hid ((Sbs.nil _).add hs); have mk1 := trivial; clear hb hs)
    | ((fail_if_success have := mk2); (with_reducible refine (lawBytes_x _ HK1.out HK2.out).mono ?_); rintro e wc ⟨ak, ck, rfl, hs, hb⟩; replace H := Lib.hid (H.out.call hb); replace BS := Lib.hid ((BS.out.call hb).add hs); have mk2 := trivial; clear hb hs)
    | ((fail_if_success have := mk3); (with_reducible refine (int_k 5 _ (HT.out.below H.out.bel) (by omega) (by omega)).mono ?_); rintro e wc ⟨e5, rfl, hv, hb⟩; replace H := Lib.hid (H.out.call hb); replace BS := Lib.hid ((BS.out.call hb)); have mk3 := trivial; clear hb; have V5 := Lib.hid hv; clear hv)
    | ((fail_if_success have := mk4); (with_reducible refine (bytes_sb _ V5.out).mono ?_); rintro e wc ⟨b5, c5, rfl, hs, hb⟩; replace H := Lib.hid (H.out.call hb); replace BS := Lib.hid ((BS.out.call hb).add hs); have mk4 := trivial; clear hb hs)
    | ((fail_if_success have := mk5); (with_reducible refine (twice_z _ (HT.out.below H.out.bel) (BS.out.at 2 rfl) (BS.out.at 1 rfl) (BS.out.at 0 rfl) E2a.out Z2.out).mono ?_); rintro e wc ⟨ax, cx, rfl, hs, hb⟩; replace H := Lib.hid (H.out.call hb); replace BS := Lib.hid ((BS.out.call hb).add hs); have mk5 := trivial; clear hb hs)
    | ((fail_if_success have := mk6); (with_reducible refine (twice_z _ (HT.out.below H.out.bel) (BS.out.at 2 rfl) (BS.out.at 3 rfl) (BS.out.at 1 rfl) E2b.out Z2.out).mono ?_); rintro e wc ⟨ay, cy, rfl, hs, hb⟩; replace H := Lib.hid (H.out.call hb); replace BS := Lib.hid ((BS.out.call hb).add hs); have mk6 := trivial; clear hb hs)
    | ((fail_if_success have := mk7); (with_reducible refine (cmp_any (n := 0) _ (by omega) (BS.out.at 1 rfl) (BS.out.at 0 rfl)).mono ?_); rintro e wc ⟨rfl, hb⟩; replace H := Lib.hid (H.out.call hb); replace BS := Lib.hid ((BS.out.call hb)); have mk7 := trivial; clear hb)
    | ((fail_if_success have := mk8); (with_reducible refine (public_z _ (HT.out.below H.out.bel) (BS.out.at 3 rfl) E1.out Z1.out).mono ?_); rintro e wc ⟨ap, cp, rfl, hs, hb⟩; replace H := Lib.hid (H.out.call hb); replace BS := Lib.hid ((BS.out.call hb).add hs); have mk8 := trivial; clear hb hs)
    | ((fail_if_success have := mk11); (with_reducible refine (lawBytes_x _ HY1.out HY2.out).mono ?_); rintro e wc ⟨au, cu, rfl, hs, hb⟩; replace H := Lib.hid (H.out.call hb); replace BS := Lib.hid ((BS.out.call hb).add hs); have mk11 := trivial; clear hb hs)
    | ((fail_if_success have := mk12); (with_reducible refine (twice_z _ (HT.out.below H.out.bel) (BS.out.at 6 rfl) (BS.out.at 5 rfl) (BS.out.at 0 rfl) E3a.out Z3.out).mono ?_); rintro e wc ⟨av, cv, rfl, hs, hb⟩; replace H := Lib.hid (H.out.call hb); replace BS := Lib.hid ((BS.out.call hb).add hs); have mk12 := trivial; clear hb hs)
    | ((fail_if_success have := mk13); (with_reducible refine (lawBytes_x _ HY1.out HY2.out).mono ?_); rintro e wc ⟨au2, cu2, rfl, hs, hb⟩; replace H := Lib.hid (H.out.call hb); replace BS := Lib.hid ((BS.out.call hb).add hs); have mk13 := trivial; clear hb hs)
    | ((fail_if_success have := mk14); (with_reducible refine (twice_z _ (HT.out.below H.out.bel) (BS.out.at 7 rfl) (BS.out.at 8 rfl) (BS.out.at 0 rfl) E3b.out Z3.out).mono ?_); rintro e wc ⟨aw, cw, rfl, hs, hb⟩; replace H := Lib.hid (H.out.call hb); replace BS := Lib.hid ((BS.out.call hb).add hs); have mk14 := trivial; clear hb hs)
    | ((fail_if_success have := mk15); (with_reducible refine (cmp_any (n := 0) _ (by omega) (BS.out.at 2 rfl) (BS.out.at 0 rfl)).mono ?_); rintro e wc ⟨rfl, hb⟩; replace H := Lib.hid (H.out.call hb); replace BS := Lib.hid ((BS.out.call hb)); have mk15 := trivial; clear hb)
    | ((with_reducible refine (awake10_k _ (HT.out.below H.out.bel)).mono ?_); rintro e wc ⟨rfl, hb⟩; replace H := Lib.hid (H.out.call hb); replace BS := Lib.hid ((BS.out.call hb)); clear hb))
  go_ret
  exact ⟨rfl, H.out.bel⟩
set_option maxRecDepth 20000 in
set_option maxHeartbeats 12800000 in
theorem meets_zzn {j k y : Nat} {P5 R5 RU : K} (f g h : Nat → BitVec 8) (w : World) (hT : Tp w) (hj : j < 2 ^ (8 * 56)) (ej : ∀ i, i < 56 → bt j i = f i) (hk : k < 2 ^ (8 * 56)) (ek : ∀ i, i < 56 → bt k i = g i) (hy : y < 2 ^ (8 * 56)) (ey : ∀ i, i < 56 → bt y i = h i)
    (e1 : ldV (ofZ 5) (clN k) = P5) (e2 : ldV (ldV (ofZ 5) (clN j)) (clN k) = R5) (e3 : ldV (ldV (cN pN y) (clN j)) (clN k) = RU) (z1 : P5 = 0) (z2 : R5 = 0) (z3 : RU ≠ 0) :
    Calls Tryd.prog 6 #[.agg (AZ .u8 56 (UB f)), .agg (AZ .u8 56 (UB g)), .agg (AZ .u8 56 (UB h))] w fun e w' => e = .returned (.bool true) ∧ Below w.heap.size w w' := by
  have HJ1 := Lib.hid hj
  have HJ2 := Lib.hid ej
  have HK1 := Lib.hid hk
  have HK2 := Lib.hid ek
  have HY1 := Lib.hid hy
  have HY2 := Lib.hid ey
  have E1 := Lib.hid e1
  have E2a : Hid (ldV (ldV (cN pN (ofZ 5).val) (clN j)) (clN k) = R5) := Lib.hid (by rw [cN_val, e2])
  have E2b : Hid (ldV (ldV (cN pN (ofZ 5).val) (clN k)) (clN j) = R5) := Lib.hid (by rw [cN_val, ← e2, ldV_swap])
  have E2c : Hid (ldV (cN pN P5.val) (clN j) = R5) := Lib.hid (by rw [cN_val, ← e1, ← e2, ldV_swap])
  have E3a := Lib.hid e3
  have E3b : Hid (ldV (ldV (cN pN y) (clN k)) (clN j) = RU) := Lib.hid (by rw [← e3, ldV_swap])
  have Z1 := Lib.hid z1
  have Z2 := Lib.hid z2
  have Z3 := Lib.hid z3
  clear hj ej hk ek hy ey e1 e2 e3 z1 z2 z3
  have HT := Lib.hid hT
  clear hT
  have H := Lib.hid (Ow.start w)
  go_enter Tryd.func6, Tryd.ntmps6
  go_wp2_with (first
    | ((fail_if_success have := g3); (with_reducible apply own_box H); (case hgd => exact rfl); (case ho => exact rfl); (case hx => exact rfl); intro w3 g3 H' _ _; replace H := H'; clear H'; go_simp)
    | ((fail_if_success have := g4); (fail_if_success have := g4); (with_reducible apply own_box H); (case hgd => exact rfl); (case ho => exact rfl); (case hx => exact rfl); intro w4 g4 H' _ _; replace H := H'; clear H'; go_simp)
    | ((fail_if_success have := g5); (fail_if_success have := g5); (with_reducible apply own_box H); (case hgd => exact rfl); (case ho => exact rfl); (case hx => exact rfl); intro w5 g5 H' _ _; replace H := H'; clear H'; go_simp)
    | ((with_reducible apply own_load rowB H); (case hgd => exact rfl); (case ho => exact rfl); (case hx => exact rfl); (case hi => first | exact at0 | exact at1 | exact at2 | exact at3 | exact at4 | exact at5 | exact at6 | exact at7 | exact at8 | exact at9); intro _ _; go_simp)
    | ((fail_if_success have := mk1); (with_reducible refine (lawBytes_x _ HJ1.out HJ2.out).mono ?_); rintro e wc ⟨aj, cj, rfl, hs, hb⟩; replace H := Lib.hid (H.out.call hb); have BS := Lib.hid ((Sbs.nil _).add hs); have mk1 := trivial; clear hb hs)
    | ((fail_if_success have := mk2); (with_reducible refine (lawBytes_x _ HK1.out HK2.out).mono ?_); rintro e wc ⟨ak, ck, rfl, hs, hb⟩; replace H := Lib.hid (H.out.call hb); replace BS := Lib.hid ((BS.out.call hb).add hs); have mk2 := trivial; clear hb hs)
    | ((fail_if_success have := mk3); (with_reducible refine (int_k 5 _ (HT.out.below H.out.bel) (by omega) (by omega)).mono ?_); rintro e wc ⟨e5, rfl, hv, hb⟩; replace H := Lib.hid (H.out.call hb); replace BS := Lib.hid ((BS.out.call hb)); have mk3 := trivial; clear hb; have V5 := Lib.hid hv; clear hv)
    | ((fail_if_success have := mk4); (with_reducible refine (bytes_sb _ V5.out).mono ?_); rintro e wc ⟨b5, c5, rfl, hs, hb⟩; replace H := Lib.hid (H.out.call hb); replace BS := Lib.hid ((BS.out.call hb).add hs); have mk4 := trivial; clear hb hs)
    | ((fail_if_success have := mk5); (with_reducible refine (twice_z _ (HT.out.below H.out.bel) (BS.out.at 2 rfl) (BS.out.at 1 rfl) (BS.out.at 0 rfl) E2a.out Z2.out).mono ?_); rintro e wc ⟨ax, cx, rfl, hs, hb⟩; replace H := Lib.hid (H.out.call hb); replace BS := Lib.hid ((BS.out.call hb).add hs); have mk5 := trivial; clear hb hs)
    | ((fail_if_success have := mk6); (with_reducible refine (twice_z _ (HT.out.below H.out.bel) (BS.out.at 2 rfl) (BS.out.at 3 rfl) (BS.out.at 1 rfl) E2b.out Z2.out).mono ?_); rintro e wc ⟨ay, cy, rfl, hs, hb⟩; replace H := Lib.hid (H.out.call hb); replace BS := Lib.hid ((BS.out.call hb).add hs); have mk6 := trivial; clear hb hs)
    | ((fail_if_success have := mk7); (with_reducible refine (cmp_any (n := 0) _ (by omega) (BS.out.at 1 rfl) (BS.out.at 0 rfl)).mono ?_); rintro e wc ⟨rfl, hb⟩; replace H := Lib.hid (H.out.call hb); replace BS := Lib.hid ((BS.out.call hb)); have mk7 := trivial; clear hb)
    | ((fail_if_success have := mk8); (with_reducible refine (public_z _ (HT.out.below H.out.bel) (BS.out.at 3 rfl) E1.out Z1.out).mono ?_); rintro e wc ⟨ap, cp, rfl, hs, hb⟩; replace H := Lib.hid (H.out.call hb); replace BS := Lib.hid ((BS.out.call hb).add hs); have mk8 := trivial; clear hb hs)
    | ((fail_if_success have := mk11); (with_reducible refine (lawBytes_x _ HY1.out HY2.out).mono ?_); rintro e wc ⟨au, cu, rfl, hs, hb⟩; replace H := Lib.hid (H.out.call hb); replace BS := Lib.hid ((BS.out.call hb).add hs); have mk11 := trivial; clear hb hs)
    | ((fail_if_success have := mk12); (with_reducible refine (twice_n _ (HT.out.below H.out.bel) (BS.out.at 6 rfl) (BS.out.at 5 rfl) (BS.out.at 0 rfl) E3a.out Z3.out).mono ?_); rintro e wc ⟨av, cv, rfl, hs, hb⟩; replace H := Lib.hid (H.out.call hb); replace BS := Lib.hid ((BS.out.call hb).add hs); have mk12 := trivial; clear hb hs)
    | ((fail_if_success have := mk13); (with_reducible refine (lawBytes_x _ HY1.out HY2.out).mono ?_); rintro e wc ⟨au2, cu2, rfl, hs, hb⟩; replace H := Lib.hid (H.out.call hb); replace BS := Lib.hid ((BS.out.call hb).add hs); have mk13 := trivial; clear hb hs)
    | ((fail_if_success have := mk14); (with_reducible refine (twice_n _ (HT.out.below H.out.bel) (BS.out.at 7 rfl) (BS.out.at 8 rfl) (BS.out.at 0 rfl) E3b.out Z3.out).mono ?_); rintro e wc ⟨aw, cw, rfl, hs, hb⟩; replace H := Lib.hid (H.out.call hb); replace BS := Lib.hid ((BS.out.call hb).add hs); have mk14 := trivial; clear hb hs)
    | ((fail_if_success have := mk15); (with_reducible refine (cmp_any (n := 56) _ (by omega) (BS.out.at 2 rfl) (BS.out.at 0 rfl)).mono ?_); rintro e wc ⟨rfl, hb⟩; replace H := Lib.hid (H.out.call hb); replace BS := Lib.hid ((BS.out.call hb)); have mk15 := trivial; clear hb)
    | ((with_reducible refine (awake10_k _ (HT.out.below H.out.bel)).mono ?_); rintro e wc ⟨rfl, hb⟩; replace H := Lib.hid (H.out.call hb); replace BS := Lib.hid ((BS.out.call hb)); clear hb))
  go_ret
  exact ⟨rfl, H.out.bel⟩
set_option maxRecDepth 20000 in
set_option maxHeartbeats 12800000 in
theorem meets_nzz {j k y : Nat} {P5 R5 RU : K} (f g h : Nat → BitVec 8) (w : World) (hT : Tp w) (hj : j < 2 ^ (8 * 56)) (ej : ∀ i, i < 56 → bt j i = f i) (hk : k < 2 ^ (8 * 56)) (ek : ∀ i, i < 56 → bt k i = g i) (hy : y < 2 ^ (8 * 56)) (ey : ∀ i, i < 56 → bt y i = h i)
    (e1 : ldV (ofZ 5) (clN k) = P5) (e2 : ldV (ldV (ofZ 5) (clN j)) (clN k) = R5) (e3 : ldV (ldV (cN pN y) (clN j)) (clN k) = RU) (z1 : P5 ≠ 0) (z2 : R5 = 0) (z3 : RU = 0) :
    Calls Tryd.prog 6 #[.agg (AZ .u8 56 (UB f)), .agg (AZ .u8 56 (UB g)), .agg (AZ .u8 56 (UB h))] w fun e w' => e = .returned (.bool true) ∧ Below w.heap.size w w' := by
  have HJ1 := Lib.hid hj
  have HJ2 := Lib.hid ej
  have HK1 := Lib.hid hk
  have HK2 := Lib.hid ek
  have HY1 := Lib.hid hy
  have HY2 := Lib.hid ey
  have E1 := Lib.hid e1
  have E2a : Hid (ldV (ldV (cN pN (ofZ 5).val) (clN j)) (clN k) = R5) := Lib.hid (by rw [cN_val, e2])
  have E2b : Hid (ldV (ldV (cN pN (ofZ 5).val) (clN k)) (clN j) = R5) := Lib.hid (by rw [cN_val, ← e2, ldV_swap])
  have E2c : Hid (ldV (cN pN P5.val) (clN j) = R5) := Lib.hid (by rw [cN_val, ← e1, ← e2, ldV_swap])
  have E3a := Lib.hid e3
  have E3b : Hid (ldV (ldV (cN pN y) (clN k)) (clN j) = RU) := Lib.hid (by rw [← e3, ldV_swap])
  have Z1 := Lib.hid z1
  have Z2 := Lib.hid z2
  have Z3 := Lib.hid z3
  clear hj ej hk ek hy ey e1 e2 e3 z1 z2 z3
  have HT := Lib.hid hT
  clear hT
  have H := Lib.hid (Ow.start w)
  go_enter Tryd.func6, Tryd.ntmps6
  go_wp2_with (first
    | ((fail_if_success have := g3); (with_reducible apply own_box H); (case hgd => exact rfl); (case ho => exact rfl); (case hx => exact rfl); intro w3 g3 H' _ _; replace H := H'; clear H'; go_simp)
    | ((fail_if_success have := g4); (fail_if_success have := g4); (with_reducible apply own_box H); (case hgd => exact rfl); (case ho => exact rfl); (case hx => exact rfl); intro w4 g4 H' _ _; replace H := H'; clear H'; go_simp)
    | ((fail_if_success have := g5); (fail_if_success have := g5); (with_reducible apply own_box H); (case hgd => exact rfl); (case ho => exact rfl); (case hx => exact rfl); intro w5 g5 H' _ _; replace H := H'; clear H'; go_simp)
    | ((with_reducible apply own_load rowB H); (case hgd => exact rfl); (case ho => exact rfl); (case hx => exact rfl); (case hi => first | exact at0 | exact at1 | exact at2 | exact at3 | exact at4 | exact at5 | exact at6 | exact at7 | exact at8 | exact at9); intro _ _; go_simp)
    | ((fail_if_success have := mk1); (with_reducible refine (lawBytes_x _ HJ1.out HJ2.out).mono ?_); rintro e wc ⟨aj, cj, rfl, hs, hb⟩; replace H := Lib.hid (H.out.call hb); have BS := Lib.hid ((Sbs.nil _).add hs); have mk1 := trivial; clear hb hs)
    | ((fail_if_success have := mk2); (with_reducible refine (lawBytes_x _ HK1.out HK2.out).mono ?_); rintro e wc ⟨ak, ck, rfl, hs, hb⟩; replace H := Lib.hid (H.out.call hb); replace BS := Lib.hid ((BS.out.call hb).add hs); have mk2 := trivial; clear hb hs)
    | ((fail_if_success have := mk3); (with_reducible refine (int_k 5 _ (HT.out.below H.out.bel) (by omega) (by omega)).mono ?_); rintro e wc ⟨e5, rfl, hv, hb⟩; replace H := Lib.hid (H.out.call hb); replace BS := Lib.hid ((BS.out.call hb)); have mk3 := trivial; clear hb; have V5 := Lib.hid hv; clear hv)
    | ((fail_if_success have := mk4); (with_reducible refine (bytes_sb _ V5.out).mono ?_); rintro e wc ⟨b5, c5, rfl, hs, hb⟩; replace H := Lib.hid (H.out.call hb); replace BS := Lib.hid ((BS.out.call hb).add hs); have mk4 := trivial; clear hb hs)
    | ((fail_if_success have := mk5); (with_reducible refine (twice_z _ (HT.out.below H.out.bel) (BS.out.at 2 rfl) (BS.out.at 1 rfl) (BS.out.at 0 rfl) E2a.out Z2.out).mono ?_); rintro e wc ⟨ax, cx, rfl, hs, hb⟩; replace H := Lib.hid (H.out.call hb); replace BS := Lib.hid ((BS.out.call hb).add hs); have mk5 := trivial; clear hb hs)
    | ((fail_if_success have := mk6); (with_reducible refine (twice_z _ (HT.out.below H.out.bel) (BS.out.at 2 rfl) (BS.out.at 3 rfl) (BS.out.at 1 rfl) E2b.out Z2.out).mono ?_); rintro e wc ⟨ay, cy, rfl, hs, hb⟩; replace H := Lib.hid (H.out.call hb); replace BS := Lib.hid ((BS.out.call hb).add hs); have mk6 := trivial; clear hb hs)
    | ((fail_if_success have := mk7); (with_reducible refine (cmp_any (n := 0) _ (by omega) (BS.out.at 1 rfl) (BS.out.at 0 rfl)).mono ?_); rintro e wc ⟨rfl, hb⟩; replace H := Lib.hid (H.out.call hb); replace BS := Lib.hid ((BS.out.call hb)); have mk7 := trivial; clear hb)
    | ((fail_if_success have := mk8); (with_reducible refine (public_n _ (HT.out.below H.out.bel) (BS.out.at 3 rfl) E1.out Z1.out).mono ?_); rintro e wc ⟨ap, cp, rfl, hs, hb⟩; replace H := Lib.hid (H.out.call hb); replace BS := Lib.hid ((BS.out.call hb).add hs); have mk8 := trivial; clear hb hs)
    | ((fail_if_success have := mk9); (with_reducible refine (x448_z _ (HT.out.below H.out.bel) (BS.out.at 5 rfl) (BS.out.at 0 rfl) E2c.out Z2.out).mono ?_); rintro e wc ⟨az, cz, rfl, hs, hb⟩; replace H := Lib.hid (H.out.call hb); replace BS := Lib.hid ((BS.out.call hb).add hs); have mk9 := trivial; clear hb hs)
    | ((fail_if_success have := mk10); (with_reducible refine (cmp_any (n := 0) _ (by omega) (BS.out.at 0 rfl) (BS.out.at 2 rfl)).mono ?_); rintro e wc ⟨rfl, hb⟩; replace H := Lib.hid (H.out.call hb); replace BS := Lib.hid ((BS.out.call hb)); have mk10 := trivial; clear hb)
    | ((fail_if_success have := mk11); (with_reducible refine (lawBytes_x _ HY1.out HY2.out).mono ?_); rintro e wc ⟨au, cu, rfl, hs, hb⟩; replace H := Lib.hid (H.out.call hb); replace BS := Lib.hid ((BS.out.call hb).add hs); have mk11 := trivial; clear hb hs)
    | ((fail_if_success have := mk12); (with_reducible refine (twice_z _ (HT.out.below H.out.bel) (BS.out.at 7 rfl) (BS.out.at 6 rfl) (BS.out.at 0 rfl) E3a.out Z3.out).mono ?_); rintro e wc ⟨av, cv, rfl, hs, hb⟩; replace H := Lib.hid (H.out.call hb); replace BS := Lib.hid ((BS.out.call hb).add hs); have mk12 := trivial; clear hb hs)
    | ((fail_if_success have := mk13); (with_reducible refine (lawBytes_x _ HY1.out HY2.out).mono ?_); rintro e wc ⟨au2, cu2, rfl, hs, hb⟩; replace H := Lib.hid (H.out.call hb); replace BS := Lib.hid ((BS.out.call hb).add hs); have mk13 := trivial; clear hb hs)
    | ((fail_if_success have := mk14); (with_reducible refine (twice_z _ (HT.out.below H.out.bel) (BS.out.at 8 rfl) (BS.out.at 9 rfl) (BS.out.at 0 rfl) E3b.out Z3.out).mono ?_); rintro e wc ⟨aw, cw, rfl, hs, hb⟩; replace H := Lib.hid (H.out.call hb); replace BS := Lib.hid ((BS.out.call hb).add hs); have mk14 := trivial; clear hb hs)
    | ((fail_if_success have := mk15); (with_reducible refine (cmp_any (n := 0) _ (by omega) (BS.out.at 2 rfl) (BS.out.at 0 rfl)).mono ?_); rintro e wc ⟨rfl, hb⟩; replace H := Lib.hid (H.out.call hb); replace BS := Lib.hid ((BS.out.call hb)); have mk15 := trivial; clear hb)
    | ((with_reducible refine (awake10_k _ (HT.out.below H.out.bel)).mono ?_); rintro e wc ⟨rfl, hb⟩; replace H := Lib.hid (H.out.call hb); replace BS := Lib.hid ((BS.out.call hb)); clear hb))
  go_ret
  exact ⟨rfl, H.out.bel⟩
set_option maxRecDepth 20000 in
set_option maxHeartbeats 12800000 in
theorem meets_nzn {j k y : Nat} {P5 R5 RU : K} (f g h : Nat → BitVec 8) (w : World) (hT : Tp w) (hj : j < 2 ^ (8 * 56)) (ej : ∀ i, i < 56 → bt j i = f i) (hk : k < 2 ^ (8 * 56)) (ek : ∀ i, i < 56 → bt k i = g i) (hy : y < 2 ^ (8 * 56)) (ey : ∀ i, i < 56 → bt y i = h i)
    (e1 : ldV (ofZ 5) (clN k) = P5) (e2 : ldV (ldV (ofZ 5) (clN j)) (clN k) = R5) (e3 : ldV (ldV (cN pN y) (clN j)) (clN k) = RU) (z1 : P5 ≠ 0) (z2 : R5 = 0) (z3 : RU ≠ 0) :
    Calls Tryd.prog 6 #[.agg (AZ .u8 56 (UB f)), .agg (AZ .u8 56 (UB g)), .agg (AZ .u8 56 (UB h))] w fun e w' => e = .returned (.bool true) ∧ Below w.heap.size w w' := by
  have HJ1 := Lib.hid hj
  have HJ2 := Lib.hid ej
  have HK1 := Lib.hid hk
  have HK2 := Lib.hid ek
  have HY1 := Lib.hid hy
  have HY2 := Lib.hid ey
  have E1 := Lib.hid e1
  have E2a : Hid (ldV (ldV (cN pN (ofZ 5).val) (clN j)) (clN k) = R5) := Lib.hid (by rw [cN_val, e2])
  have E2b : Hid (ldV (ldV (cN pN (ofZ 5).val) (clN k)) (clN j) = R5) := Lib.hid (by rw [cN_val, ← e2, ldV_swap])
  have E2c : Hid (ldV (cN pN P5.val) (clN j) = R5) := Lib.hid (by rw [cN_val, ← e1, ← e2, ldV_swap])
  have E3a := Lib.hid e3
  have E3b : Hid (ldV (ldV (cN pN y) (clN k)) (clN j) = RU) := Lib.hid (by rw [← e3, ldV_swap])
  have Z1 := Lib.hid z1
  have Z2 := Lib.hid z2
  have Z3 := Lib.hid z3
  clear hj ej hk ek hy ey e1 e2 e3 z1 z2 z3
  have HT := Lib.hid hT
  clear hT
  have H := Lib.hid (Ow.start w)
  go_enter Tryd.func6, Tryd.ntmps6
  go_wp2_with (first
    | ((fail_if_success have := g3); (with_reducible apply own_box H); (case hgd => exact rfl); (case ho => exact rfl); (case hx => exact rfl); intro w3 g3 H' _ _; replace H := H'; clear H'; go_simp)
    | ((fail_if_success have := g4); (fail_if_success have := g4); (with_reducible apply own_box H); (case hgd => exact rfl); (case ho => exact rfl); (case hx => exact rfl); intro w4 g4 H' _ _; replace H := H'; clear H'; go_simp)
    | ((fail_if_success have := g5); (fail_if_success have := g5); (with_reducible apply own_box H); (case hgd => exact rfl); (case ho => exact rfl); (case hx => exact rfl); intro w5 g5 H' _ _; replace H := H'; clear H'; go_simp)
    | ((with_reducible apply own_load rowB H); (case hgd => exact rfl); (case ho => exact rfl); (case hx => exact rfl); (case hi => first | exact at0 | exact at1 | exact at2 | exact at3 | exact at4 | exact at5 | exact at6 | exact at7 | exact at8 | exact at9); intro _ _; go_simp)
    | ((fail_if_success have := mk1); (with_reducible refine (lawBytes_x _ HJ1.out HJ2.out).mono ?_); rintro e wc ⟨aj, cj, rfl, hs, hb⟩; replace H := Lib.hid (H.out.call hb); have BS := Lib.hid ((Sbs.nil _).add hs); have mk1 := trivial; clear hb hs)
    | ((fail_if_success have := mk2); (with_reducible refine (lawBytes_x _ HK1.out HK2.out).mono ?_); rintro e wc ⟨ak, ck, rfl, hs, hb⟩; replace H := Lib.hid (H.out.call hb); replace BS := Lib.hid ((BS.out.call hb).add hs); have mk2 := trivial; clear hb hs)
    | ((fail_if_success have := mk3); (with_reducible refine (int_k 5 _ (HT.out.below H.out.bel) (by omega) (by omega)).mono ?_); rintro e wc ⟨e5, rfl, hv, hb⟩; replace H := Lib.hid (H.out.call hb); replace BS := Lib.hid ((BS.out.call hb)); have mk3 := trivial; clear hb; have V5 := Lib.hid hv; clear hv)
    | ((fail_if_success have := mk4); (with_reducible refine (bytes_sb _ V5.out).mono ?_); rintro e wc ⟨b5, c5, rfl, hs, hb⟩; replace H := Lib.hid (H.out.call hb); replace BS := Lib.hid ((BS.out.call hb).add hs); have mk4 := trivial; clear hb hs)
    | ((fail_if_success have := mk5); (with_reducible refine (twice_z _ (HT.out.below H.out.bel) (BS.out.at 2 rfl) (BS.out.at 1 rfl) (BS.out.at 0 rfl) E2a.out Z2.out).mono ?_); rintro e wc ⟨ax, cx, rfl, hs, hb⟩; replace H := Lib.hid (H.out.call hb); replace BS := Lib.hid ((BS.out.call hb).add hs); have mk5 := trivial; clear hb hs)
    | ((fail_if_success have := mk6); (with_reducible refine (twice_z _ (HT.out.below H.out.bel) (BS.out.at 2 rfl) (BS.out.at 3 rfl) (BS.out.at 1 rfl) E2b.out Z2.out).mono ?_); rintro e wc ⟨ay, cy, rfl, hs, hb⟩; replace H := Lib.hid (H.out.call hb); replace BS := Lib.hid ((BS.out.call hb).add hs); have mk6 := trivial; clear hb hs)
    | ((fail_if_success have := mk7); (with_reducible refine (cmp_any (n := 0) _ (by omega) (BS.out.at 1 rfl) (BS.out.at 0 rfl)).mono ?_); rintro e wc ⟨rfl, hb⟩; replace H := Lib.hid (H.out.call hb); replace BS := Lib.hid ((BS.out.call hb)); have mk7 := trivial; clear hb)
    | ((fail_if_success have := mk8); (with_reducible refine (public_n _ (HT.out.below H.out.bel) (BS.out.at 3 rfl) E1.out Z1.out).mono ?_); rintro e wc ⟨ap, cp, rfl, hs, hb⟩; replace H := Lib.hid (H.out.call hb); replace BS := Lib.hid ((BS.out.call hb).add hs); have mk8 := trivial; clear hb hs)
    | ((fail_if_success have := mk9); (with_reducible refine (x448_z _ (HT.out.below H.out.bel) (BS.out.at 5 rfl) (BS.out.at 0 rfl) E2c.out Z2.out).mono ?_); rintro e wc ⟨az, cz, rfl, hs, hb⟩; replace H := Lib.hid (H.out.call hb); replace BS := Lib.hid ((BS.out.call hb).add hs); have mk9 := trivial; clear hb hs)
    | ((fail_if_success have := mk10); (with_reducible refine (cmp_any (n := 0) _ (by omega) (BS.out.at 0 rfl) (BS.out.at 2 rfl)).mono ?_); rintro e wc ⟨rfl, hb⟩; replace H := Lib.hid (H.out.call hb); replace BS := Lib.hid ((BS.out.call hb)); have mk10 := trivial; clear hb)
    | ((fail_if_success have := mk11); (with_reducible refine (lawBytes_x _ HY1.out HY2.out).mono ?_); rintro e wc ⟨au, cu, rfl, hs, hb⟩; replace H := Lib.hid (H.out.call hb); replace BS := Lib.hid ((BS.out.call hb).add hs); have mk11 := trivial; clear hb hs)
    | ((fail_if_success have := mk12); (with_reducible refine (twice_n _ (HT.out.below H.out.bel) (BS.out.at 7 rfl) (BS.out.at 6 rfl) (BS.out.at 0 rfl) E3a.out Z3.out).mono ?_); rintro e wc ⟨av, cv, rfl, hs, hb⟩; replace H := Lib.hid (H.out.call hb); replace BS := Lib.hid ((BS.out.call hb).add hs); have mk12 := trivial; clear hb hs)
    | ((fail_if_success have := mk13); (with_reducible refine (lawBytes_x _ HY1.out HY2.out).mono ?_); rintro e wc ⟨au2, cu2, rfl, hs, hb⟩; replace H := Lib.hid (H.out.call hb); replace BS := Lib.hid ((BS.out.call hb).add hs); have mk13 := trivial; clear hb hs)
    | ((fail_if_success have := mk14); (with_reducible refine (twice_n _ (HT.out.below H.out.bel) (BS.out.at 8 rfl) (BS.out.at 9 rfl) (BS.out.at 0 rfl) E3b.out Z3.out).mono ?_); rintro e wc ⟨aw, cw, rfl, hs, hb⟩; replace H := Lib.hid (H.out.call hb); replace BS := Lib.hid ((BS.out.call hb).add hs); have mk14 := trivial; clear hb hs)
    | ((fail_if_success have := mk15); (with_reducible refine (cmp_any (n := 56) _ (by omega) (BS.out.at 2 rfl) (BS.out.at 0 rfl)).mono ?_); rintro e wc ⟨rfl, hb⟩; replace H := Lib.hid (H.out.call hb); replace BS := Lib.hid ((BS.out.call hb)); have mk15 := trivial; clear hb)
    | ((with_reducible refine (awake10_k _ (HT.out.below H.out.bel)).mono ?_); rintro e wc ⟨rfl, hb⟩; replace H := Lib.hid (H.out.call hb); replace BS := Lib.hid ((BS.out.call hb)); clear hb))
  go_ret
  exact ⟨rfl, H.out.bel⟩
set_option maxRecDepth 20000 in
set_option maxHeartbeats 12800000 in
theorem meets_nnz {j k y : Nat} {P5 R5 RU : K} (f g h : Nat → BitVec 8) (w : World) (hT : Tp w) (hj : j < 2 ^ (8 * 56)) (ej : ∀ i, i < 56 → bt j i = f i) (hk : k < 2 ^ (8 * 56)) (ek : ∀ i, i < 56 → bt k i = g i) (hy : y < 2 ^ (8 * 56)) (ey : ∀ i, i < 56 → bt y i = h i)
    (e1 : ldV (ofZ 5) (clN k) = P5) (e2 : ldV (ldV (ofZ 5) (clN j)) (clN k) = R5) (e3 : ldV (ldV (cN pN y) (clN j)) (clN k) = RU) (z1 : P5 ≠ 0) (z2 : R5 ≠ 0) (z3 : RU = 0) :
    Calls Tryd.prog 6 #[.agg (AZ .u8 56 (UB f)), .agg (AZ .u8 56 (UB g)), .agg (AZ .u8 56 (UB h))] w fun e w' => e = .returned (.bool true) ∧ Below w.heap.size w w' := by
  have HJ1 := Lib.hid hj
  have HJ2 := Lib.hid ej
  have HK1 := Lib.hid hk
  have HK2 := Lib.hid ek
  have HY1 := Lib.hid hy
  have HY2 := Lib.hid ey
  have E1 := Lib.hid e1
  have E2a : Hid (ldV (ldV (cN pN (ofZ 5).val) (clN j)) (clN k) = R5) := Lib.hid (by rw [cN_val, e2])
  have E2b : Hid (ldV (ldV (cN pN (ofZ 5).val) (clN k)) (clN j) = R5) := Lib.hid (by rw [cN_val, ← e2, ldV_swap])
  have E2c : Hid (ldV (cN pN P5.val) (clN j) = R5) := Lib.hid (by rw [cN_val, ← e1, ← e2, ldV_swap])
  have E3a := Lib.hid e3
  have E3b : Hid (ldV (ldV (cN pN y) (clN k)) (clN j) = RU) := Lib.hid (by rw [← e3, ldV_swap])
  have Z1 := Lib.hid z1
  have Z2 := Lib.hid z2
  have Z3 := Lib.hid z3
  clear hj ej hk ek hy ey e1 e2 e3 z1 z2 z3
  have HT := Lib.hid hT
  clear hT
  have H := Lib.hid (Ow.start w)
  go_enter Tryd.func6, Tryd.ntmps6
  go_wp2_with (first
    | ((fail_if_success have := g3); (with_reducible apply own_box H); (case hgd => exact rfl); (case ho => exact rfl); (case hx => exact rfl); intro w3 g3 H' _ _; replace H := H'; clear H'; go_simp)
    | ((fail_if_success have := g4); (fail_if_success have := g4); (with_reducible apply own_box H); (case hgd => exact rfl); (case ho => exact rfl); (case hx => exact rfl); intro w4 g4 H' _ _; replace H := H'; clear H'; go_simp)
    | ((fail_if_success have := g5); (fail_if_success have := g5); (with_reducible apply own_box H); (case hgd => exact rfl); (case ho => exact rfl); (case hx => exact rfl); intro w5 g5 H' _ _; replace H := H'; clear H'; go_simp)
    | ((with_reducible apply own_load rowB H); (case hgd => exact rfl); (case ho => exact rfl); (case hx => exact rfl); (case hi => first | exact at0 | exact at1 | exact at2 | exact at3 | exact at4 | exact at5 | exact at6 | exact at7 | exact at8 | exact at9); intro _ _; go_simp)
    | ((fail_if_success have := mk1); (with_reducible refine (lawBytes_x _ HJ1.out HJ2.out).mono ?_); rintro e wc ⟨aj, cj, rfl, hs, hb⟩; replace H := Lib.hid (H.out.call hb); have BS := Lib.hid ((Sbs.nil _).add hs); have mk1 := trivial; clear hb hs)
    | ((fail_if_success have := mk2); (with_reducible refine (lawBytes_x _ HK1.out HK2.out).mono ?_); rintro e wc ⟨ak, ck, rfl, hs, hb⟩; replace H := Lib.hid (H.out.call hb); replace BS := Lib.hid ((BS.out.call hb).add hs); have mk2 := trivial; clear hb hs)
    | ((fail_if_success have := mk3); (with_reducible refine (int_k 5 _ (HT.out.below H.out.bel) (by omega) (by omega)).mono ?_); rintro e wc ⟨e5, rfl, hv, hb⟩; replace H := Lib.hid (H.out.call hb); replace BS := Lib.hid ((BS.out.call hb)); have mk3 := trivial; clear hb; have V5 := Lib.hid hv; clear hv)
    | ((fail_if_success have := mk4); (with_reducible refine (bytes_sb _ V5.out).mono ?_); rintro e wc ⟨b5, c5, rfl, hs, hb⟩; replace H := Lib.hid (H.out.call hb); replace BS := Lib.hid ((BS.out.call hb).add hs); have mk4 := trivial; clear hb hs)
    | ((fail_if_success have := mk5); (with_reducible refine (twice_n _ (HT.out.below H.out.bel) (BS.out.at 2 rfl) (BS.out.at 1 rfl) (BS.out.at 0 rfl) E2a.out Z2.out).mono ?_); rintro e wc ⟨ax, cx, rfl, hs, hb⟩; replace H := Lib.hid (H.out.call hb); replace BS := Lib.hid ((BS.out.call hb).add hs); have mk5 := trivial; clear hb hs)
    | ((fail_if_success have := mk6); (with_reducible refine (twice_n _ (HT.out.below H.out.bel) (BS.out.at 2 rfl) (BS.out.at 3 rfl) (BS.out.at 1 rfl) E2b.out Z2.out).mono ?_); rintro e wc ⟨ay, cy, rfl, hs, hb⟩; replace H := Lib.hid (H.out.call hb); replace BS := Lib.hid ((BS.out.call hb).add hs); have mk6 := trivial; clear hb hs)
    | ((fail_if_success have := mk7); (with_reducible refine (cmp_any (n := 56) _ (by omega) (BS.out.at 1 rfl) (BS.out.at 0 rfl)).mono ?_); rintro e wc ⟨rfl, hb⟩; replace H := Lib.hid (H.out.call hb); replace BS := Lib.hid ((BS.out.call hb)); have mk7 := trivial; clear hb)
    | ((fail_if_success have := mk8); (with_reducible refine (public_n _ (HT.out.below H.out.bel) (BS.out.at 3 rfl) E1.out Z1.out).mono ?_); rintro e wc ⟨ap, cp, rfl, hs, hb⟩; replace H := Lib.hid (H.out.call hb); replace BS := Lib.hid ((BS.out.call hb).add hs); have mk8 := trivial; clear hb hs)
    | ((fail_if_success have := mk9); (with_reducible refine (x448_n _ (HT.out.below H.out.bel) (BS.out.at 5 rfl) (BS.out.at 0 rfl) E2c.out Z2.out).mono ?_); rintro e wc ⟨az, cz, rfl, hs, hb⟩; replace H := Lib.hid (H.out.call hb); replace BS := Lib.hid ((BS.out.call hb).add hs); have mk9 := trivial; clear hb hs)
    | ((fail_if_success have := mk10); (with_reducible refine (cmp_any (n := 56) _ (by omega) (BS.out.at 0 rfl) (BS.out.at 2 rfl)).mono ?_); rintro e wc ⟨rfl, hb⟩; replace H := Lib.hid (H.out.call hb); replace BS := Lib.hid ((BS.out.call hb)); have mk10 := trivial; clear hb)
    | ((fail_if_success have := mk11); (with_reducible refine (lawBytes_x _ HY1.out HY2.out).mono ?_); rintro e wc ⟨au, cu, rfl, hs, hb⟩; replace H := Lib.hid (H.out.call hb); replace BS := Lib.hid ((BS.out.call hb).add hs); have mk11 := trivial; clear hb hs)
    | ((fail_if_success have := mk12); (with_reducible refine (twice_z _ (HT.out.below H.out.bel) (BS.out.at 7 rfl) (BS.out.at 6 rfl) (BS.out.at 0 rfl) E3a.out Z3.out).mono ?_); rintro e wc ⟨av, cv, rfl, hs, hb⟩; replace H := Lib.hid (H.out.call hb); replace BS := Lib.hid ((BS.out.call hb).add hs); have mk12 := trivial; clear hb hs)
    | ((fail_if_success have := mk13); (with_reducible refine (lawBytes_x _ HY1.out HY2.out).mono ?_); rintro e wc ⟨au2, cu2, rfl, hs, hb⟩; replace H := Lib.hid (H.out.call hb); replace BS := Lib.hid ((BS.out.call hb).add hs); have mk13 := trivial; clear hb hs)
    | ((fail_if_success have := mk14); (with_reducible refine (twice_z _ (HT.out.below H.out.bel) (BS.out.at 8 rfl) (BS.out.at 9 rfl) (BS.out.at 0 rfl) E3b.out Z3.out).mono ?_); rintro e wc ⟨aw, cw, rfl, hs, hb⟩; replace H := Lib.hid (H.out.call hb); replace BS := Lib.hid ((BS.out.call hb).add hs); have mk14 := trivial; clear hb hs)
    | ((fail_if_success have := mk15); (with_reducible refine (cmp_any (n := 0) _ (by omega) (BS.out.at 2 rfl) (BS.out.at 0 rfl)).mono ?_); rintro e wc ⟨rfl, hb⟩; replace H := Lib.hid (H.out.call hb); replace BS := Lib.hid ((BS.out.call hb)); have mk15 := trivial; clear hb)
    | ((with_reducible refine (awake10_k _ (HT.out.below H.out.bel)).mono ?_); rintro e wc ⟨rfl, hb⟩; replace H := Lib.hid (H.out.call hb); replace BS := Lib.hid ((BS.out.call hb)); clear hb))
  go_ret
  exact ⟨rfl, H.out.bel⟩
set_option maxRecDepth 20000 in
set_option maxHeartbeats 12800000 in
theorem meets_nnn {j k y : Nat} {P5 R5 RU : K} (f g h : Nat → BitVec 8) (w : World) (hT : Tp w) (hj : j < 2 ^ (8 * 56)) (ej : ∀ i, i < 56 → bt j i = f i) (hk : k < 2 ^ (8 * 56)) (ek : ∀ i, i < 56 → bt k i = g i) (hy : y < 2 ^ (8 * 56)) (ey : ∀ i, i < 56 → bt y i = h i)
    (e1 : ldV (ofZ 5) (clN k) = P5) (e2 : ldV (ldV (ofZ 5) (clN j)) (clN k) = R5) (e3 : ldV (ldV (cN pN y) (clN j)) (clN k) = RU) (z1 : P5 ≠ 0) (z2 : R5 ≠ 0) (z3 : RU ≠ 0) :
    Calls Tryd.prog 6 #[.agg (AZ .u8 56 (UB f)), .agg (AZ .u8 56 (UB g)), .agg (AZ .u8 56 (UB h))] w fun e w' => e = .returned (.bool true) ∧ Below w.heap.size w w' := by
  have HJ1 := Lib.hid hj
  have HJ2 := Lib.hid ej
  have HK1 := Lib.hid hk
  have HK2 := Lib.hid ek
  have HY1 := Lib.hid hy
  have HY2 := Lib.hid ey
  have E1 := Lib.hid e1
  have E2a : Hid (ldV (ldV (cN pN (ofZ 5).val) (clN j)) (clN k) = R5) := Lib.hid (by rw [cN_val, e2])
  have E2b : Hid (ldV (ldV (cN pN (ofZ 5).val) (clN k)) (clN j) = R5) := Lib.hid (by rw [cN_val, ← e2, ldV_swap])
  have E2c : Hid (ldV (cN pN P5.val) (clN j) = R5) := Lib.hid (by rw [cN_val, ← e1, ← e2, ldV_swap])
  have E3a := Lib.hid e3
  have E3b : Hid (ldV (ldV (cN pN y) (clN k)) (clN j) = RU) := Lib.hid (by rw [← e3, ldV_swap])
  have Z1 := Lib.hid z1
  have Z2 := Lib.hid z2
  have Z3 := Lib.hid z3
  clear hj ej hk ek hy ey e1 e2 e3 z1 z2 z3
  have HT := Lib.hid hT
  clear hT
  have H := Lib.hid (Ow.start w)
  go_enter Tryd.func6, Tryd.ntmps6
  go_wp2_with (first
    | ((fail_if_success have := g3); (with_reducible apply own_box H); (case hgd => exact rfl); (case ho => exact rfl); (case hx => exact rfl); intro w3 g3 H' _ _; replace H := H'; clear H'; go_simp)
    | ((fail_if_success have := g4); (fail_if_success have := g4); (with_reducible apply own_box H); (case hgd => exact rfl); (case ho => exact rfl); (case hx => exact rfl); intro w4 g4 H' _ _; replace H := H'; clear H'; go_simp)
    | ((fail_if_success have := g5); (fail_if_success have := g5); (with_reducible apply own_box H); (case hgd => exact rfl); (case ho => exact rfl); (case hx => exact rfl); intro w5 g5 H' _ _; replace H := H'; clear H'; go_simp)
    | ((with_reducible apply own_load rowB H); (case hgd => exact rfl); (case ho => exact rfl); (case hx => exact rfl); (case hi => first | exact at0 | exact at1 | exact at2 | exact at3 | exact at4 | exact at5 | exact at6 | exact at7 | exact at8 | exact at9); intro _ _; go_simp)
    | ((fail_if_success have := mk1); (with_reducible refine (lawBytes_x _ HJ1.out HJ2.out).mono ?_); rintro e wc ⟨aj, cj, rfl, hs, hb⟩; replace H := Lib.hid (H.out.call hb); have BS := Lib.hid ((Sbs.nil _).add hs); have mk1 := trivial; clear hb hs)
    | ((fail_if_success have := mk2); (with_reducible refine (lawBytes_x _ HK1.out HK2.out).mono ?_); rintro e wc ⟨ak, ck, rfl, hs, hb⟩; replace H := Lib.hid (H.out.call hb); replace BS := Lib.hid ((BS.out.call hb).add hs); have mk2 := trivial; clear hb hs)
    | ((fail_if_success have := mk3); (with_reducible refine (int_k 5 _ (HT.out.below H.out.bel) (by omega) (by omega)).mono ?_); rintro e wc ⟨e5, rfl, hv, hb⟩; replace H := Lib.hid (H.out.call hb); replace BS := Lib.hid ((BS.out.call hb)); have mk3 := trivial; clear hb; have V5 := Lib.hid hv; clear hv)
    | ((fail_if_success have := mk4); (with_reducible refine (bytes_sb _ V5.out).mono ?_); rintro e wc ⟨b5, c5, rfl, hs, hb⟩; replace H := Lib.hid (H.out.call hb); replace BS := Lib.hid ((BS.out.call hb).add hs); have mk4 := trivial; clear hb hs)
    | ((fail_if_success have := mk5); (with_reducible refine (twice_n _ (HT.out.below H.out.bel) (BS.out.at 2 rfl) (BS.out.at 1 rfl) (BS.out.at 0 rfl) E2a.out Z2.out).mono ?_); rintro e wc ⟨ax, cx, rfl, hs, hb⟩; replace H := Lib.hid (H.out.call hb); replace BS := Lib.hid ((BS.out.call hb).add hs); have mk5 := trivial; clear hb hs)
    | ((fail_if_success have := mk6); (with_reducible refine (twice_n _ (HT.out.below H.out.bel) (BS.out.at 2 rfl) (BS.out.at 3 rfl) (BS.out.at 1 rfl) E2b.out Z2.out).mono ?_); rintro e wc ⟨ay, cy, rfl, hs, hb⟩; replace H := Lib.hid (H.out.call hb); replace BS := Lib.hid ((BS.out.call hb).add hs); have mk6 := trivial; clear hb hs)
    | ((fail_if_success have := mk7); (with_reducible refine (cmp_any (n := 56) _ (by omega) (BS.out.at 1 rfl) (BS.out.at 0 rfl)).mono ?_); rintro e wc ⟨rfl, hb⟩; replace H := Lib.hid (H.out.call hb); replace BS := Lib.hid ((BS.out.call hb)); have mk7 := trivial; clear hb)
    | ((fail_if_success have := mk8); (with_reducible refine (public_n _ (HT.out.below H.out.bel) (BS.out.at 3 rfl) E1.out Z1.out).mono ?_); rintro e wc ⟨ap, cp, rfl, hs, hb⟩; replace H := Lib.hid (H.out.call hb); replace BS := Lib.hid ((BS.out.call hb).add hs); have mk8 := trivial; clear hb hs)
    | ((fail_if_success have := mk9); (with_reducible refine (x448_n _ (HT.out.below H.out.bel) (BS.out.at 5 rfl) (BS.out.at 0 rfl) E2c.out Z2.out).mono ?_); rintro e wc ⟨az, cz, rfl, hs, hb⟩; replace H := Lib.hid (H.out.call hb); replace BS := Lib.hid ((BS.out.call hb).add hs); have mk9 := trivial; clear hb hs)
    | ((fail_if_success have := mk10); (with_reducible refine (cmp_any (n := 56) _ (by omega) (BS.out.at 0 rfl) (BS.out.at 2 rfl)).mono ?_); rintro e wc ⟨rfl, hb⟩; replace H := Lib.hid (H.out.call hb); replace BS := Lib.hid ((BS.out.call hb)); have mk10 := trivial; clear hb)
    | ((fail_if_success have := mk11); (with_reducible refine (lawBytes_x _ HY1.out HY2.out).mono ?_); rintro e wc ⟨au, cu, rfl, hs, hb⟩; replace H := Lib.hid (H.out.call hb); replace BS := Lib.hid ((BS.out.call hb).add hs); have mk11 := trivial; clear hb hs)
    | ((fail_if_success have := mk12); (with_reducible refine (twice_n _ (HT.out.below H.out.bel) (BS.out.at 7 rfl) (BS.out.at 6 rfl) (BS.out.at 0 rfl) E3a.out Z3.out).mono ?_); rintro e wc ⟨av, cv, rfl, hs, hb⟩; replace H := Lib.hid (H.out.call hb); replace BS := Lib.hid ((BS.out.call hb).add hs); have mk12 := trivial; clear hb hs)
    | ((fail_if_success have := mk13); (with_reducible refine (lawBytes_x _ HY1.out HY2.out).mono ?_); rintro e wc ⟨au2, cu2, rfl, hs, hb⟩; replace H := Lib.hid (H.out.call hb); replace BS := Lib.hid ((BS.out.call hb).add hs); have mk13 := trivial; clear hb hs)
    | ((fail_if_success have := mk14); (with_reducible refine (twice_n _ (HT.out.below H.out.bel) (BS.out.at 8 rfl) (BS.out.at 9 rfl) (BS.out.at 0 rfl) E3b.out Z3.out).mono ?_); rintro e wc ⟨aw, cw, rfl, hs, hb⟩; replace H := Lib.hid (H.out.call hb); replace BS := Lib.hid ((BS.out.call hb).add hs); have mk14 := trivial; clear hb hs)
    | ((fail_if_success have := mk15); (with_reducible refine (cmp_any (n := 56) _ (by omega) (BS.out.at 2 rfl) (BS.out.at 0 rfl)).mono ?_); rintro e wc ⟨rfl, hb⟩; replace H := Lib.hid (H.out.call hb); replace BS := Lib.hid ((BS.out.call hb)); have mk15 := trivial; clear hb)
    | ((with_reducible refine (awake10_k _ (HT.out.below H.out.bel)).mono ?_); rintro e wc ⟨rfl, hb⟩; replace H := Lib.hid (H.out.call hb); replace BS := Lib.hid ((BS.out.call hb)); clear hb))
  go_ret
  exact ⟨rfl, H.out.bel⟩
theorem meets_walk (f g h : Nat → BitVec 8) (w : World) (hT : Tp w) :
    Calls Tryd.prog 6 #[.agg (AZ .u8 56 (UB f)), .agg (AZ .u8 56 (UB g)), .agg (AZ .u8 56 (UB h))] w fun e w' => e = .returned (.bool true) ∧ Below w.heap.size w w' := by
  obtain ⟨j, hj, ej⟩ := bytes_of f 56
  obtain ⟨k, hk, ek⟩ := bytes_of g 56
  obtain ⟨y, hy, ey⟩ := bytes_of h 56
  by_cases z3 : ldV (ldV (cN pN y) (clN j)) (clN k) = 0 <;> by_cases z1 : ldV (ofZ 5) (clN k) = 0
  · have z2 : ldV (ldV (ofZ 5) (clN j)) (clN k) = 0 := by rw [ldV_swap, z1, ldV_dead]
    exact meets_zzz f g h w hT hj ej hk ek hy ey rfl rfl rfl z1 z2 z3
  · by_cases z2 : ldV (ldV (ofZ 5) (clN j)) (clN k) = 0
    · exact meets_nzz f g h w hT hj ej hk ek hy ey rfl rfl rfl z1 z2 z3
    · exact meets_nnz f g h w hT hj ej hk ek hy ey rfl rfl rfl z1 z2 z3
  · have z2 : ldV (ldV (ofZ 5) (clN j)) (clN k) = 0 := by rw [ldV_swap, z1, ldV_dead]
    exact meets_zzn f g h w hT hj ej hk ek hy ey rfl rfl rfl z1 z2 z3
  · by_cases z2 : ldV (ldV (ofZ 5) (clN j)) (clN k) = 0
    · exact meets_nzn f g h w hT hj ej hk ek hy ey rfl rfl rfl z1 z2 z3
    · exact meets_nnn f g h w hT hj ej hk ek hy ey rfl rfl rfl z1 z2 z3
end Go.Proofs.YtckmboebipbpbaaDoor
