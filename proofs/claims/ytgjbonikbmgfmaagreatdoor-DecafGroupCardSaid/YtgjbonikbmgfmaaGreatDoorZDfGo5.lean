/- Lemmas; no statement is proved here. -/
import Derived.Test.YtgjbonikbmgfmaaGreatDoorQG1
set_option maxRecDepth 8000
set_option maxHeartbeats 3200000
namespace Go.Proofs.YtgjbonikbmgfmaaGreatDoor
open Go.RowKit
def sumP (P : Nat → Pt pN dK) : Nat → Pt pN dK
 | 0 => z0v
 | k + 1 => z6 zB (sumP P k) (P k)
theorem infoDe : InfoR Tryz.prog 34 25 200 := z9c (by kernel_rfl)
def trio (f g h : Nat → Value) : Nat → Nat → Value := fun i => if i = 0 then f else if i = 1 then g else h
section
variable {ops : Array Oper} {rest : List Oper} {o : Oper} {a : Act} {w w0 : World} {l : List (Nat × Obj)} {Q : Exit → Act → World → Prop} {K : Act → World → Prop}
theorem run_build3De (f g h : Nat → Value) : (Instr.buildSlice 142 3 #[(0, DO f), (1, DO g), (2, DO h)]).run Tryz.prog w = .ok (.slice (some ⟨w.heap.size, 0, none⟩) 3 3) (w.alloc (Cs 34 (AV (3 * 25) (grd 25 (trio f g h))))) :=
 y0s Tryz.underlying142 infoDe (by omega) 3 (by omega) (by omega) (trio f g h) #[(0, DO f), (1, DO g), (2, DO h)] rfl
theorem own_wp_build3De (dd : Tmp) (hd : o.dst = some dd) (H : Ow w0 w l) {x y z : Operand} (ho : o.op = .buildSlice 142 3 #[(0, x), (1, y), (2, z)]) {f g h : Nat → Value} (hx : a.eval x = DO f) (hy : a.eval y = DO g) (hz : a.eval z = DO h)
  (k : ∀ w' q, Ow w0 w' ((q, Cs 34 (AV (3 * 25) (grd 25 (trio f g h)))) :: l) → Below w.heap.size w w' → K (a.put (some dd) (.slice (some ⟨q, 0, none⟩) 3 3)) w') : o.wp Tryz.prog a w K Q := by
 unfold Oper.wp execOp
 simp only [ho, List.map_toArray, List.map_cons, List.map_nil, hx, hy, hz, Sem.run_bind, run_build3De, Result.andThen_ok]
 rw [← hd] at k
 exact k _ _ (H.alloc _) (z1z _ _)
end
theorem y7o {a : Option Addr} {n c : Nat} {G : Nat → Nat → Value} {P : Nat → Pt pN dK} (w : World) (hT : Tp w) (h : Grid w w.heap.size a n c 25 G) (hn : n ≤ 1000) (hp : ∀ i, i < n → DeK (G i) (P i)) :
  Calls Tryz.prog 37 #[.slice a n c] w fun e w' => ∃ r, e = .returned (DO r) ∧ DeK r (sumP P n) ∧ Below w.heap.size w w' := by
 have HG := za h
 have HP := za hp
 have V0 := za (DeK.none fun _ => 0)
 have HN := za hn
 clear h hp hn
 have HT := za hT
 clear hT
 have H := za (Ow.start w)
 go_enter Tryz.func37, Tryz.ntmps37
 go_wp2_with (first
  | ((fail_if_success have := g2); (with_reducible apply z0b zI H); (case hgd | ho => exact rfl); clear H; intro w2 g2 H _ _; go_simp)
  | ((fail_if_success have := g3); (with_reducible apply z0b zI H); (case hgd | ho => exact rfl); clear H; intro w3 g3 H _ _; go_simp))
 go_step3
 go_wp2_with (first
  | ((fail_if_success have := g2); (with_reducible apply z0b zI H); (case hgd | ho => exact rfl); clear H; intro w2 g2 H _ _; go_simp)
  | ((fail_if_success have := g3); (with_reducible apply z0b zI H); (case hgd | ho => exact rfl); clear H; intro w3 g3 H _ _; go_simp))
 go_step3
 go_wp2_with fail
 go_loopg [8] n (fun gk v8 wr => ∃ (k : Nat) (F : Nat → Value), k + gk = n ∧ v8 = .int .i64 (k : Int) ∧ DeK F (sumP P k) ∧ Ow w wr [(g3, Cs 34 (AV 25 F)), (g2, Cs 34 (AV 25 (ics (fun _ => 0) (.bool false))))])
 case atStart => exact ⟨0, _, by omega, rfl, V0.out, H.out⟩
 case round =>
  clear H
  obtain ⟨k, F, hk, rfl, hF, HR⟩ := hrel
  have V := za hF
  have H := za HR
  clear hF HR V0
  cases gk with
  | zero =>
   obtain rfl : k = n := by omega
   have hid : decide ((k : Int) < (k : Int)) = false := by simp
   have hid' : decide (k < k) = false := by simp
   clear hk
   go_wp2_with (first
    | ((with_reducible apply z1i H); (case hgd | ho | hx => exact rfl); (case hi => repeat first|exact z5|apply z8); intro _ _; go_simp)
    | ((with_reducible apply z0a H); (case hgd | ho | hx | hy => exact rfl); (case hi => repeat first|exact z5|apply z8); (case h1 => exact V.out); clear H; intro ws H _ _; simp only [qb, qc] at H; go_simp))
   try rw [Exit.noGoto_ret]
   exact bodyPost_ret (z0z 1 z2w (z26 _) rfl _ H rfl rfl) rfl ⟨_, rfl, V.out, H.out.bel⟩
  | succ gk8 =>
   have hlt : k < n := by omega
   have hid : decide ((k : Int) < (n : Int)) = true := by simp; omega
   have hid' : decide (k < n) = true := by simpa using hlt
   have kn : (k : Int) < (n : Int) := by omega
   have n1000 : (n : Int) ≤ 1000 := by have := HN.out; omega
   obtain ⟨gb, go, rfl, hgb, hgc⟩ := HG.out.get (by omega)
   have HC : Hid (∀ W, Below w.heap.size w W → ∀ j, j < 25 → W.cell? ⟨gb, go + k * 25 + j, none⟩ = some (G k j)) := za fun W hW j hj => (hW.cell (p := ⟨gb, go + k * 25 + j, none⟩) hgb).trans (hgc k hlt j hj)
   have HK := za hk
   have VK := za (HP.out k hlt)
   clear hk hlt hgb hgc HG HP
   obtain ⟨v, b, rfl, h1, h0⟩ := V.out.is
   have H0 := za h0
   clear h1 h0
   cases b with
   | false =>
    have E0 := za (H0.out rfl)
    clear H0 V
    go_wp2_with (first
     | ((with_reducible apply z61 z2w); (case hgd | ho | hx => exact rfl); (case hc => exact HC.out _ H.out.bel); intro _ _; go_simp)
     | ((with_reducible apply z0b zI H); (case hgd | ho => exact rfl); clear H; intro _ _ H _ _; go_simp)
     | ((with_reducible apply z0a H); (case hgd | ho | hx | hy => exact rfl); (case hi => repeat first|exact z5|apply z8); (case h1 => exact VK.out); clear H; intro ws H _ _; simp only [qb, qc] at H; go_simp)
     | ((with_reducible apply z0m y0e H); (case hgd | ho | hx => exact rfl); (case hi => repeat first|exact z5|apply z8); (case hj => exact y54 _ _); intro _ _; go_simp)
     | ((with_reducible apply z1i H); (case hgd | ho | hx => exact rfl); (case hi => repeat first|exact z5|apply z8); intro _ _; go_simp))
    try simp only [Exit.noGoto]
    go_roundg gk8
    case rel => exact ⟨k + 1, _, by (have := HK.out; omega), by go_num, VK.out.eq (by rw [show sumP P (k + 1) = z6 zB (sumP P k) (P k) from rfl, E0.out, z2m]), H.out.pop⟩
    case measure => omega
   | true =>
    clear H0
    go_wp2_with (first
     | ((with_reducible apply z61 z2w); (case hgd | ho | hx => exact rfl); (case hc => exact HC.out _ H.out.bel); intro _ _; go_simp)
     | ((with_reducible apply z0b zI H); (case hgd | ho => exact rfl); clear H; intro _ _ H _ _; go_simp)
     | ((fail_if_success have := mk5); (with_reducible apply z0a H); (case hgd | ho | hx | hy => exact rfl); (case hi => repeat first|exact z5|apply z8); (case h1 => exact VK.out); clear H; intro ws H _ _; simp only [qb] at H; go_simp; have mk5 := trivial)
     | ((with_reducible apply z0m y0e H); (case hgd | ho | hx => exact rfl); (case hi => repeat first|exact z5|apply z8); (case hj => exact y54 _ _); intro _ _; go_simp)
     | ((with_reducible apply z1i H); (case hgd | ho | hx => exact rfl); (case hi => repeat first|exact z5|apply z8); intro _ _; go_simp)
     | ((fail_if_success have := VS); (with_reducible refine (z15 _ (HT.out.below H.out.bel) V.out VK.out).mono ?_); rintro e wc ⟨kVS, rfl, hv, hb⟩; replace H := zd H hb; clear hb; have VS := za hv; clear hv)
     | ((with_reducible apply z0a H); (case hgd | ho | hx | hy => exact rfl); (case hi => repeat first|exact z5|apply z8); (case h1 => exact VS.out); clear H; intro ws H _ _; simp only [qb, qc] at H; go_simp))
    try simp only [Exit.noGoto]
    go_roundg gk8
    case rel => exact ⟨k + 1, _, by (have := HK.out; omega), by go_num, VS.out, H.out.pop⟩
    case measure => omega
end Go.Proofs.YtgjbonikbmgfmaaGreatDoor
