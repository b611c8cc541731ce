/-
  The walk of FieldLong, up to 40 calls: branch 2. No statement is proved here.
-/
import Derived.Test.YtieoapcakdaelaaDoorZFdLongP
namespace Go.Proofs.YtieoapcakdaelaaDoor
open Go.RowKit

set_option maxRecDepth 20000 in
set_option maxHeartbeats 12800000 in
theorem long_b2 : Owes2 long_pre := by
  unfold Owes2
  intro a b n c q w h40 f x g y HT hN hN' ina1 w1 g1 w2 g2 ina2 w3 g3 ina3 ina4 w4 g4 ws w5 g5 ina5 wc g6 w6 ina6 ina7 wr u6 u14 u15 u52 u53 u54 u55 u56 u57 u58 u59 u60 u61 u62 u63 u64 u65 u66 u67 u68 u69 u70 u71 u72 u73 u74 u75 u76 u77 u78 u79 u80 u81 u82 u83 u84 u85 u86 u87 u88 u89 u90 u91 u92 u93 u94 u95 u96 u97 u98 u99 u100 u101 u102 u103 u104 u105 u106 u107 u108 u109 u110 u111 u112 u113 u114 u115 u116 u117 u118 u119 u120 u121 u122 u123 u124 u125 u126 u127 u128 u129 u130 u131 u132 u133 u134 u135 u136 u137 u138 u139 u140 u141 u142 u143 u144 u145 u146 u147 u148 u149 u150 u151 u152 u153 u154 u155 u156 u157 u158 u159 u160 u161 u162 u163 u164 u165 u166 u167 u168 u169 u170 u171 u172 u173 u174 u175 u176 u177 u178 u179 u180 u181 u182 u183 u184 u185 u186 u187 u188 u189 u190 u191 u192 u193 u194 u195 u196 u197 u198 u199 u200 u201 u202 u203 u204 u205 u206 u207 u208 u209 u210 u211 u212 u213 u214 u215 u216 u217 u218 u219 u220 u221 u222 u223 u224 u225 u226 u227 u228 u229 u230 u231 u232 u233 u234 u235 u236 u237 i m s1 c1 s2 c2 E Y HM hi HD HE m2 m42 hlt hid iN b' o' HC hb' z1 hc1 z2 hc2 z3 hc3 HQ HB HZ hc0 e0 e1
  clear e0 e1
  go_wp2_with (first
    | ((fail_if_success have := hj1); (with_reducible refine (place_any _ m _ (by omega) (by omega)).mono ?_); rintro e wc ⟨⟨j1, hj1, rfl⟩, rfl⟩; have jN1 : (j1 : Int) < (m : Int) := by omega)
    | ((fail_if_success have := hj2); (with_reducible refine (place_any _ m _ (by omega) (by omega)).mono ?_); rintro e wc ⟨⟨j2, hj2, rfl⟩, rfl⟩; have jN2 : (j2 : Int) < (m : Int) := by omega))
  refine wp_region_noPanic ?_
  refine wp_region_held_drew (S := fun W => Below w.heap.size w W ∧ Rd W s1 .u64 8 m (fun k => NZ (E k))) (by kernel_rfl) ⟨HD.out.bel.drew, HD.out.drew.rd1⟩ (fun hH => ?_)
  replace HD := Lib.hid HD.out.drew
  generalize World.drew _ = wd at *
  clear hc0 hc1 hc2 hc3
  refine held_value 0 160 (.slice (some ⟨s1, 0, none⟩) m c1) rfl rfl (by kernel_rfl) (by kernel_rfl) (by kernel_rfl) rfl hH (fun w hw => by go_simp) ?_
  try simp only [Act.put, List.setIfInBounds_toArray, List.set_cons_zero, List.set_cons_succ]
  refine held_value 1 161 (.slice (some ⟨s1, 0, none⟩) m c1) rfl rfl (by kernel_rfl) (by kernel_rfl) (by kernel_rfl) rfl hH (fun w hw => by go_simp) ?_
  try simp only [Act.put, List.setIfInBounds_toArray, List.set_cons_zero, List.set_cons_succ]
  refine held_value 2 162 (.int .i64 (j1 : Int)) rfl rfl (by kernel_rfl) (by kernel_rfl) (by kernel_rfl) rfl hH (fun w hw => by go_simp) ?_
  try simp only [Act.put, List.setIfInBounds_toArray, List.set_cons_zero, List.set_cons_succ]
  refine held_value 3 163 (.pointer (some ⟨s1, j1 * 8, none⟩)) rfl rfl (by kernel_rfl) (by kernel_rfl) (by kernel_rfl) rfl hH (fun w hw => by go_simp) ?_
  try simp only [Act.put, List.setIfInBounds_toArray, List.set_cons_zero, List.set_cons_succ]
  refine held_at 4 164 rowE rfl rfl (by kernel_rfl) (by kernel_rfl) (by kernel_rfl) rfl hH rfl rfl (fun _ h => h.2 j1 hj1) ?_
  try simp only [Act.put, List.setIfInBounds_toArray, List.set_cons_zero, List.set_cons_succ]
  refine held_value 5 165 (.slice (some ⟨s1, 0, none⟩) m c1) rfl rfl (by kernel_rfl) (by kernel_rfl) (by kernel_rfl) rfl hH (fun w hw => by go_simp) ?_
  try simp only [Act.put, List.setIfInBounds_toArray, List.set_cons_zero, List.set_cons_succ]
  refine held_value 6 166 (.int .i64 (j2 : Int)) rfl rfl (by kernel_rfl) (by kernel_rfl) (by kernel_rfl) rfl hH (fun w hw => by go_simp) ?_
  try simp only [Act.put, List.setIfInBounds_toArray, List.set_cons_zero, List.set_cons_succ]
  refine held_value 7 167 (.pointer (some ⟨s1, j2 * 8, none⟩)) rfl rfl (by kernel_rfl) (by kernel_rfl) (by kernel_rfl) rfl hH (fun w hw => by go_simp) ?_
  try simp only [Act.put, List.setIfInBounds_toArray, List.set_cons_zero, List.set_cons_succ]
  refine held_at 8 168 rowE rfl rfl (by kernel_rfl) (by kernel_rfl) (by kernel_rfl) rfl hH rfl rfl (fun _ h => h.2 j2 hj2) ?_
  try simp only [Act.put, List.setIfInBounds_toArray, List.set_cons_zero, List.set_cons_succ]
  refine wpAnyH_ready (rs := [9]) (by kernel_rfl) (by simp) ?_
  refine AllReadyH.cons (o := _) rfl (fun K hK => ?_) AllReadyH.nil
  go_simp
  refine (mul_v _ (HE.out j1 hj1) (HE.out j2 hj2)).mono ?_
  rintro e wc ⟨h, rfl, hv, hb⟩
  have HV := Lib.hid hv
  clear hv
  replace HD := Lib.hid (HD.out.call hb)
  refine hK.out _ _ ⟨HD.out.bel, HD.out.rd1⟩ (fun hN => ?_)
  clear hK K hH hb
  have hH := hN
  clear hN
  try simp only [Act.put, List.setIfInBounds_toArray, List.set_cons_zero, List.set_cons_succ]
  refine wpAnyH_ready (rs := [10]) (by kernel_rfl) (by simp) ?_
  refine AllReadyH.cons (o := _) rfl (fun K hK => ?_) AllReadyH.nil
  refine wp_build1 170 rfl Tryd.underlying32 infoE (by omega) (by omega) rfl rfl ?_
  intro gx wx hbx hrx
  replace HD := Lib.hid (HD.out.call hbx)
  have HX := Lib.hid hrx
  refine hK.out _ _ ⟨HD.out.bel, HD.out.rd1⟩ (fun hN => ?_)
  clear hK K hH hbx hrx
  have hH := hN
  clear hN
  try simp only [Act.put, List.setIfInBounds_toArray, List.set_cons_zero, List.set_cons_succ]
  refine wpAnyH_ready (rs := [11]) (by kernel_rfl) (by simp) ?_
  refine AllReadyH.cons (o := _) rfl (fun K hK => ?_) AllReadyH.nil
  refine wp_app1 171 rfl rfl rfl rfl HD.out HX.out (by omega) ?_
  intro gn1 cn1 wn hdn hrn
  replace HD := Lib.hid hdn
  refine hK.out _ _ ⟨hdn.bel, hrn⟩ (fun hN => ?_)
  clear hK K hH HX hdn hrn
  have hH := hN
  clear hN
  try simp only [Act.put, List.setIfInBounds_toArray, List.set_cons_zero, List.set_cons_succ]
  refine held_value 12 11 (.slice (some ⟨gn1, 0, none⟩) (m + 1) cn1) rfl rfl (by kernel_rfl) (by kernel_rfl) (by kernel_rfl) rfl hH (fun w hw => by go_simp) ?_
  try simp only [Act.put, List.setIfInBounds_toArray, List.set_cons_zero, List.set_cons_succ]
  refine wpAnyH_done (by kernel_rfl) ?_ _
  refine NoPanic.normal ?_
  clear hH
  go_wp2_with fail
  refine wp_region_noPanic ?_
  refine wp_region_held_drew (S := fun W => Below w.heap.size w W ∧ Rd W s2 .i64 16 m (fun k => dF (Y k))) (by kernel_rfl) ⟨HD.out.bel.drew, HD.out.drew.rd2⟩ (fun hH => ?_)
  replace HD := Lib.hid HD.out.drew
  generalize World.drew _ = wd at *
  refine held_value 0 172 (.slice (some ⟨s2, 0, none⟩) m c2) rfl rfl (by kernel_rfl) (by kernel_rfl) (by kernel_rfl) rfl hH (fun w hw => by go_simp) ?_
  try simp only [Act.put, List.setIfInBounds_toArray, List.set_cons_zero, List.set_cons_succ]
  refine held_value 1 173 (.slice (some ⟨s2, 0, none⟩) m c2) rfl rfl (by kernel_rfl) (by kernel_rfl) (by kernel_rfl) rfl hH (fun w hw => by go_simp) ?_
  try simp only [Act.put, List.setIfInBounds_toArray, List.set_cons_zero, List.set_cons_succ]
  refine held_value 2 174 (.int .i64 (j1 : Int)) rfl rfl (by kernel_rfl) (by kernel_rfl) (by kernel_rfl) rfl hH (fun w hw => by go_simp) ?_
  try simp only [Act.put, List.setIfInBounds_toArray, List.set_cons_zero, List.set_cons_succ]
  refine held_value 3 175 (.pointer (some ⟨s2, j1 * 16, none⟩)) rfl rfl (by kernel_rfl) (by kernel_rfl) (by kernel_rfl) rfl hH (fun w hw => by go_simp) ?_
  try simp only [Act.put, List.setIfInBounds_toArray, List.set_cons_zero, List.set_cons_succ]
  refine held_at 4 176 rowF rfl rfl (by kernel_rfl) (by kernel_rfl) (by kernel_rfl) rfl hH rfl rfl (fun _ h => h.2 j1 hj1) ?_
  try simp only [Act.put, List.setIfInBounds_toArray, List.set_cons_zero, List.set_cons_succ]
  refine held_value 5 177 (.slice (some ⟨s2, 0, none⟩) m c2) rfl rfl (by kernel_rfl) (by kernel_rfl) (by kernel_rfl) rfl hH (fun w hw => by go_simp) ?_
  try simp only [Act.put, List.setIfInBounds_toArray, List.set_cons_zero, List.set_cons_succ]
  refine held_value 6 178 (.int .i64 (j2 : Int)) rfl rfl (by kernel_rfl) (by kernel_rfl) (by kernel_rfl) rfl hH (fun w hw => by go_simp) ?_
  try simp only [Act.put, List.setIfInBounds_toArray, List.set_cons_zero, List.set_cons_succ]
  refine held_value 7 179 (.pointer (some ⟨s2, j2 * 16, none⟩)) rfl rfl (by kernel_rfl) (by kernel_rfl) (by kernel_rfl) rfl hH (fun w hw => by go_simp) ?_
  try simp only [Act.put, List.setIfInBounds_toArray, List.set_cons_zero, List.set_cons_succ]
  refine held_at 8 180 rowF rfl rfl (by kernel_rfl) (by kernel_rfl) (by kernel_rfl) rfl hH rfl rfl (fun _ h => h.2 j2 hj2) ?_
  try simp only [Act.put, List.setIfInBounds_toArray, List.set_cons_zero, List.set_cons_succ]
  refine wpAnyH_ready (rs := [9]) (by kernel_rfl) (by simp) ?_
  refine AllReadyH.cons (o := _) rfl (fun K hK => ?_) AllReadyH.nil
  go_simp
  refine (refMul_any _ _ _ (HE.out j1 hj1).lt (HE.out j2 hj2).lt).mono ?_
  rintro e wc ⟨rfl, hb⟩
  replace HD := Lib.hid (HD.out.call hb)
  refine hK.out _ _ ⟨HD.out.bel, HD.out.rd2⟩ (fun hN => ?_)
  clear hK K hH hb
  have hH := hN
  clear hN
  try simp only [Act.put, List.setIfInBounds_toArray, List.set_cons_zero, List.set_cons_succ]
  refine wpAnyH_ready (rs := [10]) (by kernel_rfl) (by simp) ?_
  refine AllReadyH.cons (o := _) rfl (fun K hK => ?_) AllReadyH.nil
  refine wp_build1 182 rfl Tryd.underlying36 infoF (by omega) (by omega) rfl rfl ?_
  intro gx wx hbx hrx
  replace HD := Lib.hid (HD.out.call hbx)
  have HX := Lib.hid hrx
  refine hK.out _ _ ⟨HD.out.bel, HD.out.rd2⟩ (fun hN => ?_)
  clear hK K hH hbx hrx
  have hH := hN
  clear hN
  try simp only [Act.put, List.setIfInBounds_toArray, List.set_cons_zero, List.set_cons_succ]
  refine wpAnyH_ready (rs := [11]) (by kernel_rfl) (by simp) ?_
  refine AllReadyH.cons (o := _) rfl (fun K hK => ?_) AllReadyH.nil
  refine wp_app2 183 rfl rfl rfl rfl HD.out HX.out (by omega) ?_
  intro gn2 cn2 wn hdn hrn
  replace HD := Lib.hid hdn
  refine hK.out _ _ ⟨hdn.bel, hrn⟩ (fun hN => ?_)
  clear hK K hH HX hdn hrn
  have hH := hN
  clear hN
  try simp only [Act.put, List.setIfInBounds_toArray, List.set_cons_zero, List.set_cons_succ]
  refine held_value 12 12 (.slice (some ⟨gn2, 0, none⟩) (m + 1) cn2) rfl rfl (by kernel_rfl) (by kernel_rfl) (by kernel_rfl) rfl hH (fun w hw => by go_simp) ?_
  try simp only [Act.put, List.setIfInBounds_toArray, List.set_cons_zero, List.set_cons_succ]
  refine wpAnyH_done (by kernel_rfl) ?_ _
  refine NoPanic.normal ?_
  clear hH
  go_wp2_with fail
  have HE2 := Lib.hid (val_set HE.out HV.out)
  have hA := HD.out.drew.last1
  have hB := HD.out.drew.last2
  obtain ⟨M, hM⟩ : ∃ M, m + 1 = M := ⟨_, rfl⟩
  have HM2 : Hid (M = i + 1 + 2) := Lib.hid (by rw [← hM, HM.out])
  have e1 : (M : Int) - 1 = (m : Int) := by omega
  have f1 : IntKind.i64.wrap (m : Int) = (m : Int) := IntWalk.i64_in _ (by omega)
  have mM : (m : Int) < (M : Int) := by omega
  rw [hM] at HD HE2 ⊢
  clear hM
  refine wp_region_noPanic ?_
  refine wp_region_held_drew (S := fun W => (∀ j, j < 8 → W.cell? ⟨gn1, m * 8 + j, none⟩ = some (.int .u64 (NZ h j))) ∧ (∀ j, j < 16 → W.cell? ⟨gn2, m * 16 + j, none⟩ = some (.int .i64 (dF (Y j1 * Y j2 % pN) j)))) (by kernel_rfl) ⟨hA, hB⟩ (fun hH => ?_)
  clear hA hB
  replace HD := Lib.hid HD.out.drew
  generalize World.drew _ = wd at *
  refine held_value 0 224 (.slice (some ⟨gn1, 0, none⟩) M cn1) rfl rfl (by kernel_rfl) (by kernel_rfl) (by kernel_rfl) rfl hH (fun w hw => by go_simp) ?_
  try simp only [Act.put, List.setIfInBounds_toArray, List.set_cons_zero, List.set_cons_succ]
  refine held_value 1 225 (.slice (some ⟨gn1, 0, none⟩) M cn1) rfl rfl (by kernel_rfl) (by kernel_rfl) (by kernel_rfl) rfl hH (fun w hw => by go_simp) ?_
  try simp only [Act.put, List.setIfInBounds_toArray, List.set_cons_zero, List.set_cons_succ]
  refine held_value 2 226 (.int .i64 (M : Int)) rfl rfl (by kernel_rfl) (by kernel_rfl) (by kernel_rfl) rfl hH (fun w hw => by go_simp) ?_
  try simp only [Act.put, List.setIfInBounds_toArray, List.set_cons_zero, List.set_cons_succ]
  refine held_value 3 227 (.int .i64 (m : Int)) rfl rfl (by kernel_rfl) (by kernel_rfl) (by kernel_rfl) rfl hH (fun w hw => by go_simp) ?_
  try simp only [Act.put, List.setIfInBounds_toArray, List.set_cons_zero, List.set_cons_succ]
  refine held_value 4 228 (.pointer (some ⟨gn1, m * 8, none⟩)) rfl rfl (by kernel_rfl) (by kernel_rfl) (by kernel_rfl) rfl hH (fun w hw => by go_simp) ?_
  try simp only [Act.put, List.setIfInBounds_toArray, List.set_cons_zero, List.set_cons_succ]
  refine held_at 5 229 rowE rfl rfl (by kernel_rfl) (by kernel_rfl) (by kernel_rfl) rfl hH rfl rfl (fun _ h => h.1) ?_
  try simp only [Act.put, List.setIfInBounds_toArray, List.set_cons_zero, List.set_cons_succ]
  refine held_value 6 230 (.slice (some ⟨gn2, 0, none⟩) M cn2) rfl rfl (by kernel_rfl) (by kernel_rfl) (by kernel_rfl) rfl hH (fun w hw => by go_simp) ?_
  try simp only [Act.put, List.setIfInBounds_toArray, List.set_cons_zero, List.set_cons_succ]
  refine held_value 7 231 (.slice (some ⟨gn2, 0, none⟩) M cn2) rfl rfl (by kernel_rfl) (by kernel_rfl) (by kernel_rfl) rfl hH (fun w hw => by go_simp) ?_
  try simp only [Act.put, List.setIfInBounds_toArray, List.set_cons_zero, List.set_cons_succ]
  refine held_value 8 232 (.int .i64 (M : Int)) rfl rfl (by kernel_rfl) (by kernel_rfl) (by kernel_rfl) rfl hH (fun w hw => by go_simp) ?_
  try simp only [Act.put, List.setIfInBounds_toArray, List.set_cons_zero, List.set_cons_succ]
  refine held_value 9 233 (.int .i64 (m : Int)) rfl rfl (by kernel_rfl) (by kernel_rfl) (by kernel_rfl) rfl hH (fun w hw => by go_simp) ?_
  try simp only [Act.put, List.setIfInBounds_toArray, List.set_cons_zero, List.set_cons_succ]
  refine held_value 10 234 (.pointer (some ⟨gn2, m * 16, none⟩)) rfl rfl (by kernel_rfl) (by kernel_rfl) (by kernel_rfl) rfl hH (fun w hw => by go_simp) ?_
  try simp only [Act.put, List.setIfInBounds_toArray, List.set_cons_zero, List.set_cons_succ]
  refine held_at 11 235 rowF rfl rfl (by kernel_rfl) (by kernel_rfl) (by kernel_rfl) rfl hH rfl rfl (fun _ h => h.2) ?_
  try simp only [Act.put, List.setIfInBounds_toArray, List.set_cons_zero, List.set_cons_succ]
  refine wpAnyH_ready (rs := [12]) (by kernel_rfl) (by simp) ?_
  refine AllReadyH.cons (o := _) rfl (fun K hK => ?_) AllReadyH.nil
  go_simp
  refine (is_true _ HV.out HV.out.lt rfl).mono ?_
  rintro e wc ⟨rfl, hb⟩
  refine hK.out _ _ ⟨fun j hj => (hb.cell (p := ⟨_, _, none⟩) (HD.out.r1.lt gn1 rfl).1).trans (hH.1 j hj), fun j hj => (hb.cell (p := ⟨_, _, none⟩) (HD.out.r2.lt gn2 rfl).1).trans (hH.2 j hj)⟩ (fun hN => ?_)
  replace HD := Lib.hid (HD.out.call hb)
  clear hK K hH hb
  have hH := hN
  clear hN
  try simp only [Act.put, List.setIfInBounds_toArray, List.set_cons_zero, List.set_cons_succ]
  refine held_value 13 237 (.bool false) rfl rfl (by kernel_rfl) (by kernel_rfl) (by kernel_rfl) rfl hH (fun w hw => by go_simp) ?_
  try simp only [Act.put, List.setIfInBounds_toArray, List.set_cons_zero, List.set_cons_succ]
  refine wpAnyH_done (by kernel_rfl) ?_ _
  refine NoPanic.normal ?_
  clear hH
  go_wp2_with fail
  go_roundw
  case rel => exact ⟨i + 1, M, gn1, cn1, gn2, cn2, _, _, HM2, by omega, rfl, rfl, by go_num, HD, HE2⟩
  case measure => simp [intOf]; omega
end Go.Proofs.YtieoapcakdaelaaDoor
