/-
  The walk of FieldLong, up to 40 calls: all but its branches, which stand as hypotheses. No statement is proved here.
-/
import Derived.Test.YtieoapcakdaelaaDoorZFdLong3
namespace Go.Proofs.YtieoapcakdaelaaDoor
open Go.RowKit

/-- What branch 0 owes. -/
def Owes0 {A0 A1 A2 A3 A4 A5 : Prop} {B : Type} (_ : Hid A0 → Hid A1 → Hid A2 → Hid A3 → Hid A4 → Hid A5 → B) : Prop := A0
/-- What branch 1 owes. -/
def Owes1 {A0 A1 A2 A3 A4 A5 : Prop} {B : Type} (_ : Hid A0 → Hid A1 → Hid A2 → Hid A3 → Hid A4 → Hid A5 → B) : Prop := A1
/-- What branch 2 owes. -/
def Owes2 {A0 A1 A2 A3 A4 A5 : Prop} {B : Type} (_ : Hid A0 → Hid A1 → Hid A2 → Hid A3 → Hid A4 → Hid A5 → B) : Prop := A2
/-- What branch 3 owes. -/
def Owes3 {A0 A1 A2 A3 A4 A5 : Prop} {B : Type} (_ : Hid A0 → Hid A1 → Hid A2 → Hid A3 → Hid A4 → Hid A5 → B) : Prop := A3
/-- What branch 4 owes. -/
def Owes4 {A0 A1 A2 A3 A4 A5 : Prop} {B : Type} (_ : Hid A0 → Hid A1 → Hid A2 → Hid A3 → Hid A4 → Hid A5 → B) : Prop := A4
/-- What branch 5 owes. -/
def Owes5 {A0 A1 A2 A3 A4 A5 : Prop} {B : Type} (_ : Hid A0 → Hid A1 → Hid A2 → Hid A3 → Hid A4 → Hid A5 → B) : Prop := A5
set_option maxRecDepth 20000 in
set_option maxHeartbeats 51200000 in
def long_pre := fun (b0 : Hid (_ : Prop)) (b1 : Hid (_ : Prop)) (b2 : Hid (_ : Prop)) (b3 : Hid (_ : Prop)) (b4 : Hid (_ : Prop)) (b5 : Hid (_ : Prop)) => PLift.up (show ∀ (a b : Nat → BitVec 8) (ad : Option Addr) (n c : Nat) (q : Nat → Nat → Int) (w : World) (hT : Tp w) (hp : SlC w w.heap.size ad n c q) (h40 : n ≤ 40), Calls Tryd.prog 3 #[.agg (AZ .u8 56 (UB a)), .agg (AZ .u8 56 (UB b)), .slice ad n c] w fun e w' => e = .returned (.bool true) ∧ Below w.heap.size w w' from by
  intro a b ad n c q w hT hp h40
  obtain ⟨f, x, hm1, hp1, hv1, hl1, -⟩ := raw_facts a
  have HM1 := Lib.hid hm1
  have HP1 := Lib.hid hp1
  have HV1 := Lib.hid hv1
  clear hm1 hp1 hv1 hl1
  obtain ⟨g, y, hm2, hp2, hv2, hl2, -⟩ := raw_facts b
  have HM2 := Lib.hid hm2
  have HP2 := Lib.hid hp2
  have HV2 := Lib.hid hv2
  clear hm2 hp2 hv2 hl2
  have HT := Lib.hid hT
  clear hT
  have HC := Lib.hid hp
  clear hp
  have hN : decide ((40 : Int) < (n : Int)) = false := by simp; omega
  have hN' : (n : Int) ≤ 40 := by omega
  have H := Lib.hid (Ow.start w)
  go_enter Tryd.func3, Tryd.ntmps3
  go_wp2_with (first
    | ((fail_if_success have := g1); (with_reducible apply own_box H); (case hgd => exact rfl); (case ho => exact rfl); (case hx => exact rfl); intro w1 g1 H' _ _; replace H := H'; clear H'; go_simp)
    | ((fail_if_success have := g2); (with_reducible apply own_box H); (case hgd => exact rfl); (case ho => exact rfl); (case hx => exact rfl); intro w2 g2 H' _ _; replace H := H'; clear H'; go_simp)
    | ((with_reducible apply own_load rowB H); (case hgd => exact rfl); (case ho => exact rfl); (case hx => exact rfl); (case hi => first | exact at0 | exact at1 | exact at2 | exact at3 | exact at4 | exact at5 | exact at6); intro _ _; go_simp)
    | ((with_reducible refine (HM1.out _).mono ?_); rintro e wc ⟨rfl, hb⟩; replace H := Lib.hid (H.out.call hb); clear hb)
    | ((with_reducible refine (HM2.out _).mono ?_); rintro e wc ⟨rfl, hb⟩; replace H := Lib.hid (H.out.call hb); clear hb)
    | ((fail_if_success have := g3); (with_reducible apply own_alloc nilE H); (case hgd => exact rfl); (case ho => exact rfl); intro w3 g3 H' _ _; replace H := H'; clear H'; go_simp)
    | ((fail_if_success have := g4); (with_reducible apply own_alloc nilE H); (case hgd => exact rfl); (case ho => exact rfl); intro w4 g4 H' _ _; replace H := H'; clear H'; go_simp)
    | ((with_reducible apply own_store rowE H); (case hgd => exact rfl); (case ho => exact rfl); (case hx => exact rfl); (case hy => exact rfl); (case hi => first | exact at0 | exact at1 | exact at2 | exact at3 | exact at4 | exact at5 | exact at6); intro ws H' _ _; replace H := H'; clear H'; simp only [List.set_cons_zero] at H; go_simp)
    | ((with_reducible apply own_load rowE H); (case hgd => exact rfl); (case ho => exact rfl); (case hx => exact rfl); (case hi => first | exact at0 | exact at1 | exact at2 | exact at3 | exact at4 | exact at5 | exact at6); intro _ _; go_simp)
    | ((fail_if_success have := g5); (with_reducible apply own_build2E H); (case hgd => exact rfl); (case ho => exact rfl); (case hx => exact rfl); (case hy => exact rfl); intro w5 g5 H' _ _; replace H := H'; clear H'; go_simp))
  refine wp_region_noPanic ?_
  refine wp_region_held_drew (S := fun W => Ow w W [(g5, RowO 28 .u64 8 2 (G2 (NZ f) (NZ g))), (g4, Blk 28 .u64 8 (NZ g)), (g3, Blk 28 .u64 8 (NZ f)), (g2, Blk 23 .u8 56 (UB b)), (g1, Blk 23 .u8 56 (UB a))]) (by kernel_rfl) H.out.drew (fun hH => ?_)
  clear H
  refine held_row 0 47 rowB rfl rfl (by kernel_rfl) (by kernel_rfl) (by kernel_rfl) rfl hH rfl rfl (fun _ h => h.row 4 rfl) ?_
  try simp only [Act.put, List.setIfInBounds_toArray, List.set_cons_zero, List.set_cons_succ]
  refine held_row 2 49 rowB rfl rfl (by kernel_rfl) (by kernel_rfl) (by kernel_rfl) rfl hH rfl rfl (fun _ h => h.row 3 rfl) ?_
  try simp only [Act.put, List.setIfInBounds_toArray, List.set_cons_zero, List.set_cons_succ]
  refine wpAnyH_ready (rs := [1]) (by kernel_rfl) (by simp) ?_
  refine AllReadyH.cons (o := _) rfl (fun K hK => ?_) AllReadyH.nil
  go_simp
  refine (HP1.out _).mono ?_
  rintro e wc ⟨rfl, hb⟩
  refine hK.out _ _ (hH.call hb) (fun hN => ?_)
  clear hK K hH hb
  have hH := hN
  clear hN
  try simp only [Act.put, List.setIfInBounds_toArray, List.set_cons_zero, List.set_cons_succ]
  refine wpAnyH_ready (rs := [3]) (by kernel_rfl) (by simp) ?_
  refine AllReadyH.cons (o := _) rfl (fun K hK => ?_) AllReadyH.nil
  go_simp
  refine (HP2.out _).mono ?_
  rintro e wc ⟨rfl, hb⟩
  refine hK.out _ _ (hH.call hb) (fun hN => ?_)
  clear hK K hH hb
  have hH := hN
  clear hN
  try simp only [Act.put, List.setIfInBounds_toArray, List.set_cons_zero, List.set_cons_succ]
  refine wpAnyH_ready (rs := [4]) (by kernel_rfl) (by simp) ?_
  refine AllReadyH.cons (o := _) rfl (fun K hK => ?_) AllReadyH.nil
  refine build2_wp 51 rfl rfl rfl rfl hH ?_
  intro g6 w6 h6
  refine hK.out _ _ h6.pop (fun hN => ?_)
  clear hK K hH
  have H := Lib.hid h6
  clear h6
  have hH := hN
  clear hN
  try simp only [Act.put, List.setIfInBounds_toArray, List.set_cons_zero, List.set_cons_succ]
  refine held_value 5 12 (.slice (some ⟨g6, 0, none⟩) 2 2) rfl rfl (by kernel_rfl) (by kernel_rfl) (by kernel_rfl) rfl hH (fun w hw => by go_simp) ?_
  try simp only [Act.put, List.setIfInBounds_toArray, List.set_cons_zero, List.set_cons_succ]
  refine wpAnyH_done (by kernel_rfl) ?_ _
  refine NoPanic.normal ?_
  clear hH
  go_wp2_with fail
  have HD : Hid (Duo w w6 g5 2 g6 2 2 2 (G2 (NZ f) (NZ g)) (G2 (dF x) (dF y))) := Lib.hid ⟨H.out.bel, OwnR.of_row (H.out.row 1 rfl) (H.out.ge 1 rfl) (by omega), OwnR.of_row (H.out.row 0 rfl) (H.out.ge 0 rfl) (by omega)⟩
  clear H HM1 HM2 HP1 HP2
  rw [G2_E, G2_F] at HD
  have HE : Hid (∀ k, k < 2 → Val (setN (fun _ => g) 0 f k) (setY (fun _ => y) 0 x k)) := Lib.hid fun k _ => by
    unfold setN setY
    split
    · exact HV1.out
    · exact HV2.out
  clear HV1 HV2
  go_loopw [11, 12, 13] (fun v1 v2 v3 wr => ∃ (i m g1 c1 g2 c2 : Nat) (E : Nat → Nat → Nat) (Y : Nat → Nat), Hid (m = i + 2) ∧ i ≤ n ∧ v1 = .slice (some ⟨g1, 0, none⟩) m c1 ∧ v2 = .slice (some ⟨g2, 0, none⟩) m c2 ∧ v3 = .int .i64 (i : Int) ∧ Hid (Duo w wr g1 c1 g2 c2 m m (fun k => NZ (E k)) (fun k => dF (Y k))) ∧ Hid (∀ k, k < m → Val (E k) (Y k))) (fun _ _ v3 _ => n - (intOf v3).toNat)
  case atStart => exact ⟨0, 2, g5, 2, g6, 2, _, _, Lib.hid rfl, by omega, rfl, rfl, rfl, HD, HE⟩
  case round =>
    clear HD HE
    obtain ⟨i, m, s1, c1, s2, c2, E, Y, HM, hi, rfl, rfl, rfl, HD, HE⟩ := hrel
    have m2 : 2 ≤ m := by rw [HM.out]; omega
    have m42 : m ≤ 42 := by rw [HM.out]; omega
    by_cases hlt : i < n
    · have hid : decide ((i : Int) < (n : Int)) = true := by simp; omega
      have iN : (i : Int) < (n : Int) := by omega
      obtain ⟨b', o', rfl, hb', hc0, hc1, hc2, hc3⟩ := (HC.out.below HD.out.bel).get i hlt
      have hbd := HC.out.bd i hlt
      obtain ⟨z0, hz0⟩ : ∃ z, q i 0 = z := ⟨_, rfl⟩
      obtain ⟨z1, hz1⟩ : ∃ z, q i 1 = z := ⟨_, rfl⟩
      obtain ⟨z2, hz2⟩ : ∃ z, q i 2 = z := ⟨_, rfl⟩
      obtain ⟨z3, hz3⟩ : ∃ z, q i 3 = z := ⟨_, rfl⟩
      rw [hz0] at hc0
      rw [hz1] at hc1
      rw [hz2] at hc2
      rw [hz3] at hc3 hbd
      have HQ := Lib.hid hz3
      clear hz0 hz1 hz2 hz3
      have HB := Lib.hid hbd
      clear hbd
      have HZ : Hid (∀ W, Below w.heap.size w W → W.cell? ⟨b', o' + i * 4 + 3, none⟩ = some (.int .i64 z3)) := Lib.hid (by
        obtain ⟨b2, o2, e2, _, _, _, _, k3⟩ := HC.out.get i hlt
        cases e2
        intro W hW
        exact (hW.cell (p := ⟨_, _, none⟩) hb').trans (k3.trans (congrArg (fun z => some (Value.int .i64 z)) HQ.out)))
      by_cases e0 : z0 = 0
      · subst e0
        rename_i ina1 ina2 ina3 ina4 ina5 ina6 ina7
        revert a b n c q w h40 f x g y HT hN hN' ina1 w1 g1 w2 g2 ina2 w3 g3 ina3 ina4 w4 g4 ws w5 g5 ina5 wc g6 w6 ina6 ina7 wr u6 u14 u15 u52 u53 u54 u55 u56 u57 u58 u59 u60 u61 u62 u63 u64 u65 u66 u67 u68 u69 u70 u71 u72 u73 u74 u75 u76 u77 u78 u79 u80 u81 u82 u83 u84 u85 u86 u87 u88 u89 u90 u91 u92 u93 u94 u95 u96 u97 u98 u99 u100 u101 u102 u103 u104 u105 u106 u107 u108 u109 u110 u111 u112 u113 u114 u115 u116 u117 u118 u119 u120 u121 u122 u123 u124 u125 u126 u127 u128 u129 u130 u131 u132 u133 u134 u135 u136 u137 u138 u139 u140 u141 u142 u143 u144 u145 u146 u147 u148 u149 u150 u151 u152 u153 u154 u155 u156 u157 u158 u159 u160 u161 u162 u163 u164 u165 u166 u167 u168 u169 u170 u171 u172 u173 u174 u175 u176 u177 u178 u179 u180 u181 u182 u183 u184 u185 u186 u187 u188 u189 u190 u191 u192 u193 u194 u195 u196 u197 u198 u199 u200 u201 u202 u203 u204 u205 u206 u207 u208 u209 u210 u211 u212 u213 u214 u215 u216 u217 u218 u219 u220 u221 u222 u223 u224 u225 u226 u227 u228 u229 u230 u231 u232 u233 u234 u235 u236 u237 i m s1 c1 s2 c2 E Y HM hi HD HE m2 m42 hlt hid iN b' o' HC hb' z1 hc1 z2 hc2 z3 hc3 HQ HB HZ hc0
        exact b0.out
      by_cases e1 : z0 = 1
      · subst e1
        rename_i ina1 ina2 ina3 ina4 ina5 ina6 ina7
        revert a b n c q w h40 f x g y HT hN hN' ina1 w1 g1 w2 g2 ina2 w3 g3 ina3 ina4 w4 g4 ws w5 g5 ina5 wc g6 w6 ina6 ina7 wr u6 u14 u15 u52 u53 u54 u55 u56 u57 u58 u59 u60 u61 u62 u63 u64 u65 u66 u67 u68 u69 u70 u71 u72 u73 u74 u75 u76 u77 u78 u79 u80 u81 u82 u83 u84 u85 u86 u87 u88 u89 u90 u91 u92 u93 u94 u95 u96 u97 u98 u99 u100 u101 u102 u103 u104 u105 u106 u107 u108 u109 u110 u111 u112 u113 u114 u115 u116 u117 u118 u119 u120 u121 u122 u123 u124 u125 u126 u127 u128 u129 u130 u131 u132 u133 u134 u135 u136 u137 u138 u139 u140 u141 u142 u143 u144 u145 u146 u147 u148 u149 u150 u151 u152 u153 u154 u155 u156 u157 u158 u159 u160 u161 u162 u163 u164 u165 u166 u167 u168 u169 u170 u171 u172 u173 u174 u175 u176 u177 u178 u179 u180 u181 u182 u183 u184 u185 u186 u187 u188 u189 u190 u191 u192 u193 u194 u195 u196 u197 u198 u199 u200 u201 u202 u203 u204 u205 u206 u207 u208 u209 u210 u211 u212 u213 u214 u215 u216 u217 u218 u219 u220 u221 u222 u223 u224 u225 u226 u227 u228 u229 u230 u231 u232 u233 u234 u235 u236 u237 i m s1 c1 s2 c2 E Y HM hi HD HE m2 m42 hlt hid iN b' o' HC hb' z1 hc1 z2 hc2 z3 hc3 HQ HB HZ hc0 e0
        exact b1.out
      by_cases e2 : z0 = 2
      · subst e2
        rename_i ina1 ina2 ina3 ina4 ina5 ina6 ina7
        revert a b n c q w h40 f x g y HT hN hN' ina1 w1 g1 w2 g2 ina2 w3 g3 ina3 ina4 w4 g4 ws w5 g5 ina5 wc g6 w6 ina6 ina7 wr u6 u14 u15 u52 u53 u54 u55 u56 u57 u58 u59 u60 u61 u62 u63 u64 u65 u66 u67 u68 u69 u70 u71 u72 u73 u74 u75 u76 u77 u78 u79 u80 u81 u82 u83 u84 u85 u86 u87 u88 u89 u90 u91 u92 u93 u94 u95 u96 u97 u98 u99 u100 u101 u102 u103 u104 u105 u106 u107 u108 u109 u110 u111 u112 u113 u114 u115 u116 u117 u118 u119 u120 u121 u122 u123 u124 u125 u126 u127 u128 u129 u130 u131 u132 u133 u134 u135 u136 u137 u138 u139 u140 u141 u142 u143 u144 u145 u146 u147 u148 u149 u150 u151 u152 u153 u154 u155 u156 u157 u158 u159 u160 u161 u162 u163 u164 u165 u166 u167 u168 u169 u170 u171 u172 u173 u174 u175 u176 u177 u178 u179 u180 u181 u182 u183 u184 u185 u186 u187 u188 u189 u190 u191 u192 u193 u194 u195 u196 u197 u198 u199 u200 u201 u202 u203 u204 u205 u206 u207 u208 u209 u210 u211 u212 u213 u214 u215 u216 u217 u218 u219 u220 u221 u222 u223 u224 u225 u226 u227 u228 u229 u230 u231 u232 u233 u234 u235 u236 u237 i m s1 c1 s2 c2 E Y HM hi HD HE m2 m42 hlt hid iN b' o' HC hb' z1 hc1 z2 hc2 z3 hc3 HQ HB HZ hc0 e0 e1
        exact b2.out
      by_cases e3 : z0 = 3
      · subst e3
        rename_i ina1 ina2 ina3 ina4 ina5 ina6 ina7
        revert a b n c q w h40 f x g y HT hN hN' ina1 w1 g1 w2 g2 ina2 w3 g3 ina3 ina4 w4 g4 ws w5 g5 ina5 wc g6 w6 ina6 ina7 wr u6 u14 u15 u52 u53 u54 u55 u56 u57 u58 u59 u60 u61 u62 u63 u64 u65 u66 u67 u68 u69 u70 u71 u72 u73 u74 u75 u76 u77 u78 u79 u80 u81 u82 u83 u84 u85 u86 u87 u88 u89 u90 u91 u92 u93 u94 u95 u96 u97 u98 u99 u100 u101 u102 u103 u104 u105 u106 u107 u108 u109 u110 u111 u112 u113 u114 u115 u116 u117 u118 u119 u120 u121 u122 u123 u124 u125 u126 u127 u128 u129 u130 u131 u132 u133 u134 u135 u136 u137 u138 u139 u140 u141 u142 u143 u144 u145 u146 u147 u148 u149 u150 u151 u152 u153 u154 u155 u156 u157 u158 u159 u160 u161 u162 u163 u164 u165 u166 u167 u168 u169 u170 u171 u172 u173 u174 u175 u176 u177 u178 u179 u180 u181 u182 u183 u184 u185 u186 u187 u188 u189 u190 u191 u192 u193 u194 u195 u196 u197 u198 u199 u200 u201 u202 u203 u204 u205 u206 u207 u208 u209 u210 u211 u212 u213 u214 u215 u216 u217 u218 u219 u220 u221 u222 u223 u224 u225 u226 u227 u228 u229 u230 u231 u232 u233 u234 u235 u236 u237 i m s1 c1 s2 c2 E Y HM hi HD HE m2 m42 hlt hid iN b' o' HC hb' z1 hc1 z2 hc2 z3 hc3 HQ HB HZ hc0 e0 e1 e2
        exact b3.out
      by_cases e4 : z0 = 4
      · subst e4
        rename_i ina1 ina2 ina3 ina4 ina5 ina6 ina7
        revert a b n c q w h40 f x g y HT hN hN' ina1 w1 g1 w2 g2 ina2 w3 g3 ina3 ina4 w4 g4 ws w5 g5 ina5 wc g6 w6 ina6 ina7 wr u6 u14 u15 u52 u53 u54 u55 u56 u57 u58 u59 u60 u61 u62 u63 u64 u65 u66 u67 u68 u69 u70 u71 u72 u73 u74 u75 u76 u77 u78 u79 u80 u81 u82 u83 u84 u85 u86 u87 u88 u89 u90 u91 u92 u93 u94 u95 u96 u97 u98 u99 u100 u101 u102 u103 u104 u105 u106 u107 u108 u109 u110 u111 u112 u113 u114 u115 u116 u117 u118 u119 u120 u121 u122 u123 u124 u125 u126 u127 u128 u129 u130 u131 u132 u133 u134 u135 u136 u137 u138 u139 u140 u141 u142 u143 u144 u145 u146 u147 u148 u149 u150 u151 u152 u153 u154 u155 u156 u157 u158 u159 u160 u161 u162 u163 u164 u165 u166 u167 u168 u169 u170 u171 u172 u173 u174 u175 u176 u177 u178 u179 u180 u181 u182 u183 u184 u185 u186 u187 u188 u189 u190 u191 u192 u193 u194 u195 u196 u197 u198 u199 u200 u201 u202 u203 u204 u205 u206 u207 u208 u209 u210 u211 u212 u213 u214 u215 u216 u217 u218 u219 u220 u221 u222 u223 u224 u225 u226 u227 u228 u229 u230 u231 u232 u233 u234 u235 u236 u237 i m s1 c1 s2 c2 E Y HM hi HD HE m2 m42 hlt hid iN b' o' HC hb' z1 hc1 z2 hc2 z3 hc3 HQ HB HZ hc0 e0 e1 e2 e3
        exact b4.out
      have d0 : decide (z0 = 0) = false := by simp; omega
      have d1 : decide (z0 = 1) = false := by simp; omega
      have d2 : decide (z0 = 2) = false := by simp; omega
      have d3 : decide (z0 = 3) = false := by simp; omega
      have d4 : decide (z0 = 4) = false := by simp; omega
      rename_i ina1 ina2 ina3 ina4 ina5 ina6 ina7
      revert a b n c q w h40 f x g y HT hN hN' ina1 w1 g1 w2 g2 ina2 w3 g3 ina3 ina4 w4 g4 ws w5 g5 ina5 wc g6 w6 ina6 ina7 wr u6 u14 u15 u52 u53 u54 u55 u56 u57 u58 u59 u60 u61 u62 u63 u64 u65 u66 u67 u68 u69 u70 u71 u72 u73 u74 u75 u76 u77 u78 u79 u80 u81 u82 u83 u84 u85 u86 u87 u88 u89 u90 u91 u92 u93 u94 u95 u96 u97 u98 u99 u100 u101 u102 u103 u104 u105 u106 u107 u108 u109 u110 u111 u112 u113 u114 u115 u116 u117 u118 u119 u120 u121 u122 u123 u124 u125 u126 u127 u128 u129 u130 u131 u132 u133 u134 u135 u136 u137 u138 u139 u140 u141 u142 u143 u144 u145 u146 u147 u148 u149 u150 u151 u152 u153 u154 u155 u156 u157 u158 u159 u160 u161 u162 u163 u164 u165 u166 u167 u168 u169 u170 u171 u172 u173 u174 u175 u176 u177 u178 u179 u180 u181 u182 u183 u184 u185 u186 u187 u188 u189 u190 u191 u192 u193 u194 u195 u196 u197 u198 u199 u200 u201 u202 u203 u204 u205 u206 u207 u208 u209 u210 u211 u212 u213 u214 u215 u216 u217 u218 u219 u220 u221 u222 u223 u224 u225 u226 u227 u228 u229 u230 u231 u232 u233 u234 u235 u236 u237 i m s1 c1 s2 c2 E Y HM hi HD HE m2 m42 hlt hid iN b' o' HC hb' z0 hc0 z1 hc1 z2 hc2 z3 hc3 HQ HB HZ e0 e1 e2 e3 e4 d0 d1 d2 d3 d4
      exact b5.out
    · obtain rfl : i = n := by omega
      have hid : decide ((i : Int) < (i : Int)) = false := by simp
      go_wp2_with (first
        | ((with_reducible refine (awake_any _ (HT.out.below HD.out.bel)).mono ?_); rintro e wc ⟨rfl, hb⟩; replace HD := Lib.hid (HD.out.call hb); clear hb))
      go_ret
      exact ⟨rfl, HD.out.bel⟩)
end Go.Proofs.YtieoapcakdaelaaDoor
