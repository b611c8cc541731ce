/-
  The contract of fill.
-/
import Derived.Test.YtjppmeihobcenaaDoorShTake
import Derived.Test.YtjppmeihobcenaaDoorShOut
import Derived.Deep.Cut
namespace Go.Proofs.YtjppmeihobcenaaDoor
open Go.RowKit

set_option maxHeartbeats 1600000 in
theorem fill_any (g : Nat) (h : HS) (w : World) (hT : Tabs w) (h2 : 2 ≤ g) (hg : Lies w g h) (hk : h.k < 136) :
    Calls Tryd.prog 31 #[.pointer (some ⟨g, 0, none⟩)] w fun e w' => e = .returned (.tuple #[]) ∧ Hs w g w' h.fill := by
  obtain ⟨k, hkk⟩ : ∃ k, h.k = k := ⟨_, rfl⟩
  obtain ⟨q, hq⟩ : ∃ q, k + (q + 1) = 136 := ⟨135 - k, by omega⟩
  obtain ⟨n, hn⟩ : ∃ n, q + 1 = n := ⟨_, rfl⟩
  have hck := hg.k
  rw [hkk] at hck
  have e0 : (136 : Int) - (k : Int) = (n : Int) := by omega
  have e1 : (n : Int) - 1 = (q : Int) := by omega
  have n1 : (0 : Int) < (n : Int) := by omega
  have n2 : (q : Int) < (n : Int) := by omega
  have n3 : (n : Int) ≤ 136 := by omega
  have hqn : q < n := by omega
  have hgl := hg.lt
  have H0 := Lib.hid ((Hs.start hg).alloc (.cells (AB n fun _ => 0) 5))
  have R0 := Lib.hid (show RowB (w.alloc (.cells (AB n fun _ => 0) 5)) w.heap.size n (fun _ => 0) from row1 _ _)
  have HT := Lib.hid hT
  have HKK := Lib.hid hkk
  have HQ := Lib.hid hq
  have HN := Lib.hid hn
  clear hT hg hkk hq hn
  go_enter Tryd.func31, Tryd.ntmps31
  go_upto_region 1 with (((with_reducible apply lay_make); (case hgd => exact rfl); (case ho => exact rfl); (case hx => exact rfl); (case hy => exact rfl); (case hl => exact Nat.le_refl _); (case hc => omega); intro _ _; go_simp))
  generalize w.alloc (.cells (AB n fun _ => 0) 5) = W at H0 R0 ⊢
  have hc0 := R0.out.cell 0 (by omega)
  have hz0 := R0.out.thaw 0
  go_upto_region 2 with fail
  have H1 := Lib.hid (H0.out.cellOther hgl w.heap.size 0 (.int .u8 31) (Nat.le_refl _))
  have R1 := Lib.hid (show RowB (W.setCell ⟨w.heap.size, 0, none⟩ (.int .u8 31)) w.heap.size n pad0 from R0.out.setCell 0 31)
  clear H0 R0 hc0 hz0
  generalize W.setCell ⟨w.heap.size, 0, none⟩ (.int .u8 31) = W1 at H1 R1 ⊢
  have hc0 := R1.out.cell q hqn
  have hz0 := R1.out.thaw q
  have ex : bits .xor .u8 (U8 (pad0 q)) 128 = U8 (pad0 q ^^^ 128) := xor_u8 _ 128
  go_upto_region 3 with fail
  have H2 := Lib.hid (H1.out.cellOther hgl w.heap.size q (U (pad0 q ^^^ 128)) (Nat.le_refl _))
  have R2 := Lib.hid (show RowB (W1.setCell ⟨w.heap.size, q, none⟩ (U (pad0 q ^^^ 128))) w.heap.size n (upd8 pad0 q (pad0 q ^^^ 128)) from R1.out.setCell q _)
  clear H1 R1 hc0 hz0 ex
  generalize W1.setCell ⟨w.heap.size, q, none⟩ (U (pad0 q ^^^ 128)) = W2 at H2 R2 ⊢
  have H3 := Lib.hid (H2.out.alloc (.cells #[.slice (some ⟨w.heap.size, 0, none⟩) n n] 25))
  have R3 := Lib.hid (R2.out.alloc (.cells #[.slice (some ⟨w.heap.size, 0, none⟩) n n] 25))
  have P3 := Lib.hid (row1 W2 (.cells #[.slice (some ⟨w.heap.size, 0, none⟩) n n] 25))
  have hsz := H2.out.size
  clear H2 R2
  go_wp2_with fail
  have hne : W2.heap.size ≠ g := by omega
  refine (take_any g h (some ⟨W2.heap.size, 0, none⟩) 1 1 (fun _ => ⟨some ⟨w.heap.size, 0, none⟩, n, n, upd8 pad0 q (pad0 q ^^^ 128)⟩) _ (H3.out.tabs h2 HT.out) h2 H3.out.row hk (Pc.one P3.out hne (Nat.le_refl _) (R3.out.sg (by omega))) (by omega)).mono ?_
  rintro e w4 ⟨rfl, hs4⟩
  have H4 := Lib.hid (H3.out.trans hs4)
  clear hs4 H3 R3 P3
  go_wp2_with ((with_reducible apply lay_store_t); (case hgd => exact rfl); (case ho => exact rfl); (case hx => exact rfl); (case hy => exact rfl); (case hg => exact H4.out.row); intro _ _; go_simp)
  refine bodyPost_end (results_none Tryd.results31 _ _ _) rfl ⟨rfl, (H4.out.set _).eq ?_⟩
  unfold HS.fill
  have hkq : 135 - h.k = q := by have := HKK.out; have := HQ.out; omega
  have hkn : 136 - h.k = n := by have := HKK.out; have := HQ.out; have := HN.out; omega
  rw [hkn]
  show { takeN h _ n with tl := true } = _
  unfold padF
  rw [hkq]
  rfl
end Go.Proofs.YtjppmeihobcenaaDoor
