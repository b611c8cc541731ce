/-
  The contracts of Write and Read.
-/
import Derived.Test.YtjppmeihobcenaaDoorShTell
import Derived.Test.YtjppmeihobcenaaDoorShOut
import Derived.Deep.Cut
namespace Go.Proofs.YtjppmeihobcenaaDoor
open Go.RowKit

set_option maxHeartbeats 800000 in
theorem write_nil (a : Option Addr) (n c : Nat) (w : World) : Calls Tryd.prog 15 #[.pointer none, .slice a n c] w fun e w' => e = .returned (.int .i64 2) ∧ w' = w := by
  go_enter Tryd.func15, Tryd.ntmps15
  go_wp2_with fail
  go_ret
  exact ⟨rfl, rfl⟩
set_option maxHeartbeats 800000 in
theorem write_late (g : Nat) (h : HS) (a : Option Addr) (n c : Nat) (w : World) (hg : Lies w g h) (ht : h.tl = true) : Calls Tryd.prog 15 #[.pointer (some ⟨g, 0, none⟩), .slice a n c] w fun e w' => e = .returned (.int .i64 16) ∧ w' = w := by
  have hc := hg.t
  rw [ht] at hc
  clear ht hg
  go_enter Tryd.func15, Tryd.ntmps15
  go_wp2_with fail
  go_ret
  exact ⟨rfl, rfl⟩
set_option maxHeartbeats 800000 in
theorem write_any (g : Nat) (h : HS) (a : Option Addr) (n c : Nat) (f : Nat → BitVec 8) (w : World) (hT : Tabs w) (h2 : 2 ≤ g) (hg : Lies w g h) (hk : h.k < 136) (ht : h.tl = false) (hS : Sg w g a n c f) :
    Calls Tryd.prog 15 #[.pointer (some ⟨g, 0, none⟩), .slice a n c] w fun e w' => e = .returned (.int .i64 0) ∧ Hs w g w' (takeN h f n) := by
  have hc := hg.t
  rw [ht] at hc
  have HT := Lib.hid hT
  have H1 := Lib.hid ((Hs.start hg).alloc (.cells #[.slice a n c] 25))
  have S1 := Lib.hid (hS.below ((Below.refl _ _).alloc (Nat.le_refl _) (.cells #[.slice a n c] 25)))
  have P1 := Lib.hid (row1 w (.cells #[.slice a n c] 25))
  have hgl := hg.lt
  clear ht hg hT hS
  go_enter Tryd.func15, Tryd.ntmps15
  go_wp2_with fail
  refine (take_any g h (some ⟨w.heap.size, 0, none⟩) 1 1 (fun _ => ⟨a, n, c, f⟩) _ (H1.out.tabs h2 HT.out) h2 H1.out.row hk (Pc.one P1.out (by omega) (Nat.le_refl _) S1.out) (by omega)).mono ?_
  rintro e w4 ⟨rfl, hs4⟩
  have H4 := Lib.hid (H1.out.trans hs4)
  clear hs4 H1 S1 P1
  go_wp2_with fail
  go_ret
  exact ⟨rfl, H4.out⟩
set_option maxHeartbeats 800000 in
theorem read_nil (n : Int) (w : World) : Calls Tryd.prog 16 #[.pointer none, .int .i64 n] w fun e w' => e = .returned (.tuple #[.slice none 0 0, .int .i64 2]) ∧ w' = w := by
  go_enter Tryd.func16, Tryd.ntmps16
  go_wp2_with fail
  refine bodyPost_ret (results_tmp2 Tryd.results16 _ _ _) rfl ⟨rfl, rfl⟩
set_option maxHeartbeats 800000 in
theorem asked_far (n : Int) (v : Value) (w : World) (hn : n < 0 ∨ 65536 < n) : Calls Tryd.prog 19 #[.int .i64 n, v] w fun e w' => e = .returned (.tuple #[.slice none 0 0, .int .i64 10]) ∧ w' = w := by
  by_cases h0 : n < 0
  · clear hn
    have hd : decide (n < 0) = true := by simp; omega
    go_enter Tryd.func19, Tryd.ntmps19
    go_wp2_with fail
    refine bodyPost_ret (results_tmp2 Tryd.results19 _ _ _) rfl ⟨rfl, rfl⟩
  · have h1 : 65536 < n := by omega
    have hd : decide (n < 0) = false := by simp; omega
    have hd1 : decide (65536 < n) = true := by simp; omega
    clear hn
    go_enter Tryd.func19, Tryd.ntmps19
    go_wp2_with fail
    refine bodyPost_ret (results_tmp2 Tryd.results19 _ _ _) rfl ⟨rfl, rfl⟩
set_option maxHeartbeats 800000 in
theorem asked_hash (n : Nat) (p : Value) (w : World) (hn : n ≤ 65536) {R : Value → World → Prop} (hc : Calls Tryd.prog 26 #[p, .int .i64 n] w fun e w' => ∃ v, e = .returned v ∧ R v w') :
    Calls Tryd.prog 19 #[.int .i64 n, .func (Fn.func 26) #[p] #[]] w fun e w' => ∃ v, e = .returned (.tuple #[v, .int .i64 0]) ∧ R v w' := by
  have hd : decide ((n : Int) < 0) = false := by simp
  have hd1 : decide ((65536 : Int) < (n : Int)) = false := by simp; omega
  have HC := Lib.hid hc
  clear hc
  go_enter Tryd.func19, Tryd.ntmps19
  go_wp2_with fail
  refine HC.out.mono ?_
  rintro e w1 ⟨v, rfl, hr⟩
  go_wp2_with fail
  refine bodyPost_ret (results_tmp2 Tryd.results19 _ _ _) rfl ⟨v, rfl, hr⟩
set_option maxHeartbeats 800000 in
theorem asked_pieces (n : Nat) (p : Value) (w : World) (hn : n ≤ 65536) {R : Value → World → Prop} (hc : Calls Tryd.prog 20 #[p, .int .i64 n] w fun e w' => ∃ v, e = .returned v ∧ R v w') :
    Calls Tryd.prog 19 #[.int .i64 n, .func (Fn.func 20) #[p] #[]] w fun e w' => ∃ v, e = .returned (.tuple #[v, .int .i64 0]) ∧ R v w' := by
  have hd : decide ((n : Int) < 0) = false := by simp
  have hd1 : decide ((65536 : Int) < (n : Int)) = false := by simp; omega
  have HC := Lib.hid hc
  clear hc
  go_enter Tryd.func19, Tryd.ntmps19
  go_wp2_with fail
  refine HC.out.mono ?_
  rintro e w1 ⟨v, rfl, hr⟩
  go_wp2_with fail
  refine bodyPost_ret (results_tmp2 Tryd.results19 _ _ _) rfl ⟨v, rfl, hr⟩
set_option maxHeartbeats 800000 in
theorem read_far (p : Addr) (n : Int) (w : World) (hn : n < 0 ∨ 65536 < n) : Calls Tryd.prog 16 #[.pointer (some p), .int .i64 n] w fun e w' => e = .returned (.tuple #[.slice none 0 0, .int .i64 10]) ∧ w' = w := by
  have HC := Lib.hid hn
  clear hn
  go_enter Tryd.func16, Tryd.ntmps16
  go_wp2_with fail
  refine (asked_far n _ w HC.out).mono ?_
  rintro e w1 ⟨rfl, rfl⟩
  go_wp2_with fail
  refine bodyPost_ret (results_tmp2 Tryd.results16 _ _ _) rfl ⟨rfl, rfl⟩
set_option maxHeartbeats 800000 in
theorem read_any (g : Nat) (h : HS) (n : Nat) (w : World) (hT : Tabs w) (h2 : 2 ≤ g) (hg : Lies w g h) (hk : h.k ≤ 136) (hl : h.tl = false → h.k < 136) (hn : n ≤ 65536) :
    Calls Tryd.prog 16 #[.pointer (some ⟨g, 0, none⟩), .int .i64 n] w fun e w' => ∃ v, e = .returned (.tuple #[v, .int .i64 0]) ∧ Told w g h n v w' := by
  have HC := Lib.hid (asked_hash n _ w hn (tell_any g h n w hT h2 hg hk hl hn))
  clear hT hg hl
  go_enter Tryd.func16, Tryd.ntmps16
  go_wp2_with fail
  refine HC.out.mono ?_
  rintro e w1 ⟨v, rfl, hr⟩
  go_wp2_with fail
  refine bodyPost_ret (results_tmp2 Tryd.results16 _ _ _) rfl ⟨v, rfl, hr⟩

/-- What Sum leaves: n bytes in a row of its own. -/
def Summed (w : World) (h : HS) (n : Nat) (v : Value) (w' : World) : Prop :=
  ∃ b, v = .slice (some ⟨b, 0, none⟩) n n ∧ w.heap.size ≤ b ∧ RowB w' b n (tellB h.opened) ∧ Below w.heap.size w w'
set_option maxHeartbeats 800000 in
theorem pieces_any (a : Option Addr) (n c : Nat) (p : Nat → Piece) (m : Nat) (w : World) (hT : Tabs w) (hp : Pc w w.heap.size a n c p) (hn : n ≤ 9223372036854775806) (hm : m ≤ 65536) :
    Calls Tryd.prog 20 #[.slice a n c, .int .i64 m] w fun e w' => ∃ v, e = .returned v ∧ Summed w (takeP zeroH p n) m v w' := by
  have hz := hT.size
  have HT := Lib.hid hT
  have HP := Lib.hid hp
  clear hT hp
  go_enter Tryd.func20, Tryd.ntmps20
  go_wp2_with fail
  refine (new_any w).mono ?_
  rintro e w1 ⟨rfl, rfl⟩
  have HB1 := Lib.hid ((Below.refl w.heap.size w).alloc (Nat.le_refl _) (.cells (HB zeroH) 57))
  have L1 := Lib.hid (Lies.new w zeroH)
  have P1 := Lib.hid (HP.out.below HB1.out)
  have T1 := Lib.hid (HT.out.below HB1.out)
  have hsz : (w.alloc (.cells (HB zeroH) 57)).heap.size = w.heap.size + 1 := by simp
  have HZ := Lib.hid hsz
  clear hsz HP
  generalize w.alloc (.cells (HB zeroH) 57) = W at *
  go_wp2_with fail
  refine (take_any w.heap.size zeroH a n c p _ T1.out hz L1.out (by decide) P1.out hn).mono ?_
  rintro e w2 ⟨rfl, hs2⟩
  have H2 := Lib.hid hs2
  clear hs2
  go_wp2_with fail
  refine (tell_any w.heap.size (takeP zeroH p n) m _ (H2.out.tabs hz T1.out) hz H2.out.row (Nat.le_of_lt (takeP_k _ _ (by decide) _)) (fun _ => takeP_k _ _ (by decide) _) hm).mono ?_
  rintro e w3 ⟨v, rfl, b, rfl, hb, hr, hs3⟩
  go_wp2_with fail
  go_ret
  have h3 := (H2.out.trans hs3).below (Nat.le_refl _) (by have := HZ.out; omega)
  exact ⟨_, rfl, b, rfl, by have := HZ.out; have := H2.out.size; omega, hr, HB1.out.trans h3⟩
set_option maxHeartbeats 800000 in
theorem sum_any (a : Option Addr) (n c : Nat) (p : Nat → Piece) (m : Nat) (w : World) (hT : Tabs w) (hp : Pc w w.heap.size a n c p) (hn : n ≤ 9223372036854775806) (hm : m ≤ 65536) :
    Calls Tryd.prog 10 #[.int .i64 m, .slice a n c] w fun e w' => ∃ v, e = .returned (.tuple #[v, .int .i64 0]) ∧ Summed w (takeP zeroH p n) m v w' := by
  have HC := Lib.hid (asked_pieces m _ w hm (pieces_any a n c p m w hT hp hn hm))
  clear hT hp
  go_enter Tryd.func10, Tryd.ntmps10
  go_wp2_with fail
  refine HC.out.mono ?_
  rintro e w1 ⟨v, rfl, hr⟩
  go_wp2_with fail
  refine bodyPost_ret (results_tmp2 Tryd.results10 _ _ _) rfl ⟨v, rfl, hr⟩
set_option maxHeartbeats 800000 in
theorem sum_far (v : Value) (n : Int) (w : World) (hn : n < 0 ∨ 65536 < n) : Calls Tryd.prog 10 #[.int .i64 n, v] w fun e w' => e = .returned (.tuple #[.slice none 0 0, .int .i64 10]) ∧ w' = w := by
  have HC := Lib.hid hn
  clear hn
  go_enter Tryd.func10, Tryd.ntmps10
  go_wp2_with fail
  refine (asked_far n _ w HC.out).mono ?_
  rintro e w1 ⟨rfl, rfl⟩
  go_wp2_with fail
  refine bodyPost_ret (results_tmp2 Tryd.results10 _ _ _) rfl ⟨rfl, rfl⟩
end Go.Proofs.YtjppmeihobcenaaDoor
