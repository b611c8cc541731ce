/-
  The contract of number.double.
-/
import Derived.Test.YtmnokjapapheiaaNuTrim
import Derived.Test.YtmnokjapapheiaaNuBitM
namespace Go.Proofs.Ytmnokjapapheiaa
open Go.RowKit

@[go_sem] theorem u64_shl1 (x : BitVec 64) : IntKind.u64.wrap (L x * 2) = L (shl x 1) := u64_shl x 1
@[go_sem] theorem u64_shr63 (x : BitVec 64) : L x / 9223372036854775808 = L (shr x 63) := u64_shr x 63
set_option maxHeartbeats 1000000 in
theorem double_any (g N x b : Nat) (w : World) (hN : N ≤ 1000000) (hb : b ≤ 1) (hr : RowW w g N (wd x)) :
    Calls Try.prog 47 #[.slice (some ⟨g, 0, none⟩) N N, .int .i64 b] w fun e w' => e = .returned (.tuple #[]) ∧ RowW w' g N (wd (2 * x + b)) ∧ Below g w w' := by
  have HR := Lib.hid hr
  clear hr
  have hN' : (N : Int) ≤ 1000000 := by omega
  have hb' : (b : Int) ≤ 1 := by omega
  go_enter Try.func47, Try.ntmps47
  go_wp2_with fail
  go_loopw [4, 11] (fun v4 v11 wr => ∃ i : Nat, i ≤ N ∧ v11 = .int .i64 i ∧ v4 = V (lowb x b i) ∧ RowW wr g N (mix i (wd (2 * x + b)) (wd x)) ∧ Below g w wr) (fun _ v11 _ => N - (intOf v11).toNat)
  case atStart => exact ⟨0, by omega, rfl, by unfold lowb; rw [if_pos rfl, V_eq (n := b) (by rw [BitVec.toNat_ofNat]; omega)], by rw [mix_zero]; exact HR.out, Below.refl _ _⟩
  case round =>
    clear HR
    obtain ⟨i, hi, rfl, rfl, HW, HB⟩ := hrel
    by_cases hlt : i < N
    · have hid : decide ((i : Int) < (N : Int)) = true := by simp; omega
      have iN : (i : Int) < (N : Int) := by omega
      have hc : wr.cell? ⟨g, i, none⟩ = some (V (wd x i)) := by rw [HW.cell i hlt, mix_at]
      have hz := HW.thaw i
      have H1 := Lib.hid HW
      have H2 := Lib.hid HB
      clear HW HB
      go_wp2_with fail
      go_roundw
      case rel => exact ⟨i + 1, by omega, by go_num, by rw [lowb_succ], by rw [← mix_upd, wd_double _ _ _ hb]; exact H1.out.setCell i _, H2.out.setCell (Nat.le_refl _) _⟩
      case measure => simp [intOf]; omega
    · obtain rfl : i = N := by omega
      have H1 := Lib.hid HW
      have H2 := Lib.hid HB
      clear HW HB
      go_wp2_with fail
      go_end0
      exact ⟨rfl, H1.out.congr fun k hk => mix_all _ _ _ k hk, H2.out⟩
end Go.Proofs.Ytmnokjapapheiaa
