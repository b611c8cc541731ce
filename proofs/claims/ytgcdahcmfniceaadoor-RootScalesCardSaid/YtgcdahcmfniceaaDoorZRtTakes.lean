/-
  The walk of RootTakes. No statement is proved here: lemmas for the walks.
-/
import Derived.Test.YtgcdahcmfniceaaDoorZRtAwk
import Derived.Test.YtgcdahcmfniceaaDoorZRtRroot
namespace Go.Proofs.YtgcdahcmfniceaaDoor
open Go.RowKit

theorem root_kt {f : Nat → Nat} {a : K} (w : World) (hT : Tp w) (hf : EK f a) (h : a ^ (eC + 1) * a ^ (eC + 1) = a) :
    Calls Tryd.prog 9 #[EV f] w fun e w' => ∃ h, e = .returned (.tuple #[EV h, .int .i64 0]) ∧ EK h (ab (a ^ (eC + 1))) ∧ Below w.heap.size w w' :=
  (root_k w hT hf).mono fun _ _ ⟨h1, hb⟩ => by
    rcases h1 with ⟨_, k, he, hv⟩ | ⟨hn, _⟩
    · exact ⟨k, he, hv, hb⟩
    · exact absurd h hn
theorem root_kf {f : Nat → Nat} {a : K} (w : World) (hT : Tp w) (hf : EK f a) (h : a ^ (eC + 1) * a ^ (eC + 1) ≠ a) :
    Calls Tryd.prog 9 #[EV f] w fun e w' => e = .returned (.tuple #[EV (fun _ => 0), .int .i64 17]) ∧ Below w.heap.size w w' :=
  (root_k w hT hf).mono fun _ _ ⟨h1, hb⟩ => by
    rcases h1 with ⟨hn, _⟩ | ⟨_, he⟩
    · exact absurd hn h
    · exact ⟨he, hb⟩










































































end Go.Proofs.YtgcdahcmfniceaaDoor
