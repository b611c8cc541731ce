/-
  The contracts of chicoryref09. No statement is proved here: lemmas for the walks.
-/
import Derived.Test.YtjcfoilfdmameaaDoorBuX
import Derived.Test.YtjcfoilfdmameaaDoorBuB
import Derived.Test.YtjcfoilfdmameaaDoorZRfPt
import Derived.Test.YtjcfoilfdmameaaDoorZRtRroot
import Derived.Deep.CutRange
namespace Go.Proofs.YtjcfoilfdmameaaDoor
open Go.RowKit



section
variable {ops : Array Oper} {rest : List Oper} {o : Oper} {a : Act} {w w0 : World} {l : List (Nat × Obj)} {Q : Exit → Act → World → Prop} {ty : TypeId} {v : Value} {ad : Addr}




















end














theorem OwnB.like {w : World} {base : Nat} {v : Value} {n : Nat} {f g : Nat → BitVec 8} (h : OwnB w base v n f) (hfg : ∀ i, i < n → f i = g i) : OwnB w base v n g := by
  unfold OwnB at h ⊢
  rwa [List.map_congr_left (fun i hi => by rw [hfg i (List.mem_range.1 hi)])] at h



























































end Go.Proofs.YtjcfoilfdmameaaDoor
