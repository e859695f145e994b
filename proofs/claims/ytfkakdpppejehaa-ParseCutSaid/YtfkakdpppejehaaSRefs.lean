/-
  What Right, In, Size, Place and Same of the document's answers answer, at every list of spans that can be read.
-/
import Derived.Test.YtfkakdpppejehaaSLeaf
namespace Go.Proofs.Ytfkakdpppejehaa
open Go.RowKit

theorem below_drewN {B n : Nat} {a w : World} (h : Below B a w) : Below B a (w.drewN n) := ⟨h.os, h.tape, h.output, h.size, h.block⟩

/-- as RightRel, with the last end -/
def RRel (L : List (Int × Int)) (k : Nat) : Prop :=
  ∃ z, RightRel L k z ∧ (k = 0 ∧ z = -1048576 ∨ 0 < k ∧ z = (L.getD (k - 1) (0, 0)).2 + 2)

end Go.Proofs.Ytfkakdpppejehaa
