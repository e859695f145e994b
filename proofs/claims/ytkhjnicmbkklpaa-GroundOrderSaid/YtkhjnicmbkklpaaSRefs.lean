/-
  What Right, In, Size, Place and Same of the document's answers answer, at every list of spans that can be read.
-/
import Derived.Test.YtkhjnicmbkklpaaSLeaf
import Derived.Test.YtkhjnicmbkklpaaMAlike
namespace Go.Proofs.Ytkhjnicmbkklpaa
open Go.RowKit


/-- as RightRel, with the last end -/
def RRel (L : List (Int × Int)) (k : Nat) : Prop :=
  ∃ z, RightRel L k z ∧ (k = 0 ∧ z = -1048576 ∨ 0 < k ∧ z = (L.getD (k - 1) (0, 0)).2 + 2)

end Go.Proofs.Ytkhjnicmbkklpaa
