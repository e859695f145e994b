/-
  What bySum of package linear answers.
  What byFirst of package linear answers: what Iff keeps of the variables of its sum.
-/
import Derived.Test.YtiaibggbbkhjlaaDoorZYBD
import Derived.Test.YtiaibggbbkhjlaaDoorZYAL
import Derived.Deep.RegionHeld3
namespace Go.Proofs.YtiaibggbbkhjlaaDoor.St
open Go.RowKit
set_option maxRecDepth 100000

theorem endP_small {ks : List Int} {D : List (List Int × Nat)} {k : Nat} (h : -1048576 ≤ ks.getD k 0 ∧ ks.getD k 0 ≤ 1048576) : (-1099511627776 ≤ (endP ks D k).1 ∧ (endP ks D k).1 ≤ 1099511627776) ∧ (-1099511627776 ≤ (endP ks D k).2 ∧ (endP ks D k).2 ≤ 1099511627776) := by
  have m0 := mul_le h (left_small (d := D.getD k ([], 0)) 0)
  have m1 := mul_le h (left_small (d := D.getD k ([], 0)) ((leftOf (D.getD k ([], 0))).length - 1))
  unfold endP
  simp only
  omega

end Go.Proofs.YtiaibggbbkhjlaaDoor.St
namespace Go.Proofs.YtiaibggbbkhjlaaDoor.St
open Go.RowKit
set_option maxRecDepth 100000

/-- what is kept of the others -/
def othK (Y N : Bool) (ks : List Int) (P : Nat → Int × Int) (n : Nat) (rel ag : Int) : Nat → Int → Bool :=
  if Y = true then (if N = true then fun _ _ => true else sumK ks P n rel ag) else if N = true then sumK ks P n (contrary rel) ag else fun _ _ => false
theorem contrary_in {r : Int} (h : 0 ≤ r ∧ r ≤ 5) : 0 ≤ contrary r ∧ contrary r ≤ 5 := by
  rcases (by omega : r = 0 ∨ r = 1 ∨ r = 2 ∨ r = 3 ∨ r = 4 ∨ r = 5) with rfl | rfl | rfl | rfl | rfl | rfl <;> decide
theorem heldF {W0 u u' : World} {p0 p1 : Addr} {a0 a1 : Value} (h : u.cell? p0 = some a0 ∧ u.cell? p1 = some a1 ∧ Below W0.heap.size W0 u) (hb : Below u.heap.size u u') :
    u'.cell? p0 = some a0 ∧ u'.cell? p1 = some a1 ∧ Below W0.heap.size W0 u' :=
  ⟨cell_below hb h.1, cell_below hb h.2.1, below_two h.2.2 hb⟩
theorem heldFb {W0 u : World} {p0 p1 : Addr} {a0 a1 : Value} (h : u.cell? p0 = some a0 ∧ u.cell? p1 = some a1 ∧ Below W0.heap.size W0 u) : Below W0.heap.size W0 u := h.2.2

end Go.Proofs.YtiaibggbbkhjlaaDoor.St
