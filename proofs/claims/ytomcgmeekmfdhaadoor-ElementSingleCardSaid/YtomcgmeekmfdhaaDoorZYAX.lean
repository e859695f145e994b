/-
  What None and Wiped of the document's answers for steps answer.
  What Wiped of the document's answers for steps answers.
  What may, Contrary and has of the document's answers for linear steps answer.
-/
import Derived.Test.YtomcgmeekmfdhaaDoorZYAW
namespace Go.Proofs.YtomcgmeekmfdhaaDoor.St
open Go.RowKit
set_option maxRecDepth 100000

/-- lists, some of which are set anew, place by place -/
def setTo (M : List (List Int)) (vars : List Int) (f : Nat → List Int) (j : Nat) : List (List Int) := (List.range j).foldl (fun A k => A.set (vars.getD k 0).toNat (f k)) M
theorem setTo_succ (M : List (List Int)) (vars : List Int) (f : Nat → List Int) (j : Nat) : setTo M vars f (j + 1) = (setTo M vars f j).set (vars.getD j 0).toNat (f j) := by
  unfold setTo
  rw [List.range_succ, List.foldl_append]
  rfl
theorem setTo_length (M : List (List Int)) (vars : List Int) (f : Nat → List Int) : ∀ j, (setTo M vars f j).length = M.length
  | 0 => rfl
  | j + 1 => by rw [setTo_succ, List.length_set, setTo_length M vars f j]
def noneL (M : List (List Int)) (vars : List Int) : List (List Int) := setTo M vars (fun _ => []) vars.length

theorem cell_lies {w W0 wr : World} {B : Nat} {p : Addr} {x : Value} (h0 : Below w.heap.size w W0) (h : Below B W0 wr) (hB : w.heap.size ≤ B) (hc : w.cell? p = some x) : wr.cell? p = some x := by
  have h1 := cell_below h0 hc
  have h2 := Dm.cell_lt hc
  exact (h.cell (Nat.lt_of_lt_of_le h2 hB)).trans h1

end Go.Proofs.YtomcgmeekmfdhaaDoor.St
namespace Go.Proofs.YtomcgmeekmfdhaaDoor.St
open Go.RowKit
set_option maxRecDepth 100000

/-- is nothing left of one of the first j variables? -/
def wipeTo (M : List (List Int)) (vars : List Int) (j : Nat) : Bool := (vars.take j).any fun v => decide ((M.getD v.toNat []).length = 0)
theorem wipeTo_succ {M : List (List Int)} {vars : List Int} {j : Nat} (h : j < vars.length) : wipeTo M vars (j + 1) = (wipeTo M vars j || decide ((M.getD (vars.getD j 0).toNat []).length = 0)) := by
  unfold wipeTo
  rw [List.take_succ_eq_append_getElem h, List.any_append]
  simp [List.getD, List.getElem?_eq_getElem h]
def wipedL (M : List (List Int)) (vars : List Int) : List (List Int) := if wipeTo M vars vars.length = true then noneL M vars else M

end Go.Proofs.YtomcgmeekmfdhaaDoor.St
namespace Go.Proofs.YtomcgmeekmfdhaaDoor.St
open Go.RowKit
set_option maxRecDepth 100000

/-- may a rel hold? -/
def mayG (low high rel ag : Int) : Bool :=
  if rel = 0 then decide (low ≤ ag) && decide (ag ≤ high) else if rel = 1 then !decide (low = ag) || !decide (high = ag) else if rel = 2 then decide (low < ag) else if rel = 3 then decide (low ≤ ag) else if rel = 4 then decide (ag < high) else decide (ag ≤ high)
/-- the contrary rel -/
def contrary (rel : Int) : Int := if rel < 0 ∨ 5 < rel then rel else if rel = 0 then 1 else if rel = 1 then 0 else if rel = 2 then 5 else if rel = 3 then 4 else if rel = 4 then 3 else 2

/-- is a number in a list? -/
theorem inK_all {K : List Int} {x : Int} : inK K x K.length = decide (x ∈ K) := by
  unfold inK
  rw [List.take_length, Bool.eq_iff_iff]
  simp

theorem inK_up {K : List Int} {x : Int} {j n : Nat} (h : inK K x j = true) (hn : j ≤ n) : inK K x n = true := by
  unfold inK at h ⊢
  rw [List.contains_iff_mem] at h ⊢
  exact (List.take_subset_take_left K hn) h

end Go.Proofs.YtomcgmeekmfdhaaDoor.St
