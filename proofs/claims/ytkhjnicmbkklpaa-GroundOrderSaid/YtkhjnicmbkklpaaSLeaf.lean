/-
  What Right, Size, Place, Has and At of the program answer, at every list of spans that can be read.
-/
import Derived.Test.YtkhjnicmbkklpaaRows
import Derived.Test.YtkhjnicmbkklpaaSNum
import Derived.WalkKit
import Derived.ProofKit
import Derived.OpenShut
import Derived.Outline
import Derived.WalkMore
import Derived.Lib.Hide
import Derived.BigGuardPart
import Derived.Deep.DeepCutAuto
import Derived.Deep.Light
import Derived.Deep.QuietTactic
import Derived.BigQuiet
import Derived.LoopTactic
import Derived.Laws.BitsAllLaws
import Derived.Laws.Bits64b
namespace Go.Proofs.Ytkhjnicmbkklpaa
open Go.RowKit

/-- the cells of a list of spans, from an address on -/
def Cells (w : World) (b off : Nat) (L : List (Int × Int)) : Prop :=
  ∀ k, k < L.length → w.cell? ⟨b, off + k * 2, none⟩ = some (.int .i64 (L.getD k (0, 0)).1) ∧ w.cell? ⟨b, off + k * 2 + 1, none⟩ = some (.int .i64 (L.getD k (0, 0)).2)
/-- the slice value v reads as the spans L -/
def Sees (w : World) (v : Value) (L : List (Int × Int)) : Prop :=
  ∃ (p : Option Addr) (b off c : Nat), v = .slice p L.length c ∧ (0 < L.length → p = some ⟨b, off, none⟩) ∧ Cells w b off L

theorem cell_below {w wr : World} {p : Addr} {v : Value} (hB : Below w.heap.size w wr) (h : w.cell? p = some v) : wr.cell? p = some v := by
  have hlt : p.block < w.heap.size := by
    unfold World.cell? at h
    cases hh : w.heap[p.block]? with
    | none => simp [hh] at h
    | some q => exact (Array.getElem?_eq_some_iff.1 hh).1
  exact (hB.cell hlt).trans h
theorem cells_below {w wr : World} {b off : Nat} {L : List (Int × Int)} (h : Cells w b off L) (hB : Below w.heap.size w wr) : Cells wr b off L :=
  fun k hk => ⟨cell_below hB (h k hk).1, cell_below hB (h k hk).2⟩
theorem sees_below {w wr : World} {v : Value} {L : List (Int × Int)} (h : Sees w v L) (hB : Below w.heap.size w wr) : Sees wr v L := by
  obtain ⟨p, b, off, c, h1, h2, h3⟩ := h
  exact ⟨p, b, off, c, h1, h2, cells_below h3 hB⟩
theorem drop_cons {L : List (Int × Int)} {k : Nat} (h : k < L.length) : L.drop k = L.getD k (0, 0) :: L.drop (k + 1) := by
  rw [List.getD_eq_getElem?_getD, List.getElem?_eq_getElem h]
  exact List.drop_eq_getElem_cons h
theorem drop_end {L : List (Int × Int)} {k : Nat} (h : L.length ≤ k) : L.drop k = [] := List.drop_eq_nil_of_le h

def RightRel (L : List (Int × Int)) (k : Nat) (z : Int) : Prop := rightL L = rightF z (L.drop k) ∧ -1048576 ≤ z ∧ z ≤ 1048578

theorem below_two {w w1 w2 : World} (h1 : Below w.heap.size w w1) (h2 : Below w1.heap.size w1 w2) : Below w.heap.size w w2 := by
  exact h1.trans (h2.mono h1.size)

/-- behind the spans ahead of place k: what is left is right, from z on -/
def Rest (L : List (Int × Int)) (k : Nat) (z : Int) : Prop := rightF z (L.drop k) = true ∧ -1048576 ≤ z
theorem rest_start {L : List (Int × Int)} (h : rightL L = true) : Rest L 0 (-1048576) := ⟨h, by omega⟩
theorem rest_on {L : List (Int × Int)} {k : Nat} {z x y : Int} (h : Rest L k z) (hk : k < L.length) (ex : x = (L.getD k (0, 0)).1) (ey : y = (L.getD k (0, 0)).2) :
    Rest L (k + 1) (y + 2) ∧ z ≤ x ∧ x ≤ y ∧ y ≤ 1048576 ∧ -1048576 ≤ z ∧ 0 ≤ sizeL (L.drop (k + 1)) := by
  obtain ⟨h1, h2⟩ := h
  rw [drop_cons hk, right_cons, ← ex, ← ey] at h1
  obtain ⟨g1, g2, g3, g4⟩ := h1
  exact ⟨⟨g4, by omega⟩, g1, g2, g3, h2, (size_bound g4).1⟩

def SizeRel (L : List (Int × Int)) (k : Nat) (n : Int) : Prop := sizeL L = n + sizeL (L.drop k) ∧ 0 ≤ n ∧ ∃ z, Rest L k z
theorem size_on {L : List (Int × Int)} {k : Nat} {n x y : Int} (h : SizeRel L k n) (hk : k < L.length) (ex : x = (L.getD k (0, 0)).1) (ey : y = (L.getD k (0, 0)).2) : SizeRel L (k + 1) (n + (y - x + 1)) := by
  obtain ⟨h1, h2, z, h3⟩ := h
  obtain ⟨g1, g2⟩ := rest_on h3 hk ex ey
  refine ⟨?_, by omega, _, g1⟩
  rw [h1, drop_cons hk, sizeL, ex, ey]
  omega

end Go.Proofs.Ytkhjnicmbkklpaa
