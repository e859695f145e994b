/-
  Which models the laws do not look at: plain data; readings of slices. Nothing of the program.
-/
import Derived.Test.YtkhjnicmbkklpaaMAlike
namespace Go.Proofs.Ytkhjnicmbkklpaa
open Go.RowKit
set_option maxRecDepth 100000

theorem slc_long {α : Type} {R : Reader α} {n : Nat} {w : World} {v : Value} {L : List α} (h : Slc R n w v L) : ∃ (p : Option Addr) (l c : Nat), v = .slice p l c ∧ l = L.length := by
  obtain ⟨p, b, off, c, len, h1, _, h2⟩ := h
  exact ⟨p, len, c, h1, h2.long⟩
def longC (c : PCon) : Bool := decide (150 < c.vars.length) || (decide (150 < c.coefs.length) || decide (150 < c.nums.length))
def consB (L : List PCon) : Bool := decide (30 < L.length) || L.any longC
theorem cons_short {L : List PCon} (h : consB L = false) : L.length ≤ 30 ∧ ∀ c ∈ L, Short 150 c := by
  simp only [consB, Bool.or_eq_false_iff, decide_eq_false_iff_not, List.any_eq_false] at h
  refine ⟨by omega, fun c hc => ?_⟩
  have := h.2 c hc
  simp [longC] at this
  unfold Short
  omega
theorem any_at {α : Type} (f : α → Bool) {L : List α} {k : Nat} {a : α} (h : L[k]? = some a) : (L.drop k).any f = (f a || (L.drop (k + 1)).any f) := by
  obtain ⟨h1, e1⟩ := List.getElem?_eq_some_iff.1 h
  rw [List.drop_eq_getElem_cons h1, List.any_cons, e1]
theorem any_end {α : Type} (f : α → Bool) {L : List α} {k : Nat} (h : L.length ≤ k) : (L.drop k).any f = false := by
  rw [List.drop_of_length_le h]
  rfl

def longD (d : PDecl) : Bool := decide (100 < d.name.length) || decide (150 < d.dom.length)
def longB (b : PBlock) : Bool := decide (30 < b.vars.length) || (consB b.cons || b.vars.any longD)
def largeB (m : PModel) : Bool := decide (30 < m.blocks.length) || (consB m.goal || m.blocks.any longB)
end Go.Proofs.Ytkhjnicmbkklpaa
