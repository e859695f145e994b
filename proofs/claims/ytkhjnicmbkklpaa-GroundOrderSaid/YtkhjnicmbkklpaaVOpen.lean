/-
  What came in: lists of constraints and of numbers, their values open.
-/
import Derived.Test.YtkhjnicmbkklpaaMOpen
namespace Go.Proofs.Ytkhjnicmbkklpaa
open Go.ChangeShapes Go.WideShapes Go.ChangeAt Go.RowKit
set_option maxRecDepth 100000

section
variable {H : Type} {enc : TypeId × Value → H} {W : World} {base : Nat} {v : Value} {d : DataW H} {ps : List MemPlace}
/-- a list of constraints that came in -/
theorem openLC (hval : Value.okWide Try.prog W .any base 22 v) (h : DataW.Trod enc Try.prog W 0 (fun _ => true) true 22 v d ps) : ∃ L, Slc rCon 6 W v L := by
  obtain ⟨p, m, c, rfl⟩ := okWide_slice Try.underlying22 hval
  obtain ⟨fuel, hf⟩ := h
  obtain ⟨v', L, e, hs⟩ := cons_fit hf
  have e2 : v' = .slice p m c := by simpa [Value.cells] using e.symm
  subst e2
  exact ⟨L, hs⟩
/-- a list of numbers that came in -/
theorem openLI (hval : Value.okWide Try.prog W .any base 23 v) (h : DataW.Trod enc Try.prog W 0 (fun _ => true) true 23 v d ps) : ∃ L, Slc rNum 1 W v L := by
  obtain ⟨p, m, c, rfl⟩ := okWide_slice Try.underlying23 hval
  obtain ⟨fuel, hf⟩ := h
  obtain ⟨v', L, e, hs⟩ := nums_fit hf
  have e2 : v' = .slice p m c := by simpa [Value.cells] using e.symm
  subst e2
  exact ⟨L, hs⟩
end
end Go.Proofs.Ytkhjnicmbkklpaa
