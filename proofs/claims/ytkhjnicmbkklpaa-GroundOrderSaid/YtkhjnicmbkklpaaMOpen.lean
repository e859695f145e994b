/-
  What came in: models and constraints, their values open.
-/
import Derived.Test.YtkhjnicmbkklpaaMLargeN
import Derived.Lib.SmallJoins
namespace Go.Proofs.Ytkhjnicmbkklpaa
open Go.ChangeShapes Go.WideShapes Go.ChangeAt Go.RowKit
set_option maxRecDepth 100000

section
variable {H : Type} {enc : TypeId × Value → H} {W : World} {base : Nat} {v : Value} {d : DataW H} {ps : List MemPlace}
theorem array_of_list {cs : Array Value} {l : List Value} (h : cs.toList = l) : cs = l.toArray := by
  subst h
  simp
/-- a constraint that came in -/
theorem openC (hval : Value.okWide Try.prog W .any base 27 v) (h : DataW.Trod enc Try.prog W 0 (fun _ => true) true 27 v d ps) : ∃ (c : PCon) (v1 v2 v3 : Value), v = .agg #[.int .i64 c.kind, v1, v2, .int .i64 c.rel, .int .i64 c.const, v3] ∧ rCon W [.int .i64 c.kind, v1, v2, .int .i64 c.rel, .int .i64 c.const, v3] c := by
  obtain ⟨cs, rfl, _⟩ := okWide_struct Try.underlying27 hval
  obtain ⟨c, hm⟩ := openedC h
  have hm2 : rCon W cs.toList c := hm
  have hm3 := hm2
  obtain ⟨v1, v2, v3, e, _⟩ := hm2
  rw [e] at hm3
  exact ⟨c, v1, v2, v3, by rw [array_of_list e], hm3⟩
end
end Go.Proofs.Ytkhjnicmbkklpaa
