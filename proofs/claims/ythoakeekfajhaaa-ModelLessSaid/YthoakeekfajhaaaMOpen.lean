/-
  What came in: models and constraints, their values open.
-/
import Derived.Test.YthoakeekfajhaaaNLaw
import Derived.Lib.SmallJoins
namespace Go.Proofs.Ythoakeekfajhaaa
open Go.ChangeShapes Go.WideShapes Go.ChangeAt Go.RowKit

section
variable {H : Type} {enc : TypeId × Value → H} {W : World} {base : Nat} {v : Value} {d : DataW H} {ps : List MemPlace}
theorem array_of_list {cs : Array Value} {l : List Value} (h : cs.toList = l) : cs = l.toArray := by
  subst h
  simp
/-- a model that came in -/
theorem openM (hval : Value.okWide Try.prog W .any base 25 v) (h : DataW.Trod enc Try.prog W 0 (fun _ => true) true 25 v d ps) : ∃ v1 v2 m, v = .agg #[v1, v2] ∧ rModel W [v1, v2] m := by
  obtain ⟨cs, rfl, _⟩ := okWide_struct Try.underlying25 hval
  obtain ⟨m, hm⟩ := openedM h
  have hm2 : rModel W cs.toList m := hm
  have hm3 := hm2
  obtain ⟨v1, v2, e, _⟩ := hm2
  rw [e] at hm3
  exact ⟨v1, v2, m, by rw [array_of_list e], hm3⟩
/-- a constraint that came in -/
theorem openC (hval : Value.okWide Try.prog W .any base 28 v) (h : DataW.Trod enc Try.prog W 0 (fun _ => true) true 28 v d ps) : ∃ (c : PCon) (v1 v2 v3 : Value), v = .agg #[.int .i64 c.kind, v1, v2, .int .i64 c.rel, .int .i64 c.const, v3] ∧ rCon W [.int .i64 c.kind, v1, v2, .int .i64 c.rel, .int .i64 c.const, v3] c := by
  obtain ⟨cs, rfl, _⟩ := okWide_struct Try.underlying28 hval
  obtain ⟨c, hm⟩ := openedC h
  have hm2 : rCon W cs.toList c := hm
  have hm3 := hm2
  obtain ⟨v1, v2, v3, e, _⟩ := hm2
  rw [e] at hm3
  exact ⟨c, v1, v2, v3, by rw [array_of_list e], hm3⟩
end
end Go.Proofs.Ythoakeekfajhaaa
