/-
  What came in: masks.
-/
import Derived.Test.YtiaibggbbkhjlaaDoorZYBT
import Derived.Test.YtiaibggbbkhjlaaDoorZYBS
namespace Go.Proofs.YtiaibggbbkhjlaaDoor.St
open Go.ChangeShapes Go.WideShapes Go.ChangeAt Go.RowKit
set_option maxRecDepth 100000

section
variable {H : Type} {enc : TypeId × Value → H} {W : World} {base : Nat} {held : Bool}
theorem u64_fits : Fits enc Tryd.prog W base held 45 rU64 := fun fuel cs x h => by
  obtain ⟨k, rfl, _, hw⟩ := DataW.trod_int Tryd.underlying45 h
  obtain ⟨m, rfl, hm⟩ := fitu hw
  exact ⟨m, rfl, hm⟩
end
section
variable {H : Type} {enc : TypeId × Value → H} {W : World} {base : Nat} {v : Value} {d : DataW H} {ps : List MemPlace}
/-- masks that came in -/
theorem openMs (hval : Value.okWide Tryd.prog W .any base 42 v) (h : DataW.Trod enc Tryd.prog W 0 (fun _ => true) true 42 v d ps) : ∃ L, Slc rU64 1 W v L := by
  obtain ⟨p, m, c, rfl⟩ := okWide_slice Tryd.underlying42 hval
  obtain ⟨fuel, hf⟩ := h
  obtain ⟨v', L, e, hs⟩ := slc_cells (R := rU64) (n := 1) Tryd.underlying42 (by kernel_rfl) (by decide) u64_fits hf
  have e2 : v' = .slice p m c := by simpa [Value.cells] using e.symm
  subst e2
  exact ⟨L, hs⟩
end
end Go.Proofs.YtiaibggbbkhjlaaDoor.St
