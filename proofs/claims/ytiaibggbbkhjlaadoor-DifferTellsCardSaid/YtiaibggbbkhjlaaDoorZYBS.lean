/-
  What came in: a domain, as a list of numbers and a set of places; a slice of spans, as a list.
  What came in: domains, rows of numbers.
-/
import Derived.Test.YtiaibggbbkhjlaaDoorZYAM
import Derived.Test.YtiaibggbbkhjlaaDoorZYBR
import Derived.Lib.SmallJoins
import Derived.ChangeSlices
import Derived.ChangeArms
import Derived.Deep.SlicePairs
import Derived.Test.YtiaibggbbkhjlaaDoorZJMem
namespace Go.Proofs.YtiaibggbbkhjlaaDoor.Dm
open Go.ChangeShapes Go.WideShapes Go.ChangeAt Go.RowKit

theorem cells3 : Tryd.prog.cellsOf 3 = 1 := by kernel_rfl
section
variable {H : Type} {enc : TypeId × Value → H} {W : World} {base : Nat} {v : Value} {d : DataW H} {ps : List MemPlace}

set_option maxRecDepth 100000 in
/-- a domain that came in -/
theorem openedD (hval : Value.okWide Tryd.prog W .any base 47 v) (h : DataW.Trod enc Tryd.prog W 0 (fun _ => true) true 47 v d ps) :
    ∃ (s : Value) (xs : List Int) (x : Nat), v = .agg #[s, .int .u64 x] ∧ x < 18446744073709551616 ∧ ReadsN W s xs ∧ xs.length ≤ maxLen := by
  obtain ⟨v0, v1, y0, y1, n, rfl, rfl, rfl, h0, h1⟩ := Go.Joins.open_agg2 Tryd.underlying47 (by kernel_rfl) (by kernel_rfl) hval h
  obtain ⟨k, hk, _, hw⟩ := DataW.trod_int Tryd.underlying45 h1
  obtain rfl : v1 = .int .u64 k := by simpa using hk
  obtain ⟨x, rfl, hx⟩ := fitu hw
  refine ⟨v0, ?_⟩
  rcases open_ints Tryd.underlying22 Tryd.underlying3 cells3 h0 with ⟨hcs, _⟩ | ⟨a, len, cap, zs, hcs, _, hl, hm, hz, _, hcell, _⟩
  · obtain rfl : v0 = .slice none 0 0 := by simpa using hcs
    exact ⟨[], x, rfl, hx, .inl ⟨rfl, rfl⟩, by simp⟩
  · obtain rfl : v0 = .slice (some a) len cap := by simpa using hcs
    simp only [if_true] at hz
    have hlen : (zs.take len).length = len := by rw [List.length_take]; omega
    have hget : ∀ k, k < len → (zs.take len).getD k 0 = zs.getD k 0 := fun k hk => by simp [hk]
    by_cases e0 : len = 0
    · subst e0
      exact ⟨[], x, rfl, hx, .inr (.inl ⟨a, cap, rfl, rfl⟩), by simp⟩
    · obtain ⟨b, off, spot⟩ := a
      have hspot : spot = none := by simpa [Addr.add] using World.cell?_spot (hcell 0 (by omega))
      subst hspot
      refine ⟨zs.take len, x, rfl, hx, .inr (.inr ⟨b, off, cap, by rw [hlen], fun k hk => ?_⟩), by omega⟩
      rw [hlen] at hk
      rw [hget k hk, ← add_plain]
      exact hcell k (by omega)

end
end Go.Proofs.YtiaibggbbkhjlaaDoor.Dm
namespace Go.Proofs.YtiaibggbbkhjlaaDoor.St
open Go.ChangeShapes Go.WideShapes Go.ChangeAt Go.RowKit
set_option maxRecDepth 100000

section
variable {H : Type} {enc : TypeId × Value → H} {W : World} {base : Nat} {held : Bool}
theorem readsN_in {fuel : Nat} {u : Value} {x : DataW H × List MemPlace} (g0 : DataW.trod enc Tryd.prog W base (fun _ => true) held fuel 22 [u] = some x) : ∃ xs, Dm.ReadsN W u xs ∧ xs.length ≤ maxLen := by
  rcases open_ints Tryd.underlying22 Tryd.underlying3 Dm.cells3 g0 with ⟨hcs, _⟩ | ⟨a, len, cap, zs, hcs, _, hl, hm, hz, _, hcell, _⟩
  · obtain rfl : u = .slice none 0 0 := by simpa using hcs
    exact ⟨[], .inl ⟨rfl, rfl⟩, by simp⟩
  · obtain rfl : u = .slice (some a) len cap := by simpa using hcs
    simp only [if_true] at hz
    have hlen : (zs.take len).length = len := by rw [List.length_take]; omega
    have hget : ∀ k, k < len → (zs.take len).getD k 0 = zs.getD k 0 := fun k hk => by simp [hk]
    by_cases e0 : len = 0
    · subst e0
      exact ⟨[], .inr (.inl ⟨a, cap, rfl, rfl⟩), by simp⟩
    · obtain ⟨b, off, spot⟩ := a
      have hspot : spot = none := by simpa [Addr.add] using World.cell?_spot (hcell 0 (by omega))
      subst hspot
      refine ⟨zs.take len, .inr (.inr ⟨b, off, cap, by rw [hlen], fun k hk => ?_⟩), by omega⟩
      rw [hlen] at hk
      rw [hget k hk, ← Go.WideShapes.add_plain]
      exact hcell k (by omega)
theorem dom_fits : Fits enc Tryd.prog W base held 47 rDom := fun fuel cs x h => by
  obtain ⟨xs, n, _, _, hl, hx, hf⟩ := DataW.trod_struct Tryd.underlying47 h
  have hl : cs.length = 2 := hl.trans (by kernel_rfl)
  have c1 : Tryd.prog.cellsOf 22 = 1 := by kernel_rfl
  have c2 : Tryd.prog.cellsOf 45 = 1 := by kernel_rfl
  match cs, hl, xs, hx with
  | [u, v], _, [y0, y1], _ =>
    have g0 := hf 0 _ rfl
    have g1 := hf 1 _ rfl
    simp [c1, c2] at g0 g1
    obtain ⟨zs, hz, hzl⟩ := readsN_in g0
    obtain ⟨k, hk, _, hw⟩ := DataW.trod_int Tryd.underlying45 g1
    obtain rfl : v = .int .u64 k := by simpa using hk
    obtain ⟨m, rfl, hm⟩ := fitu hw
    exact ⟨(zs, m), u, rfl, hz, hm, hzl⟩
end
section
variable {H : Type} {enc : TypeId × Value → H} {W : World} {base : Nat} {v : Value} {d : DataW H} {ps : List MemPlace}
/-- domains that came in -/
theorem openDs (hval : Value.okWide Tryd.prog W .any base 25 v) (h : DataW.Trod enc Tryd.prog W 0 (fun _ => true) true 25 v d ps) : ∃ L, Slc rDom 2 W v L := by
  obtain ⟨p, m, c, rfl⟩ := okWide_slice Tryd.underlying25 hval
  obtain ⟨fuel, hf⟩ := h
  obtain ⟨v', L, e, hs⟩ := slc_cells (R := rDom) (n := 2) Tryd.underlying25 (by kernel_rfl) (by decide) dom_fits hf
  have e2 : v' = .slice p m c := by simpa [Value.cells] using e.symm
  subst e2
  exact ⟨L, hs⟩
/-- a row of numbers that came in -/
theorem openRow (hval : Value.okWide Tryd.prog W .any base 22 v) (h : DataW.Trod enc Tryd.prog W 0 (fun _ => true) true 22 v d ps) : ∃ L, Slc rNum 1 W v L := by
  obtain ⟨p, m, c, rfl⟩ := okWide_slice Tryd.underlying22 hval
  obtain ⟨fuel, hf⟩ := h
  obtain ⟨v', L, e, hs⟩ := nums_fit hf
  have e2 : v' = .slice p m c := by simpa [Value.cells] using e.symm
  subst e2
  exact ⟨L, hs⟩
end
end Go.Proofs.YtiaibggbbkhjlaaDoor.St
