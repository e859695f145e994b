/-
  What came in: a domain, as a list of numbers and a set of places; a slice of spans, as a list.
-/
import Derived.Test.YtnabkhmonmcmfaaDoorSApp
import Derived.Test.YtnabkhmonmcmfaaDoorDoor
import Derived.Lib.SmallJoins
import Derived.ChangeSlices
import Derived.ChangeArms
import Derived.Deep.SlicePairs
namespace Go.Proofs.YtnabkhmonmcmfaaDoor
open Go.ChangeShapes Go.WideShapes Go.ChangeAt Go.RowKit

theorem cells3 : Tryd.prog.cellsOf 3 = 1 := by kernel_rfl
theorem cellsSpan : Tryd.prog.cellsOf 58 = 2 := by kernel_rfl

section
variable {H : Type} {enc : TypeId × Value → H} {W : World} {base : Nat} {v : Value} {d : DataW H} {ps : List MemPlace}

set_option maxRecDepth 100000 in
/-- a domain that came in -/
theorem openedD (hval : Value.okWide Tryd.prog W .any base 26 v) (h : DataW.Trod enc Tryd.prog W 0 (fun _ => true) true 26 v d ps) :
    ∃ (s : Value) (xs : List Int) (x : Nat), v = .agg #[s, .int .u64 x] ∧ x < 18446744073709551616 ∧ ReadsN W s xs ∧ xs.length ≤ maxLen := by
  obtain ⟨v0, v1, y0, y1, n, rfl, rfl, rfl, h0, h1⟩ := Go.Joins.open_agg2 Tryd.underlying26 (by kernel_rfl) (by kernel_rfl) hval h
  obtain ⟨k, hk, _, hw⟩ := DataW.trod_int Tryd.underlying24 h1
  obtain rfl : v1 = .int .u64 k := by simpa using hk
  obtain ⟨x, rfl, hx⟩ := fitu hw
  refine ⟨v0, ?_⟩
  rcases open_ints Tryd.underlying23 Tryd.underlying3 cells3 h0 with ⟨hcs, _⟩ | ⟨a, len, cap, zs, hcs, _, hl, hm, hz, _, hcell, _⟩
  · obtain rfl : v0 = .slice none 0 0 := by simpa using hcs
    exact ⟨[], x, rfl, hx, .inl ⟨rfl, rfl⟩, by simp⟩
  · obtain rfl : v0 = .slice (some a) len cap := by simpa using hcs
    simp only [if_true] at hz
    have hlen : (zs.take len).length = len := by rw [List.length_take]; omega
    have hget : ∀ k, k < len → (zs.take len).getD k 0 = zs.getD k 0 := fun k hk => by simp [hk]
    by_cases e0 : len = 0
    · subst e0
      exact ⟨[], x, rfl, hx, .inr (.inl ⟨a, cap, rfl, rfl⟩), by simp⟩
    · obtain ⟨b, off, spot⟩ := a
      have hspot : spot = none := by simpa [Addr.add] using World.cell?_spot (hcell 0 (by omega))
      subst hspot
      refine ⟨zs.take len, x, rfl, hx, .inr (.inr ⟨b, off, cap, by rw [hlen], fun k hk => ?_⟩), by omega⟩
      rw [hlen] at hk
      rw [hget k hk, ← add_plain]
      exact hcell k (by omega)

set_option maxRecDepth 100000 in
/-- a slice of spans that came in reads as a list of spans -/
theorem openedS (hval : Value.okWide Tryd.prog W .any base 22 v) (h : DataW.Trod enc Tryd.prog W 0 (fun _ => true) true 22 v d ps) :
    ∃ (p : Option Addr) (m c : Nat) (L : List (Int × Int)), v = .slice p m c ∧ m = L.length ∧ Sees W v L := by
  obtain ⟨p, m, c, rfl⟩ := okWide_slice Tryd.underlying22 hval
  obtain ⟨fuel, hf⟩ := h
  rcases Go.Deep.open_slice_pairs Tryd.underlying22 Tryd.underlying58 cellsSpan rfl rfl cells3 cells3 hf with ⟨hcs, hx⟩ | ⟨a, len, cap, m', n', V0, V1, D0, D1, P0, P1, hcs, _, hl, hm, hmm, hx, hcell⟩
  · simp [Value.cells] at hcs
    obtain ⟨rfl, rfl, rfl⟩ := hcs
    exact ⟨_, _, _, [], rfl, rfl, none, 0, 0, 0, rfl, fun h => by simp at h, fun k hk => by simp at hk⟩
  · simp [Value.cells] at hcs
    obtain ⟨rfl, rfl, rfl⟩ := hcs
    simp only [if_true] at hmm
    have hv : ∀ k, k < m → ∃ s : Int × Int, V0 k = .int .i64 s.1 ∧ V1 k = .int .i64 s.2 := fun k hk => by
      obtain ⟨_, _, t0, t1⟩ := hcell k (by omega)
      obtain ⟨x, hx, _⟩ := DataW.trod_int Tryd.underlying3 t0
      obtain ⟨y, hy, _⟩ := DataW.trod_int Tryd.underlying3 t1
      exact ⟨(x, y), by simpa using hx, by simpa using hy⟩
    let f : Nat → Int × Int := fun k => if hk : k < m then Classical.choose (hv k hk) else (0, 0)
    have hfs : ∀ k, k < m → V0 k = .int .i64 (f k).1 ∧ V1 k = .int .i64 (f k).2 := fun k hk => by
      have := Classical.choose_spec (hv k hk)
      simp only [f, dif_pos hk]
      exact this
    refine ⟨_, m, c, (List.range m).map f, rfl, by simp, ?_⟩
    by_cases h0 : m = 0
    · subst h0
      exact ⟨_, 0, 0, c, rfl, fun h => by simp at h, fun k hk => by simp at hk⟩
    · obtain ⟨b, off, spot⟩ := a
      have hspot : spot = none := by simpa [Addr.add] using World.cell?_spot (hcell 0 (by omega)).1
      subst hspot
      refine ⟨_, b, off, c, by simp, fun _ => rfl, fun k hk => ?_⟩
      have hk : k < m := by simpa using hk
      have hg : ((List.range m).map f).getD k (0, 0) = f k := by simp [hk]
      rw [hg, ← (hfs k hk).1, ← (hfs k hk).2]
      obtain ⟨c0, c1, _⟩ := hcell k (by omega)
      rw [add_plain] at c0 c1
      exact ⟨c0, by rw [Nat.add_assoc]; exact c1⟩
end
end Go.Proofs.YtnabkhmonmcmfaaDoor
