/-
  What came in, as lists: a slice of spans, and a slice of numbers; what every last step of this seat leans on.
-/
import Derived.Test.YtehflpgnbbafpaaOwn
import Derived.Test.YtehflpgnbbafpaaLaw
import Derived.Test.YtehflpgnbbafpaaRows
import Derived.ChangeSlices
import Derived.ChangeArms
import Derived.Deep.SlicePairs
namespace Go.Proofs.Ytehflpgnbbafpaa
open Go.ChangeShapes Go.WideShapes Go.ChangeAt Go.RowKit

theorem own : ownKnob Try.prog.godebug = none := by kernel_rfl
theorem kids : Kids Try.prog (· < Try.prog.types.size) := kids_rows (by kernel_rfl) (by kernel_rfl)
theorem full : ∀ t e, t < Try.prog.types.size → Try.prog.underlying t = some (.slice e) → 0 < Try.prog.cellsOf e := slices_full_of Try.prog (by kernel_rfl)
theorem cells3 : Try.prog.cellsOf 3 = 1 := by kernel_rfl
theorem cells41 : Try.prog.cellsOf 41 = 2 := by kernel_rfl

theorem fit {n : Int} (h : (Lit.int .i64 n).wf = true) : -9223372036854775808 ≤ n ∧ n ≤ 9223372036854775807 := by
  simpa [Lit.wf, IntKind.min, IntKind.max, IntKind.signed, IntKind.bits] using h
theorem fit16 {n : Int} (h : (Lit.int .u16 n).wf = true) : 0 ≤ n ∧ n ≤ 65535 := by
  simpa [Lit.wf, IntKind.min, IntKind.max, IntKind.signed, IntKind.bits] using h

section
variable {H : Type} {enc : TypeId × Value → H} {W : World} {base : Nat} {v : Value} {d : DataW H} {ps : List MemPlace}

/-- a slice of numbers that came in reads as a list of numbers -/
theorem openedI (hval : Value.okWide Try.prog W .any base 23 v) (h : DataW.Trod enc Try.prog W 0 (fun _ => true) true 23 v d ps) :
    ∃ (p : Option Addr) (m c : Nat) (xs : List Int), v = .slice p m c ∧ m = xs.length ∧ Reads W v xs := by
  obtain ⟨p, m, c, rfl⟩ := okWide_slice Try.underlying23 hval
  obtain ⟨fuel, hf⟩ := h
  rcases open_ints Try.underlying23 Try.underlying3 cells3 hf with ⟨hcs, hx⟩ | ⟨a, len, cap, zs, hcs, _, hl, hm, hz, hx, hcell, hwz⟩
  · simp [Value.cells] at hcs
    obtain ⟨rfl, rfl, rfl⟩ := hcs
    exact ⟨_, _, _, [], rfl, rfl, Or.inl ⟨_, _, rfl, rfl⟩⟩
  · simp [Value.cells] at hcs
    obtain ⟨rfl, rfl, rfl⟩ := hcs
    simp only [if_true] at hz
    have hlen : (zs.take m).length = m := by rw [List.length_take]; omega
    have hget : ∀ k, k < m → (zs.take m).getD k 0 = zs.getD k 0 := fun k hk => by simp [hk]
    by_cases h0 : m = 0
    · subst h0
      exact ⟨_, _, _, [], rfl, rfl, Or.inl ⟨_, _, rfl, rfl⟩⟩
    · obtain ⟨b, off, spot⟩ := a
      have hspot : spot = none := by simpa [Addr.add] using World.cell?_spot (hcell 0 (by omega))
      subst hspot
      refine ⟨_, _, _, zs.take m, rfl, hlen.symm, Or.inr ⟨b, off, c, by rw [hlen], fun k hk => ?_⟩⟩
      rw [hlen] at hk
      rw [hget k hk, ← add_plain]
      exact hcell k (by omega)

/-- a slice of spans that came in reads as a list of spans -/
theorem openedS (hval : Value.okWide Try.prog W .any base 22 v) (h : DataW.Trod enc Try.prog W 0 (fun _ => true) true 22 v d ps) :
    ∃ (p : Option Addr) (m c : Nat) (L : List (Int × Int)), v = .slice p m c ∧ m = L.length ∧ Sees W v L := by
  obtain ⟨p, m, c, rfl⟩ := okWide_slice Try.underlying22 hval
  obtain ⟨fuel, hf⟩ := h
  rcases Go.Deep.open_slice_pairs Try.underlying22 Try.underlying41 cells41 rfl rfl cells3 cells3 hf with ⟨hcs, hx⟩ | ⟨a, len, cap, m', n', V0, V1, D0, D1, P0, P1, hcs, _, hl, hm, hmm, hx, hcell⟩
  · simp [Value.cells] at hcs
    obtain ⟨rfl, rfl, rfl⟩ := hcs
    exact ⟨_, _, _, [], rfl, rfl, none, 0, 0, 0, rfl, fun h => by simp at h, fun k hk => by simp at hk⟩
  · simp [Value.cells] at hcs
    obtain ⟨rfl, rfl, rfl⟩ := hcs
    simp only [if_true] at hmm
    have hv : ∀ k, k < m → ∃ s : Int × Int, V0 k = .int .i64 s.1 ∧ V1 k = .int .i64 s.2 := fun k hk => by
      obtain ⟨_, _, t0, t1⟩ := hcell k (by omega)
      obtain ⟨x, hx, _⟩ := DataW.trod_int Try.underlying3 t0
      obtain ⟨y, hy, _⟩ := DataW.trod_int Try.underlying3 t1
      exact ⟨(x, y), by simpa using hx, by simpa using hy⟩
    let f : Nat → Int × Int := fun k => if hk : k < m then Classical.choose (hv k hk) else (0, 0)
    have hfs : ∀ k, k < m → V0 k = .int .i64 (f k).1 ∧ V1 k = .int .i64 (f k).2 := fun k hk => by
      have := Classical.choose_spec (hv k hk)
      simp only [f, dif_pos hk]
      exact this
    refine ⟨_, m, c, (List.range m).map f, rfl, by simp, ?_⟩
    by_cases h0 : m = 0
    · subst h0
      exact ⟨_, 0, 0, c, rfl, fun h => by simp at h, fun k hk => by simp at hk⟩
    · obtain ⟨b, off, spot⟩ := a
      have hspot : spot = none := by simpa [Addr.add] using World.cell?_spot (hcell 0 (by omega)).1
      subst hspot
      refine ⟨_, b, off, c, by simp, fun _ => rfl, fun k hk => ?_⟩
      have hk : k < m := by simpa using hk
      have hg : ((List.range m).map f).getD k (0, 0) = f k := by simp [hk]
      rw [hg, ← (hfs k hk).1, ← (hfs k hk).2]
      obtain ⟨c0, c1, _⟩ := hcell k (by omega)
      rw [add_plain] at c0 c1
      exact ⟨c0, by rw [Nat.add_assoc]; exact c1⟩
end
end Go.Proofs.Ytehflpgnbbafpaa
