/-
  What came in, as lists: a slice of acts, and a number of eight bits; what every last step of this seat leans on.
-/
import Derived.Test.YtkajkfapleecaaaTActs
import Derived.Test.YtkajkfapleecaaaLaw
import Derived.Test.YtkajkfapleecaaaRows
import Derived.ChangeSlices
import Derived.ChangeArms
import Derived.Deep.Slices
namespace Go.Proofs.Ytkajkfapleecaaa
open Go.ChangeShapes Go.WideShapes Go.ChangeAt Go.RowKit

theorem own : ownKnob Try.prog.godebug = none := by kernel_rfl
theorem kids : Kids Try.prog (· < Try.prog.types.size) := kids_rows (by kernel_rfl) (by kernel_rfl)
theorem full : ∀ t e, t < Try.prog.types.size → Try.prog.underlying t = some (.slice e) → 0 < Try.prog.cellsOf e := slices_full_of Try.prog (by kernel_rfl)
theorem cells3 : Try.prog.cellsOf 3 = 1 := by kernel_rfl
theorem cells32 : Try.prog.cellsOf 32 = 3 := by kernel_rfl
theorem fit8 {n : Int} (h : (Lit.int .u8 n).wf = true) : 0 ≤ n ∧ n ≤ 255 := by
  simpa [Lit.wf, IntKind.min, IntKind.max, IntKind.signed, IntKind.bits] using h
theorem fit {n : Int} (h : (Lit.int .i64 n).wf = true) : -9223372036854775808 ≤ n ∧ n ≤ 9223372036854775807 := by
  simpa [Lit.wf, IntKind.min, IntKind.max, IntKind.signed, IntKind.bits] using h

section
variable {H : Type} {enc : TypeId × Value → H} {W : World} {base : Nat} {v : Value} {d : DataW H} {ps : List MemPlace}

/-- three cells of an act read as three numbers -/
theorem act_cells {fuel : Nat} {sp : Nat → Bool} {cs : List Value} {y : DataW H × List MemPlace} (hl : cs.length = 3) (h : DataW.trod enc Try.prog W 0 sp true fuel 32 cs = some y) :
    ∃ s : Int × Int × Int, cs = [.int .i64 s.1, .int .i64 s.2.1, .int .i64 s.2.2] := by
  obtain ⟨xs, k, hk, hxy, _, hxl, hf⟩ := DataW.trod_struct Try.underlying32 h
  match cs, hl with
  | [c0, c1, c2], _ =>
    have hxl' : xs.length = 3 := hxl
    match xs, hxl' with
    | [y0, y1, y2], _ =>
      have g0 := hf 0 _ rfl
      have g1 := hf 1 _ rfl
      have g2 := hf 2 _ rfl
      simp [cells3] at g0 g1 g2
      obtain ⟨a0, e0, _⟩ := DataW.trod_int Try.underlying3 g0
      obtain ⟨a1, e1, _⟩ := DataW.trod_int Try.underlying3 g1
      obtain ⟨a2, e2, _⟩ := DataW.trod_int Try.underlying3 g2
      have e0 : c0 = .int .i64 a0 := by simpa using e0
      have e1 : c1 = .int .i64 a1 := by simpa using e1
      have e2 : c2 = .int .i64 a2 := by simpa using e2
      exact ⟨(a0, a1, a2), by rw [e0, e1, e2]⟩

/-- a slice of acts that came in reads as a list of acts -/
theorem openedA (hval : Value.okWide Try.prog W .any base 22 v) (h : DataW.Trod enc Try.prog W 0 (fun _ => true) true 22 v d ps) :
    ∃ (p : Option Addr) (m c : Nat) (L : List (Int × Int × Int)) (b off : Nat), v = .slice p m c ∧ m = L.length ∧ (0 < m → p = some ⟨b, off, none⟩) ∧ ActCells W b off L := by
  obtain ⟨p, m, c, rfl⟩ := okWide_slice Try.underlying22 hval
  obtain ⟨fuel, hf⟩ := h
  rcases Go.Deep.open_slice Try.underlying22 hf with ⟨hcs, hx⟩ | ⟨a, len, cap, m', n', D, Pl, hcs, _, hl, hm, hmm, hx, hcell⟩
  · simp [Value.cells] at hcs
    obtain ⟨rfl, rfl, rfl⟩ := hcs
    exact ⟨_, _, _, [], 0, 0, rfl, rfl, fun h => by simp at h, fun k hk => by simp at hk⟩
  · simp [Value.cells] at hcs
    obtain ⟨rfl, rfl, rfl⟩ := hcs
    simp only [if_true] at hmm
    have hv : ∀ k, k < m → ∃ s : Int × Int × Int, W.cell? (a.add (k * 3)) = some (.int .i64 s.1) ∧ W.cell? (a.add (k * 3 + 1)) = some (.int .i64 s.2.1) ∧ W.cell? (a.add (k * 3 + 2)) = some (.int .i64 s.2.2) := fun k hk => by
      obtain ⟨cs', h1, h2⟩ := hcell k (by omega)
      rw [cells32] at h1
      obtain ⟨_, hlen, hat⟩ := World.cells?_some h1
      obtain ⟨s, rfl⟩ := act_cells hlen h2
      have e0 := hat 0 (by omega)
      have e1 := hat 1 (by omega)
      have e2 := hat 2 (by omega)
      rw [Go.Deep.add_add] at e0 e1 e2
      exact ⟨s, by simpa using e0, by simpa using e1, by simpa using e2⟩
    let f : Nat → Int × Int × Int := fun k => if hk : k < m then Classical.choose (hv k hk) else (0, 0, 0)
    have hfs : ∀ k, k < m → W.cell? (a.add (k * 3)) = some (.int .i64 (f k).1) ∧ W.cell? (a.add (k * 3 + 1)) = some (.int .i64 (f k).2.1) ∧ W.cell? (a.add (k * 3 + 2)) = some (.int .i64 (f k).2.2) := fun k hk => by
      have := Classical.choose_spec (hv k hk)
      simp only [f, dif_pos hk]
      exact this
    by_cases h0 : m = 0
    · subst h0
      exact ⟨_, _, _, [], 0, 0, rfl, rfl, fun h => by simp at h, fun k hk => by simp at hk⟩
    · obtain ⟨b, off, spot⟩ := a
      have hspot : spot = none := by simpa [Addr.add] using World.cell?_spot (hfs 0 (by omega)).1
      subst hspot
      refine ⟨_, _, _, (List.range m).map f, b, off, rfl, by simp, fun _ => rfl, fun k hk => ?_⟩
      have hk : k < m := by simpa using hk
      have hg : ((List.range m).map f).getD k (0, 0, 0) = f k := by simp [hk]
      rw [hg]
      obtain ⟨c0, c1, c2⟩ := hfs k hk
      rw [add_plain] at c0 c1 c2
      exact ⟨c0, by rw [Nat.add_assoc]; exact c1, by rw [Nat.add_assoc]; exact c2⟩
end
end Go.Proofs.Ytkajkfapleecaaa
