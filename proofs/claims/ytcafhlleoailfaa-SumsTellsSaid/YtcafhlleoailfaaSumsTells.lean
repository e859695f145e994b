/-
  SumsTells answers true at every two numbers of 64 bits, every rel and every two slices of numbers, and its arguments read behind the call as before. No condition beyond the row's own.
-/
import Derived.Test.YtcafhlleoailfaaTells
import Derived.Test.YtcafhlleoailfaaLaw
import Derived.Test.YtcafhlleoailfaaRows
import Derived.ChangeSlices
namespace Go.Proofs.Ytcafhlleoailfaa.sumsTells
open Go.ChangeShapes Go.WideShapes Go.ChangeAt Go.RowKit
set_option linter.unusedVariables false

theorem own : ownKnob Try.prog.godebug = none := by kernel_rfl
theorem kids : Kids Try.prog (· < Try.prog.types.size) := kids_rows (by kernel_rfl) (by kernel_rfl)
theorem full : ∀ t e, t < Try.prog.types.size → Try.prog.underlying t = some (.slice e) → 0 < Try.prog.cellsOf e := slices_full_of Try.prog (by kernel_rfl)
theorem cells2 : Try.prog.cellsOf 2 = 1 := by kernel_rfl
theorem placed : ∀ t ∈ Try.f3.params.toList, t < Try.prog.types.size := of_decide_eq_true (by kernel_rfl)

theorem fit {n : Int} (h : (Lit.int .i64 n).wf = true) : -9223372036854775808 ≤ n ∧ n ≤ 9223372036854775807 := by
  simpa [Lit.wf, IntKind.min, IntKind.max, IntKind.signed, IntKind.bits] using h

/-- a slice of numbers that came in reads as a list of numbers -/
theorem opened {H : Type} {enc : TypeId × Value → H} {W : World} {base : Nat} {v : Value} {d : DataW H} {ps : List MemPlace} (hval : Value.okWide Try.prog W .any base 22 v) (h : DataW.Trod enc Try.prog W 0 (fun _ => true) true 22 v d ps) :
    ∃ (p : Option Addr) (m c : Nat) (xs : List Int), v = .slice p m c ∧ Reads W v xs ∧ xs.length ≤ maxLen ∧ ∀ k, k < xs.length → -9223372036854775808 ≤ xs.getD k 0 ∧ xs.getD k 0 ≤ 9223372036854775807 := by
  obtain ⟨p, m, c, rfl⟩ := okWide_slice Try.underlying22 hval
  obtain ⟨fuel, hf⟩ := h
  rcases open_ints Try.underlying22 Try.underlying2 cells2 hf with ⟨hcs, hx⟩ | ⟨a, len, cap, zs, hcs, _, hl, hm, hz, hx, hcell, hwz⟩
  · simp [Value.cells] at hcs
    obtain ⟨rfl, rfl, rfl⟩ := hcs
    exact ⟨_, _, _, [], rfl, Or.inl ⟨_, _, rfl, rfl⟩, by simp, fun k hk => absurd hk (by simp)⟩
  · simp [Value.cells] at hcs
    obtain ⟨rfl, rfl, rfl⟩ := hcs
    simp only [if_true] at hz
    have hlen : (zs.take m).length = m := by rw [List.length_take]; omega
    have hget : ∀ k, k < m → (zs.take m).getD k 0 = zs.getD k 0 := fun k hk => by simp [hk]
    have hin : ∀ k, k < m → zs.getD k 0 ∈ zs := fun k hk => by
      rw [List.getD_eq_getElem?_getD, List.getElem?_eq_getElem (by omega)]
      exact List.getElem_mem _
    by_cases h0 : m = 0
    · subst h0
      exact ⟨_, _, _, [], rfl, Or.inl ⟨_, _, rfl, rfl⟩, by simp, fun k hk => absurd hk (by simp)⟩
    · obtain ⟨b, off, spot⟩ := a
      have hspot : spot = none := by simpa [Addr.add] using World.cell?_spot (hcell 0 (by omega))
      subst hspot
      refine ⟨_, _, _, zs.take m, rfl, Or.inr ⟨b, off, c, by rw [hlen], fun k hk => ?_⟩, by omega, fun k hk => ?_⟩
      · rw [hlen] at hk
        rw [hget k hk, ← add_plain]
        exact hcell k (by omega)
      · rw [hlen] at hk
        rw [hget k hk]
        exact fit (hwz _ (hin k hk))

set_option maxRecDepth 100000 in
theorem lifted (os : Os) (started : os.Started) (H : Type) (enc : TypeId × Value → H) :
    ReturnsInHanded {} Try.checked os 3 .any (Rows.sumsTellsSpec.pre6 enc Try.prog Try.f3 Rows.sumsTellsRow.domain false) (Rows.sumsTellsSpec.post enc Try.prog Try.f3 false true false false) := by
  refine returnsInHanded_of_change (C := Try.checked) own started (by kernel_rfl) Try.func3
    (ChangeSpec.witness6 (enc := enc) (C := Try.checked) false ⟨#[], #[.int .i64 0, .int .i64 0, .int .i64 0, .slice none 0 0, .slice none 0 0], []⟩ 8 (by kernel_rfl) (by kernel_rfl) (by kernel_rfl) (by kernel_rfl)) ?_
  intro W base args ds gs before hval0 hW hcnd _
  have hval : ∀ (j : Nat) t v, Try.f3.params[j]? = some t → args[j]? = some v → Value.okWide Try.prog W .any base t v := hval0
  have hW' := hW
  obtain ⟨p, q, hA0, hV, rfl, hfz, hnd⟩ := hW
  have hA : DataW.TrodAll enc Try.prog W 0 (fun _ => true) true Try.f3.params.toList args.toList ds p := hA0
  rw [Try.params3] at hA hval
  obtain ⟨v0, vs0, d0, ds0, p0, q0, hargs, rfl, rfl, h0, r0⟩ := trodAll_cons hA
  obtain ⟨v1, vs1, d1, ds1, p1, q1, rfl, rfl, rfl, h1, r1⟩ := trodAll_cons r0
  obtain ⟨v2, vs2, d2, ds2, p2, q2, rfl, rfl, rfl, h2, r2⟩ := trodAll_cons r1
  obtain ⟨v3, vs3, d3, ds3, p3, q3, rfl, rfl, rfl, h3, r3⟩ := trodAll_cons r2
  obtain ⟨v4, vs4, d4, ds4, p4, q4, rfl, rfl, rfl, h4, r4⟩ := trodAll_cons r3
  obtain ⟨rfl, rfl, rfl⟩ := trodAll_nil r4
  obtain rfl : args = #[v0, v1, v2, v3, v4] := by cases args; simp_all
  obtain ⟨a0, rfl, rfl, rfl, w0⟩ := open_int Try.underlying2 (hval 0 2 v0 rfl rfl) h0
  obtain ⟨a1, rfl, rfl, rfl, w1⟩ := open_int Try.underlying2 (hval 1 2 v1 rfl rfl) h1
  obtain ⟨a2, rfl, rfl, rfl, w2⟩ := open_int Try.underlying3 (hval 2 3 v2 rfl rfl) h2
  obtain ⟨p', m, c, xs, rfl, hx, hm, fx⟩ := opened (hval 3 22 v3 rfl rfl) h3
  obtain ⟨q', n, d, ys, rfl, hy, _, fy⟩ := opened (hval 4 22 v4 rfl rfl) h4
  refine (tells_law a0 a1 a2 p' q' m n c d xs ys W (fit w0) (fit w1) hx hy hm fx fy).mono fun e W' ⟨he, hg, hb⟩ => ?_
  subst he
  exact ⟨_, rfl, law_post kids full placed (by kernel_rfl) Try.underlying4 rfl rfl hW' hb⟩

theorem over : Rows.sumsTellsRow.holds Try.pinned (OpenSpec.ofChange Rows.sumsTellsSpec) :=
  OpenClaim.holds_of_wide 3 Try.f3 rfl rfl rfl rfl rfl rfl rfl ⟨rfl, rfl, rfl, rfl, rfl⟩ rfl rfl rfl rfl rfl (by kernel_rfl) Try.func3 (by kernel_rfl)
    (of_decide_eq_true (by kernel_rfl)) (by unfold Func.isWrapper; first | (rw [if_pos (by decide +kernel)]; kernel_rfl) | (rw [if_neg (by decide +kernel)]; exact ⟨rfl, rfl⟩))
    (fun os started H enc _ => lifted os started H enc)

/-- the given statement -/
theorem proved : Rows.SumsTellsSaid :=
  over
#print axioms proved
end Go.Proofs.Ytcafhlleoailfaa.sumsTells
