/-
  TrailTypes answers true at every number of eight bits and every slice of acts, and its arguments read behind the call as before. No condition beyond the row's own.
-/
import Derived.Test.YtkajkfapleecaaaTTypes
import Derived.Test.YtkajkfapleecaaaTOpen
namespace Go.Proofs.Ytkajkfapleecaaa.trailTypes
open Go.ChangeShapes Go.WideShapes Go.ChangeAt Go.RowKit

/-- where there are more cells or acts than the law asks of -/
theorem skip (p : Option Addr) (c m : Nat) (n : Int) (W : World) (h0 : 0 ≤ n) (h : 40 < n ∨ 150 < m) :
    Calls Try.prog 5 #[.int .u8 n, .slice p m c] W fun e w' => e = .returned (.bool true) ∧ Below W.heap.size W w' := by
  by_cases h1 : 40 < n
  · have H := Lib.hid h
    clear h
    go_enter Try.func5, Try.ntmps5
    go_wp2_with fail
    go_at_call 6
    refine (awake_any W).mono ?_
    rintro e w0 ⟨rfl, hB0⟩
    have HB0 := Lib.hid hB0
    clear hB0
    go_wp2_with fail
    go_ret
    exact ⟨rfl, HB0.out⟩
  · have h1 : n ≤ 40 := by omega
    have h3 : (150 : Int) < (m : Int) := by omega
    have H := Lib.hid h
    clear h
    go_enter Try.func5, Try.ntmps5
    go_wp2_with fail
    go_at_call 6
    refine (awake_any W).mono ?_
    rintro e w0 ⟨rfl, hB0⟩
    have HB0 := Lib.hid hB0
    clear hB0
    go_wp2_with fail
    go_ret
    exact ⟨rfl, HB0.out⟩

theorem placed : ∀ t ∈ Try.f5.params.toList, t < Try.prog.types.size := of_decide_eq_true (by kernel_rfl)

set_option maxRecDepth 100000 in
theorem lifted (os : Os) (started : os.Started) (H : Type) (enc : TypeId × Value → H) :
    ReturnsInHanded {} Try.checked os 5 .any (Rows.trailTypesSpec.pre6 enc Try.prog Try.f5 Rows.trailTypesRow.domain false) (Rows.trailTypesSpec.post enc Try.prog Try.f5 false true false false) := by
  refine returnsInHanded_of_change (C := Try.checked) own started (by kernel_rfl) Try.func5
    (ChangeSpec.witness6 (enc := enc) (C := Try.checked) false ⟨#[], #[.int .u8 0, .slice none 0 0], []⟩ 8 (by kernel_rfl) (by kernel_rfl) (by kernel_rfl) (by kernel_rfl)) ?_
  intro W base args ds gs before hval0 hW hcnd _
  have hval : ∀ (j : Nat) t v, Try.f5.params[j]? = some t → args[j]? = some v → Value.okWide Try.prog W .any base t v := hval0
  have hW' := hW
  obtain ⟨p, q, hA0, hV, rfl, hfz, hnd⟩ := hW
  have hA : DataW.TrodAll enc Try.prog W 0 (fun _ => true) true Try.f5.params.toList args.toList ds p := hA0
  rw [Try.params5] at hA hval
  obtain ⟨v0, vs0, d0, ds0, p0, q0, hargs, rfl, rfl, h0, r0⟩ := trodAll_cons hA
  obtain ⟨v1, vs1, d1, ds1, p1, q1, rfl, rfl, rfl, h1, r1⟩ := trodAll_cons r0
  obtain ⟨rfl, rfl, rfl⟩ := trodAll_nil r1
  obtain rfl : args = #[v0, v1] := by cases args; simp_all
  obtain ⟨n, rfl, rfl, rfl, w0⟩ := open_int Try.underlying5 (hval 0 5 v0 rfl rfl) h0
  obtain ⟨p', m, c, L, b, off, rfl, hm, hp, ha⟩ := openedA (hval 1 22 v1 rfl rfl) h1
  have hn := fit8 w0
  have key : Calls Try.prog 5 #[.int .u8 n, .slice p' m c] W fun e w' => e = .returned (.bool true) ∧ Below W.heap.size W w' := by
    by_cases hs : 40 < n ∨ 150 < m
    · exact skip p' c m n W hn.1 hs
    · obtain ⟨k, rfl⟩ : ∃ k : Nat, n = (k : Int) := ⟨n.toNat, by omega⟩
      exact types_law p' c k m L W hm hp ha (by omega) (by omega)
  refine key.mono fun e W' ⟨he, hb⟩ => ?_
  subst he
  exact ⟨_, rfl, law_post kids full placed (by kernel_rfl) Try.underlying4 rfl rfl hW' hb⟩

theorem over : Rows.trailTypesRow.holds Try.pinned (OpenSpec.ofChange Rows.trailTypesSpec) :=
  OpenClaim.holds_of_wide 5 Try.f5 rfl rfl rfl rfl rfl rfl rfl ⟨rfl, rfl, rfl, rfl, rfl⟩ rfl rfl rfl rfl rfl (by kernel_rfl) Try.func5 (by kernel_rfl)
    (of_decide_eq_true (by kernel_rfl)) (by unfold Func.isWrapper; first | (rw [if_pos (by decide +kernel)]; kernel_rfl) | (rw [if_neg (by decide +kernel)]; exact ⟨rfl, rfl⟩))
    (fun os started H enc _ => lifted os started H enc)

/-- the given statement -/
theorem proved : Rows.TrailTypesSaid :=
  over
#print axioms proved
end Go.Proofs.Ytkajkfapleecaaa.trailTypes
