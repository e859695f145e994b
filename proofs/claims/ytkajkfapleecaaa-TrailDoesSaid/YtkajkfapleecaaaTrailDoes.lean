/-
  TrailDoes answers true at every number and every slice of acts, and its arguments read behind the call as before. No condition beyond the row's own.
-/
import Derived.Test.YtkajkfapleecaaaTDoes
import Derived.Test.YtkajkfapleecaaaTOpen
namespace Go.Proofs.Ytkajkfapleecaaa.trailDoes
open Go.ChangeShapes Go.WideShapes Go.ChangeAt Go.RowKit

set_option maxRecDepth 100000 in
set_option maxHeartbeats 4000000 in
/-- where there are more cells or acts than the law asks of -/
theorem skip (p : Option Addr) (c m : Nat) (n : Int) (W : World) (h : 40 < n ∧ n ≤ 1000 ∨ 150 < m) :
    Calls Try.prog 3 #[.int .i64 n, .slice p m c] W fun e w' => e = .returned (.bool true) ∧ Below W.heap.size W w' := by
  by_cases h1 : 40 < n
  · by_cases h2 : n ≤ 1000
    · have H := Lib.hid h
      clear h
      go_enter Try.func3, Try.ntmps3
      go_wp2_with fail
      go_at_call 6
      refine (awake_any W).mono ?_
      rintro e w0 ⟨rfl, hB0⟩
      have HB0 := Lib.hid hB0
      clear hB0
      go_wp2_with fail
      go_ret
      exact ⟨rfl, HB0.out⟩
    · have h3 : (150 : Int) < (m : Int) := by omega
      have h2 : 1000 < n := by omega
      have H := Lib.hid h
      clear h
      go_enter Try.func3, Try.ntmps3
      go_wp2_with fail
      go_at_call 6
      refine (awake_any W).mono ?_
      rintro e w0 ⟨rfl, hB0⟩
      have HB0 := Lib.hid hB0
      clear hB0
      go_wp2_with fail
      go_ret
      exact ⟨rfl, HB0.out⟩
  · have h1 : n ≤ 40 := by omega
    have h3 : (150 : Int) < (m : Int) := by omega
    have H := Lib.hid h
    clear h
    go_enter Try.func3, Try.ntmps3
    go_wp2_with fail
    go_at_call 6
    refine (awake_any W).mono ?_
    rintro e w0 ⟨rfl, hB0⟩
    have HB0 := Lib.hid hB0
    clear hB0
    go_wp2_with fail
    go_ret
    exact ⟨rfl, HB0.out⟩

set_option maxRecDepth 100000 in
set_option maxHeartbeats 4000000 in
/-- where New says no -/
theorem none_law (p : Option Addr) (c m : Nat) (n : Int) (W : World) (hm : m ≤ 150) (h : n < 0 ∨ 1000 < n) :
    Calls Try.prog 3 #[.int .i64 n, .slice p m c] W fun e w' => e = .returned (.bool true) ∧ Below W.heap.size W w' := by
  have m1 : (m : Int) ≤ 150 := by omega
  have m3 : decide ((150 : Int) < (m : Int)) = false := decide_eq_false (by omega)
  clear hm
  by_cases h0 : n < 0
  · have h1 : n ≤ 40 := by omega
    have H := Lib.hid h
    clear h
    go_enter Try.func3, Try.ntmps3
    go_wp2_with fail
    go_at_call 6
    refine (awake_any W).mono ?_
    rintro e w0 ⟨rfl, hB0⟩
    have HB0 := Lib.hid hB0
    clear hB0
    go_wp2_with fail
    go_at_call 7
    refine (new_no_int n w0 H.out).mono ?_
    rintro e w1 ⟨rfl, rfl⟩
    go_wp2_with fail
    go_at_call 8
    refine (rnew_no n w0 H.out).mono ?_
    rintro e w2 ⟨rfl, rfl⟩
    go_wp2_with fail
    go_ret
    exact ⟨rfl, HB0.out⟩
  · have h1 : 40 < n := by omega
    have h2 : 1000 < n := by omega
    have h0 : 0 ≤ n := by omega
    have H := Lib.hid h
    clear h
    go_enter Try.func3, Try.ntmps3
    go_wp2_with fail
    go_at_call 6
    refine (awake_any W).mono ?_
    rintro e w0 ⟨rfl, hB0⟩
    have HB0 := Lib.hid hB0
    clear hB0
    go_wp2_with fail
    go_at_call 7
    refine (new_no_int n w0 H.out).mono ?_
    rintro e w1 ⟨rfl, rfl⟩
    go_wp2_with fail
    go_at_call 8
    refine (rnew_no n w0 H.out).mono ?_
    rintro e w2 ⟨rfl, rfl⟩
    go_wp2_with fail
    go_ret
    exact ⟨rfl, HB0.out⟩

theorem placed : ∀ t ∈ Try.f3.params.toList, t < Try.prog.types.size := of_decide_eq_true (by kernel_rfl)

set_option maxRecDepth 100000 in
theorem lifted (os : Os) (started : os.Started) (H : Type) (enc : TypeId × Value → H) :
    ReturnsInHanded {} Try.checked os 3 .any (Rows.trailDoesSpec.pre6 enc Try.prog Try.f3 Rows.trailDoesRow.domain false) (Rows.trailDoesSpec.post enc Try.prog Try.f3 false true false false) := by
  refine returnsInHanded_of_change (C := Try.checked) own started (by kernel_rfl) Try.func3
    (ChangeSpec.witness6 (enc := enc) (C := Try.checked) false ⟨#[], #[.int .i64 0, .slice none 0 0], []⟩ 8 (by kernel_rfl) (by kernel_rfl) (by kernel_rfl) (by kernel_rfl)) ?_
  intro W base args ds gs before hval0 hW hcnd _
  have hval : ∀ (j : Nat) t v, Try.f3.params[j]? = some t → args[j]? = some v → Value.okWide Try.prog W .any base t v := hval0
  have hW' := hW
  obtain ⟨p, q, hA0, hV, rfl, hfz, hnd⟩ := hW
  have hA : DataW.TrodAll enc Try.prog W 0 (fun _ => true) true Try.f3.params.toList args.toList ds p := hA0
  rw [Try.params3] at hA hval
  obtain ⟨v0, vs0, d0, ds0, p0, q0, hargs, rfl, rfl, h0, r0⟩ := trodAll_cons hA
  obtain ⟨v1, vs1, d1, ds1, p1, q1, rfl, rfl, rfl, h1, r1⟩ := trodAll_cons r0
  obtain ⟨rfl, rfl, rfl⟩ := trodAll_nil r1
  obtain rfl : args = #[v0, v1] := by cases args; simp_all
  obtain ⟨n, rfl, rfl, rfl, w0⟩ := open_int Try.underlying3 (hval 0 3 v0 rfl rfl) h0
  obtain ⟨p', m, c, L, b, off, rfl, hm, hp, ha⟩ := openedA (hval 1 22 v1 rfl rfl) h1
  have hn := fit w0
  have key : Calls Try.prog 3 #[.int .i64 n, .slice p' m c] W fun e w' => e = .returned (.bool true) ∧ Below W.heap.size W w' := by
    by_cases hs : 40 < n ∧ n ≤ 1000 ∨ 150 < m
    · exact skip p' c m n W hs
    · by_cases ho : n < 0 ∨ 1000 < n
      · exact none_law p' c m n W (by omega) ho
      · obtain ⟨k, rfl⟩ : ∃ k : Nat, n = (k : Int) := ⟨n.toNat, by omega⟩
        exact does_law p' c k m L W hm hp ha (by omega) (by omega)
  refine key.mono fun e W' ⟨he, hb⟩ => ?_
  subst he
  exact ⟨_, rfl, law_post kids full placed (by kernel_rfl) Try.underlying4 rfl rfl hW' hb⟩

theorem over : Rows.trailDoesRow.holds Try.pinned (OpenSpec.ofChange Rows.trailDoesSpec) :=
  OpenClaim.holds_of_wide 3 Try.f3 rfl rfl rfl rfl rfl rfl rfl ⟨rfl, rfl, rfl, rfl, rfl⟩ rfl rfl rfl rfl rfl (by kernel_rfl) Try.func3 (by kernel_rfl)
    (of_decide_eq_true (by kernel_rfl)) (by unfold Func.isWrapper; first | (rw [if_pos (by decide +kernel)]; kernel_rfl) | (rw [if_neg (by decide +kernel)]; exact ⟨rfl, rfl⟩))
    (fun os started H enc _ => lifted os started H enc)

/-- the given statement -/
theorem proved : Rows.TrailDoesSaid :=
  over
#print axioms proved
end Go.Proofs.Ytkajkfapleecaaa.trailDoes
