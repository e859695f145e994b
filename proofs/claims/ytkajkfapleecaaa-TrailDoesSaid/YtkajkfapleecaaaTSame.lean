/-
  What same answers, of numbers and of texts: whether both are one; its deferred call finds no panic.
-/
import Derived.Test.YtkajkfapleecaaaRows
import Derived.Test.YtkajkfapleecaaaTMem
import Derived.WalkKit
import Derived.ProofKit
import Derived.OpenShut
import Derived.Outline
import Derived.WalkMore
import Derived.Lib.Hide
import Derived.BigGuardPart
import Derived.Deep.DeepCutAuto
import Derived.Deep.Light
import Derived.Deep.QuietTactic
import Derived.BigQuiet
import Derived.LoopTactic
import Derived.Defers
import Derived.Recover
namespace Go.Proofs.Ytkajkfapleecaaa
open Go.RowKit

theorem idle40 (w : World) : CallsD Try.prog 40 #[] .returning w fun e u' w' => e = .returned (.tuple #[]) ∧ u' = .returning ∧ w' = w := by
  refine callsD_of_wpS Try.func40 rfl fun c₀ cs hu => ?_
  apply wpS_region
  simp [wpOpsS, go_sem, recoverD, hu, Try.ntmps40]
  cases c₀
  simp_all [bodyPostS, results, Try.results40]
theorem idle43 (w : World) : CallsD Try.prog 43 #[] .returning w fun e u' w' => e = .returned (.tuple #[]) ∧ u' = .returning ∧ w' = w := by
  refine callsD_of_wpS Try.func43 rfl fun c₀ cs hu => ?_
  apply wpS_region
  simp [wpOpsS, go_sem, recoverD, hu, Try.ntmps43]
  cases c₀
  simp_all [bodyPostS, results, Try.results43]

theorem same_int (a b : Int) (w : World) : Calls Try.prog 31 #[.int .i64 a, .int .i64 b] w fun e w' => e = .returned (.bool (decide (a = b))) ∧ w = w' := by
  go_enter_defers Try.func31, Try.ntmps31
  go_wp2
  refine leaves_cons (f := 40) (args := #[]) (by simp) (by simp [go_sem]) ?_
  refine (idle40 _).mono ?_
  rintro e u' w'' ⟨rfl, rfl, rfl⟩
  simp [Leaves, settle, results, Try.results31, go_sem]
  rfl

theorem same_text (a b : ByteArray) (w : World) : Calls Try.prog 38 #[.string a, .string b] w fun e w' => e = .returned (.bool (decide (a = b))) ∧ w = w' := by
  go_enter_defers Try.func38, Try.ntmps38
  go_wp2
  refine leaves_cons (f := 43) (args := #[]) (by simp) (by simp [go_sem]) ?_
  refine (idle43 _).mono ?_
  rintro e u' w'' ⟨rfl, rfl, rfl⟩
  simp [Leaves, settle, results, Try.results38, go_sem]
  rw [ByteArray.toList_eq, ByteArray.toList_eq]
  by_cases h : a = b
  · simp [h]
  · have : ¬ a.data.toList = b.data.toList := fun e => h (Go.WideShapes.bytes_inj e)
    simp [h]
    intro e
    exact this (by rw [e])
end Go.Proofs.Ytkajkfapleecaaa
