/-
  What Add, unsigned, bits.Mul64, Mul and Holds of the program answer, at every input.
-/
import Derived.Test.YtkhjnicmbkklpaaRows
import Derived.Test.YtkhjnicmbkklpaaUNum
import Derived.WalkKit
import Derived.ProofKit
import Derived.OpenShut
import Derived.Outline
import Derived.WalkMore
import Derived.ScopeJumps
import Derived.Lib.Hide
namespace Go.Proofs.Ytkhjnicmbkklpaa.Su
open Go.RowKit

theorem tup_int {k l : IntKind} {a b c d : Int} (h : a = b) (h' : c = d) : Ending.returned (.tuple #[.int k a, .int l c]) = .returned (.tuple #[.int k b, .int l d]) := by rw [h, h']
theorem ret_int {k : IntKind} {a b : Int} (h : a = b) : Ending.returned (.int k a) = .returned (.int k b) := by rw [h]
theorem ret_bool {a b : Bool} (h : a = b) : Ending.returned (.bool a) = .returned (.bool b) := by rw [h]

theorem ne_dec {x y : Int} : (!decide (x < 0) == decide (y < 0)) = true → (x < 0 ∧ 0 ≤ y) ∨ (0 ≤ x ∧ y < 0) := by
  by_cases h : x < 0 <;> by_cases k : y < 0 <;> simp [h, k] <;> omega
theorem eq_dec {x y : Int} : (!decide (x < 0) == decide (y < 0)) = false → (x < 0 ∧ y < 0) ∨ (0 ≤ x ∧ 0 ≤ y) := by
  by_cases h : x < 0 <;> by_cases k : y < 0 <;> simp [h, k] <;> omega

/-- a product by the signs and the halves of the product without signs -/
theorem halves {a b X Y H L : Int} (ha : -9223372036854775808 ≤ a ∧ a ≤ 9223372036854775807) (hb : -9223372036854775808 ≤ b ∧ b ≤ 9223372036854775807)
    (hX : X = (a.natAbs : Int)) (hY : Y = (b.natAbs : Int)) (hH : H = X * Y / 18446744073709551616) (hL : L = X * Y % 18446744073709551616) :
    ∃ N : Int, 0 ≤ N ∧ H = N / 18446744073709551616 ∧ L = N % 18446744073709551616 ∧ (((a < 0 ∧ 0 ≤ b) ∨ (0 ≤ a ∧ b < 0)) → a * b = -N) ∧ (((a < 0 ∧ b < 0) ∨ (0 ≤ a ∧ 0 ≤ b)) → a * b = N) := by
  refine ⟨X * Y, ?_, hH, hL, ?_, ?_⟩
  · rw [hX, hY]; exact Int.mul_nonneg (by omega) (by omega)
  · rintro (⟨h1, h2⟩ | ⟨h1, h2⟩)
    · have e1 : X = -a := by omega
      have e2 : Y = b := by omega
      rw [e1, e2, Int.neg_mul]; omega
    · have e1 : X = a := by omega
      have e2 : Y = -b := by omega
      rw [e1, e2, Int.mul_neg]; omega
  · rintro (⟨h1, h2⟩ | ⟨h1, h2⟩)
    · have e1 : X = -a := by omega
      have e2 : Y = -b := by omega
      rw [e1, e2, Int.neg_mul_neg]
    · have e1 : X = a := by omega
      have e2 : Y = b := by omega
      rw [e1, e2]

/-- no number of 64 bits -/
def Over (n : Int) : Prop := ¬ (-9223372036854775808 ≤ n ∧ n ≤ 9223372036854775807)
theorem over_mk {n : Int} (h : n < -9223372036854775808 ∨ 9223372036854775807 < n) : Over n := by unfold Over; omega

set_option maxHeartbeats 400000 in
theorem holds_any (a r b : Int) (w : World) :
    Calls Try.prog 41 #[.int .i64 a, .int .i64 r, .int .i64 b] w fun e w' => e = .returned (.bool (holdsB a r b)) ∧ w = w' := by
  go_enter Try.func41, Try.ntmps41
  go_wp2
  all_goals
    go_ret
    refine ⟨ret_bool ?_, rfl⟩
    simp_all [holdsB]
  all_goals (rw [Bool.eq_iff_iff]; simp)
end Go.Proofs.Ytkhjnicmbkklpaa.Su
