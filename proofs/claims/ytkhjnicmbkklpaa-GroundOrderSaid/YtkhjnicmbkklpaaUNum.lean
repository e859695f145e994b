/-
  What a sum or a product tells: the number itself and no error, if it is a number of 64 bits; else 0 and the error 6 (ErrOver). Plain arithmetic, nothing of the program.
-/
import Derived.WalkKit
import Derived.Lib.Mul64
import Derived.Laws.Bits64b
namespace Go.Proofs.Ytkhjnicmbkklpaa.Su
open Go.RowKit

/-- a number of 64 bits -/
def fits (n : Int) : Bool := decide (-9223372036854775808 ≤ n ∧ n ≤ 9223372036854775807)
def num (n : Int) : Int := if fits n = true then n else 0
def err (n : Int) : Int := if fits n = true then 0 else 6

theorem fits_iff {n : Int} : fits n = true ↔ -9223372036854775808 ≤ n ∧ n ≤ 9223372036854775807 := by unfold fits; simp
theorem num_in {n : Int} (h : -9223372036854775808 ≤ n ∧ n ≤ 9223372036854775807) : num n = n := by unfold num; rw [if_pos (fits_iff.mpr h)]
theorem err_in {n : Int} (h : -9223372036854775808 ≤ n ∧ n ≤ 9223372036854775807) : err n = 0 := by unfold err; rw [if_pos (fits_iff.mpr h)]
theorem num_out {n : Int} (h : ¬ (-9223372036854775808 ≤ n ∧ n ≤ 9223372036854775807)) : num n = 0 := by unfold num; rw [if_neg (fun x => h (fits_iff.mp x))]
theorem err_out {n : Int} (h : ¬ (-9223372036854775808 ≤ n ∧ n ≤ 9223372036854775807)) : err n = 6 := by unfold err; rw [if_neg (fun x => h (fits_iff.mp x))]
theorem num_fits (n : Int) : -9223372036854775808 ≤ num n ∧ num n ≤ 9223372036854775807 := by
  by_cases h : -9223372036854775808 ≤ n ∧ n ≤ 9223372036854775807
  · rw [num_in h]; exact h
  · rw [num_out h]; omega

/-- how a compares to b, as rel says -/
def holdsB (a rel b : Int) : Bool :=
  if rel = 0 then decide (a = b) else if rel = 1 then decide (a ≠ b) else if rel = 2 then decide (a < b) else if rel = 3 then decide (a ≤ b) else if rel = 4 then decide (b < a) else if rel = 5 then decide (b ≤ a) else false

/-- the sum of the products of two lists, one by one, from s on, and the error 6 as soon as a product, or the sum so far, is no number -/
def dotFrom : Int → List Int → List Int → Int × Int
  | s, x :: xs, y :: ys => if fits (x * y) = true then (if fits (s + x * y) = true then dotFrom (s + x * y) xs ys else (0, 6)) else (0, 6)
  | s, _, _ => (s, 0)
/-- what Dot tells: the error 1 where the lists aren't as long as each other -/
def dot (xs ys : List Int) : Int × Int := if xs.length = ys.length then dotFrom 0 xs ys else (0, 1)

theorem drop_at {xs : List Int} {k : Nat} (h : k < xs.length) : xs.drop k = xs.getD k 0 :: xs.drop (k + 1) := by
  rw [List.drop_eq_getElem_cons h]; simp [h]
theorem dotFrom_on {xs ys : List Int} {k : Nat} {s : Int} (hx : k < xs.length) (hy : k < ys.length) (h1 : fits (xs.getD k 0 * ys.getD k 0) = true) (h2 : fits (s + xs.getD k 0 * ys.getD k 0) = true) :
    dotFrom s (xs.drop k) (ys.drop k) = dotFrom (s + xs.getD k 0 * ys.getD k 0) (xs.drop (k + 1)) (ys.drop (k + 1)) := by
  rw [drop_at hx, drop_at hy, dotFrom, if_pos h1, if_pos h2]
theorem dotFrom_sum {xs ys : List Int} {k : Nat} {s : Int} (hx : k < xs.length) (hy : k < ys.length) (h2 : ¬ fits (s + xs.getD k 0 * ys.getD k 0) = true) :
    dotFrom s (xs.drop k) (ys.drop k) = (0, 6) := by
  rw [drop_at hx, drop_at hy, dotFrom, if_neg h2]; split <;> rfl
theorem dotFrom_product {xs ys : List Int} {k : Nat} {s : Int} (hx : k < xs.length) (hy : k < ys.length) (h1 : ¬ fits (xs.getD k 0 * ys.getD k 0) = true) :
    dotFrom s (xs.drop k) (ys.drop k) = (0, 6) := by
  rw [drop_at hx, drop_at hy, dotFrom, if_neg h1]
theorem dotFrom_end {xs ys : List Int} {k : Nat} {s : Int} (hx : ¬ k < xs.length) : dotFrom s (xs.drop k) (ys.drop k) = (s, 0) := by
  rw [List.drop_eq_nil_of_le (by omega)]; rfl

/-! halves of 32 bits -/
theorem maskN (a : Nat) (ha : a < 18446744073709551616) : bits .and .u64 (a : Int) 4294967295 = ((a % 4294967296 : Nat) : Int) := by
  have h := bits_and_u64_nat a 4294967295 ha (by omega)
  have e : a &&& 4294967295 = a % 4294967296 := Nat.and_two_pow_sub_one_eq_mod a 32
  rw [e] at h
  exact h
theorem divN (a : Nat) : (a : Int) / 4294967296 = ((a / 4294967296 : Nat) : Int) := by omega
theorem mulN (a b : Nat) : (a : Int) * (b : Int) = ((a * b : Nat) : Int) := (Int.natCast_mul a b).symm
theorem addN (a b : Nat) : (a : Int) + (b : Int) = ((a + b : Nat) : Int) := (Int.natCast_add a b).symm
theorem wrapN (a : Nat) (ha : a < 18446744073709551616) : IntKind.u64.wrap (a : Int) = (a : Int) := by rw [IntKind.wrap_u64]; omega
theorem wrapM (a : Nat) : IntKind.u64.wrap (a : Int) = ((a % 18446744073709551616 : Nat) : Int) := by rw [IntKind.wrap_u64]; omega
end Go.Proofs.Ytkhjnicmbkklpaa.Su
