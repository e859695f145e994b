/-
  What kept of package linear answers: the places of those values that are left of a domain, and for which a function is true.
  What a sum or a product tells: the number itself and no error, if it is a number of 64 bits; else 0 and the error 6 (ErrOver). Plain arithmetic, nothing of the program.
  When constraints hold of values: pure functions, and what follows of them. Nothing of the program.
-/
import Derived.Test.YtiaibggbbkhjlaaDoorZYAZ
import Derived.Test.YtiaibggbbkhjlaaDoorZYAM
import Derived.WalkKit
import Derived.Lib.Mul64
import Derived.Laws.Bits64b
import Derived.Test.YtiaibggbbkhjlaaDoorZRNum
namespace Go.Proofs.YtiaibggbbkhjlaaDoor.St
open Go.RowKit
set_option maxRecDepth 100000

/-- the first j places that are kept -/
def keptTo (xs : List Int) (x : Nat) (K : Int → Bool) (j : Nat) : Nat := B.mk 64 (fun k => decide (k < j) && (x.testBit k && K (xs.getD k 0)))
theorem kept_lt (xs : List Int) (x : Nat) (K : Int → Bool) (j : Nat) : keptTo xs x K j < 18446744073709551616 := B.mk_lt 64 _

theorem getD_mem {xs : List Int} {k : Nat} (h : k < xs.length) : xs.getD k 0 ∈ xs := by
  rw [List.getD_eq_getElem?_getD, List.getElem?_eq_getElem h]
  exact List.getElem_mem h
theorem wrap_pow {k : Nat} (hk : k < 64) : IntKind.u64.wrap ((2 : Int) ^ k) = ((2 ^ k : Nat) : Int) := by
  have h : 2 ^ k < 2 ^ 64 := Nat.pow_lt_pow_right (by decide) hk
  have e : ((2 : Int) ^ k) = ((2 ^ k : Nat) : Int) := by simp
  rw [e]
  obtain ⟨z, hz⟩ : ∃ z, z = 2 ^ k := ⟨_, rfl⟩
  rw [← hz] at h ⊢
  have h2 : z < 18446744073709551616 := h
  simp only [IntKind.wrap, IntKind.signed, IntKind.bits]
  simp
  omega
theorem pow_lt {k : Nat} (hk : k < 64) : 2 ^ k < 18446744073709551616 := Nat.pow_lt_pow_right (n := 64) (by decide) hk
theorem and_pow (x k : Nat) : (x &&& 2 ^ k = 0) ↔ x.testBit k = false := by
  constructor
  · intro h
    have h2 : (x &&& 2 ^ k).testBit k = false := by rw [h]; simp
    rw [Nat.testBit_and, Nat.testBit_two_pow_self, Bool.and_true] at h2
    exact h2
  · intro h
    apply Nat.eq_of_testBit_eq
    intro j
    rw [Nat.testBit_and, Nat.zero_testBit, Nat.testBit_two_pow]
    by_cases e : k = j
    · subst e; simp [h]
    · simp [e]
theorem kept_zero (xs : List Int) (x : Nat) (K : Int → Bool) : keptTo xs x K 0 = 0 := by
  refine B.same_bits (kept_lt _ _ _ _) (by decide) fun k hk => ?_
  rw [keptTo, B.mk_bit]
  simp
theorem kept_step {xs : List Int} {x : Nat} {K : Int → Bool} {k : Nat} (hk : k < 64) (h : (x.testBit k && K (xs.getD k 0)) = true) : keptTo xs x K (k + 1) = keptTo xs x K k ||| 2 ^ k := by
  refine B.same_bits (kept_lt _ _ _ _) (Nat.or_lt_two_pow (n := 64) (kept_lt _ _ _ _) (pow_lt hk)) fun j hj => ?_
  rw [Nat.testBit_or, keptTo, keptTo, B.mk_bit, B.mk_bit, Nat.testBit_two_pow]
  by_cases e : k = j
  · subst e; rw [h]; simp [hj]
  · have : (j < k + 1) ↔ (j < k) := by omega
    simp [e, this]
theorem kept_same {xs : List Int} {x : Nat} {K : Int → Bool} {k : Nat} (h : (x.testBit k && K (xs.getD k 0)) = false) : keptTo xs x K (k + 1) = keptTo xs x K k := by
  refine B.same_bits (kept_lt _ _ _ _) (kept_lt _ _ _ _) fun j hj => ?_
  rw [keptTo, keptTo, B.mk_bit, B.mk_bit]
  by_cases e : k = j
  · subst e; rw [h]; simp
  · have : (j < k + 1) ↔ (j < k) := by omega
    simp [this]
theorem kept_all {xs : List Int} {x : Nat} {K : Int → Bool} : keptTo xs x K xs.length = Dm.keepN xs x K := by
  refine B.same_bits (kept_lt _ _ _ _) (Dm.keep_lt _ _ _) fun j hj => ?_
  rw [keptTo, Dm.keepN, B.mk_bit, B.mk_bit]
  cases x.testBit j <;> cases K (xs.getD j 0) <;> simp

end Go.Proofs.YtiaibggbbkhjlaaDoor.St
namespace Go.Proofs.YtiaibggbbkhjlaaDoor.Su
open Go.RowKit

/-- a number of 64 bits -/
def fits (n : Int) : Bool := decide (-9223372036854775808 ≤ n ∧ n ≤ 9223372036854775807)
def num (n : Int) : Int := if fits n = true then n else 0
def err (n : Int) : Int := if fits n = true then 0 else 6

theorem fits_iff {n : Int} : fits n = true ↔ -9223372036854775808 ≤ n ∧ n ≤ 9223372036854775807 := by unfold fits; simp
theorem num_in {n : Int} (h : -9223372036854775808 ≤ n ∧ n ≤ 9223372036854775807) : num n = n := by unfold num; rw [if_pos (fits_iff.mpr h)]
theorem err_in {n : Int} (h : -9223372036854775808 ≤ n ∧ n ≤ 9223372036854775807) : err n = 0 := by unfold err; rw [if_pos (fits_iff.mpr h)]
theorem num_out {n : Int} (h : ¬ (-9223372036854775808 ≤ n ∧ n ≤ 9223372036854775807)) : num n = 0 := by unfold num; rw [if_neg (fun x => h (fits_iff.mp x))]
theorem err_out {n : Int} (h : ¬ (-9223372036854775808 ≤ n ∧ n ≤ 9223372036854775807)) : err n = 6 := by unfold err; rw [if_neg (fun x => h (fits_iff.mp x))]
theorem num_fits (n : Int) : -9223372036854775808 ≤ num n ∧ num n ≤ 9223372036854775807 := by
  by_cases h : -9223372036854775808 ≤ n ∧ n ≤ 9223372036854775807
  · rw [num_in h]; exact h
  · rw [num_out h]; omega

/-- how a compares to b, as rel says -/
def holdsB (a rel b : Int) : Bool :=
  if rel = 0 then decide (a = b) else if rel = 1 then decide (a ≠ b) else if rel = 2 then decide (a < b) else if rel = 3 then decide (a ≤ b) else if rel = 4 then decide (b < a) else if rel = 5 then decide (b ≤ a) else false

/-- the sum of the products of two lists, one by one, from s on, and the error 6 as soon as a product, or the sum so far, is no number -/
def dotFrom : Int → List Int → List Int → Int × Int
  | s, x :: xs, y :: ys => if fits (x * y) = true then (if fits (s + x * y) = true then dotFrom (s + x * y) xs ys else (0, 6)) else (0, 6)
  | s, _, _ => (s, 0)
/-- what Dot tells: the error 1 where the lists aren't as long as each other -/
def dot (xs ys : List Int) : Int × Int := if xs.length = ys.length then dotFrom 0 xs ys else (0, 1)

theorem drop_at {xs : List Int} {k : Nat} (h : k < xs.length) : xs.drop k = xs.getD k 0 :: xs.drop (k + 1) := by
  rw [List.drop_eq_getElem_cons h]; simp [h]
theorem dotFrom_on {xs ys : List Int} {k : Nat} {s : Int} (hx : k < xs.length) (hy : k < ys.length) (h1 : fits (xs.getD k 0 * ys.getD k 0) = true) (h2 : fits (s + xs.getD k 0 * ys.getD k 0) = true) :
    dotFrom s (xs.drop k) (ys.drop k) = dotFrom (s + xs.getD k 0 * ys.getD k 0) (xs.drop (k + 1)) (ys.drop (k + 1)) := by
  rw [drop_at hx, drop_at hy, dotFrom, if_pos h1, if_pos h2]
theorem dotFrom_sum {xs ys : List Int} {k : Nat} {s : Int} (hx : k < xs.length) (hy : k < ys.length) (h2 : ¬ fits (s + xs.getD k 0 * ys.getD k 0) = true) :
    dotFrom s (xs.drop k) (ys.drop k) = (0, 6) := by
  rw [drop_at hx, drop_at hy, dotFrom, if_neg h2]; split <;> rfl
theorem dotFrom_product {xs ys : List Int} {k : Nat} {s : Int} (hx : k < xs.length) (hy : k < ys.length) (h1 : ¬ fits (xs.getD k 0 * ys.getD k 0) = true) :
    dotFrom s (xs.drop k) (ys.drop k) = (0, 6) := by
  rw [drop_at hx, drop_at hy, dotFrom, if_neg h1]
theorem dotFrom_end {xs ys : List Int} {k : Nat} {s : Int} (hx : ¬ k < xs.length) : dotFrom s (xs.drop k) (ys.drop k) = (s, 0) := by
  rw [List.drop_eq_nil_of_le (by omega)]; rfl

/-! halves of 32 bits -/
theorem maskN (a : Nat) (ha : a < 18446744073709551616) : bits .and .u64 (a : Int) 4294967295 = ((a % 4294967296 : Nat) : Int) := by
  have h := bits_and_u64_nat a 4294967295 ha (by omega)
  have e : a &&& 4294967295 = a % 4294967296 := Nat.and_two_pow_sub_one_eq_mod a 32
  rw [e] at h
  exact h
theorem divN (a : Nat) : (a : Int) / 4294967296 = ((a / 4294967296 : Nat) : Int) := by omega
theorem mulN (a b : Nat) : (a : Int) * (b : Int) = ((a * b : Nat) : Int) := (Int.natCast_mul a b).symm
theorem addN (a b : Nat) : (a : Int) + (b : Int) = ((a + b : Nat) : Int) := (Int.natCast_add a b).symm
theorem wrapN (a : Nat) (ha : a < 18446744073709551616) : IntKind.u64.wrap (a : Int) = (a : Int) := by rw [IntKind.wrap_u64]; omega
theorem wrapM (a : Nat) : IntKind.u64.wrap (a : Int) = ((a % 18446744073709551616 : Nat) : Int) := by rw [IntKind.wrap_u64]; omega
end Go.Proofs.YtiaibggbbkhjlaaDoor.Su
namespace Go.Proofs.YtiaibggbbkhjlaaDoor.Gr
set_option maxRecDepth 100000

/-- a value that a row may have -/
def okN (n : Int) : Bool := decide (-1048576 ≤ n ∧ n ≤ 1048576)
def rowOk (row : List Int) : Bool := row.all okN
/-- may constraints, and a row, be? -/
noncomputable def rightG (l : List PCon) (row : List Int) : Bool := rowOk row && l.all fun c => rightC c (row.length : Int)
/-- the value of a variable -/
def val (row : List Int) (v : Int) : Int := row.getD v.toNat 0
/-- a sum of values, from n on -/
def sumG (row : List Int) : Int → List (Int × Int) → Int
  | n, [] => n
  | n, (v, k) :: l => sumG row (n + k * val row v) l
def sumH (row : List Int) (vs ks : List Int) (rel const : Int) : Bool := Su.holdsB (sumG row 0 (vs.zip ks)) rel const
/-- is a row of values among these numbers? -/
def tableG (v : List Int) : Nat → List Int → Bool
  | 0, _ => false
  | n + 1, l => if l = [] then false else decide (l.take v.length = v) || tableG v n (l.drop v.length)
/-- does a constraint that may be hold? -/
def holdsG (c : PCon) (row : List Int) : Bool :=
  if c.kind = 1 then sumH row c.vars c.coefs c.rel c.const
  else if c.kind = 2 then decide ((c.vars.map (val row)).getD 0 0 * (c.vars.map (val row)).getD 1 0 = (c.vars.map (val row)).getD 2 0)
  else if c.kind = 3 then (decide (val row (c.vars.getD 0 0) = 0 ∨ val row (c.vars.getD 0 0) = 1) && (sumH row (c.vars.drop 1) c.coefs c.rel c.const == decide (val row (c.vars.getD 0 0) = 1)))
  else if c.kind = 4 then decide (0 ≤ (c.vars.map (val row)).getD 0 0 ∧ ((c.vars.map (val row)).getD 0 0).toNat < c.nums.length ∧ c.nums.getD ((c.vars.map (val row)).getD 0 0).toNat 0 = (c.vars.map (val row)).getD 1 0)
  else if c.kind = 5 then decide (c.vars.map (val row)).Nodup
  else tableG (c.vars.map (val row)) c.nums.length c.nums
noncomputable def allG (l : List PCon) (row : List Int) : Bool := rightG l row && l.all fun c => holdsG c row

/- sums are small -/
theorem val_small {row : List Int} (h : rowOk row = true) (v : Int) : -1048576 ≤ val row v ∧ val row v ≤ 1048576 := by
  unfold val
  rw [List.getD_eq_getElem?_getD]
  cases e : row[v.toNat]? with
  | none => simp
  | some x =>
    have := List.all_eq_true.1 h x (List.mem_of_getElem? e)
    simpa [okN] using this
theorem mul_small {a b : Int} (ha : -1048576 ≤ a ∧ a ≤ 1048576) (hb : -1048576 ≤ b ∧ b ≤ 1048576) : -1099511627776 ≤ a * b ∧ a * b ≤ 1099511627776 := by
  have h : (a * b).natAbs ≤ 1048576 * 1048576 := by
    rw [Int.natAbs_mul]
    exact Nat.mul_le_mul (by omega) (by omega)
  omega
theorem sum_step (row : List Int) : ∀ (l : List (Int × Int)) (n : Int) (v k : Int), sumG row n (l ++ [(v, k)]) = sumG row n l + k * val row v
  | [], _, _, _ => rfl
  | (x, y) :: l, n, v, k => sum_step row l (n + y * val row x) v k
theorem sum_small {row : List Int} (h : rowOk row = true) : ∀ (l : List (Int × Int)) (n : Int), (∀ x ∈ l, -1048576 ≤ x.2 ∧ x.2 ≤ 1048576) → (sumG row n l - n).natAbs ≤ 1099511627776 * l.length
  | [], n, _ => by simp [sumG]
  | (v, k) :: l, n, hk => by
    have ih := sum_small h l (n + k * val row v) fun x hx => hk x (by simp [hx])
    have hm : -1099511627776 ≤ k * val row v ∧ k * val row v ≤ 1099511627776 := mul_small (hk (v, k) (by simp)) (val_small h v)
    simp only [sumG, List.length_cons] at ih ⊢
    omega
/- P11.2: contrary rels, rels turned about -/
def contraryR (r : Int) : Int := if r = 0 then 1 else if r = 1 then 0 else if r = 2 then 5 else if r = 3 then 4 else if r = 4 then 3 else 2
def aboutR (r : Int) : Int := if r = 0 then 0 else if r = 1 then 1 else if r = 2 then 4 else if r = 3 then 5 else if r = 4 then 2 else 3
theorem holds_contrary {a r b : Int} (h : 0 ≤ r ∧ r ≤ 5) : Su.holdsB a (contraryR r) b = !Su.holdsB a r b := by
  rcases (by omega : r = 0 ∨ r = 1 ∨ r = 2 ∨ r = 3 ∨ r = 4 ∨ r = 5) with rfl | rfl | rfl | rfl | rfl | rfl <;> simp [contraryR, Su.holdsB] <;> (rw [Bool.eq_iff_iff]; simp)
theorem holds_about {a r b : Int} (h : 0 ≤ r ∧ r ≤ 5) : Su.holdsB (-a) (aboutR r) (-b) = Su.holdsB a r b := by
  rcases (by omega : r = 0 ∨ r = 1 ∨ r = 2 ∨ r = 3 ∨ r = 4 ∨ r = 5) with rfl | rfl | rfl | rfl | rfl | rfl <;> simp [aboutR, Su.holdsB] <;> (try (rw [Bool.eq_iff_iff]; simp)) <;> omega
theorem sum_turned (row : List Int) : ∀ (vs ks : List Int) (n : Int), sumG row (-n) (vs.zip (ks.map fun k => -k)) = -sumG row n (vs.zip ks)
  | [], _, n => by simp [sumG]
  | _ :: _, [], n => by simp [sumG]
  | v :: vs, k :: ks, n => by
    have ih := sum_turned row vs ks (n + k * val row v)
    simp only [List.map_cons, List.zip_cons_cons, sumG]
    rw [← ih]
    congr 1
    rw [Int.neg_mul]
    omega
end Go.Proofs.YtiaibggbbkhjlaaDoor.Gr
