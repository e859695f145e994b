/-
  When constraints hold of values: pure functions, and what follows of them. Nothing of the program.
-/
import Derived.Test.YtkhjnicmbkklpaaUNum
import Derived.Test.YtkhjnicmbkklpaaRNum
namespace Go.Proofs.Ytkhjnicmbkklpaa.Gr
set_option maxRecDepth 100000

/-- a value that a row may have -/
def okN (n : Int) : Bool := decide (-1048576 ≤ n ∧ n ≤ 1048576)
def rowOk (row : List Int) : Bool := row.all okN
/-- may constraints, and a row, be? -/
noncomputable def rightG (l : List PCon) (row : List Int) : Bool := rowOk row && l.all fun c => rightC c (row.length : Int)
/-- the value of a variable -/
def val (row : List Int) (v : Int) : Int := row.getD v.toNat 0
/-- a sum of values, from n on -/
def sumG (row : List Int) : Int → List (Int × Int) → Int
  | n, [] => n
  | n, (v, k) :: l => sumG row (n + k * val row v) l
def sumH (row : List Int) (vs ks : List Int) (rel const : Int) : Bool := Su.holdsB (sumG row 0 (vs.zip ks)) rel const
/-- is a row of values among these numbers? -/
def tableG (v : List Int) : Nat → List Int → Bool
  | 0, _ => false
  | n + 1, l => if l = [] then false else decide (l.take v.length = v) || tableG v n (l.drop v.length)
/-- does a constraint that may be hold? -/
def holdsG (c : PCon) (row : List Int) : Bool :=
  if c.kind = 1 then sumH row c.vars c.coefs c.rel c.const
  else if c.kind = 2 then decide ((c.vars.map (val row)).getD 0 0 * (c.vars.map (val row)).getD 1 0 = (c.vars.map (val row)).getD 2 0)
  else if c.kind = 3 then (decide (val row (c.vars.getD 0 0) = 0 ∨ val row (c.vars.getD 0 0) = 1) && (sumH row (c.vars.drop 1) c.coefs c.rel c.const == decide (val row (c.vars.getD 0 0) = 1)))
  else if c.kind = 4 then decide (0 ≤ (c.vars.map (val row)).getD 0 0 ∧ ((c.vars.map (val row)).getD 0 0).toNat < c.nums.length ∧ c.nums.getD ((c.vars.map (val row)).getD 0 0).toNat 0 = (c.vars.map (val row)).getD 1 0)
  else if c.kind = 5 then decide (c.vars.map (val row)).Nodup
  else tableG (c.vars.map (val row)) c.nums.length c.nums
noncomputable def allG (l : List PCon) (row : List Int) : Bool := rightG l row && l.all fun c => holdsG c row

/- sums are small -/
theorem val_small {row : List Int} (h : rowOk row = true) (v : Int) : -1048576 ≤ val row v ∧ val row v ≤ 1048576 := by
  unfold val
  rw [List.getD_eq_getElem?_getD]
  cases e : row[v.toNat]? with
  | none => simp
  | some x =>
    have := List.all_eq_true.1 h x (List.mem_of_getElem? e)
    simpa [okN] using this
theorem mul_small {a b : Int} (ha : -1048576 ≤ a ∧ a ≤ 1048576) (hb : -1048576 ≤ b ∧ b ≤ 1048576) : -1099511627776 ≤ a * b ∧ a * b ≤ 1099511627776 := by
  have h : (a * b).natAbs ≤ 1048576 * 1048576 := by
    rw [Int.natAbs_mul]
    exact Nat.mul_le_mul (by omega) (by omega)
  omega
theorem sum_step (row : List Int) : ∀ (l : List (Int × Int)) (n : Int) (v k : Int), sumG row n (l ++ [(v, k)]) = sumG row n l + k * val row v
  | [], _, _, _ => rfl
  | (x, y) :: l, n, v, k => sum_step row l (n + y * val row x) v k
theorem sum_small {row : List Int} (h : rowOk row = true) : ∀ (l : List (Int × Int)) (n : Int), (∀ x ∈ l, -1048576 ≤ x.2 ∧ x.2 ≤ 1048576) → (sumG row n l - n).natAbs ≤ 1099511627776 * l.length
  | [], n, _ => by simp [sumG]
  | (v, k) :: l, n, hk => by
    have ih := sum_small h l (n + k * val row v) fun x hx => hk x (by simp [hx])
    have hm : -1099511627776 ≤ k * val row v ∧ k * val row v ≤ 1099511627776 := mul_small (hk (v, k) (by simp)) (val_small h v)
    simp only [sumG, List.length_cons] at ih ⊢
    omega
/- P11.2: contrary rels, rels turned about -/
def contraryR (r : Int) : Int := if r = 0 then 1 else if r = 1 then 0 else if r = 2 then 5 else if r = 3 then 4 else if r = 4 then 3 else 2
def aboutR (r : Int) : Int := if r = 0 then 0 else if r = 1 then 1 else if r = 2 then 4 else if r = 3 then 5 else if r = 4 then 2 else 3
theorem holds_contrary {a r b : Int} (h : 0 ≤ r ∧ r ≤ 5) : Su.holdsB a (contraryR r) b = !Su.holdsB a r b := by
  rcases (by omega : r = 0 ∨ r = 1 ∨ r = 2 ∨ r = 3 ∨ r = 4 ∨ r = 5) with rfl | rfl | rfl | rfl | rfl | rfl <;> simp [contraryR, Su.holdsB] <;> (rw [Bool.eq_iff_iff]; simp)
theorem holds_about {a r b : Int} (h : 0 ≤ r ∧ r ≤ 5) : Su.holdsB (-a) (aboutR r) (-b) = Su.holdsB a r b := by
  rcases (by omega : r = 0 ∨ r = 1 ∨ r = 2 ∨ r = 3 ∨ r = 4 ∨ r = 5) with rfl | rfl | rfl | rfl | rfl | rfl <;> simp [aboutR, Su.holdsB] <;> (try (rw [Bool.eq_iff_iff]; simp)) <;> omega
theorem sum_turned (row : List Int) : ∀ (vs ks : List Int) (n : Int), sumG row (-n) (vs.zip (ks.map fun k => -k)) = -sumG row n (vs.zip ks)
  | [], _, n => by simp [sumG]
  | _ :: _, [], n => by simp [sumG]
  | v :: vs, k :: ks, n => by
    have ih := sum_turned row vs ks (n + k * val row v)
    simp only [List.map_cons, List.zip_cons_cons, sumG]
    rw [← ih]
    congr 1
    rw [Int.neg_mul]
    omega
end Go.Proofs.Ytkhjnicmbkklpaa.Gr
