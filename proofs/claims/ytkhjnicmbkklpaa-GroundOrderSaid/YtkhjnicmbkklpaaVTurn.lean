/-
  Contrary rels, signs that are turned, and Iff, over plain data. Nothing of the program.
-/
import Derived.Test.YtkhjnicmbkklpaaVNum
namespace Go.Proofs.Ytkhjnicmbkklpaa.Gr
set_option maxRecDepth 100000

theorem sum_like {row row' : List Int} : ∀ (l : List (Int × Int)) (n : Int), (∀ p ∈ l, val row p.1 = val row' p.1) → sumG row n l = sumG row' n l
  | [], _, _ => rfl
  | (v, k) :: l, n, h => by
    have e : val row v = val row' v := h (v, k) (by simp)
    simp only [sumG, e]
    exact sum_like l _ fun p hp => h p (by simp [hp])
theorem sumH_like {row row' vs ks : List Int} {rel const : Int} (h : ∀ v ∈ vs, val row v = val row' v) : sumH row vs ks rel const = sumH row' vs ks rel const := by
  unfold sumH
  rw [sum_like (vs.zip ks) 0 fun p hp => h p.1 (List.of_mem_zip hp).1]
theorem vars_in {vs : List Int} {n : Int} (h : VarsTo vs n vs.length) {v : Int} (hv : v ∈ vs) : 0 ≤ v ∧ v < n := by
  obtain ⟨i, hi, e⟩ := List.getElem_of_mem hv
  have := (h i hi).1
  rw [List.getD_eq_getElem?_getD, List.getElem?_eq_getElem hi] at this
  simpa [e] using this
theorem val_old {row : List Int} {x v : Int} (h : 0 ≤ v ∧ v < row.length) : val (row ++ [x]) v = val row v := by
  unfold val
  rw [List.getD_eq_getElem?_getD, List.getD_eq_getElem?_getD, List.getElem?_append_left (by omega)]
theorem val_new {row : List Int} {x : Int} : val (row ++ [x]) (row.length : Int) = x := by
  unfold val
  rw [List.getD_eq_getElem?_getD]
  simp
theorem rowOk_more {row : List Int} {x : Int} : rowOk (row ++ [x]) = (rowOk row && okN x) := by simp [rowOk]
theorem vars_more {vs : List Int} {n : Int} (h : VarsTo vs n vs.length) (hn : 0 ≤ n) : VarsTo (n :: vs) (n + 1) (n :: vs).length := by
  intro i hi
  cases i with
  | zero => exact ⟨by simp; omega, fun j hj => by omega⟩
  | succ i =>
    have hi' : i < vs.length := by simpa using hi
    obtain ⟨⟨h1, h2⟩, h3⟩ := h i hi'
    refine ⟨by simp only [List.getD_cons_succ]; omega, fun j hj => ?_⟩
    cases j with
    | zero => simp only [List.getD_cons_zero, List.getD_cons_succ]; omega
    | succ j => simp only [List.getD_cons_succ]; exact h3 j (by omega)

theorem rightG_one {c : PCon} {row : List Int} : rightG [c] row = (rowOk row && rightC c (row.length : Int)) := by simp [rightG]
theorem allG_one {c : PCon} {row : List Int} : allG [c] row = (rightG [c] row && holdsG c row) := by simp [allG]
theorem allG_is {c : PCon} {row : List Int} (h : rightG [c] row = true) : allG [c] row = holdsG c row := by rw [allG_one, h, Bool.true_and]

def contraryC (c : PCon) : PCon := { c with rel := contraryR c.rel }
def turnC (c : PCon) : PCon := { c with rel := aboutR c.rel, const := -c.const, coefs := c.coefs.map fun k => -k }
def iffC (c : PCon) (n : Int) : PCon := ⟨3, n :: c.vars, c.coefs, c.rel, c.const, []⟩

open Classical in
/-- a linear constraint that may be -/
theorem lin_on {c : PCon} {n : Int} (hk : c.kind = 1) : rightC c n = true ↔ VarsTo c.vars n c.vars.length ∧ (c.coefs.all (fun x => !decide (x = 0)) && linR 0 c) = true := by
  by_cases h : VarsTo c.vars n c.vars.length
  · rw [right_on h, if_pos hk]; simp [h]
  · rw [right_bad h]; simp [h]
theorem lin_parts {c : PCon} {b : Int} : linR b c = true ↔ (1 ≤ (c.vars.length : Int) - b ∧ (c.vars.length : Int) - b ≤ 8 ∧ (c.coefs.length : Int) = (c.vars.length : Int) - b ∧ allN c.coefs 1048576 = true ∧ 0 ≤ c.rel ∧ c.rel ≤ 5 ∧ allN [c.const] 1099511627776 = true ∧ c.nums.length = 0) := by
  unfold linR
  simp only [Bool.and_eq_true, decide_eq_true_eq]
theorem rel_contrary {r : Int} (h : 0 ≤ r ∧ r ≤ 5) : 0 ≤ contraryR r ∧ contraryR r ≤ 5 := by
  rcases (by omega : r = 0 ∨ r = 1 ∨ r = 2 ∨ r = 3 ∨ r = 4 ∨ r = 5) with rfl | rfl | rfl | rfl | rfl | rfl <;> decide
theorem rel_about {r : Int} (h : 0 ≤ r ∧ r ≤ 5) : 0 ≤ aboutR r ∧ aboutR r ≤ 5 := by
  rcases (by omega : r = 0 ∨ r = 1 ∨ r = 2 ∨ r = 3 ∨ r = 4 ∨ r = 5) with rfl | rfl | rfl | rfl | rfl | rfl <;> decide
theorem allN_neg {xs : List Int} {m : Int} : allN (xs.map fun k => -k) m = allN xs m := by
  unfold allN
  rw [List.all_map]
  refine List.all_congr rfl fun x => ?_
  simp only [Function.comp]
  rw [Bool.eq_iff_iff]
  simp only [Bool.and_eq_true, decide_eq_true_eq]
  omega
theorem nonzero_neg {xs : List Int} : (xs.map fun k => -k).all (fun x => !decide (x = 0)) = xs.all (fun x => !decide (x = 0)) := by
  rw [List.all_map]
  refine List.all_congr rfl fun x => ?_
  simp only [Function.comp]
  rw [Bool.eq_iff_iff]
  simp only [Bool.not_eq_true', decide_eq_false_iff_not]
  omega

section
variable {c : PCon} {row : List Int} (hk : c.kind = 1) (hr : rightG [c] row = true)
include hk hr
theorem lin_have : rowOk row = true ∧ VarsTo c.vars row.length c.vars.length ∧ c.coefs.all (fun x => !decide (x = 0)) = true ∧ linR 0 c = true := by
  rw [rightG_one] at hr
  simp only [Bool.and_eq_true] at hr
  obtain ⟨h1, h2⟩ := hr
  obtain ⟨h3, h4⟩ := (lin_on hk).1 h2
  simp only [Bool.and_eq_true] at h4
  exact ⟨h1, h3, h4.1, h4.2⟩
theorem contrary_right : rightG [contraryC c] row = true := by
  obtain ⟨h1, h2, h3, h4⟩ := lin_have hk hr
  rw [rightG_one, h1, Bool.true_and]
  refine (lin_on (c := contraryC c) hk).2 ⟨h2, ?_⟩
  simp only [Bool.and_eq_true]
  obtain ⟨a, b, d, e, f, g, i, j⟩ := lin_parts.1 h4
  obtain ⟨f', g'⟩ := rel_contrary ⟨f, g⟩
  exact ⟨h3, lin_parts.2 ⟨a, b, d, e, f', g', i, j⟩⟩
theorem turn_right : rightG [turnC c] row = true := by
  obtain ⟨h1, h2, h3, h4⟩ := lin_have hk hr
  rw [rightG_one, h1, Bool.true_and]
  refine (lin_on (c := turnC c) hk).2 ⟨h2, ?_⟩
  simp only [Bool.and_eq_true]
  obtain ⟨a, b, d, e, f, g, i, j⟩ := lin_parts.1 h4
  obtain ⟨f', g'⟩ := rel_about ⟨f, g⟩
  refine ⟨nonzero_neg.trans h3, lin_parts.2 ⟨a, b, ?_, allN_neg.trans e, f', g', ?_, j⟩⟩
  · simpa [turnC] using d
  · exact (allN_neg (xs := [c.const])).trans i
theorem iff_right {x : Int} (hx : okN x = true) : rightG [iffC c row.length] (row ++ [x]) = true := by
  obtain ⟨h1, h2, h3, h4⟩ := lin_have hk hr
  rw [rightG_one, rowOk_more, h1, hx, Bool.true_and, Bool.true_and]
  obtain ⟨a, b, d, e, f, g, i, j⟩ := lin_parts.1 h4
  have e1 : ((row ++ [x]).length : Int) = (row.length : Int) + 1 := by simp
  rw [e1]
  have hv : VarsTo (iffC c row.length).vars ((row.length : Int) + 1) (iffC c row.length).vars.length := vars_more h2 (by omega)
  rw [right_on hv, if_neg (show ¬ (iffC c row.length).kind = 1 from by show ¬ (3 : Int) = 1; decide), if_pos (show (iffC c row.length).kind = 3 from rfl)]
  simp only [Bool.and_eq_true]
  refine ⟨h3, lin_parts.2 ⟨?_, ?_, ?_, e, f, g, i, rfl⟩⟩
  · simp only [iffC, List.length_cons]; omega
  · simp only [iffC, List.length_cons]; omega
  · simp only [iffC, List.length_cons]; omega
omit hr in
theorem lin_is_sum : holdsG c row = sumH row c.vars c.coefs c.rel c.const := by unfold holdsG; rw [if_pos hk]
theorem contrary_law : allG [contraryC c] row = !allG [c] row := by
  obtain ⟨h1, h2, h3, h4⟩ := lin_have hk hr
  obtain ⟨a, b, d, e, f, g, i, j⟩ := lin_parts.1 h4
  rw [allG_is hr, allG_is (contrary_right hk hr), lin_is_sum hk]
  unfold holdsG
  rw [if_pos (show (contraryC c).kind = 1 from hk)]
  exact holds_contrary ⟨f, g⟩
theorem turn_law : allG [turnC c] row = allG [c] row := by
  obtain ⟨h1, h2, h3, h4⟩ := lin_have hk hr
  obtain ⟨a, b, d, e, f, g, i, j⟩ := lin_parts.1 h4
  rw [allG_is hr, allG_is (turn_right hk hr), lin_is_sum hk]
  unfold holdsG
  rw [if_pos (show (turnC c).kind = 1 from hk)]
  show Su.holdsB (sumG row 0 (c.vars.zip (c.coefs.map fun k => -k))) (aboutR c.rel) (-c.const) = _
  have e0 := sum_turned row c.vars c.coefs 0
  rw [Int.neg_zero] at e0
  rw [e0]
  exact holds_about ⟨f, g⟩
theorem iff_law {x : Int} (hx : okN x = true) : allG [iffC c row.length] (row ++ [x]) = (decide (x = 0 ∨ x = 1) && (allG [c] row == decide (x = 1))) := by
  obtain ⟨h1, h2, h3, h4⟩ := lin_have hk hr
  rw [allG_is hr, allG_is (iff_right hk hr hx), lin_is_sum hk]
  unfold holdsG
  rw [if_neg (show ¬ (iffC c row.length).kind = 1 from by show ¬ (3 : Int) = 1; decide), if_neg (show ¬ (iffC c row.length).kind = 2 from by show ¬ (3 : Int) = 2; decide), if_pos (show (iffC c row.length).kind = 3 from rfl)]
  have e1 : val (row ++ [x]) ((iffC c row.length).vars.getD 0 0) = x := val_new
  rw [e1]
  congr 2
  exact sumH_like fun v hv => val_old (vars_in h2 hv)
theorem iff_one : allG [iffC c row.length] (row ++ [1]) = allG [c] row := by rw [iff_law hk hr (by decide)]; simp
theorem iff_zero : allG [iffC c row.length] (row ++ [0]) = !allG [c] row := by rw [iff_law hk hr (by decide)]; simp
theorem iff_two : allG [iffC c row.length] (row ++ [2]) = false := by rw [iff_law hk hr (by decide)]; simp
end
end Go.Proofs.Ytkhjnicmbkklpaa.Gr
