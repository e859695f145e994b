/-
  Constraints that may be, as plain data: as the document's answers tell them, and as package model does.
-/
import Derived.Test.YtiaibggbbkhjlaaDoorZPRow
namespace Go.Proofs.YtiaibggbbkhjlaaDoor
open Go.RowKit
set_option maxRecDepth 100000

def linR (b : Int) (c : PCon) : Bool := decide (1 ≤ (c.vars.length : Int) - b) && (decide ((c.vars.length : Int) - b ≤ 8) && (decide ((c.coefs.length : Int) = (c.vars.length : Int) - b) && (allN c.coefs 1048576 && (decide (0 ≤ c.rel) && (decide (c.rel ≤ 5) && (allN [c.const] 1099511627776 && decide (c.nums.length = 0)))))))
def restR (c : PCon) : Bool := !(decide (0 < c.coefs.length) || (!decide (c.rel = 0) || (!decide (c.const = 0) || (!allN c.nums 1048576 || decide (96 < c.nums.length)))))
def kindR (c : PCon) : Bool :=
  if c.kind = 2 then decide (c.vars.length = 3) && decide (c.nums.length = 0)
  else if c.kind = 4 then decide (c.vars.length = 2) && decide (1 ≤ c.nums.length)
  else if c.kind = 5 then decide (2 ≤ c.vars.length) && (decide (c.vars.length ≤ 8) && decide (c.nums.length = 0))
  else if c.kind = 6 then decide (1 ≤ c.vars.length) && (decide (c.vars.length ≤ 8) && decide (c.nums.length % c.vars.length = 0))
  else false
open Classical in
/-- may a constraint of so many variables be? -/
noncomputable def rightC (c : PCon) (vars : Int) : Bool :=
  decide (VarsTo c.vars vars c.vars.length) &&
    (if c.kind = 1 then c.coefs.all (fun x => !decide (x = 0)) && linR 0 c else if c.kind = 3 then c.coefs.all (fun x => !decide (x = 0)) && linR 1 c else restR c && kindR c)
open Classical in
theorem right_bad {c : PCon} {vars : Int} (h : ¬ VarsTo c.vars vars c.vars.length) : rightC c vars = false := by unfold rightC; rw [decide_eq_false h]; rfl
open Classical in
theorem right_on {c : PCon} {vars : Int} (h : VarsTo c.vars vars c.vars.length) : rightC c vars = (if c.kind = 1 then c.coefs.all (fun x => !decide (x = 0)) && linR 0 c else if c.kind = 3 then c.coefs.all (fun x => !decide (x = 0)) && linR 1 c else restR c && kindR c) := by unfold rightC; rw [decide_eq_true h, Bool.true_and]
theorem nums_one (w : World) (z : Int) (h : Fit z) : Nums (w.alloc (.cells #[.int .i64 z] 3)) (some ⟨w.heap.size, 0, none⟩) w.heap.size 0 1 [z] :=
  ⟨rfl, fun _ => rfl, fun k hk => by
    obtain rfl : k = 0 := by omega
    rw [World.cell?_alloc_mark]
    rfl, fun k hk => by
    obtain rfl : k = 0 := by omega
    exact h⟩
theorem coefs_bad {xs : List Int} {j : Nat} (hj : j < xs.length) (h : xs.getD j 0 = 0) : xs.all (fun x => !decide (x = 0)) = false := by
  cases q : xs.all (fun x => !decide (x = 0))
  · rfl
  · have := List.all_eq_true.1 q (xs.getD j 0) (by rw [List.getD_eq_getElem?_getD, List.getElem?_eq_getElem hj]; exact List.getElem_mem hj)
    rw [h] at this
    simp at this
theorem coefs_good {xs : List Int} (h : ∀ j, j < xs.length → xs.getD j 0 ≠ 0) : xs.all (fun x => !decide (x = 0)) = true := by
  refine List.all_eq_true.2 fun x hx => ?_
  obtain ⟨j, hj, e⟩ := List.getElem_of_mem hx
  have := h j hj
  simp [hj, e] at this
  simp [this]

theorem all_okC : ∀ xs : List Int, xs.all okC = (xs.all (fun x => !decide (x = 0)) && allN xs 1048576)
  | [] => rfl
  | x :: r => by
    have e : allN (x :: r) 1048576 = (inM 1048576 x && allN r 1048576) := rfl
    rw [List.all_cons, List.all_cons, e, all_okC r, okC]
    cases inM 1048576 x <;> cases allN r 1048576 <;> simp
theorem all_one (z m : Int) : allN [z] m = inM m z := by simp [allN, inM]
theorem all_none (m : Int) : allN [] m = true := rfl

/-- as package model does it -/
noncomputable def rightP (c : PCon) (vars : Int) : Bool :=
  if c.kind = 1 then rowB c.vars vars 1 8 && (sumB c.coefs c.vars.length c.rel c.const && decide (c.nums.length = 0))
  else if c.kind = 2 then rowB c.vars vars 3 3 && (noSumB c.rel c.const c.coefs.length && decide (c.nums.length = 0))
  else if c.kind = 3 then rowB c.vars vars 2 9 && (sumB c.coefs ((c.vars.length : Int) - 1) c.rel c.const && decide (c.nums.length = 0))
  else if c.kind = 4 then rowB c.vars vars 2 2 && (noSumB c.rel c.const c.coefs.length && (decide (0 < c.nums.length) && numsB c.nums))
  else if c.kind = 5 then rowB c.vars vars 2 8 && (noSumB c.rel c.const c.coefs.length && decide (c.nums.length = 0))
  else if c.kind = 6 then rowB c.vars vars 1 8 && (noSumB c.rel c.const c.coefs.length && (numsB c.nums && decide (c.nums.length % c.vars.length = 0)))
  else false

theorem lin_is (V A : Bool) (b : Int) (c : PCon) (hA : A = c.coefs.all (fun x => !decide (x = 0))) : (V && (A && linR b c)) = ((decide (1 + b ≤ (c.vars.length : Int)) && (decide ((c.vars.length : Int) ≤ 8 + b) && V)) && (sumB c.coefs ((c.vars.length : Int) - b) c.rel c.const && decide (c.nums.length = 0))) := by
  unfold linR sumB
  rw [all_okC, ← hA, all_one]
  have e1 : decide (1 ≤ (c.vars.length : Int) - b) = decide (1 + b ≤ (c.vars.length : Int)) := decide_eq_decide.2 (by omega)
  have e2 : decide ((c.vars.length : Int) - b ≤ 8) = decide ((c.vars.length : Int) ≤ 8 + b) := decide_eq_decide.2 (by omega)
  rw [e1, e2]
  generalize decide (1 + b ≤ (c.vars.length : Int)) = x1
  generalize decide ((c.vars.length : Int) ≤ 8 + b) = x2
  generalize decide ((c.coefs.length : Int) = (c.vars.length : Int) - b) = x3
  generalize allN c.coefs 1048576 = x4
  generalize decide (0 ≤ c.rel) = x5
  generalize decide (c.rel ≤ 5) = x6
  generalize inM 1099511627776 c.const = x7
  generalize decide (c.nums.length = 0) = x8
  cases V <;> cases A <;> cases x1 <;> cases x2 <;> cases x3 <;> cases x4 <;> cases x5 <;> cases x6 <;> cases x7 <;> cases x8 <;> rfl

theorem rest_is (c : PCon) : restR c = (noSumB c.rel c.const c.coefs.length && numsB c.nums) := by
  unfold restR noSumB numsB
  have e1 : decide (0 < c.coefs.length) = !decide (c.coefs.length = 0) := by
    by_cases h : c.coefs.length = 0
    · rw [decide_eq_true h, decide_eq_false (by omega)]; rfl
    · rw [decide_eq_false h, decide_eq_true (by omega)]; rfl
  have e2 : decide (96 < c.nums.length) = !decide (c.nums.length ≤ 96) := by
    by_cases h : c.nums.length ≤ 96
    · rw [decide_eq_true h, decide_eq_false (by omega)]; rfl
    · rw [decide_eq_false h, decide_eq_true (by omega)]; rfl
  rw [e1, e2]
  generalize decide (c.coefs.length = 0) = x1
  generalize decide (c.rel = 0) = x2
  generalize decide (c.const = 0) = x3
  generalize allN c.nums 1048576 = x4
  generalize decide (c.nums.length ≤ 96) = x5
  cases x1 <;> cases x2 <;> cases x3 <;> cases x4 <;> cases x5 <;> rfl
theorem nums_zero {c : PCon} : (numsB c.nums && decide (c.nums.length = 0)) = decide (c.nums.length = 0) := by
  by_cases h : c.nums.length = 0
  · have e : c.nums = [] := List.eq_nil_of_length_eq_zero h
    rw [e]; rfl
  · rw [decide_eq_false h, Bool.and_false]

open Classical in
theorem right_is (c : PCon) (vars : Int) : rightC c vars = rightP c vars := by
  unfold rightC rightP rowB
  obtain ⟨V, hV⟩ : ∃ V, V = decide (VarsTo c.vars vars c.vars.length) := ⟨_, rfl⟩
  rw [← hV]
  by_cases k1 : c.kind = 1
  · rw [if_pos k1, if_pos k1, lin_is V _ 0 c rfl]
    simp
  · rw [if_neg k1, if_neg k1]
    by_cases k3 : c.kind = 3
    · rw [if_pos k3, if_neg (by omega), if_pos k3, lin_is V _ 1 c rfl]
      simp
    · rw [if_neg k3, rest_is]
      unfold kindR
      by_cases k2 : c.kind = 2
      · rw [if_pos k2, if_pos k2]
        have e : decide (c.vars.length = 3) = (decide (3 ≤ (c.vars.length : Int)) && decide ((c.vars.length : Int) ≤ 3)) := by
          rw [Bool.eq_iff_iff]; simp; omega
        rw [e]
        have n := @nums_zero c
        revert n
        generalize decide (3 ≤ (c.vars.length : Int)) = x1
        generalize decide ((c.vars.length : Int) ≤ 3) = x2
        generalize noSumB c.rel c.const c.coefs.length = x3
        generalize numsB c.nums = x4
        generalize decide (c.nums.length = 0) = x5
        cases V <;> cases x1 <;> cases x2 <;> cases x3 <;> cases x4 <;> cases x5 <;> simp
      · rw [if_neg k2, if_neg k2, if_neg k3]
        by_cases k4 : c.kind = 4
        · rw [if_pos k4, if_pos k4]
          have e : decide (c.vars.length = 2) = (decide (2 ≤ (c.vars.length : Int)) && decide ((c.vars.length : Int) ≤ 2)) := by
            rw [Bool.eq_iff_iff]; simp; omega
          have e2 : decide (1 ≤ c.nums.length) = decide (0 < c.nums.length) := decide_eq_decide.2 (by omega)
          rw [e, e2]
          generalize decide (2 ≤ (c.vars.length : Int)) = x1
          generalize decide ((c.vars.length : Int) ≤ 2) = x2
          generalize noSumB c.rel c.const c.coefs.length = x3
          generalize numsB c.nums = x4
          generalize decide (0 < c.nums.length) = x5
          cases V <;> cases x1 <;> cases x2 <;> cases x3 <;> cases x4 <;> cases x5 <;> rfl
        · rw [if_neg k4, if_neg k4]
          by_cases k5 : c.kind = 5
          · rw [if_pos k5, if_pos k5]
            have e : decide (2 ≤ c.vars.length) = decide (2 ≤ (c.vars.length : Int)) := decide_eq_decide.2 (by omega)
            have e2 : decide (c.vars.length ≤ 8) = decide ((c.vars.length : Int) ≤ 8) := decide_eq_decide.2 (by omega)
            rw [e, e2]
            have n := @nums_zero c
            revert n
            generalize decide (2 ≤ (c.vars.length : Int)) = x1
            generalize decide ((c.vars.length : Int) ≤ 8) = x2
            generalize noSumB c.rel c.const c.coefs.length = x3
            generalize numsB c.nums = x4
            generalize decide (c.nums.length = 0) = x5
            cases V <;> cases x1 <;> cases x2 <;> cases x3 <;> cases x4 <;> cases x5 <;> simp
          · rw [if_neg k5, if_neg k5]
            by_cases k6 : c.kind = 6
            · rw [if_pos k6, if_pos k6]
              have e : decide (1 ≤ c.vars.length) = decide (1 ≤ (c.vars.length : Int)) := decide_eq_decide.2 (by omega)
              have e2 : decide (c.vars.length ≤ 8) = decide ((c.vars.length : Int) ≤ 8) := decide_eq_decide.2 (by omega)
              rw [e, e2]
              generalize decide (1 ≤ (c.vars.length : Int)) = x1
              generalize decide ((c.vars.length : Int) ≤ 8) = x2
              generalize noSumB c.rel c.const c.coefs.length = x3
              generalize numsB c.nums = x4
              generalize decide (c.nums.length % c.vars.length = 0) = x5
              cases V <;> cases x1 <;> cases x2 <;> cases x3 <;> cases x4 <;> cases x5 <;> rfl
            · rw [if_neg k6, if_neg k6, Bool.and_false, Bool.and_false]
end Go.Proofs.YtiaibggbbkhjlaaDoor
