/-
  What the contracts say of the small model.
-/
import Derived.Test.YthoakeekfajhaaaMSmall
namespace Go.Proofs.Ythoakeekfajhaaa
open Go.RowKit

theorem few_small (nm : List UInt8) (h : nm.length ≤ 100) : Few (smallP nm) := by
  have hd : ∀ d : PDecl, d = ⟨[121], [(0, 1)]⟩ ∨ d = ⟨nm, [(0, 1)]⟩ → d.name.length ≤ 100 ∧ d.dom.length ≤ 150 := by
    rintro d (rfl | rfl)
    · exact ⟨by simp, by simp⟩
    · exact ⟨h, by simp⟩
  refine ⟨by simp [smallP], fun b hb => ?_, fun b hb => ?_, ⟨by simp [smallP], fun c hc => ?_⟩, fun b hb d q => hd d ?_⟩
  · simp [smallP] at hb
    rcases hb with rfl | rfl <;> simp
  · simp [smallP] at hb
    rcases hb with rfl | rfl <;> simp
  · simp [smallP] at hc
    subst hc
    simp [Short, conS]
  · simp [smallP] at hb
    rcases hb with rfl | rfl <;> simp at q
    · exact .inl q
    · exact .inr q
theorem few_none : Few ⟨[], []⟩ := ⟨by simp, by simp, by simp, by simp, by simp⟩
theorem vars_conS : VarsTo conS.vars 2 conS.vars.length := fun i hi => by
  have hi : i < 2 := hi
  match i, hi with
  | 0, _ => exact ⟨by decide, fun j hj => by omega⟩
  | 1, _ => exact ⟨by decide, fun j hj => by obtain rfl : j = 0 := by omega
                                             decide⟩
theorem right_two : rightC conS 2 = true := by
  rw [right_on vars_conS]
  decide
theorem right_one : rightC conS 1 = false := right_bad fun h => by
  have := (h 1 (by decide)).1.2
  revert this
  decide
theorem big_small (nm : List UInt8) : bigM (smallP nm) = false := rfl
theorem form_small (nm : List UInt8) : formM (smallP nm) = false := rfl
theorem vars_small (nm : List UInt8) : varsL (smallP nm).blocks = [⟨[121], [(0, 1)]⟩, ⟨nm, [(0, 1)]⟩] := rfl
theorem name_y : nameL [121] = true := by decide
theorem name_x : nameL [120] = true := by decide
theorem name_small {nm : List UInt8} (h : nameL nm = true) : nameM (smallP nm) = false := by
  unfold nameM
  rw [vars_small]
  simp [name_y, h]
theorem dom_small (nm : List UInt8) : domM (smallP nm) = false := by
  have h : ∀ n : List UInt8, domD ⟨n, [(0, 1)]⟩ = false := fun n => by
    show (decide (szL [(0, 1)] < 1) || decide (64 < szL [(0, 1)])) = false
    decide
  unfold domM
  rw [vars_small]
  simp [h]
theorem con_small (nm : List UInt8) : conM (smallP nm) = false := by
  unfold conM
  rw [vars_small]
  simp [smallP, conF, wrongL, right_two]
theorem twice_x : twiceM (smallP [120]) = false := by
  refine twice_false rfl ?_
  rintro ⟨i, j, hj, hi, e⟩
  have hi : i < 2 := hi
  obtain rfl : i = 1 := by omega
  obtain rfl : j = 0 := by omega
  revert e
  decide
theorem twice_y : twiceM (smallP [121]) = true := twice_true rfl ⟨1, 0, by omega, by decide, by decide⟩
theorem check_x : checkM (smallP [120]) = 0 := by
  simp [checkM, faultsM, firstF, big_small, form_small, name_small name_x, twice_x, dom_small, con_small]
theorem check_y : checkM (smallP [121]) = 8 := by
  simp [checkM, faultsM, firstF, big_small, form_small, name_small name_y, twice_y]
theorem check_none : checkM ⟨[], []⟩ = 2 := by
  have h1 : bigM ⟨[], []⟩ = false := rfl
  have h2 : formM ⟨[], []⟩ = true := rfl
  simp [checkM, faultsM, firstF, h1, h2]
theorem same_xx : sameM (smallP [120]) (smallP [120]) = true := by decide
theorem same_xy : sameM (smallP [120]) (smallP [121]) = false := by decide
theorem nodes_x : nodesM (smallP [120]) = 18 := by
  unfold nodesM
  rw [if_pos check_x, vars_small]
  decide
theorem ends_x : endsF 0 (smallP [120]).blocks = [1, 2] := rfl
theorem none_model (w : World) : rModel w [.slice none 0 0, .slice none 0 0] ⟨[], []⟩ := ⟨_, _, rfl, none_slc _ _ _, none_slc _ _ _⟩
end Go.Proofs.Ythoakeekfajhaaa
