/-
  What follows from a constraint that may be, and domains that may: variables, coefs and rows are small; what a linear step leaves, as a list. Nothing of the program.
  What reaches and total of package linear answer: of each variable the least and the greatest that its Coef times a value makes; their sums.
  What total of package linear answers: the least and the greatest sum of all.
-/
import Derived.Test.YtiaibggbbkhjlaaDoorZYAZ
import Derived.Test.YtiaibggbbkhjlaaDoorZYBB
import Derived.Test.YtiaibggbbkhjlaaDoorZYBA
namespace Go.Proofs.YtiaibggbbkhjlaaDoor.St
open Go.RowKit
set_option maxRecDepth 100000

theorem leftM_small {xs : List Int} {x : Nat} : ∀ y ∈ Dm.leftM xs x, -1048576 ≤ y ∧ y ≤ 1048576 := by
  intro y hy
  unfold Dm.leftM at hy
  split at hy
  · rename_i hm
    unfold Dm.left at hy
    obtain ⟨k, _, rfl⟩ := List.mem_map.1 hy
    by_cases hk : k < xs.length
    · refine Dm.rise_low (Dm.may_iff.1 hm).2.2 ?_
      rw [List.getD_eq_getElem?_getD, List.getElem?_eq_getElem hk]
      exact List.getElem_mem hk
    · rw [List.getD_eq_getElem?_getD, List.getElem?_eq_none (by omega)]
      simp
  · simp at hy
theorem lefts_small (L : List (List Int × Nat)) : ∀ l ∈ leftsOf L, l.length ≤ 1000 ∧ ∀ x ∈ l, -1048576 ≤ x ∧ x ≤ 1048576 := by
  intro l hl
  obtain ⟨d, _, rfl⟩ := List.mem_map.1 hl
  exact ⟨Nat.le_trans (Dm.leftM_le _ _) (by decide), leftM_small⟩
theorem lefts_length (L : List (List Int × Nat)) : (leftsOf L).length = L.length := by simp [leftsOf]
theorem rightS_parts {c : PCon} {L : List (List Int × Nat)} {K : List Int} (h : rightS c L K = true) : c.kind ∈ K ∧ mayTo L L.length = true ∧ rightC c L.length = true := by
  unfold rightS at h
  simp only [Bool.and_eq_true] at h
  exact ⟨by have := h.1.1; rw [inK_all] at this; exact of_decide_eq_true this, h.1.2, h.2⟩
open Classical in
theorem right_vars {c : PCon} {n : Int} (h : rightC c n = true) : VarsTo c.vars n c.vars.length := by
  unfold rightC at h
  rw [Bool.and_eq_true] at h
  exact of_decide_eq_true h.1
theorem right_lin {c : PCon} {n : Int} (h : rightC c n = true) : (c.kind = 1 → linR 0 c = true) ∧ (c.kind = 3 → linR 1 c = true) := by
  rw [right_on (right_vars h)] at h
  constructor
  · intro e
    rw [if_pos e, Bool.and_eq_true] at h
    exact h.2
  · intro e
    rw [if_neg (by omega), if_pos e, Bool.and_eq_true] at h
    exact h.2
theorem vars_mem {c : PCon} {n : Int} (h : VarsTo c.vars n c.vars.length) : ∀ v ∈ c.vars, 0 ≤ v ∧ v < n := by
  intro v hv
  obtain ⟨i, hi, rfl⟩ := List.getElem_of_mem hv
  have := (h i hi).1
  simpa [List.getD, List.getElem?_eq_getElem hi] using this
theorem full_of {M : List (List Int)} {vars : List Int} (h : wipeTo M vars vars.length = false) {v : Int} (hv : v ∈ vars) : 0 < (M.getD v.toNat []).length := by
  unfold wipeTo at h
  rw [List.take_length, List.any_eq_false] at h
  have := h v hv
  simp only [decide_eq_true_eq] at this
  omega
theorem coefs_in {ks : List Int} (h : allN ks 1048576 = true) : ∀ k, k < ks.length → -1048576 ≤ ks.getD k 0 ∧ ks.getD k 0 ≤ 1048576 := by
  intro k hk
  have := List.all_eq_true.1 h (ks.getD k 0) (by rw [List.getD_eq_getElem?_getD, List.getElem?_eq_getElem hk]; exact List.getElem_mem hk)
  simpa [Bool.and_eq_true] using this
theorem ok_of {c : PCon} {L : List (List Int × Nat)} (hv : VarsTo c.vars L.length c.vars.length) (hw : wipeTo (leftsOf L) c.vars c.vars.length = false) {b : Nat} (hl : linR b c = true) (_hb : b ≤ c.vars.length) : Ok (c.vars.drop b) c.coefs (leftsOf L) := by
  obtain ⟨h1, h2, h3, h4, _⟩ := Gr.lin_parts.1 hl
  refine ⟨fun k hk => ?_, lefts_small L, by rw [List.length_drop]; omega, coefs_in h4, by rw [List.length_drop]; omega⟩
  have hk2 : b + k < c.vars.length := by rw [List.length_drop] at hk; omega
  have e : (c.vars.drop b).getD k 0 = c.vars.getD (b + k) 0 := by simp [List.getD, List.getElem?_drop]
  have hm : c.vars.getD (b + k) 0 ∈ c.vars := by rw [List.getD_eq_getElem?_getD, List.getElem?_eq_getElem hk2]; exact List.getElem_mem hk2
  rw [e, lefts_length]
  exact ⟨(vars_mem hv _ hm).1, (vars_mem hv _ hm).2, full_of hw hm⟩

/-- what is left of the first variable of an Iff -/
def firstL (M : List (List Int)) (c : PCon) : List Int :=
  let e := endsTo (c.vars.drop 1) c.coefs M (-1) (c.vars.drop 1).length
  let row := M.getD (c.vars.getD 0 0).toNat []
  (if decide (0 ∈ row) && mayG e.1 e.2 (contrary c.rel) c.const then [0] else []) ++ (if decide (1 ∈ row) && mayG e.1 e.2 c.rel c.const then [1] else [])
/-- what is left of the others -/
def othersL (M : List (List Int)) (c : PCon) : List (List Int) :=
  let row := M.getD (c.vars.getD 0 0).toNat []
  if 1 ∈ row then (if 0 ∈ row then M else sumL (c.vars.drop 1) c.coefs M c.rel c.const) else sumL (c.vars.drop 1) c.coefs M (contrary c.rel) c.const
/-- what a step leaves, as lists -/
def stepLeft (M : List (List Int)) (c : PCon) : List (List Int) :=
  if wipeTo M c.vars c.vars.length = true then noneL M c.vars else if c.kind = 1 then sumL c.vars c.coefs M c.rel c.const else
    if 0 ∉ M.getD (c.vars.getD 0 0).toNat [] ∧ 1 ∉ M.getD (c.vars.getD 0 0).toNat [] then noneL M c.vars else (othersL M c).set (c.vars.getD 0 0).toNat (firstL M c)
/-- the document's answer -/
noncomputable def stepD (c : PCon) (L : List (List Int × Nat)) : List (List Int × Nat) × Int :=
  if rightS c L [1, 3] = true then (keepTo L (stepLeft (leftsOf L) c) L.length, 0) else ([], 1)
end Go.Proofs.YtiaibggbbkhjlaaDoor.St
namespace Go.Proofs.YtiaibggbbkhjlaaDoor.St
open Go.RowKit
set_option maxRecDepth 100000

/-- what one variable's part of a sum may be -/
def endP (ks : List Int) (D : List (List Int × Nat)) (k : Nat) : Int × Int :=
  (min (ks.getD k 0 * (leftOf (D.getD k ([], 0))).getD 0 0) (ks.getD k 0 * (leftOf (D.getD k ([], 0))).getD ((leftOf (D.getD k ([], 0))).length - 1) 0),
   max (ks.getD k 0 * (leftOf (D.getD k ([], 0))).getD 0 0) (ks.getD k 0 * (leftOf (D.getD k ([], 0))).getD ((leftOf (D.getD k ([], 0))).length - 1) 0))
def cellP (q : Int × Int) : Value × Value := (.int .i64 q.1, .int .i64 q.2)
theorem left_small {d : List Int × Nat} (k : Nat) : -1048576 ≤ (leftOf d).getD k 0 ∧ (leftOf d).getD k 0 ≤ 1048576 := by
  by_cases h : k < (leftOf d).length
  · exact lefts_small [d] (leftOf d) (by simp [leftsOf]) |>.2 _ (getD_mem h)
  · rw [List.getD_eq_getElem?_getD, List.getElem?_eq_none (by omega)]
    simp

end Go.Proofs.YtiaibggbbkhjlaaDoor.St
namespace Go.Proofs.YtiaibggbbkhjlaaDoor.St
open Go.RowKit
set_option maxRecDepth 100000

/-- block b holds two cells -/
def Own2 (w : World) (b : Nat) (t : TypeId) (x y : Value) : Prop := w.heap[b]? = some (.cells #[x, y] t (0, 0))
section
variable {w w' : World} {b b' : Nat} {t : TypeId} {x y : Value}
theorem Own2.cell0 (h : Own2 w b t x y) : w.cell? ⟨b, 0, none⟩ = some x := by unfold Own2 at h; simp [World.cell?, h]
theorem Own2.cell1 (h : Own2 w b t x y) : w.cell? ⟨b, 1, none⟩ = some y := by unfold Own2 at h; simp [World.cell?, h]
theorem Own2.frozen (h : Own2 w b t x y) (off : Nat) : w.frozen? ⟨b, off, none⟩ = false := by unfold Own2 at h; simp [World.frozen?, h]
theorem Own2.lt (h : Own2 w b t x y) : b < w.heap.size := (Array.getElem?_eq_some_iff.1 h).1
theorem Own2.set0 (h : Own2 w b t x y) (z : Value) : Own2 (w.setCell ⟨b, 0, none⟩ z) b t z y := by unfold Own2 at h ⊢; simp [World.setCell, Array.getElem?_modify, h]
theorem Own2.set1 (h : Own2 w b t x y) (z : Value) : Own2 (w.setCell ⟨b, 1, none⟩ z) b t x z := by unfold Own2 at h ⊢; simp [World.setCell, Array.getElem?_modify, h]
theorem Own2.other (h : Own2 w b t x y) (hne : b ≠ b') (off : Nat) (z : Value) : Own2 (w.setCell ⟨b', off, none⟩ z) b t x y := by unfold Own2 at h ⊢; simp [World.setCell, Array.getElem?_modify, h, Ne.symm hne]
theorem Own2.below (h : Own2 w b t x y) (hB : Below w.heap.size w w') : Own2 w' b t x y := (hB.block b h.lt).trans h
theorem Own2.new (w : World) (t : TypeId) (x y : Value) : Own2 (w.alloc (.cells #[x, y] t)) w.heap.size t x y := by unfold Own2 World.alloc; simp
end
/-- sums of the first j -/
def totTo (P : Nat → Int × Int) : Nat → Int × Int
  | 0 => (0, 0)
  | j + 1 => ((totTo P j).1 + (P j).1, (totTo P j).2 + (P j).2)
theorem tot_small {P : Nat → Int × Int} {n : Nat} (h : ∀ k, k < n → (-1099511627776 ≤ (P k).1 ∧ (P k).1 ≤ 1099511627776) ∧ (-1099511627776 ≤ (P k).2 ∧ (P k).2 ≤ 1099511627776)) : ∀ j, j ≤ n → (-(1099511627776 * (j : Int)) ≤ (totTo P j).1 ∧ (totTo P j).1 ≤ 1099511627776 * (j : Int)) ∧ (-(1099511627776 * (j : Int)) ≤ (totTo P j).2 ∧ (totTo P j).2 ≤ 1099511627776 * (j : Int))
  | 0, _ => by simp [totTo]
  | j + 1, hj => by
    have h1 := tot_small h j (by omega)
    have h2 := h j (by omega)
    simp only [totTo]
    omega

end Go.Proofs.YtiaibggbbkhjlaaDoor.St
