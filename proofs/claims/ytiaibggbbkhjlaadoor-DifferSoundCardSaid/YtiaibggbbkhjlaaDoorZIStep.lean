/-
  What Step of the document's answers for linear constraints answers.
-/
import Derived.Test.YtiaibggbbkhjlaaDoorZYBC
import Derived.Test.YtiaibggbbkhjlaaDoorZVRholds
import Derived.Deep.CutBlock
import Derived.BigQuiet
namespace Go.Proofs.YtiaibggbbkhjlaaDoor.St
open Go.RowKit
set_option maxRecDepth 100000

/-- a struct of six cells in a block of its own -/
def ConAt (w : World) (b : Nat) (vs : List Value) : Prop := ∀ j u, vs[j]? = some u → w.cell? ⟨b, j, none⟩ = some u
theorem ConAt.below {w w' : World} {b : Nat} {vs : List Value} (h : ConAt w b vs) (hB : Below w.heap.size w w') : ConAt w' b vs := fun j u e => cell_below hB (h j u e)
theorem ConAt.six {w : World} {b : Nat} {v0 v1 v2 v3 v4 v5 : Value} (h : ConAt w b [v0, v1, v2, v3, v4, v5]) : w.cell? ⟨b, 0, none⟩ = some v0 ∧ w.cell? ⟨b, 1, none⟩ = some v1 ∧ w.cell? ⟨b, 2, none⟩ = some v2 ∧ w.cell? ⟨b, 3, none⟩ = some v3 ∧ w.cell? ⟨b, 4, none⟩ = some v4 ∧ w.cell? ⟨b, 5, none⟩ = some v5 :=
  ⟨h 0 _ rfl, h 1 _ rfl, h 2 _ rfl, h 3 _ rfl, h 4 _ rfl, h 5 _ rfl⟩
theorem two_reads (w : World) (x y : Int) : Dm.Reads (w.alloc (.cells #[.int .i64 x, .int .i64 y] 3)) (.slice (some ⟨w.heap.size, 0, none⟩) 2 2) [x, y] := by
  refine .inr ⟨w.heap.size, 0, 2, rfl, fun k hk => ?_⟩
  match k, hk with
  | 0, _ => simp
  | 1, _ => simp

theorem setTo_short {M : List (List Int)} {vars : List Int} {f : Nat → List Int} (hM : ∀ l ∈ M, l.length ≤ 1000) (hf : ∀ k, (f k).length ≤ 1000) : ∀ j, ∀ l ∈ setTo M vars f j, l.length ≤ 1000
  | 0, l, h => hM l h
  | j + 1, l, h => by
    rw [setTo_succ] at h
    rcases List.mem_or_eq_of_mem_set h with h | h
    · exact setTo_short hM hf j l h
    · rw [h]; exact hf j
theorem none_short (M : List (List Int)) (vars : List Int) (hM : ∀ l ∈ M, l.length ≤ 1000) : ∀ l ∈ noneL M vars, l.length ≤ 1000 := setTo_short hM (fun _ => by simp) _
theorem sum_short {M : List (List Int)} (vars ks : List Int) (rel ag : Int) (hM : ∀ l ∈ M, l.length ≤ 1000) : ∀ l ∈ sumL vars ks M rel ag, l.length ≤ 1000 :=
  setTo_short hM (fun k => by
    unfold sumRow
    refine Nat.le_trans (List.length_filter_le _ _) ?_
    by_cases h : (vars.getD k 0).toNat < M.length
    · exact hM _ (by rw [List.getD_eq_getElem?_getD, List.getElem?_eq_getElem h]; exact List.getElem_mem h)
    · rw [List.getD_eq_getElem?_getD, List.getElem?_eq_none (by omega)]
      simp) _

theorem others_length (M : List (List Int)) (c : PCon) : (othersL M c).length = M.length := by
  unfold othersL
  simp only
  split
  · split
    · rfl
    · rw [sumL, setTo_length]
  · rw [sumL, setTo_length]
theorem others_short {M : List (List Int)} (c : PCon) (hM : ∀ l ∈ M, l.length ≤ 1000) : ∀ l ∈ othersL M c, l.length ≤ 1000 := by
  unfold othersL
  simp only
  split
  · split
    · exact hM
    · exact sum_short _ _ _ _ hM
  · exact sum_short _ _ _ _ hM
theorem first_short (M : List (List Int)) (c : PCon) : (firstL M c).length ≤ 1000 := by
  unfold firstL
  simp only
  rw [List.length_append]
  split <;> split <;> simp
theorem set_short {M : List (List Int)} {y : Nat} {l0 : List Int} (hM : ∀ l ∈ M, l.length ≤ 1000) (h0 : l0.length ≤ 1000) : ∀ l ∈ M.set y l0, l.length ≤ 1000 := by
  intro l hl
  rcases List.mem_or_eq_of_mem_set hl with h | h
  · exact hM _ h
  · rw [h]; exact h0
theorem nums_drop {w : World} {b o l : Nat} {xs : List Int} (h : Nums w (some ⟨b, o, none⟩) b o (l + 1) xs) : Nums w (some ⟨b, o + 1, none⟩) b (o + 1) l (xs.drop 1) := by
  have hl := h.long
  have e : ∀ j, (xs.drop 1).getD j 0 = xs.getD (j + 1) 0 := fun j => by
    rw [List.getD_eq_getElem?_getD, List.getD_eq_getElem?_getD, List.getElem?_drop, Nat.add_comm]
  refine ⟨by rw [List.length_drop]; omega, fun _ => rfl, fun j hj => ?_, fun j hj => ?_⟩
  · rw [e]
    have := h.cell (j + 1) (by omega)
    rw [show o + 1 + j = o + (j + 1) by omega]
    exact this
  · rw [e]
    exact h.fit (j + 1) (by omega)
theorem getD_memS {xs : List Int} {k : Nat} (h : k < xs.length) : xs.getD k 0 ∈ xs := by
  rw [List.getD_eq_getElem?_getD, List.getElem?_eq_getElem h]
  exact List.getElem_mem h
theorem getL_mem {M : List (List Int)} {k : Nat} (h : k < M.length) : M.getD k [] ∈ M := by
  rw [List.getD_eq_getElem?_getD, List.getElem?_eq_getElem h]
  exact List.getElem_mem h
/-- what is left of the others, told by what is left of the first -/
theorem others_of {M : List (List Int)} {c : PCon} {y : Nat} (hy : c.vars.getD 0 0 = (y : Int)) : othersL M c = if decide (1 ∈ M.getD y []) = true then (if decide (0 ∈ M.getD y []) = true then M else sumL (c.vars.drop 1) c.coefs M c.rel c.const) else sumL (c.vars.drop 1) c.coefs M (contrary c.rel) c.const := by
  unfold othersL
  rw [hy]
  simp
theorem first_of {M : List (List Int)} {c : PCon} {y : Nat} (hy : c.vars.getD 0 0 = (y : Int)) : firstL M c = (if (decide (0 ∈ M.getD y []) && mayG (endsTo (c.vars.drop 1) c.coefs M (-1) (c.vars.drop 1).length).1 (endsTo (c.vars.drop 1) c.coefs M (-1) (c.vars.drop 1).length).2 (contrary c.rel) c.const) = true then [0] else []) ++ (if (decide (1 ∈ M.getD y []) && mayG (endsTo (c.vars.drop 1) c.coefs M (-1) (c.vars.drop 1).length).1 (endsTo (c.vars.drop 1) c.coefs M (-1) (c.vars.drop 1).length).2 c.rel c.const) = true then [1] else []) := by
  unfold firstL
  rw [hy]
  simp
theorem iff_of {M : List (List Int)} {c : PCon} {y : Nat} (hy : c.vars.getD 0 0 = (y : Int)) : (if 0 ∉ M.getD (c.vars.getD 0 0).toNat [] ∧ 1 ∉ M.getD (c.vars.getD 0 0).toNat [] then noneL M c.vars else (othersL M c).set (c.vars.getD 0 0).toNat (firstL M c)) = if (!decide (0 ∈ M.getD y []) && !decide (1 ∈ M.getD y [])) = true then noneL M c.vars else (othersL M c).set y (firstL M c) := by
  rw [hy]
  simp

end Go.Proofs.YtiaibggbbkhjlaaDoor.St
