/-
  How many rows of values there are: numbers, nothing of the program.
-/
import Derived.Test.YthoakeekfajhaaaMAwake
namespace Go.Proofs.Ythoakeekfajhaaa
open Go.RowKit

theorem check_ok {m : PModel} (h : checkM m = 0) : bigM m = false ∧ formM m = false ∧ nameM m = false ∧ twiceM m = false ∧ domM m = false ∧ conM m = false := by
  unfold checkM faultsM at h
  simp only [firstF] at h
  cases h1 : bigM m <;> cases h2 : formM m <;> cases h3 : nameM m <;> cases h4 : twiceM m <;> cases h5 : domM m <;> cases h6 : conM m <;> simp [h1, h2, h3, h4, h5, h6] at h ⊢
theorem big_ok {m : PModel} (h : bigM m = false) : m.blocks.length ≤ 8 ∧ m.goal.length ≤ 16 ∧ (∀ b ∈ m.blocks, b.cons.length ≤ 16) ∧ (varsL m.blocks).length ≤ 16 := by
  simp only [bigM, Bool.or_eq_false_iff, decide_eq_false_iff_not, List.any_eq_false, Bool.not_eq_true] at h
  obtain ⟨h1, h2, h3, h4⟩ := h
  exact ⟨by omega, by omega, fun b hb => by have := h3 b hb; simp at this; omega, by omega⟩
theorem dom_ok {m : PModel} (h : domM m = false) : ∀ d ∈ varsL m.blocks, rightL d.dom = true ∧ 1 ≤ sizeL d.dom ∧ sizeL d.dom ≤ 64 ∧ szL d.dom = sizeL d.dom := fun d hd => by
  have := List.any_eq_false.1 h d hd
  simp only [domD, Bool.or_eq_true, decide_eq_true_eq, not_or] at this
  by_cases hr : rightL d.dom = true
  · have e : szL d.dom = sizeL d.dom := if_pos hr
    rw [e] at this
    exact ⟨hr, by omega, by omega, e⟩
  · have e : szL d.dom = 0 := if_neg hr
    omega

def prodS : List PDecl → Int
  | [] => 1
  | d :: r => (szL d.dom + 1) * prodS r
theorem prod_pos : ∀ L : List PDecl, 1 ≤ prodS L
  | [] => by simp [prodS]
  | d :: r => by
    have h1 := prod_pos r
    have h2 := (sz_low d.dom).1
    have h3 : 1 * 1 ≤ (szL d.dom + 1) * prodS r := Int.mul_le_mul (by omega) h1 (by omega) (by omega)
    rw [prodS]
    omega
theorem nodes_val : ∀ (L : List PDecl) (n : Int), nodesF n L = maxI ∨ nodesF n L = n * prodS L
  | [], n => .inr (by simp [nodesF, prodS])
  | d :: r, n => by
    rw [nodesF, prodS]
    split
    · exact .inl rfl
    · rcases nodes_val r (n * (szL d.dom + 1)) with h | h
      · exact .inl h
      · exact .inr (by rw [h, Int.mul_assoc])
theorem prod_at {L : List PDecl} {k : Nat} {d : PDecl} (h : L[k]? = some d) : prodS (L.drop k) = (szL d.dom + 1) * prodS (L.drop (k + 1)) := by
  obtain ⟨hk, e⟩ := List.getElem?_eq_some_iff.1 h
  rw [List.drop_eq_getElem_cons hk, prodS, e]

/-- how far the count of rows has come: n what Nodes tells, r the rows of the first k variables, a all up to there -/
structure RowsRel (L : List PDecl) (n : Int) (k : Nat) (r a p : Int) : Prop where
  node : n = maxI ∨ n = 2 * (p * prodS (L.drop k))
  r0 : 1 ≤ r
  rp : r ≤ p
  a0 : 1 ≤ a
  ap : a ≤ p
  am : a ≤ 1 + k * 72057594037927936
  rm : r ≤ 72057594037927936
theorem rows_start (L : List PDecl) : RowsRel L (nodesF 2 L) 0 1 1 1 :=
  ⟨by rcases nodes_val L 2 with h | h
      · exact .inl h
      · exact .inr (by rw [h]; simp), by omega, by omega, by omega, by omega, by omega, by omega⟩
theorem rows_next {L : List PDecl} {n : Int} {k : Nat} {r a p : Int} {d : PDecl} {s : Int} (h : RowsRel L n k r a p) (hd : L[k]? = some d) (hs : szL d.dom = s) (h1 : 1 ≤ s) (h2 : s ≤ 64) (hr : r ≤ 1125899906842624) : RowsRel L n (k + 1) (r * s) (a + r * s) (p * (s + 1)) ∧ r * s ≤ 72057594037927936 := by
  obtain ⟨g1, g2, g3, g4, g5, g6, g7⟩ := h
  have e1 : r * s ≤ 1125899906842624 * 64 := Int.mul_le_mul hr h2 (by omega) (by omega)
  have e2 : 1 * 1 ≤ r * s := Int.mul_le_mul g2 h1 (by omega) (by omega)
  have e3 : r * s ≤ p * s := Int.mul_le_mul_of_nonneg_right g3 (by omega)
  have e4 : p * (s + 1) = p * s + p := by rw [Int.mul_add, Int.mul_one]
  refine ⟨⟨?_, by omega, by omega, by omega, by omega, by omega, by omega⟩, by omega⟩
  rcases g1 with h | h
  · exact .inl h
  · exact .inr (by rw [h, prod_at hd, hs, Int.mul_assoc p])
theorem rows_great {L : List PDecl} {n : Int} {k : Nat} {r a p : Int} (h : RowsRel L n k r a p) (hr : 1125899906842624 < r) : 1125899906842624 < n := by
  rcases h.node with e | e
  · rw [e]; unfold maxI; omega
  · have h1 := prod_pos (L.drop k)
    have h2 := h.rp
    have h3 := h.r0
    have h4 : p * 1 ≤ p * prodS (L.drop k) := Int.mul_le_mul_of_nonneg_left h1 (by omega)
    omega
theorem rows_end {L : List PDecl} {n : Int} {k : Nat} {r a p : Int} (h : RowsRel L n k r a p) (hk : k ≤ 16) : 0 < n ∧ a ≤ n / 2 + 1 := by
  obtain ⟨g1, g2, g3, g4, g5, g6, g7⟩ := h
  rcases g1 with e | e
  · rw [e]; unfold maxI; omega
  · have h1 := prod_pos (L.drop k)
    have h4 : p * 1 ≤ p * prodS (L.drop k) := Int.mul_le_mul_of_nonneg_left h1 (by omega)
    omega
theorem nodes_most {n : Int} (L : List PDecl) (h1 : 1 ≤ n) (h2 : n ≤ 9223372036854775807) : 1 ≤ nodesF n L ∧ nodesF n L ≤ 9223372036854775807 := by
  induction L generalizing n with
  | nil => rw [nodesF]; omega
  | cons d r ih =>
    rw [nodesF]
    split
    · unfold maxI; omega
    · rename_i g
      have := quo_fits h1 (sz_low d.dom).1 g
      exact ih this.1 this.2
end Go.Proofs.Ythoakeekfajhaaa
