/-
  What ends of the document's answers for linear steps answers: the least and the greatest sum of variables, but one.
-/
import Derived.Test.YtiaibggbbkhjlaaDoorZYAX
namespace Go.Proofs.YtiaibggbbkhjlaaDoor.St
open Go.RowKit
set_option maxRecDepth 100000

/-- what one variable's part of a sum may be, least and greatest -/
def endK (vars ks : List Int) (M : List (List Int)) (k : Nat) : Int × Int :=
  let l := M.getD (vars.getD k 0).toNat []
  let a := ks.getD k 0 * l.getD 0 0
  let b := ks.getD k 0 * l.getD (l.length - 1) 0
  if b < a then (b, a) else (a, b)
def endsTo (vars ks : List Int) (M : List (List Int)) (but : Int) : Nat → Int × Int
  | 0 => (0, 0)
  | j + 1 => if (j : Int) = but then endsTo vars ks M but j else ((endsTo vars ks M but j).1 + (endK vars ks M j).1, (endsTo vars ks M but j).2 + (endK vars ks M j).2)
/-- variables of which something is left, coefs and values that are small -/
structure Ok (vars ks : List Int) (M : List (List Int)) : Prop where
  vin : ∀ k, k < vars.length → 0 ≤ vars.getD k 0 ∧ vars.getD k 0 < (M.length : Int) ∧ 0 < (M.getD (vars.getD k 0).toNat []).length
  small : ∀ l ∈ M, l.length ≤ 1000 ∧ ∀ x ∈ l, -1048576 ≤ x ∧ x ≤ 1048576
  long : vars.length ≤ ks.length
  kb : ∀ k, k < ks.length → -1048576 ≤ ks.getD k 0 ∧ ks.getD k 0 ≤ 1048576
  few : vars.length ≤ 1000
theorem mul_le {a b : Int} (ha : -1048576 ≤ a ∧ a ≤ 1048576) (hb : -1048576 ≤ b ∧ b ≤ 1048576) : -1099511627776 ≤ a * b ∧ a * b ≤ 1099511627776 := by
  have h : (a * b).natAbs ≤ 1048576 * 1048576 := by
    rw [Int.natAbs_mul]
    exact Nat.mul_le_mul (by omega) (by omega)
  omega
theorem Ok.row {vars ks : List Int} {M : List (List Int)} (h : Ok vars ks M) {k : Nat} (hk : k < vars.length) {i : Nat} (hi : i < (M.getD (vars.getD k 0).toNat []).length) : -1048576 ≤ (M.getD (vars.getD k 0).toNat []).getD i 0 ∧ (M.getD (vars.getD k 0).toNat []).getD i 0 ≤ 1048576 := by
  have hv := h.vin k hk
  have hlt : (vars.getD k 0).toNat < M.length := by omega
  refine (h.small (M.getD (vars.getD k 0).toNat []) (by rw [List.getD_eq_getElem?_getD, List.getElem?_eq_getElem hlt]; exact List.getElem_mem hlt)).2 _ ?_
  obtain ⟨l, hl⟩ : ∃ l, l = M.getD (vars.getD k 0).toNat [] := ⟨_, rfl⟩
  rw [← hl] at hi ⊢
  rw [List.getD_eq_getElem?_getD, List.getElem?_eq_getElem hi]
  exact List.getElem_mem hi
theorem Ok.mul {vars ks : List Int} {M : List (List Int)} (h : Ok vars ks M) {k : Nat} (hk : k < vars.length) {i : Nat} (hi : i < (M.getD (vars.getD k 0).toNat []).length) : -1099511627776 ≤ ks.getD k 0 * (M.getD (vars.getD k 0).toNat []).getD i 0 ∧ ks.getD k 0 * (M.getD (vars.getD k 0).toNat []).getD i 0 ≤ 1099511627776 :=
  mul_le (h.kb k (by have := h.long; omega)) (h.row hk hi)
theorem Ok.end_le {vars ks : List Int} {M : List (List Int)} (h : Ok vars ks M) {k : Nat} (hk : k < vars.length) : -1099511627776 ≤ (endK vars ks M k).1 ∧ (endK vars ks M k).1 ≤ (endK vars ks M k).2 ∧ (endK vars ks M k).2 ≤ 1099511627776 := by
  have hv := (h.vin k hk).2.2
  have h1 := h.mul hk hv
  have h2 := h.mul hk (i := (M.getD (vars.getD k 0).toNat []).length - 1) (by omega)
  unfold endK
  simp only
  split <;> simp only <;> omega
theorem Ok.ends_le {vars ks : List Int} {M : List (List Int)} (h : Ok vars ks M) (but : Int) : ∀ j, j ≤ vars.length → -(1099511627776 * (j : Int)) ≤ (endsTo vars ks M but j).1 ∧ (endsTo vars ks M but j).1 ≤ (endsTo vars ks M but j).2 ∧ (endsTo vars ks M but j).2 ≤ 1099511627776 * (j : Int)
  | 0, _ => by simp [endsTo]
  | j + 1, hj => by
    have h1 := h.ends_le but j (by omega)
    have h2 := h.end_le (k := j) (by omega)
    rw [endsTo]
    split
    · omega
    · simp only
      omega

end Go.Proofs.YtiaibggbbkhjlaaDoor.St
