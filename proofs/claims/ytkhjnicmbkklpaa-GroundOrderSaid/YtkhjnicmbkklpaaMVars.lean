/-
  What Vars of the document's answers answers, at every model that can be read.
-/
import Derived.Test.YtkhjnicmbkklpaaMApp
namespace Go.Proofs.Ytkhjnicmbkklpaa
open Go.RowKit
set_option maxRecDepth 100000

theorem rDecl_one : rDecl.One := fun w cs a ⟨s, v, h1, _, p, b, off, c, len, h3, _, _⟩ u hu => by
  subst h1 h3
  simp at hu
  rcases hu with rfl | rfl <;> rfl
theorem vars_drop {bs : List PBlock} {k : Nat} {x : PBlock} (e : bs.drop k = x :: bs.drop (k + 1)) : varsL (bs.take (k + 1)) = varsL (bs.take k) ++ x.vars := by
  have hk : k < bs.length := by
    have := congrArg List.length e
    rw [List.length_drop, List.length_cons] at this
    omega
  rw [List.drop_eq_getElem_cons hk] at e
  simp only [List.cons.injEq, and_true] at e
  rw [List.take_add_one, List.getElem?_eq_getElem hk, e]
  simp [varsL]
theorem vars_few (bs : List PBlock) (h : ∀ x ∈ bs, x.vars.length ≤ 1000) : (varsL bs).length ≤ bs.length * 1000 := by
  induction bs with
  | nil => simp [varsL]
  | cons x r ih =>
    have h1 := h x (by simp)
    have h2 := ih fun y hy => h y (by simp [hy])
    have e : varsL (x :: r) = x.vars ++ varsL r := by simp [varsL]
    rw [e, List.length_append, List.length_cons]
    omega

theorem vars_to (bs : List PBlock) (k : Nat) : (varsL (bs.take k)).length ≤ (varsL bs).length := by
  have e : varsL bs = varsL (bs.take k) ++ varsL (bs.drop k) := by
    unfold varsL
    rw [← List.flatMap_append, List.take_append_drop]
  rw [e, List.length_append]
  omega
theorem slc_of_ints {w : World} {base : Nat} {v : Value} {xs : List Int} (h : OwnsI w base v xs) (hf : ∀ x ∈ xs, Fit x) : Slc rNum 1 w v xs := by
  have h0 := h
  rcases h.2 with ⟨rfl, hl⟩ | ⟨g, cap, cur, rfl, hb, hg, hn, hc, hs, ht⟩
  · exact ⟨none, 0, 0, 0, 0, rfl, ⟨fun _ => rfl, Nat.le_refl _⟩, hl.symm, fun h => by omega, fun k a ha => by
      have := (List.getElem?_eq_some_iff.1 ha).1
      omega⟩
  · refine ⟨_, g, 0, cap, xs.length, rfl, ⟨(fun h => by cases h), hn⟩, rfl, fun _ => rfl, fun k a ha => ?_⟩
    have hk := (List.getElem?_eq_some_iff.1 ha).1
    refine ⟨[.int .i64 a], rfl, fun j hj => ?_, rfl, hf a (List.mem_of_getElem? ha)⟩
    obtain rfl : j = 0 := by omega
    rw [Nat.zero_add, Nat.mul_one, Nat.add_zero, h0.cellAt k (by omega)]
    simp [ha]
theorem ends_fit : ∀ (bs : List PBlock) (n : Nat), n + bs.length * 1000 ≤ 1000000 → (∀ x ∈ bs, x.vars.length ≤ 1000) → ∀ z ∈ endsF n bs, Fit z
  | [], _, _, _, z, hz => by simp [endsF] at hz
  | x :: r, n, h, hv, z, hz => by
    have hx := hv x (by simp)
    rw [List.length_cons] at h
    rw [endsF, List.mem_cons] at hz
    rcases hz with rfl | hz
    · unfold Fit; omega
    · exact ends_fit r (n + x.vars.length) (by omega) (fun y hy => hv y (by simp [hy])) z hz
end Go.Proofs.Ytkhjnicmbkklpaa
