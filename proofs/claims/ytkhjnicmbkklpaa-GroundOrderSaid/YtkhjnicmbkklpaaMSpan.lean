/-
  What Same of the document's answers for lists of spans, and Decls of its answers for models, answer, at any two lists that can be read.
-/
import Derived.Test.YtkhjnicmbkklpaaMName
namespace Go.Proofs.Ytkhjnicmbkklpaa
open Go.RowKit
set_option maxRecDepth 100000

theorem span_at {w : World} {p : Option Addr} {b off len : Nat} {L : List (Int × Int)} (h : SliceOf rSpan 2 w p b off len L) {k : Nat} (hk : k < len) :
    w.cell? ⟨b, off + k * 2, none⟩ = some (.int .i64 (L.getD k (0, 0)).1) ∧ w.cell? ⟨b, off + k * 2 + 1, none⟩ = some (.int .i64 (L.getD k (0, 0)).2) := by
  have hx : k < L.length := by rw [← h.long]; exact hk
  have e : L[k]? = some (L.getD k (0, 0)) := by simp [hx]
  obtain ⟨cs, h1, h2, h3, _⟩ := h.cell k _ e
  subst h3
  exact ⟨h2 0 (by omega), h2 1 (by omega)⟩
theorem SliceOf.drewN {α : Type} {R : Reader α} {n : Nat} {w : World} {p : Option Addr} {b off len : Nat} {L : List α} (hR : R.Stays) (h : SliceOf R n w p b off len L) (m : Nat) : SliceOf R n (w.drewN m) p b off len L :=
  h.below hR ⟨rfl, rfl, rfl, Nat.le_refl _, fun _ _ => rfl⟩
theorem pair_ext {a b c d : Int} (h : (a == c && b == d) = true) : (a, b) = (c, d) := by
  simp at h
  rw [h.1, h.2]
end Go.Proofs.Ytkhjnicmbkklpaa
