/-
  What Decls of the document's answers for models answers, at any two lists of variables that can be read.
-/
import Derived.Test.YtkhjnicmbkklpaaMSpan
namespace Go.Proofs.Ytkhjnicmbkklpaa
open Go.RowKit
set_option maxRecDepth 100000

/-- are two lists the same, element by element? -/
def listB {α : Type} (eq : α → α → Bool) : List α → List α → Bool
  | [], [] => true
  | a :: r, b :: s => eq a b && listB eq r s
  | _, _ => false
theorem listB_iff {α : Type} {eq : α → α → Bool} (h : ∀ a b, eq a b = true ↔ a = b) : ∀ xs ys : List α, listB eq xs ys = true ↔ xs = ys
  | [], [] => by simp [listB]
  | a :: r, b :: s => by rw [listB, Bool.and_eq_true, h, listB_iff h r s]; simp
  | [], b :: s => by simp [listB]
  | a :: r, [] => by simp [listB]
theorem listB_len {α : Type} (eq : α → α → Bool) : ∀ xs ys : List α, xs.length ≠ ys.length → listB eq xs ys = false
  | [], [], h => absurd rfl h
  | a :: r, b :: s, h => by rw [listB, listB_len eq r s (fun e => h (by rw [List.length_cons, List.length_cons, e])), Bool.and_false]
  | [], b :: s, _ => rfl
  | a :: r, [], _ => rfl
theorem listB_at {α : Type} (eq : α → α → Bool) {xs ys : List α} {k : Nat} {a b : α} (ha : xs[k]? = some a) (hb : ys[k]? = some b) : listB eq (xs.drop k) (ys.drop k) = (eq a b && listB eq (xs.drop (k + 1)) (ys.drop (k + 1))) := by
  obtain ⟨h1, e1⟩ := List.getElem?_eq_some_iff.1 ha
  obtain ⟨h2, e2⟩ := List.getElem?_eq_some_iff.1 hb
  rw [List.drop_eq_getElem_cons h1, List.drop_eq_getElem_cons h2, listB, e1, e2]
theorem listB_end {α : Type} (eq : α → α → Bool) {xs ys : List α} {k : Nat} (h1 : xs.length ≤ k) (h2 : ys.length ≤ k) : listB eq (xs.drop k) (ys.drop k) = true := by
  rw [List.drop_of_length_le h1, List.drop_of_length_le h2, listB]

def sameD (a b : PDecl) : Bool := decide (a.name = b.name) && decide (a.dom = b.dom)
theorem sameD_iff (a b : PDecl) : sameD a b = true ↔ a = b := by
  obtain ⟨n, d⟩ := a
  obtain ⟨n', d'⟩ := b
  simp [sameD]

theorem decl_at {w : World} {p : Option Addr} {b off len : Nat} {L : List PDecl} (h : SliceOf rDecl 2 w p b off len L) {k : Nat} (hk : k < len) :
    ∃ (d : PDecl) (s : ByteArray) (v : Value), L[k]? = some d ∧ w.cell? ⟨b, off + k * 2, none⟩ = some (.string s) ∧ w.cell? ⟨b, off + k * 2 + 1, none⟩ = some v ∧ txt s = d.name ∧ Slc rSpan 2 w v d.dom := by
  have hx : k < L.length := by rw [← h.long]; exact hk
  have e : L[k]? = some L[k] := List.getElem?_eq_getElem hx
  obtain ⟨cs, h1, h2, s, v, h3, h4, h5⟩ := h.cell k _ e
  subst h3
  exact ⟨_, s, v, e, h2 0 (by omega), h2 1 (by omega), h4, h5⟩
theorem neq_txt (s q : ByteArray) : binOp .neq 9 (.string s) (.string q) = pure (.bool (!decide (txt s = txt q))) := by
  rw [binOp_string_neq]
  congr 2
  rw [Lib.toList_data, Lib.toList_data, Bool.eq_iff_iff]
  simp

end Go.Proofs.Ytkhjnicmbkklpaa
