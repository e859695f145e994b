/-
  What letter, reserved and Name of package model answer, at every text.
-/
import Derived.Test.YtkhjnicmbkklpaaPFun
namespace Go.Proofs.Ytkhjnicmbkklpaa
open Go.RowKit
set_option maxRecDepth 100000

def lowB (c : UInt8) : Bool := decide (97 ≤ c.toNat) && decide (c.toNat ≤ 122)
def okP (c : UInt8) : Bool := lowB c || (decide (c.toNat = 95) || (decide (48 ≤ c.toNat) && decide (c.toNat ≤ 57)))
theorem okAt_pos {i : Nat} (h : 0 < i) (c : UInt8) : okAt i c = okP c := by
  unfold okAt okP lowB
  rw [decide_eq_false (show ¬ i = 0 by omega)]
  simp
theorem okFrom_pos : ∀ (r : List UInt8) (i : Nat), 0 < i → okFrom i r = r.all okP
  | [], _, _ => rfl
  | c :: r, i, h => by rw [okFrom, okAt_pos h, okFrom_pos r (i + 1) (by omega), List.all_cons]
theorem okFrom_zero {s : List UInt8} {c : UInt8} (h : s[0]? = some c) : okFrom 0 s = (lowB c && s.all okP) := by
  cases s with
  | nil => simp at h
  | cons d r =>
    simp at h
    subst h
    rw [okFrom, okFrom_pos r 1 (by omega), List.all_cons]
    have e : okAt 0 d = lowB d := by unfold okAt lowB; simp
    rw [e]
    unfold okP
    cases lowB d <;> simp
theorem all_at {α : Type} (f : α → Bool) {L : List α} {k : Nat} {a : α} (h : L[k]? = some a) : (L.drop k).all f = (f a && (L.drop (k + 1)).all f) := by
  obtain ⟨h1, e1⟩ := List.getElem?_eq_some_iff.1 h
  rw [List.drop_eq_getElem_cons h1, List.all_cons, e1]
theorem all_done {α : Type} (f : α → Bool) {L : List α} {k : Nat} (h : L.length ≤ k) : (L.drop k).all f = true := by
  rw [List.drop_of_length_le h]
  rfl
theorem name_short {s : List UInt8} (h : s.length = 0) : nameL s = false := by
  unfold nameL
  rw [decide_eq_false (show ¬ 1 ≤ s.length by omega)]
  simp
theorem name_long {s : List UInt8} (h : 12 < s.length) : nameL s = false := by
  unfold nameL
  rw [decide_eq_false (show ¬ s.length ≤ 12 by omega)]
  simp
theorem name_is {s : List UInt8} {c : UInt8} (h : s[0]? = some c) (hl : s.length ≤ 12) : nameL s = (lowB c && (s.all okP && !wordsL.contains s)) := by
  have hp : 1 ≤ s.length := by
    cases s with
    | nil => simp at h
    | cons d r => simp
  unfold nameL
  rw [okFrom_zero h, decide_eq_true hl, decide_eq_true hp]
  cases lowB c <;> cases s.all okP <;> simp

theorem words_or (s : List UInt8) : wordsL.contains s = (decide (s = [101, 120, 105, 115, 116, 115]) || (decide (s = [102, 111, 114, 97, 108, 108]) || (decide (s = [105, 110]) || (decide (s = [119, 104, 101, 114, 101]) || (decide (s = [97, 110, 100]) || (decide (s = [103, 111, 97, 108]) || (decide (s = [116, 114, 117, 101]) || (decide (s = [112, 114, 111, 100, 117, 99, 116]) || (decide (s = [105, 102, 102]) || (decide (s = [101, 108, 101, 109, 101, 110, 116]) || (decide (s = [100, 105, 102, 102, 101, 114, 101, 110, 116]) || (decide (s = [116, 97, 98, 108, 101]))))))))))))) := by
  unfold wordsL
  rw [Bool.eq_iff_iff]
  simp

end Go.Proofs.Ytkhjnicmbkklpaa
