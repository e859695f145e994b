/-
  What Check of package model answers, at every model that can be read and whose lists are short.
-/
import Derived.Test.YtkhjnicmbkklpaaPTwice
import Derived.Laws.EntriesVeiled
namespace Go.Proofs.Ytkhjnicmbkklpaa
open Go.RowKit
set_option maxRecDepth 100000

theorem first_at {L : List (Bool × Int)} {k : Nat} {B : Bool} {e : Int} (h : L[k]? = some (B, e)) : firstF (L.drop k) = if B = true then e else firstF (L.drop (k + 1)) := by
  obtain ⟨hk, ex⟩ := List.getElem?_eq_some_iff.1 h
  rw [List.drop_eq_getElem_cons hk, ex, firstF]

theorem rModel_open {w : World} {bv gv : Value} {m : PModel} (h : rModel w [bv, gv] m) : ∃ (pb : Option Addr) (bb ob cb lb : Nat) (pg : Option Addr) (lg cg : Nat), bv = .slice pb lb cb ∧ gv = .slice pg lg cg ∧ ((pb = none → cb = 0) ∧ lb ≤ cb) ∧ Mo w pb bb ob cb lb pg lg cg m := by
  obtain ⟨v1, v2, e, ⟨p, b, off, c, len, h2, hc, h3⟩, h4⟩ := h
  simp only [List.cons.injEq, and_true] at e
  obtain ⟨rfl, rfl⟩ := e
  obtain ⟨pg, bg, og, cg, lg, rfl, hg⟩ := Slc.open_ h4
  exact ⟨p, b, off, c, len, pg, lg, cg, h2, rfl, hc, ⟨h3, h4⟩, hg.long⟩
end Go.Proofs.Ytkhjnicmbkklpaa
