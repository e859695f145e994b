/-
  What the looks of package model (big, form, name, dom, con) answer, at every model that can be read and whose lists are short.
-/
import Derived.Test.YtkhjnicmbkklpaaPDecls
namespace Go.Proofs.Ytkhjnicmbkklpaa
open Go.RowKit
set_option maxRecDepth 100000

theorem Slc.open_ {α : Type} {R : Reader α} {n : Nat} {w : World} {v : Value} {L : List α} (h : Slc R n w v L) : ∃ (p : Option Addr) (b off c len : Nat), v = .slice p len c ∧ SliceOf R n w p b off len L := by
  obtain ⟨p, b, off, c, len, h1, _, h2⟩ := h
  exact ⟨p, b, off, c, len, h1, h2⟩

/-- a model's value, its two slices open -/
structure Mo (w : World) (pb : Option Addr) (bb ob cb lb : Nat) (pg : Option Addr) (lg cg : Nat) (m : PModel) : Prop where
  mod : Mod w pb bb ob cb lb (.slice pg lg cg) m
  goal : lg = m.goal.length
theorem mo_of {w : World} {bv gv : Value} {m : PModel} (h : rModel w [bv, gv] m) : ∃ (pb : Option Addr) (bb ob cb lb : Nat) (pg : Option Addr) (lg cg : Nat), bv = .slice pb lb cb ∧ gv = .slice pg lg cg ∧ Mo w pb bb ob cb lb pg lg cg m := by
  obtain ⟨pb, bb, ob, cb, lb, rfl, hm⟩ := mod_of h
  obtain ⟨pg, bg, og, cg, lg, rfl, hg⟩ := Slc.open_ hm.goal
  exact ⟨pb, bb, ob, cb, lb, pg, lg, cg, rfl, rfl, hm, hg.long⟩
theorem Mo.model {w : World} {pb : Option Addr} {bb ob cb lb : Nat} {pg : Option Addr} {lg cg : Nat} {m : PModel} (h : Mo w pb bb ob cb lb pg lg cg m) (hc : (pb = none → cb = 0) ∧ lb ≤ cb) : rModel w [.slice pb lb cb, .slice pg lg cg] m :=
  ⟨_, _, rfl, ⟨pb, bb, ob, cb, lb, rfl, hc, h.mod.blocks⟩, h.mod.goal⟩
theorem Mo.below {w w' : World} {pb : Option Addr} {bb ob cb lb : Nat} {pg : Option Addr} {lg cg : Nat} {m : PModel} (h : Mo w pb bb ob cb lb pg lg cg m) (hB : Below w.heap.size w w') : Mo w' pb bb ob cb lb pg lg cg m :=
  ⟨h.mod.below hB, h.goal⟩

def fW (b : PBlock) : Bool := decide (16 < b.cons.length)
def fV (b : PBlock) : Bool := decide (b.vars.length = 0)
theorem rDecl_open {w : World} {s : ByteArray} {v : Value} {d : PDecl} (h : rDecl w [.string s, v] d) : txt s = d.name ∧ Slc rSpan 2 w v d.dom := by
  obtain ⟨s', v', e, h1, h2⟩ := h
  simp only [List.cons.injEq, and_true, Value.string.injEq] at e
  obtain ⟨rfl, rfl⟩ := e
  exact ⟨h1, h2⟩
def fN (d : PDecl) : Bool := !nameL d.name
end Go.Proofs.Ytkhjnicmbkklpaa
