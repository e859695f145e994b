/-
  Two variables that a call makes; when two models are the same: plain data. Nothing of the program.
-/
import Derived.Test.YtfkakdpppejehaaKNum
namespace Go.Proofs.Ytfkakdpppejehaa
open Go.RowKit
set_option maxRecDepth 100000

structure At2 (w : World) (b : Nat) (v0 v1 : Value) : Prop where
  c0 : w.cell? ⟨b, 0, none⟩ = some v0
  c1 : w.cell? ⟨b, 1, none⟩ = some v1
structure At3 (w : World) (b : Nat) (v0 v1 v2 : Value) : Prop where
  c0 : w.cell? ⟨b, 0, none⟩ = some v0
  c1 : w.cell? ⟨b, 1, none⟩ = some v1
  c2 : w.cell? ⟨b, 2, none⟩ = some v2
theorem two_two (w : World) (a0 a1 b0 b1 : Value) (t : TypeId) : At2 ((w.alloc (.cells #[a0, a1] t)).alloc (.cells #[b0, b1] t)) w.heap.size a0 a1 ∧ At2 ((w.alloc (.cells #[a0, a1] t)).alloc (.cells #[b0, b1] t)) (w.heap.size + 1) b0 b1 :=
  ⟨⟨by go_simp, by go_simp⟩, ⟨by go_simp, by go_simp⟩⟩
theorem two_three (w : World) (a0 a1 a2 b0 b1 b2 : Value) (t : TypeId) : At3 ((w.alloc (.cells #[a0, a1, a2] t)).alloc (.cells #[b0, b1, b2] t)) w.heap.size a0 a1 a2 ∧ At3 ((w.alloc (.cells #[a0, a1, a2] t)).alloc (.cells #[b0, b1, b2] t)) (w.heap.size + 1) b0 b1 b2 :=
  ⟨⟨by go_simp, by go_simp, by go_simp⟩, ⟨by go_simp, by go_simp, by go_simp⟩⟩
theorem below_twice (w : World) (o o' : Obj) : Below w.heap.size w ((w.alloc o).alloc o') := ((Below.refl _ w).alloc (Nat.le_refl _) _).alloc (by simp) _

def sameB (x y : PBlock) : Bool := decide (x.all = y.all) && (listB sameD x.vars y.vars && listB sameC x.cons y.cons)
def sameM (m n : PModel) : Bool := listB sameB m.blocks n.blocks && listB sameC m.goal n.goal
/-- the lists of a block are short -/
structure FewB (b : PBlock) : Prop where
  vars : b.vars.length ≤ 1000000
  doms : ∀ d ∈ b.vars, d.dom.length ≤ 1000000
  cons : b.cons.length ≤ 1000000
  nums : ∀ c ∈ b.cons, Short 1000000 c
theorem short_more {c : PCon} (h : Short 1000 c) : Short 1000000 c := ⟨by have := h.1; omega, by have := h.2.1; omega, by have := h.2.2; omega⟩
theorem Few.block {m : PModel} (h : Few m) : ∀ b ∈ m.blocks, FewB b := fun b hb =>
  ⟨by have := h.vars b hb; omega, fun d hd => by have := (h.decls b hb d hd).2; omega, by have := (h.wheres b hb).1; omega, fun c hc => short_more ((h.wheres b hb).2 c hc)⟩
end Go.Proofs.Ytfkakdpppejehaa
