/-
  A row of numbers less one number, stored in the row's place, in whichever order: the relation of what has come up.
  What Step of the document's answers for different values answers.
-/
import Derived.Test.YtiaibggbbkhjlaaDoorZJMem
import Derived.Test.YtiaibggbbkhjlaaDoorZYBI
import Derived.Test.YtiaibggbbkhjlaaDoorZYCA
import Derived.Test.YtiaibggbbkhjlaaDoorZIStep
import Derived.Test.YtiaibggbbkhjlaaDoorZYBB
import Derived.Test.YtiaibggbbkhjlaaDoorZYAX
import Derived.Test.YtiaibggbbkhjlaaDoorZYAU
import Derived.Test.YtiaibggbbkhjlaaDoorZYAZ
import Derived.Test.YtiaibggbbkhjlaaDoorZYAL
namespace Go.Proofs.YtiaibggbbkhjlaaDoor.Ge.Di
open Go.RowKit St
set_option maxRecDepth 100000

structure L15 (W : World) (go y j cb b1 o1 l1 c1 gu lm capo cu cq lO : Nat) (pq : Option Addr) (x : Int) (T : List Int) (v117 v118 v119 v120 v121 v122 v123 v124 v125 v126 v127 v128 v129 v130 v131 v132 v133 v134 v135 : Value) (l : Nat → Bool) (u : World) : Prop where
  base : l 19 = false → Below W.heap.size W u
  p0 : l 0 = true → v117 = (.slice (some ⟨go, 0, none⟩) lm capo)
  p1 : l 1 = true → v118 = (.pointer (some ⟨cb, 1, none⟩))
  p2 : l 2 = true → v119 = (.slice (some ⟨b1, o1, none⟩) l1 c1)
  p3 : l 3 = true → v120 = (.int .i64 (j : Nat))
  p4 : l 4 = true → v121 = (.pointer (some ⟨b1, o1 + j, none⟩))
  p5 : l 5 = true → v122 = (.int .i64 (y : Nat))
  p6 : l 6 = true → v123 = (.slice (some ⟨go, 0, none⟩) lm capo)
  p7 : l 7 = true → v124 = (.pointer (some ⟨cb, 1, none⟩))
  p8 : l 8 = true → v125 = (.slice (some ⟨b1, o1, none⟩) l1 c1)
  p9 : l 9 = true → v126 = (.int .i64 (j : Nat))
  p10 : l 10 = true → v127 = (.pointer (some ⟨b1, o1 + j, none⟩))
  p11 : l 11 = true → v128 = (.int .i64 (y : Nat))
  p12 : l 12 = true → v129 = (.pointer (some ⟨go, y, none⟩))
  p13 : l 13 = true → v130 = (.slice pq lO cq)
  p14 : l 14 = true → v131 = (.slice (some ⟨gu, 0, none⟩) 1 cu)
  p15 : l 15 = true → v132 = (.pointer (some ⟨gu, 0, none⟩))
  p16 : l 16 = true → v133 = (.int .i64 x)
  p18 : l 18 = true → v135 = (.pointer (some ⟨go, y, none⟩))
  c13 : l 13 = true → l 12 = true
  c12 : l 12 = true → l 11 = true
  c11 : l 11 = true → l 10 = true
  c10 : l 10 = true → l 8 = true
  c18 : l 18 = true → l 5 = true
  c5 : l 5 = true → l 4 = true
  c4 : l 4 = true → l 2 = true
  f17 : l 17 = true → (l 13 = true ∧ l 16 = true) ∧ (l 19 = false → Dm.OwnsI u 0 v134 T)
  f19 : l 19 = true → (l 17 = true ∧ l 18 = true) ∧ ∃ u0, Below W.heap.size W u0 ∧ Dm.OwnsI u0 0 v134 T ∧ u = u0.setCell ⟨go, y, none⟩ v134
structure GL15 where
  (v117 v118 v119 v120 v121 v122 v123 v124 v125 v126 v127 v128 v129 v130 v131 v132 v133 v134 v135 : Value)
def putL15 (g : GL15) (tm : Array Value) : Array Value := ((((((((((((((((((((((((((((((((((((((tm).setIfInBounds 117 g.v117)).setIfInBounds 118 g.v118)).setIfInBounds 119 g.v119)).setIfInBounds 120 g.v120)).setIfInBounds 121 g.v121)).setIfInBounds 122 g.v122)).setIfInBounds 123 g.v123)).setIfInBounds 124 g.v124)).setIfInBounds 125 g.v125)).setIfInBounds 126 g.v126)).setIfInBounds 127 g.v127)).setIfInBounds 128 g.v128)).setIfInBounds 129 g.v129)).setIfInBounds 130 g.v130)).setIfInBounds 131 g.v131)).setIfInBounds 132 g.v132)).setIfInBounds 133 g.v133)).setIfInBounds 134 g.v134)).setIfInBounds 135 g.v135)
def JL15 (W : World) (go y j cb b1 o1 l1 c1 gu lm capo cu cq lO : Nat) (pq : Option Addr) (x : Int) (T : List Int) (g : GL15) (l : Nat → Bool) (u : World) : Prop := L15 W go y j cb b1 o1 l1 c1 gu lm capo cu cq lO pq x T g.v117 g.v118 g.v119 g.v120 g.v121 g.v122 g.v123 g.v124 g.v125 g.v126 g.v127 g.v128 g.v129 g.v130 g.v131 g.v132 g.v133 g.v134 g.v135 l u
section
variable {W : World} {go y j cb b1 o1 l1 c1 gu lm capo cu cq lO : Nat} {pq : Option Addr} {x : Int} {T : List Int} {v117 v118 v119 v120 v121 v122 v123 v124 v125 v126 v127 v128 v129 v130 v131 v132 v133 v134 v135 : Value} {l : Nat → Bool} {u u2 : World}
theorem L15.no17 (S : L15 W go y j cb b1 o1 l1 c1 gu lm capo cu cq lO pq x T v117 v118 v119 v120 v121 v122 v123 v124 v125 v126 v127 v128 v129 v130 v131 v132 v133 v134 v135 l u) (h : l 17 = false) : l 19 = false := by
  cases q : l 19
  · rfl
  · exact absurd ((S.f19 q).1.1) (by rw [h]; decide)
theorem L15.no13 (S : L15 W go y j cb b1 o1 l1 c1 gu lm capo cu cq lO pq x T v117 v118 v119 v120 v121 v122 v123 v124 v125 v126 v127 v128 v129 v130 v131 v132 v133 v134 v135 l u) (h : l 13 = false) : l 19 = false := by
  cases q : l 19
  · rfl
  · exact absurd ((S.f17 (S.f19 q).1.1).1.1) (by rw [h]; decide)
theorem L15.no16 (S : L15 W go y j cb b1 o1 l1 c1 gu lm capo cu cq lO pq x T v117 v118 v119 v120 v121 v122 v123 v124 v125 v126 v127 v128 v129 v130 v131 v132 v133 v134 v135 l u) (h : l 16 = false) : l 19 = false := by
  cases q : l 19
  · rfl
  · exact absurd ((S.f17 (S.f19 q).1.1).1.2) (by rw [h]; decide)
theorem L15.no11 (S : L15 W go y j cb b1 o1 l1 c1 gu lm capo cu cq lO pq x T v117 v118 v119 v120 v121 v122 v123 v124 v125 v126 v127 v128 v129 v130 v131 v132 v133 v134 v135 l u) (h : l 11 = false) : l 19 = false := by
  cases q : l 19
  · rfl
  · exact absurd (S.c12 (S.c13 (S.f17 (S.f19 q).1.1).1.1)) (by rw [h]; decide)
theorem L15.no8 (S : L15 W go y j cb b1 o1 l1 c1 gu lm capo cu cq lO pq x T v117 v118 v119 v120 v121 v122 v123 v124 v125 v126 v127 v128 v129 v130 v131 v132 v133 v134 v135 l u) (h : l 8 = false) : l 19 = false := by
  cases q : l 19
  · rfl
  · exact absurd (S.c10 (S.c11 (S.c12 (S.c13 (S.f17 (S.f19 q).1.1).1.1)))) (by rw [h]; decide)
theorem L15.no5 (S : L15 W go y j cb b1 o1 l1 c1 gu lm capo cu cq lO pq x T v117 v118 v119 v120 v121 v122 v123 v124 v125 v126 v127 v128 v129 v130 v131 v132 v133 v134 v135 l u) (h : l 5 = false) : l 19 = false := by
  cases q : l 19
  · rfl
  · exact absurd (S.c18 (S.f19 q).1.2) (by rw [h]; decide)
theorem L15.no2 (S : L15 W go y j cb b1 o1 l1 c1 gu lm capo cu cq lO pq x T v117 v118 v119 v120 v121 v122 v123 v124 v125 v126 v127 v128 v129 v130 v131 v132 v133 v134 v135 l u) (h : l 2 = false) : l 19 = false := by
  cases q : l 19
  · rfl
  · exact absurd (S.c4 (S.c5 (S.c18 (S.f19 q).1.2))) (by rw [h]; decide)
theorem L15.s0 (S : L15 W go y j cb b1 o1 l1 c1 gu lm capo cu cq lO pq x T v117 v118 v119 v120 v121 v122 v123 v124 v125 v126 v127 v128 v129 v130 v131 v132 v133 v134 v135 l u) : L15 W go y j cb b1 o1 l1 c1 gu lm capo cu cq lO pq x T (.slice (some ⟨go, 0, none⟩) lm capo) v118 v119 v120 v121 v122 v123 v124 v125 v126 v127 v128 v129 v130 v131 v132 v133 v134 v135 (upd l 0) u := by
  exact {
    base := S.base
    p0 := fun _ => rfl
    p1 := S.p1
    p2 := S.p2
    p3 := S.p3
    p4 := S.p4
    p5 := S.p5
    p6 := S.p6
    p7 := S.p7
    p8 := S.p8
    p9 := S.p9
    p10 := S.p10
    p11 := S.p11
    p12 := S.p12
    p13 := S.p13
    p14 := S.p14
    p15 := S.p15
    p16 := S.p16
    p18 := S.p18
    c13 := S.c13
    c12 := S.c12
    c11 := S.c11
    c10 := S.c10
    c18 := S.c18
    c5 := S.c5
    c4 := S.c4
    f17 := S.f17
    f19 := S.f19 }
theorem L15.s1 (S : L15 W go y j cb b1 o1 l1 c1 gu lm capo cu cq lO pq x T v117 v118 v119 v120 v121 v122 v123 v124 v125 v126 v127 v128 v129 v130 v131 v132 v133 v134 v135 l u) : L15 W go y j cb b1 o1 l1 c1 gu lm capo cu cq lO pq x T v117 (.pointer (some ⟨cb, 1, none⟩)) v119 v120 v121 v122 v123 v124 v125 v126 v127 v128 v129 v130 v131 v132 v133 v134 v135 (upd l 1) u := by
  exact {
    base := S.base
    p0 := S.p0
    p1 := fun _ => rfl
    p2 := S.p2
    p3 := S.p3
    p4 := S.p4
    p5 := S.p5
    p6 := S.p6
    p7 := S.p7
    p8 := S.p8
    p9 := S.p9
    p10 := S.p10
    p11 := S.p11
    p12 := S.p12
    p13 := S.p13
    p14 := S.p14
    p15 := S.p15
    p16 := S.p16
    p18 := S.p18
    c13 := S.c13
    c12 := S.c12
    c11 := S.c11
    c10 := S.c10
    c18 := S.c18
    c5 := S.c5
    c4 := S.c4
    f17 := S.f17
    f19 := S.f19 }
theorem L15.s2 (S : L15 W go y j cb b1 o1 l1 c1 gu lm capo cu cq lO pq x T v117 v118 v119 v120 v121 v122 v123 v124 v125 v126 v127 v128 v129 v130 v131 v132 v133 v134 v135 l u) : L15 W go y j cb b1 o1 l1 c1 gu lm capo cu cq lO pq x T v117 v118 (.slice (some ⟨b1, o1, none⟩) l1 c1) v120 v121 v122 v123 v124 v125 v126 v127 v128 v129 v130 v131 v132 v133 v134 v135 (upd l 2) u := by
  exact {
    base := S.base
    p0 := S.p0
    p1 := S.p1
    p2 := fun _ => rfl
    p3 := S.p3
    p4 := S.p4
    p5 := S.p5
    p6 := S.p6
    p7 := S.p7
    p8 := S.p8
    p9 := S.p9
    p10 := S.p10
    p11 := S.p11
    p12 := S.p12
    p13 := S.p13
    p14 := S.p14
    p15 := S.p15
    p16 := S.p16
    p18 := S.p18
    c13 := S.c13
    c12 := S.c12
    c11 := S.c11
    c10 := S.c10
    c18 := S.c18
    c5 := S.c5
    c4 := fun _ => rfl
    f17 := S.f17
    f19 := S.f19 }
theorem L15.s3 (S : L15 W go y j cb b1 o1 l1 c1 gu lm capo cu cq lO pq x T v117 v118 v119 v120 v121 v122 v123 v124 v125 v126 v127 v128 v129 v130 v131 v132 v133 v134 v135 l u) : L15 W go y j cb b1 o1 l1 c1 gu lm capo cu cq lO pq x T v117 v118 v119 (.int .i64 (j : Nat)) v121 v122 v123 v124 v125 v126 v127 v128 v129 v130 v131 v132 v133 v134 v135 (upd l 3) u := by
  exact {
    base := S.base
    p0 := S.p0
    p1 := S.p1
    p2 := S.p2
    p3 := fun _ => rfl
    p4 := S.p4
    p5 := S.p5
    p6 := S.p6
    p7 := S.p7
    p8 := S.p8
    p9 := S.p9
    p10 := S.p10
    p11 := S.p11
    p12 := S.p12
    p13 := S.p13
    p14 := S.p14
    p15 := S.p15
    p16 := S.p16
    p18 := S.p18
    c13 := S.c13
    c12 := S.c12
    c11 := S.c11
    c10 := S.c10
    c18 := S.c18
    c5 := S.c5
    c4 := S.c4
    f17 := S.f17
    f19 := S.f19 }
theorem L15.s4 (S : L15 W go y j cb b1 o1 l1 c1 gu lm capo cu cq lO pq x T v117 v118 v119 v120 v121 v122 v123 v124 v125 v126 v127 v128 v129 v130 v131 v132 v133 v134 v135 l u) (hd : l 2 = true) : L15 W go y j cb b1 o1 l1 c1 gu lm capo cu cq lO pq x T v117 v118 v119 v120 (.pointer (some ⟨b1, o1 + j, none⟩)) v122 v123 v124 v125 v126 v127 v128 v129 v130 v131 v132 v133 v134 v135 (upd l 4) u := by
  exact {
    base := S.base
    p0 := S.p0
    p1 := S.p1
    p2 := S.p2
    p3 := S.p3
    p4 := fun _ => rfl
    p5 := S.p5
    p6 := S.p6
    p7 := S.p7
    p8 := S.p8
    p9 := S.p9
    p10 := S.p10
    p11 := S.p11
    p12 := S.p12
    p13 := S.p13
    p14 := S.p14
    p15 := S.p15
    p16 := S.p16
    p18 := S.p18
    c13 := S.c13
    c12 := S.c12
    c11 := S.c11
    c10 := S.c10
    c18 := S.c18
    c5 := fun _ => rfl
    c4 := fun _ => hd
    f17 := S.f17
    f19 := S.f19 }
theorem L15.s5 (S : L15 W go y j cb b1 o1 l1 c1 gu lm capo cu cq lO pq x T v117 v118 v119 v120 v121 v122 v123 v124 v125 v126 v127 v128 v129 v130 v131 v132 v133 v134 v135 l u) (hd : l 4 = true) : L15 W go y j cb b1 o1 l1 c1 gu lm capo cu cq lO pq x T v117 v118 v119 v120 v121 (.int .i64 (y : Nat)) v123 v124 v125 v126 v127 v128 v129 v130 v131 v132 v133 v134 v135 (upd l 5) u := by
  exact {
    base := S.base
    p0 := S.p0
    p1 := S.p1
    p2 := S.p2
    p3 := S.p3
    p4 := S.p4
    p5 := fun _ => rfl
    p6 := S.p6
    p7 := S.p7
    p8 := S.p8
    p9 := S.p9
    p10 := S.p10
    p11 := S.p11
    p12 := S.p12
    p13 := S.p13
    p14 := S.p14
    p15 := S.p15
    p16 := S.p16
    p18 := S.p18
    c13 := S.c13
    c12 := S.c12
    c11 := S.c11
    c10 := S.c10
    c18 := fun _ => rfl
    c5 := fun _ => hd
    c4 := S.c4
    f17 := S.f17
    f19 := S.f19 }
theorem L15.s6 (S : L15 W go y j cb b1 o1 l1 c1 gu lm capo cu cq lO pq x T v117 v118 v119 v120 v121 v122 v123 v124 v125 v126 v127 v128 v129 v130 v131 v132 v133 v134 v135 l u) : L15 W go y j cb b1 o1 l1 c1 gu lm capo cu cq lO pq x T v117 v118 v119 v120 v121 v122 (.slice (some ⟨go, 0, none⟩) lm capo) v124 v125 v126 v127 v128 v129 v130 v131 v132 v133 v134 v135 (upd l 6) u := by
  exact {
    base := S.base
    p0 := S.p0
    p1 := S.p1
    p2 := S.p2
    p3 := S.p3
    p4 := S.p4
    p5 := S.p5
    p6 := fun _ => rfl
    p7 := S.p7
    p8 := S.p8
    p9 := S.p9
    p10 := S.p10
    p11 := S.p11
    p12 := S.p12
    p13 := S.p13
    p14 := S.p14
    p15 := S.p15
    p16 := S.p16
    p18 := S.p18
    c13 := S.c13
    c12 := S.c12
    c11 := S.c11
    c10 := S.c10
    c18 := S.c18
    c5 := S.c5
    c4 := S.c4
    f17 := S.f17
    f19 := S.f19 }
theorem L15.s7 (S : L15 W go y j cb b1 o1 l1 c1 gu lm capo cu cq lO pq x T v117 v118 v119 v120 v121 v122 v123 v124 v125 v126 v127 v128 v129 v130 v131 v132 v133 v134 v135 l u) : L15 W go y j cb b1 o1 l1 c1 gu lm capo cu cq lO pq x T v117 v118 v119 v120 v121 v122 v123 (.pointer (some ⟨cb, 1, none⟩)) v125 v126 v127 v128 v129 v130 v131 v132 v133 v134 v135 (upd l 7) u := by
  exact {
    base := S.base
    p0 := S.p0
    p1 := S.p1
    p2 := S.p2
    p3 := S.p3
    p4 := S.p4
    p5 := S.p5
    p6 := S.p6
    p7 := fun _ => rfl
    p8 := S.p8
    p9 := S.p9
    p10 := S.p10
    p11 := S.p11
    p12 := S.p12
    p13 := S.p13
    p14 := S.p14
    p15 := S.p15
    p16 := S.p16
    p18 := S.p18
    c13 := S.c13
    c12 := S.c12
    c11 := S.c11
    c10 := S.c10
    c18 := S.c18
    c5 := S.c5
    c4 := S.c4
    f17 := S.f17
    f19 := S.f19 }
theorem L15.s8 (S : L15 W go y j cb b1 o1 l1 c1 gu lm capo cu cq lO pq x T v117 v118 v119 v120 v121 v122 v123 v124 v125 v126 v127 v128 v129 v130 v131 v132 v133 v134 v135 l u) : L15 W go y j cb b1 o1 l1 c1 gu lm capo cu cq lO pq x T v117 v118 v119 v120 v121 v122 v123 v124 (.slice (some ⟨b1, o1, none⟩) l1 c1) v126 v127 v128 v129 v130 v131 v132 v133 v134 v135 (upd l 8) u := by
  exact {
    base := S.base
    p0 := S.p0
    p1 := S.p1
    p2 := S.p2
    p3 := S.p3
    p4 := S.p4
    p5 := S.p5
    p6 := S.p6
    p7 := S.p7
    p8 := fun _ => rfl
    p9 := S.p9
    p10 := S.p10
    p11 := S.p11
    p12 := S.p12
    p13 := S.p13
    p14 := S.p14
    p15 := S.p15
    p16 := S.p16
    p18 := S.p18
    c13 := S.c13
    c12 := S.c12
    c11 := S.c11
    c10 := fun _ => rfl
    c18 := S.c18
    c5 := S.c5
    c4 := S.c4
    f17 := S.f17
    f19 := S.f19 }
theorem L15.s9 (S : L15 W go y j cb b1 o1 l1 c1 gu lm capo cu cq lO pq x T v117 v118 v119 v120 v121 v122 v123 v124 v125 v126 v127 v128 v129 v130 v131 v132 v133 v134 v135 l u) : L15 W go y j cb b1 o1 l1 c1 gu lm capo cu cq lO pq x T v117 v118 v119 v120 v121 v122 v123 v124 v125 (.int .i64 (j : Nat)) v127 v128 v129 v130 v131 v132 v133 v134 v135 (upd l 9) u := by
  exact {
    base := S.base
    p0 := S.p0
    p1 := S.p1
    p2 := S.p2
    p3 := S.p3
    p4 := S.p4
    p5 := S.p5
    p6 := S.p6
    p7 := S.p7
    p8 := S.p8
    p9 := fun _ => rfl
    p10 := S.p10
    p11 := S.p11
    p12 := S.p12
    p13 := S.p13
    p14 := S.p14
    p15 := S.p15
    p16 := S.p16
    p18 := S.p18
    c13 := S.c13
    c12 := S.c12
    c11 := S.c11
    c10 := S.c10
    c18 := S.c18
    c5 := S.c5
    c4 := S.c4
    f17 := S.f17
    f19 := S.f19 }
theorem L15.s10 (S : L15 W go y j cb b1 o1 l1 c1 gu lm capo cu cq lO pq x T v117 v118 v119 v120 v121 v122 v123 v124 v125 v126 v127 v128 v129 v130 v131 v132 v133 v134 v135 l u) (hd : l 8 = true) : L15 W go y j cb b1 o1 l1 c1 gu lm capo cu cq lO pq x T v117 v118 v119 v120 v121 v122 v123 v124 v125 v126 (.pointer (some ⟨b1, o1 + j, none⟩)) v128 v129 v130 v131 v132 v133 v134 v135 (upd l 10) u := by
  exact {
    base := S.base
    p0 := S.p0
    p1 := S.p1
    p2 := S.p2
    p3 := S.p3
    p4 := S.p4
    p5 := S.p5
    p6 := S.p6
    p7 := S.p7
    p8 := S.p8
    p9 := S.p9
    p10 := fun _ => rfl
    p11 := S.p11
    p12 := S.p12
    p13 := S.p13
    p14 := S.p14
    p15 := S.p15
    p16 := S.p16
    p18 := S.p18
    c13 := S.c13
    c12 := S.c12
    c11 := fun _ => rfl
    c10 := fun _ => hd
    c18 := S.c18
    c5 := S.c5
    c4 := S.c4
    f17 := S.f17
    f19 := S.f19 }
theorem L15.s11 (S : L15 W go y j cb b1 o1 l1 c1 gu lm capo cu cq lO pq x T v117 v118 v119 v120 v121 v122 v123 v124 v125 v126 v127 v128 v129 v130 v131 v132 v133 v134 v135 l u) (hd : l 10 = true) : L15 W go y j cb b1 o1 l1 c1 gu lm capo cu cq lO pq x T v117 v118 v119 v120 v121 v122 v123 v124 v125 v126 v127 (.int .i64 (y : Nat)) v129 v130 v131 v132 v133 v134 v135 (upd l 11) u := by
  exact {
    base := S.base
    p0 := S.p0
    p1 := S.p1
    p2 := S.p2
    p3 := S.p3
    p4 := S.p4
    p5 := S.p5
    p6 := S.p6
    p7 := S.p7
    p8 := S.p8
    p9 := S.p9
    p10 := S.p10
    p11 := fun _ => rfl
    p12 := S.p12
    p13 := S.p13
    p14 := S.p14
    p15 := S.p15
    p16 := S.p16
    p18 := S.p18
    c13 := S.c13
    c12 := fun _ => rfl
    c11 := fun _ => hd
    c10 := S.c10
    c18 := S.c18
    c5 := S.c5
    c4 := S.c4
    f17 := S.f17
    f19 := S.f19 }
theorem L15.s12 (S : L15 W go y j cb b1 o1 l1 c1 gu lm capo cu cq lO pq x T v117 v118 v119 v120 v121 v122 v123 v124 v125 v126 v127 v128 v129 v130 v131 v132 v133 v134 v135 l u) (hd : l 11 = true) : L15 W go y j cb b1 o1 l1 c1 gu lm capo cu cq lO pq x T v117 v118 v119 v120 v121 v122 v123 v124 v125 v126 v127 v128 (.pointer (some ⟨go, y, none⟩)) v130 v131 v132 v133 v134 v135 (upd l 12) u := by
  exact {
    base := S.base
    p0 := S.p0
    p1 := S.p1
    p2 := S.p2
    p3 := S.p3
    p4 := S.p4
    p5 := S.p5
    p6 := S.p6
    p7 := S.p7
    p8 := S.p8
    p9 := S.p9
    p10 := S.p10
    p11 := S.p11
    p12 := fun _ => rfl
    p13 := S.p13
    p14 := S.p14
    p15 := S.p15
    p16 := S.p16
    p18 := S.p18
    c13 := fun _ => rfl
    c12 := fun _ => hd
    c11 := S.c11
    c10 := S.c10
    c18 := S.c18
    c5 := S.c5
    c4 := S.c4
    f17 := S.f17
    f19 := S.f19 }
theorem L15.s13 (S : L15 W go y j cb b1 o1 l1 c1 gu lm capo cu cq lO pq x T v117 v118 v119 v120 v121 v122 v123 v124 v125 v126 v127 v128 v129 v130 v131 v132 v133 v134 v135 l u) (hd : l 12 = true) : L15 W go y j cb b1 o1 l1 c1 gu lm capo cu cq lO pq x T v117 v118 v119 v120 v121 v122 v123 v124 v125 v126 v127 v128 v129 (.slice pq lO cq) v131 v132 v133 v134 v135 (upd l 13) u := by
  exact {
    base := S.base
    p0 := S.p0
    p1 := S.p1
    p2 := S.p2
    p3 := S.p3
    p4 := S.p4
    p5 := S.p5
    p6 := S.p6
    p7 := S.p7
    p8 := S.p8
    p9 := S.p9
    p10 := S.p10
    p11 := S.p11
    p12 := S.p12
    p13 := fun _ => rfl
    p14 := S.p14
    p15 := S.p15
    p16 := S.p16
    p18 := S.p18
    c13 := fun _ => hd
    c12 := S.c12
    c11 := S.c11
    c10 := S.c10
    c18 := S.c18
    c5 := S.c5
    c4 := S.c4
    f17 := fun q => ⟨⟨rfl, (S.f17 q).1.2⟩, (S.f17 q).2⟩
    f19 := S.f19 }
theorem L15.s14 (S : L15 W go y j cb b1 o1 l1 c1 gu lm capo cu cq lO pq x T v117 v118 v119 v120 v121 v122 v123 v124 v125 v126 v127 v128 v129 v130 v131 v132 v133 v134 v135 l u) : L15 W go y j cb b1 o1 l1 c1 gu lm capo cu cq lO pq x T v117 v118 v119 v120 v121 v122 v123 v124 v125 v126 v127 v128 v129 v130 (.slice (some ⟨gu, 0, none⟩) 1 cu) v132 v133 v134 v135 (upd l 14) u := by
  exact {
    base := S.base
    p0 := S.p0
    p1 := S.p1
    p2 := S.p2
    p3 := S.p3
    p4 := S.p4
    p5 := S.p5
    p6 := S.p6
    p7 := S.p7
    p8 := S.p8
    p9 := S.p9
    p10 := S.p10
    p11 := S.p11
    p12 := S.p12
    p13 := S.p13
    p14 := fun _ => rfl
    p15 := S.p15
    p16 := S.p16
    p18 := S.p18
    c13 := S.c13
    c12 := S.c12
    c11 := S.c11
    c10 := S.c10
    c18 := S.c18
    c5 := S.c5
    c4 := S.c4
    f17 := S.f17
    f19 := S.f19 }
theorem L15.s15 (S : L15 W go y j cb b1 o1 l1 c1 gu lm capo cu cq lO pq x T v117 v118 v119 v120 v121 v122 v123 v124 v125 v126 v127 v128 v129 v130 v131 v132 v133 v134 v135 l u) : L15 W go y j cb b1 o1 l1 c1 gu lm capo cu cq lO pq x T v117 v118 v119 v120 v121 v122 v123 v124 v125 v126 v127 v128 v129 v130 v131 (.pointer (some ⟨gu, 0, none⟩)) v133 v134 v135 (upd l 15) u := by
  exact {
    base := S.base
    p0 := S.p0
    p1 := S.p1
    p2 := S.p2
    p3 := S.p3
    p4 := S.p4
    p5 := S.p5
    p6 := S.p6
    p7 := S.p7
    p8 := S.p8
    p9 := S.p9
    p10 := S.p10
    p11 := S.p11
    p12 := S.p12
    p13 := S.p13
    p14 := S.p14
    p15 := fun _ => rfl
    p16 := S.p16
    p18 := S.p18
    c13 := S.c13
    c12 := S.c12
    c11 := S.c11
    c10 := S.c10
    c18 := S.c18
    c5 := S.c5
    c4 := S.c4
    f17 := S.f17
    f19 := S.f19 }
theorem L15.s16 (S : L15 W go y j cb b1 o1 l1 c1 gu lm capo cu cq lO pq x T v117 v118 v119 v120 v121 v122 v123 v124 v125 v126 v127 v128 v129 v130 v131 v132 v133 v134 v135 l u) : L15 W go y j cb b1 o1 l1 c1 gu lm capo cu cq lO pq x T v117 v118 v119 v120 v121 v122 v123 v124 v125 v126 v127 v128 v129 v130 v131 v132 (.int .i64 x) v134 v135 (upd l 16) u := by
  exact {
    base := S.base
    p0 := S.p0
    p1 := S.p1
    p2 := S.p2
    p3 := S.p3
    p4 := S.p4
    p5 := S.p5
    p6 := S.p6
    p7 := S.p7
    p8 := S.p8
    p9 := S.p9
    p10 := S.p10
    p11 := S.p11
    p12 := S.p12
    p13 := S.p13
    p14 := S.p14
    p15 := S.p15
    p16 := fun _ => rfl
    p18 := S.p18
    c13 := S.c13
    c12 := S.c12
    c11 := S.c11
    c10 := S.c10
    c18 := S.c18
    c5 := S.c5
    c4 := S.c4
    f17 := fun q => ⟨⟨(S.f17 q).1.1, rfl⟩, (S.f17 q).2⟩
    f19 := S.f19 }
theorem L15.s18 (S : L15 W go y j cb b1 o1 l1 c1 gu lm capo cu cq lO pq x T v117 v118 v119 v120 v121 v122 v123 v124 v125 v126 v127 v128 v129 v130 v131 v132 v133 v134 v135 l u) (hd : l 5 = true) : L15 W go y j cb b1 o1 l1 c1 gu lm capo cu cq lO pq x T v117 v118 v119 v120 v121 v122 v123 v124 v125 v126 v127 v128 v129 v130 v131 v132 v133 v134 (.pointer (some ⟨go, y, none⟩)) (upd l 18) u := by
  exact {
    base := S.base
    p0 := S.p0
    p1 := S.p1
    p2 := S.p2
    p3 := S.p3
    p4 := S.p4
    p5 := S.p5
    p6 := S.p6
    p7 := S.p7
    p8 := S.p8
    p9 := S.p9
    p10 := S.p10
    p11 := S.p11
    p12 := S.p12
    p13 := S.p13
    p14 := S.p14
    p15 := S.p15
    p16 := S.p16
    p18 := fun _ => rfl
    c13 := S.c13
    c12 := S.c12
    c11 := S.c11
    c10 := S.c10
    c18 := fun _ => hd
    c5 := S.c5
    c4 := S.c4
    f17 := S.f17
    f19 := fun q => ⟨⟨(S.f19 q).1.1, rfl⟩, (S.f19 q).2⟩ }
theorem L15.s17 (S : L15 W go y j cb b1 o1 l1 c1 gu lm capo cu cq lO pq x T v117 v118 v119 v120 v121 v122 v123 v124 v125 v126 v127 v128 v129 v130 v131 v132 v133 v134 v135 l u) (h : l 17 = false) (h13 : l 13 = true) (h16 : l 16 = true) {vn : Value} (hB : Below u.heap.size u u2) (ho : Dm.OwnsI u2 0 vn T) : L15 W go y j cb b1 o1 l1 c1 gu lm capo cu cq lO pq x T v117 v118 v119 v120 v121 v122 v123 v124 v125 v126 v127 v128 v129 v130 v131 v132 v133 vn v135 (upd l 17) u2 := by
  exact {
    base := fun q => (S.base q).trans (hB.mono (S.base q).size)
    p0 := S.p0
    p1 := S.p1
    p2 := S.p2
    p3 := S.p3
    p4 := S.p4
    p5 := S.p5
    p6 := S.p6
    p7 := S.p7
    p8 := S.p8
    p9 := S.p9
    p10 := S.p10
    p11 := S.p11
    p12 := S.p12
    p13 := S.p13
    p14 := S.p14
    p15 := S.p15
    p16 := S.p16
    p18 := S.p18
    c13 := S.c13
    c12 := S.c12
    c11 := S.c11
    c10 := S.c10
    c18 := S.c18
    c5 := S.c5
    c4 := S.c4
    f17 := fun _ => ⟨⟨h13, h16⟩, fun _ => ho⟩
    f19 := fun q => absurd (show l 19 = true from q) (by rw [S.no17 h]; decide) }
theorem L15.s19 (S : L15 W go y j cb b1 o1 l1 c1 gu lm capo cu cq lO pq x T v117 v118 v119 v120 v121 v122 v123 v124 v125 v126 v127 v128 v129 v130 v131 v132 v133 v134 v135 l u) (h : l 19 = false) (h17 : l 17 = true) (h18 : l 18 = true) : L15 W go y j cb b1 o1 l1 c1 gu lm capo cu cq lO pq x T v117 v118 v119 v120 v121 v122 v123 v124 v125 v126 v127 v128 v129 v130 v131 v132 v133 v134 v135 (upd l 19) (u.setCell ⟨go, y, none⟩ v134) := by
  exact {
    base := fun q => absurd (show true = false from q) (by decide)
    p0 := S.p0
    p1 := S.p1
    p2 := S.p2
    p3 := S.p3
    p4 := S.p4
    p5 := S.p5
    p6 := S.p6
    p7 := S.p7
    p8 := S.p8
    p9 := S.p9
    p10 := S.p10
    p11 := S.p11
    p12 := S.p12
    p13 := S.p13
    p14 := S.p14
    p15 := S.p15
    p16 := S.p16
    p18 := S.p18
    c13 := S.c13
    c12 := S.c12
    c11 := S.c11
    c10 := S.c10
    c18 := S.c18
    c5 := S.c5
    c4 := S.c4
    f17 := fun q => ⟨(S.f17 q).1, fun z => absurd (show true = false from z) (by decide)⟩
    f19 := fun _ => ⟨⟨h17, h18⟩, u, S.base h, (S.f17 h17).2 h, rfl⟩ }
end
end Go.Proofs.YtiaibggbbkhjlaaDoor.Ge.Di
namespace Go.Proofs.YtiaibggbbkhjlaaDoor.Ge.Di
open Go.RowKit St
set_option maxRecDepth 100000

theorem between_len {l : List Int} {x : Int} : decide ((l.filter (fun z => decide (x ≤ z) && decide (z ≤ x))).length = 0) = !decide (x ∈ l) := by
  rw [Bool.eq_iff_iff]
  simp only [decide_eq_true_eq, Bool.not_eq_true', decide_eq_false_iff_not, List.length_eq_zero_iff, List.filter_eq_nil_iff, Bool.and_eq_true, not_and]
  constructor
  · intro h hx
    exact h x hx (Int.le_refl _) (Int.le_refl _)
  · intro h y hy h1 h2
    have : y = x := by omega
    exact h (this ▸ hy)
theorem none_same {M : List (List Int)} {vars : List Int} {f : Nat → List Int} (h : VarsTo vars (M.length : Int) vars.length) : setTo (noneL M vars) vars f vars.length = setTo M vars f vars.length := by
  have hl : (noneL M vars).length = M.length := by unfold noneL; rw [setTo_length]
  have hn : VarsTo vars ((noneL M vars).length : Int) vars.length := by rw [hl]; exact h
  refine List.ext_getElem (by rw [setTo_length, setTo_length, hl]) fun i h1 h2 => ?_
  have key : (setTo (noneL M vars) vars f vars.length).getD i [] = (setTo M vars f vars.length).getD i [] := by
    by_cases hv : ∃ a, a < vars.length ∧ (vars.getD a 0).toNat = i
    · obtain ⟨a, ha, rfl⟩ := hv
      rw [setTo_at hn (Nat.le_refl _) ha, setTo_at h (Nat.le_refl _) ha]
    · have hoff : ∀ a, a < vars.length → (vars.getD a 0).toNat ≠ i := fun a ha e => hv ⟨a, ha, e⟩
      rw [setTo_off hoff, setTo_off hoff]
      unfold noneL
      rw [setTo_off hoff]
  rwa [List.getD_eq_getElem?_getD, List.getElem?_eq_getElem h1, List.getD_eq_getElem?_getD, List.getElem?_eq_getElem h2] at key
theorem none_wiped {M : List (List Int)} {vars : List Int} (h : VarsTo vars (M.length : Int) vars.length) : noneL (wipedL M vars) vars = noneL M vars := by
  unfold wipedL
  split
  · exact none_same h
  · rfl
theorem wiped_length (M : List (List Int)) (vars : List Int) : (wipedL M vars).length = M.length := by
  unfold wipedL
  split
  · unfold noneL; rw [setTo_length]
  · rfl
theorem wiped_short {M : List (List Int)} {vars : List Int} (hM : ∀ l ∈ M, l.length ≤ 1000) : ∀ l ∈ wipedL M vars, l.length ≤ 1000 := by
  unfold wipedL
  split
  · exact none_short _ _ hM
  · exact hM
theorem lessTo_short {M : List (List Int)} {vars : List Int} {a : Nat} (hM : ∀ l ∈ M, l.length ≤ 1000) : ∀ k, (lessTo M vars a k).length ≤ 1000
  | 0 => by
    show (M.getD (vars.getD a 0).toNat []).length ≤ 1000
    by_cases h : (vars.getD a 0).toNat < M.length
    · exact hM _ (St.getL_mem h)
    · rw [List.getD_eq_getElem?_getD, List.getElem?_eq_none (by omega)]
      simp
  | k + 1 => by
    rw [lessTo_succ]
    split
    · exact Nat.le_trans (List.length_filter_le _ _) (lessTo_short hM k)
    · exact lessTo_short hM k
theorem diff_off {M : List (List Int)} {c : PCon} (h : wipeTo M c.vars c.vars.length = true ∨ (unionTo M c.vars c.vars.length).length < c.vars.length) : setTo M c.vars (diffRow M c) c.vars.length = noneL M c.vars := by
  have e : diffRow M c = fun _ => [] := funext fun a => by unfold diffRow; rw [if_pos h]
  rw [e]
  rfl
theorem diff_on {M : List (List Int)} {c : PCon} (h : ¬ (wipeTo M c.vars c.vars.length = true ∨ (unionTo M c.vars c.vars.length).length < c.vars.length)) : diffRow M c = fun a => lessTo M c.vars a c.vars.length := funext fun a => by unfold diffRow; rw [if_neg h]
theorem set_itself {N : List (List Int)} {y : Nat} {l : List Int} (h : N.getD y [] = l) (hy : y < N.length) : N.set y l = N := by
  refine List.ext_getElem (by simp) fun i h1 h2 => ?_
  rw [List.getElem_set]
  split
  · rename_i e
    subst e
    rw [List.getD_eq_getElem?_getD, List.getElem?_eq_getElem hy] at h
    exact h.symm
  · rfl
theorem set_again {N : List (List Int)} {y : Nat} {l m : List Int} : (N.set y l).set y m = N.set y m := by simp

set_option maxHeartbeats 8000000 in
theorem rstep_any {w : World} {v v1 v2 v3 : Value} {c : PCon} {L : List (List Int × Nat)} (hc : rCon w [.int .i64 c.kind, v1, v2, .int .i64 c.rel, .int .i64 c.const, v3] c) (hs : Short 1000 c) (h : Slc rDom 2 w v L) (hn : L.length ≤ 1000) (hm : ∀ d ∈ L, d.1.length ≤ 1000) :
    Calls Tryd.prog 10 #[.agg #[.int .i64 c.kind, v1, v2, .int .i64 c.rel, .int .i64 c.const, v3], v] w fun e w' => ∃ x, e = .returned (.tuple #[x, .int .i64 (stepG c L).2]) ∧ DomsAt w' w.heap.size x (stepG c L).1 ∧ Below w.heap.size w w' := by
  obtain ⟨W0, hW0⟩ : ∃ W0, W0 = w.alloc (.cells #[.int .i64 c.kind, v1, v2, .int .i64 c.rel, .int .i64 c.const, v3] 24) := ⟨_, rfl⟩
  obtain ⟨W1, hW1⟩ : ∃ W1, W1 = W0.alloc (.cells #[.int .i64 5] 3) := ⟨_, rfl⟩
  have hsz : W0.heap.size = w.heap.size + 1 := by rw [hW0, World.size_alloc]
  have HB1 := Lib.hid (show Below w.heap.size w W1 by rw [hW1, hW0]; exact below_two (new_below _ _) (new_below _ _))
  have Q1 := Lib.hid (show ConAt W1 w.heap.size [.int .i64 c.kind, v1, v2, .int .i64 c.rel, .int .i64 c.const, v3] from ConAt.below (w := W0) (by rw [hW0]; exact six_at _ _ _ _ _ _ _ _) (by rw [hW1]; exact new_below _ _))
  have hK : Dm.Reads W1 (.slice (some ⟨w.heap.size + 1, 0, none⟩) 1 1) [5] := by rw [hW1, ← hsz]; exact Dm.reads_of_readsN (St.one_reads _ _)
  have HW := Lib.hid (show W1 = (w.alloc (.cells #[.int .i64 c.kind, v1, v2, .int .i64 c.rel, .int .i64 c.const, v3] 24)).alloc (.cells #[.int .i64 5] 3) by rw [hW1, hW0])
  have CR := Lib.hid (rsright_any (rCon_stays _ _ _ _ HB1.out hc) hs (h.below rDom_stays HB1.out) hn hm hK (by decide))
  have LX := Lib.hid (fun u (hb : Below w.heap.size w u) => rlists_any (h.below rDom_stays hb) hn hm)
  have WX := Lib.hid (fun u (hb : Below w.heap.size w u) b x (hx : ListsAt u b x (leftsOf L)) (hv : ∀ v ∈ c.vars, 0 ≤ v ∧ v < ((leftsOf L).length : Int)) => rswiped_any (rCon_stays _ _ _ _ hb hc) hs (hx.low (Nat.zero_le _)) (by rw [lefts_length]; exact hn) hv)
  have NX := Lib.hid (fun u (hb : Below w.heap.size w u) x (M : List (List Int)) (hml : M.length ≤ 1000) (hx : ListsAt u 0 x M) (hv : ∀ v ∈ c.vars, 0 ≤ v ∧ v < (M.length : Int)) => rsnone_any (rCon_stays _ _ _ _ hb hc) hs hx hml hv)
  have KX := Lib.hid (fun u (hb : Below w.heap.size w u) b x M (hx : ListsAt u b x M) (hl : L.length = M.length) (hml : ∀ l ∈ M, l.length ≤ 1000) => rskeep_any (h.below rDom_stays hb) (hx.low (Nat.zero_le _)) hn hm hl hml)
  have HSL := Lib.hid (show stepG c L = if rightS c L [5] = true then (keepTo L (setTo (leftsOf L) c.vars (diffRow (leftsOf L) c) c.vars.length) L.length, 0) else ([], 1) from stepL_G.symm)
  have HRP := Lib.hid (show rightS c L [5] = true → c.kind ∈ ([5] : List Int) ∧ rightC c L.length = true ∧ _ from fun q => rightK_parts ((rightS_K c L [5]).symm.trans q))
  obtain ⟨RS, hRS⟩ : ∃ b, b = rightS c L [5] := ⟨_, rfl⟩
  rw [← hRS] at CR HSL HRP
  have hc2 := hc
  clear hW0 hW1 hsz hK hc hs h hm hRS
  go_enter Tryd.func10, Tryd.ntmps10
  go_wp2_with fail
  rw [← HW.out]
  refine CR.out.mono ?_
  rintro e w2 ⟨rfl, hB2⟩
  have HB2 := Lib.hid (below_two HB1.out hB2)
  have Q2 := Lib.hid (Q1.out.below hB2)
  clear hB2
  cases RS
  · go_wp2_with fail
    go_ret2
    exact ⟨.slice none 0 0, by rw [HSL.out]; rfl, by rw [HSL.out]; exact doms_nil _ _, HB2.out⟩
  · obtain ⟨hkd, hrc, _⟩ := HRP.out rfl
    obtain ⟨hl2, hl8⟩ := right_diff hrc (by simpa using hkd)
    have hvt := vars_to hrc
    have HVT := Lib.hid (show VarsTo c.vars ((leftsOf L).length : Int) c.vars.length by rw [lefts_length]; exact hvt)
    have HVM := Lib.hid (show ∀ v ∈ c.vars, 0 ≤ v ∧ v < ((leftsOf L).length : Int) by rw [lefts_length]; exact vars_mem hvt)
    have HL8 := Lib.hid (And.intro hl2 hl8)
    have HSM := Lib.hid (lefts_small L)
    have HLL := Lib.hid (lefts_length L)
    have hmn : (leftsOf L).length ≤ 1000 := by rw [lefts_length]; exact hn
    obtain ⟨M, hM⟩ : ∃ M, M = leftsOf L := ⟨_, rfl⟩
    rw [← hM] at HVT HVM HSM HLL HSL LX WX hmn
    clear hkd hrc hvt hl2 hl8 hM
    obtain ⟨q0, q1, q2, q3, q4, q5⟩ := Q2.out.six
    have HBD := Lib.hid (fun q => below_two HB2.out (below_drewN (n := q) (Below.refl _ w2)))
    go_upto_region 3 with fail
    go_cut [6, 7] (fun l is wx => ListsAt wx 0 l (wipedL M c.vars) ∧ is = .bool (wipeTo M c.vars c.vars.length) ∧ Below w.heap.size w wx ∧ ConAt wx w.heap.size [Value.int .i64 c.kind, v1, v2, .int .i64 c.rel, .int .i64 c.const, v3])
    case first =>
      go_region_law (first
        | (go_simp; go_at_call 29; refine (LX.out _ (HBD.out _)).mono ?_; rintro e w3 ⟨x3, rfl, hx3, hB3⟩; have HB3 := Lib.hid (below_two (HBD.out 1) hB3); have Q3 := Lib.hid (Q2.out.below (below_two (below_drewN (n := 1) (Below.refl _ w2)) hB3)); have X3 := Lib.hid hx3; clear hB3 hx3; obtain ⟨q0, q1, q2, q3, q4, q5⟩ := Q3.out.six)
        | (go_simp; go_at_call 28; refine (WX.out _ HB3.out _ _ X3.out HVM.out).mono ?_; rintro e w4 ⟨x4, rfl, hx4, hB4⟩; have HB4 := Lib.hid (below_two HB3.out hB4); have Q4 := Lib.hid (Q3.out.below hB4); have X4 := Lib.hid hx4; clear hB4 hx4))
      all_goals go_wp2_with fail
      all_goals go_meet
      all_goals exact ⟨X4.out, rfl, HB4.out, Q4.out⟩
    case rest =>
      obtain ⟨hx, rfl, hB, hQ⟩ := hcut
      obtain ⟨w4, rfl⟩ : ∃ z, z = wc := ⟨_, rfl⟩
      have X4 := Lib.hid hx
      have HB4 := Lib.hid hB
      have Q4 := Lib.hid hQ
      clear hx hB hQ q0 q1 q2 q3 q4 q5
      obtain ⟨u1, u2, u3, e, hft, ⟨p1, b1, o1, c1, l1, e1, hcap1, h1⟩, hr2, hr3⟩ := hc2
      subst e1
      simp only [List.cons.injEq, and_true] at e
      obtain ⟨_, rfl, rfl, _, _, rfl⟩ := e
      have bl1 : 2 ≤ l1 ∧ l1 ≤ 8 := by have := h1.long; have := HL8.out; omega
      obtain rfl := h1.at_ (by omega)
      have HNV := Lib.hid (nums_of h1)
      have HLG := Lib.hid h1.long
      have HWL := Lib.hid (wiped_length M c.vars)
      have HWS := Lib.hid (wiped_short (M := M) (vars := c.vars) fun l hl => (HSM.out l hl).1)
      have HNW := Lib.hid (none_wiped HVT.out)
      obtain ⟨WI, hWI⟩ : ∃ b, b = wipeTo M c.vars c.vars.length := ⟨_, rfl⟩
      obtain ⟨Lw, hLw⟩ : ∃ z, z = wipedL M c.vars := ⟨_, rfl⟩
      rw [← hWI]
      rw [← hLw] at X4 HWL HWS HNW
      have HWI := Lib.hid (And.intro hWI hLw)
      obtain ⟨pm, capm, rfl⟩ := X4.out.shape
      obtain ⟨W5, hW5⟩ : ∃ z, z = w4.alloc (.cells #[] 3) := ⟨_, rfl⟩
      have HO5 := Lib.hid (show Dm.OwnsI W5 w4.heap.size (.slice (some ⟨w4.heap.size, 0, none⟩) 0 0) [] by rw [hW5]; exact made_ints _ _ (Nat.le_refl _))
      have HB5 := Lib.hid (show Below w4.heap.size w4 W5 by rw [hW5]; exact new_below _ _)
      have HW5 := Lib.hid hW5
      clear hW5 hWI hLw hft hr2 hr3 h1
      go_wp2_with fail
      rw [← HW5.out]
      go_loopw [8, 9] (fun f i wr => ∃ j : Nat, j ≤ l1 ∧ i = .int .i64 j ∧ Dm.OwnsI wr w4.heap.size f (unionTo Lw c.vars j) ∧ Below w4.heap.size w4 wr) (fun _ i _ => l1 - (intOf i).toNat)
      case atStart => exact ⟨0, by omega, rfl, HO5.out, HB5.out⟩
      case round =>
        rename_i wr
        obtain ⟨j, hj, rfl, ho, hB⟩ := hrel
        have HO := Lib.hid ho
        have HB := Lib.hid hB
        obtain ⟨q0, q1, q2, q3, q4, q5⟩ := (Q4.out.below hB).six
        clear ho hB
        by_cases hlt : j < l1
        · have hjv : j < c.vars.length := by have := HLG.out; omega
          have HCV := Lib.hid (cell_below HB4.out (HNV.out.cell j hlt))
          have hvj := HVM.out (c.vars.getD j 0) (St.getD_memS hjv)
          have hsu := unionTo_succ (M := Lw) (vars := c.vars) (j := j)
          have hul := unionTo_len (M := Lw) (vars := c.vars) HWS.out (j := j)
          obtain ⟨y, hy⟩ : ∃ y, y = c.vars.getD j 0 := ⟨_, rfl⟩
          rw [← hy] at HCV hvj hsu
          obtain ⟨y, rfl⟩ := Int.eq_ofNat_of_zero_le hvj.1
          simp only [Int.toNat_natCast] at hsu
          have hyM : y < Lw.length := by rw [HWL.out]; omega
          obtain ⟨g, cap, ul, em, _, _, _, cg, _, hu⟩ := X4.out.row hyM
          simp only [Value.slice.injEq] at em
          obtain ⟨rfl, hq, rfl⟩ := em
          clear hq
          obtain ⟨pu, gu, cu, rfl, hpu, hcu⟩ := Dm.ints_shape hu
          have hls := HWS.out _ (St.getL_mem hyM)
          obtain ⟨l, hl⟩ : ∃ l, l = Lw.getD y [] := ⟨_, rfl⟩
          rw [← hl] at cg hpu hcu hls hsu
          obtain ⟨n, hn4⟩ : ∃ n, n = l.length := ⟨_, rfl⟩
          rw [← hn4] at cg hpu hls
          have HN4 := Lib.hid hn4
          have HSU := Lib.hid hsu
          have HCG := Lib.hid cg
          have HCU := Lib.hid hcu
          obtain ⟨U, hU⟩ : ∃ U, U = unionTo Lw c.vars j := ⟨_, rfl⟩
          rw [← hU] at HSU HO hul
          have d5 : (j : Int) < (l1 : Int) := by omega
          have d6 : (y : Int) < (Lw.length : Int) := by omega
          clear hsu hcu hn4 hl hU hy hu hvj hjv cg hyM
          go_wp2_with fail
          go_loopw [8, 10] (fun f i wx => ∃ k : Nat, k ≤ n ∧ i = .int .i64 k ∧ Dm.OwnsI wx w4.heap.size f (addAll U (l.take k)) ∧ Below w4.heap.size w4 wx) (fun _ i _ => n - (intOf i).toNat)
          case atStart => exact ⟨0, by omega, rfl, HO.out, HB.out⟩
          case round =>
            obtain ⟨k, hk, rfl, hox, hBx⟩ := hrel
            obtain ⟨wx, rfl⟩ : ∃ z, z = wr := ⟨_, rfl⟩
            have HOX := Lib.hid hox
            have HBX := Lib.hid hBx
            clear hox hBx q0 q1 q2 q3 q4 q5
            obtain ⟨q0, q1, q2, q3, q4, q5⟩ := (Q4.out.below HBX.out).six
            have cv := cell_below HBX.out HCV.out
            have cg := cell_below HBX.out HCG.out
            by_cases hlt2 : k < n
            · obtain rfl := hpu (by omega)
              have hkl : k < l.length := by have := HN4.out; omega
              have cx := cell_below HBX.out (HCU.out k hkl)
              have has := addAll_step (l := U) hkl
              have hal := addAll_len (l := U) (m := l.take k)
              rw [List.length_take] at hal
              obtain ⟨x, hx⟩ : ∃ x, x = l.getD k 0 := ⟨_, rfl⟩
              rw [← hx] at cx has
              obtain ⟨O, hO⟩ : ∃ O, O = addAll U (l.take k) := ⟨_, rfl⟩
              rw [← hO] at has HOX hal
              have hOl : O.length ≤ 10000 := by omega
              have BX := Lib.hid (Dm.rbetweenL_any (Dm.reads_of_owns HOX.out) (by omega) x x)
              have HBL := Lib.hid (between_len (l := O) (x := x))
              obtain ⟨D, hD⟩ : ∃ D, D = decide (x ∈ O) := ⟨_, rfl⟩
              rw [← hD] at HBL
              have HAS := Lib.hid (show addAll U (l.take (k + 1)) = if D = true then O else O ++ [x] by rw [has, hD]; unfold addV; simp)
              obtain ⟨fl, hfl⟩ : ∃ fl, fl = O.filter (fun z => decide (x ≤ z) && decide (z ≤ x)) := ⟨_, rfl⟩
              rw [← hfl] at BX HBL
              obtain ⟨pO, _, cO, hsO, _, _⟩ := Dm.ints_shape HOX.out
              rw [hsO] at BX HOX ⊢
              have d7 : (k : Int) < (n : Int) := by omega
              have bfl : fl.length ≤ 10000 := by rw [hfl]; exact Nat.le_trans (List.length_filter_le _ _) hOl
              clear hx hO hkl has hD hfl hal hsO
              go_wp2_with fail
              refine BX.out.mono ?_
              rintro e w7 ⟨r7, rfl, ho7, hB7⟩
              obtain ⟨p7, _, c7, rfl, _, _⟩ := Dm.ints_shape ho7
              have HB7 := Lib.hid (show Below w4.heap.size w4 w7 from HBX.out.trans (hB7.mono HBX.out.size))
              have HO7 := Lib.hid (owns_below HOX.out hB7)
              clear ho7 hB7 q0 q1 q2 q3 q4 q5 cv cg cx
              obtain ⟨q0, q1, q2, q3, q4, q5⟩ := (Q4.out.below HB7.out).six
              cases D
              · obtain rfl : fl = [] := List.eq_nil_of_length_eq_zero (of_decide_eq_true HBL.out)
                have HA9 := Lib.hid (owns_below HO7.out (new_below w7 (.cells #[.int .i64 x] 3)))
                have HR9 := Lib.hid (St.one_reads w7 x)
                have hlen9 : O.length + [x].length ≤ 100000 := by simp; omega
                have HLA := Lib.hid (show w4.heap.size ≤ (w7.alloc (.cells #[.int .i64 x] 3)).heap.size from Nat.le_trans HB7.out.size (new_below w7 _).size)
                have HBA := Lib.hid (show Below w4.heap.size w4 (w7.alloc (.cells #[.int .i64 x] 3)) from HB7.out.trans ((new_below w7 _).mono HB7.out.size))
                clear HBL
                go_wp2_with (at_builtin; refine Dm.wpList_append_ints rfl _ _ rfl w4.heap.size _ _ O [x] rfl rfl HA9.out HR9.out hlen9 HLA.out ?_; intro v' w10 hp1 hp2; have HN10 := Lib.hid (And.intro hp1 (ints_grown HA9.out hp2 HBA.out HLA.out)); clear hp1 hp2)
                go_roundw
                case rel => exact ⟨k + 1, by omega, by go_num, by rw [HAS.out]; exact HN10.out.1, HN10.out.2⟩
                case measure => simp [intOf]; omega
              · have hne : ¬ fl.length = 0 := of_decide_eq_false HBL.out
                have dn : ((fl.length : Int) == 0) = false := beq_eq_false_iff_ne.2 (by omega)
                clear HBL hne
                go_wp2_with fail
                go_roundw
                case rel => exact ⟨k + 1, by omega, by go_num, by rw [HAS.out]; exact HO7.out, HB7.out⟩
                case measure => simp [intOf]; omega
            · have d7 : ¬ ((k : Int) < (n : Int)) := by omega
              have HNX := Lib.hid (show Dm.OwnsI wx w4.heap.size u8 (unionTo Lw c.vars (j + 1)) by
                have h := HOX.out
                rw [List.take_of_length_le (by have := HN4.out; omega)] at h
                rw [HSU.out]
                exact h)
              go_wp2_with fail
              go_roundw
              case rel => exact ⟨j + 1, by omega, by go_num, HNX.out, HBX.out⟩
              case measure => simp [intOf]; omega
        · obtain rfl : j = l1 := by omega
          have d5 : ¬ ((j : Int) < (j : Int)) := by omega
          obtain ⟨uU, huU⟩ : ∃ z, z = u8 := ⟨_, rfl⟩
          rw [← huU] at HO
          subst huU
          obtain ⟨pU, _, cU, rfl, _, _⟩ := Dm.ints_shape HO.out
          obtain ⟨lU, hlU⟩ : ∃ n, n = (unionTo Lw c.vars j).length := ⟨_, rfl⟩
          rw [← hlU]
          have HLU := Lib.hid hlU
          clear hlU HO
          cases WI
          · have HLM := Lib.hid (show Lw = M by rw [HWI.out.2]; unfold wipedL; rw [← HWI.out.1]; rfl)
            by_cases hfew : lU < j
            · have HOFF := Lib.hid (show wipeTo M c.vars c.vars.length = true ∨ (unionTo M c.vars c.vars.length).length < c.vars.length from .inr (by rw [← HLM.out, ← HLG.out, ← HLU.out]; exact hfew))
              have d8 : (lU : Int) < (j : Int) := by omega
              have NX1 := Lib.hid (NX.out _ (below_two HB4.out HB.out) _ Lw (by rw [HWL.out]; exact hmn) ((X4.out.below HB.out).low (Nat.zero_le _)) (by rw [HWL.out]; exact HVM.out))
              go_wp2_with fail
              refine NX1.out.mono ?_
              rintro e w8 ⟨x8, rfl, hx8, hB8⟩
              have HB8 := Lib.hid (below_two (below_two HB4.out HB.out) hB8)
              have KY := Lib.hid (KX.out _ HB8.out _ _ _ hx8 (by rw [HNW.out]; unfold noneL; rw [setTo_length]; exact HLL.out.symm) (by rw [HNW.out]; exact none_short _ _ fun l hl => (HSM.out l hl).1))
              clear hx8 hB8
              go_wp2_with fail
              refine KY.out.mono ?_
              rintro e w20 ⟨x20, rfl, hx20, hB20⟩
              have X20 := Lib.hid hx20
              have HB20 := Lib.hid (below_two HB8.out hB20)
              clear hx20 hB20
              go_wp2_with fail
              go_ret2
              exact ⟨x20, by rw [HSL.out]; rfl, by rw [HSL.out]; show DomsAt _ _ _ (keepTo L (setTo M c.vars (diffRow M c) c.vars.length) L.length); rw [diff_off HOFF.out, ← HNW.out]; exact X20.out.low HB8.out.size, HB20.out⟩
            · have HON := Lib.hid (show ¬ (wipeTo M c.vars c.vars.length = true ∨ (unionTo M c.vars c.vars.length).length < c.vars.length) from fun q => q.elim (fun z => by rw [← HWI.out.1] at z; cases z) (fun z => hfew (by rw [← HLM.out, ← HLG.out, ← HLU.out] at z; exact z)))
              have d8 : ¬ ((lU : Int) < (j : Int)) := by omega
              have hLM := HLM.out
              subst hLM
              obtain ⟨W9, hW9⟩ : ∃ z, z = wr.alloc (.cells #[] 22) := ⟨_, rfl⟩
              have HB9 := Lib.hid (show Below wr.heap.size wr W9 by rw [hW9]; exact new_below _ _)
              have HOWN := Lib.hid (show ListsAt W9 wr.heap.size (.slice (some ⟨wr.heap.size, 0, none⟩) 0 0) [] by rw [hW9]; exact ownsP_made _ _ _ _ (Nat.le_refl _))
              have HM1 := Lib.hid (((X4.out.below HB.out).below HB9.out).low (Nat.zero_le _))
              have hsm : ([] : List (List Int)).length + Lw.length ≤ 100000 := by simp; omega
              have HW9 := Lib.hid hW9
              have X4r := Lib.hid (X4.out.below HB.out)
              have HBR := Lib.hid (below_two HB4.out HB.out)
              have Q4r := Lib.hid (Q4.out.below HB.out)
              clear hW9
              go_upto_region 16 with fail
              go_cut [12] (fun o wx => ListsAt wx wr.heap.size o Lw ∧ Below wr.heap.size wr wx)
              case first =>
                go_wp2_with (at_builtin; rw [← HW9.out]; refine put_all rfl _ _ rfl rfl rfl HOWN.out HM1.out hsm HB9.out.size ?_; intro p8 cap8 w8 hp1 hp2; rw [List.nil_append] at hp1; have HN := Lib.hid (lists_all HOWN.out hp1 hp2 HB9.out HB9.out.size); clear hp1 hp2; rw [List.length_nil, Nat.zero_add] at *)
                go_meet
                exact HN.out
              case rest =>
                obtain ⟨hx8, hB8⟩ := hcut
                obtain ⟨w8, rfl⟩ : ∃ z, z = wc := ⟨_, rfl⟩
                obtain ⟨po, capo, rfl⟩ := hx8.shape
                have HN := Lib.hid (And.intro hx8 hB8)
                obtain ⟨wb, hwb⟩ : ∃ z, z = wr := ⟨_, rfl⟩
                rw [← hwb] at HN X4r HBR Q4r
                have bl2 := bl1
                have HNUM := Lib.hid (nums_below HNV.out HBR.out)
                clear hx8 hB8 hwb q0 q1 q2 q3 q4 q5 HLU d8 hfew HOWN HM1 HW9 HB9 hsm
                obtain ⟨n, hnj⟩ : ∃ n, n = j := ⟨_, rfl⟩
                subst hnj
                go_wp2_with fail
                go_loopw [13] (fun i wr => ∃ j : Nat, j ≤ n ∧ i = .int .i64 j ∧ ListsAt wr wb.heap.size (.slice po Lw.length capo) (setTo Lw c.vars (fun a => lessTo Lw c.vars a c.vars.length) j) ∧ Below wb.heap.size wb wr) (fun i _ => n - (intOf i).toNat)
                case atStart => exact ⟨0, by omega, rfl, HN.out.1, HN.out.2⟩
                case round =>
                  obtain ⟨j, hj, rfl, hx, hB⟩ := hrel
                  obtain ⟨wv, rfl⟩ : ∃ z, z = wr := ⟨_, rfl⟩
                  have X := Lib.hid hx
                  have HB := Lib.hid hB
                  obtain ⟨q0, q1, q2, q3, q4, q5⟩ := (Q4r.out.below hB).six
                  clear hx hB
                  by_cases hlt : j < n
                  · have hjv : j < c.vars.length := by have := HLG.out; omega
                    have HCV := Lib.hid (HNUM.out.cell j hlt)
                    have hvj := HVM.out (c.vars.getD j 0) (St.getD_memS hjv)
                    have hkeep : (setTo Lw c.vars (fun a => lessTo Lw c.vars a c.vars.length) j).getD (c.vars.getD j 0).toNat [] = Lw.getD (c.vars.getD j 0).toNat [] := setTo_off (fun a ha e => vars_ne HVT.out (by omega) hjv (by omega) e)
                    have hsc := setTo_succ Lw c.vars (fun a => lessTo Lw c.vars a c.vars.length) j
                    have hsl := setTo_length Lw c.vars (fun a => lessTo Lw c.vars a c.vars.length) j
                    have hl0 : lessTo Lw c.vars j 0 = Lw.getD (c.vars.getD j 0).toNat [] := rfl
                    obtain ⟨y, hy⟩ : ∃ y, y = c.vars.getD j 0 := ⟨_, rfl⟩
                    rw [← hy] at HCV hvj hkeep hsc hl0
                    obtain ⟨y, rfl⟩ := Int.eq_ofNat_of_zero_le hvj.1
                    simp only [Int.toNat_natCast] at hkeep hsc hl0
                    have hyM : y < Lw.length := by omega
                    have HIT := Lib.hid (set_itself (hkeep.trans hl0.symm) (by rw [hsl]; exact hyM))
                    obtain ⟨N, hN⟩ : ∃ N, N = setTo Lw c.vars (fun a => lessTo Lw c.vars a c.vars.length) j := ⟨_, rfl⟩
                    rw [← hN] at X HIT hsc
                    have HNL := Lib.hid (show N.length = Lw.length by rw [hN]; exact hsl)
                    have HSC := Lib.hid hsc
                    have d5 : (j : Int) < (n : Int) := by omega
                    clear hsc hsl hl0 hkeep hN hy
                    go_wp2_with fail
                    go_loopw [14] (fun i wx => ∃ k : Nat, k ≤ n ∧ i = .int .i64 k ∧ ListsAt wx wb.heap.size (.slice po Lw.length capo) (N.set y (lessTo Lw c.vars j k)) ∧ Below wb.heap.size wb wx) (fun i _ => n - (intOf i).toNat)
                    case atStart => exact ⟨0, by omega, rfl, by rw [HIT.out]; exact X.out, HB.out⟩
                    case round =>
                      obtain ⟨k, hk, rfl, hxq, hBx⟩ := hrel
                      obtain ⟨wx, rfl⟩ : ∃ z, z = wr := ⟨_, rfl⟩
                      have XQ := Lib.hid hxq
                      have HBX := Lib.hid hBx
                      clear hxq hBx q0 q1 q2 q3 q4 q5
                      obtain ⟨q0, q1, q2, q3, q4, q5⟩ := (Q4r.out.below HBX.out).six
                      by_cases hlt2 : k < n
                      · have hkv : k < c.vars.length := by have := HLG.out; omega
                        have cvk := cell_below HBX.out (HNUM.out.cell k hlt2)
                        have hvk := HVM.out (c.vars.getD k 0) (St.getD_memS hkv)
                        obtain ⟨z, hz⟩ : ∃ z, z = c.vars.getD k 0 := ⟨_, rfl⟩
                        rw [← hz] at cvk hvk
                        obtain ⟨z, rfl⟩ := Int.eq_ofNat_of_zero_le hvk.1
                        have hzM : z < Lw.length := by omega
                        obtain ⟨g, cap, uz, em, _, _, _, cgz, _, huz⟩ := X4r.out.row hzM
                        simp only [Value.slice.injEq] at em
                        obtain ⟨rfl, hq, rfl⟩ := em
                        clear hq
                        obtain ⟨pz, gz, cz, rfl, hpz, hcz⟩ := Dm.ints_shape huz
                        obtain ⟨lz, hlz⟩ : ∃ l, l = Lw.getD z [] := ⟨_, rfl⟩
                        have hls : lessTo Lw c.vars j (k + 1) = if k ≠ j ∧ lz.length = 1 then (lessTo Lw c.vars j k).filter (fun y => !decide (y = lz.getD 0 0)) else lessTo Lw c.vars j k := by
                          have hz2 : z = (c.vars.getD k 0).toNat := by omega
                          rw [lessTo_succ, hlz, hz2]
                        rw [← hlz] at cgz hpz hcz
                        have cgz2 := cell_below HBX.out cgz
                        have HLS := Lib.hid hls
                        have d6 : (k : Int) < (n : Int) := by omega
                        have d7 : (z : Int) < (Lw.length : Int) := by omega
                        clear huz cgz hls hz hlz
                        by_cases hkj : k = j
                        · subst hkj
                          have HL0 := Lib.hid (show lessTo Lw c.vars k (k + 1) = lessTo Lw c.vars k k by rw [HLS.out, if_neg (fun q => q.1 rfl)])
                          go_wp2_with fail
                          go_roundw
                          case rel => exact ⟨k + 1, by omega, by go_num, by rw [HL0.out]; exact XQ.out, HBX.out⟩
                          case measure => simp [intOf]; omega
                        · have dkj : ((k : Int) == (j : Int)) = false := beq_eq_false_iff_ne.2 (by omega)
                          have dkj2 : ((k : Int) != (j : Int)) = true := by rw [bne, dkj]; rfl
                          by_cases hone : lz.length = 1
                          · obtain ⟨x, hxz⟩ : ∃ x, x = lz.getD 0 0 := ⟨_, rfl⟩
                            obtain rfl := hpz (by omega)
                            have cxz := cell_below HBX.out (hcz 0 (by omega))
                            rw [← hxz] at cxz
                            have HL1 := Lib.hid (show lessTo Lw c.vars j (k + 1) = (lessTo Lw c.vars j k).filter (fun y => !decide (y = x)) by rw [HLS.out, if_pos ⟨hkj, hone⟩, hxz])
                            have hOl := lessTo_short (M := Lw) (vars := c.vars) (a := j) (fun l hl => (HSM.out l hl).1) k
                            obtain ⟨O, hO⟩ : ∃ O, O = lessTo Lw c.vars j k := ⟨_, rfl⟩
                            rw [← hO] at HL1 XQ hOl
                            obtain ⟨go, capo2, uo, em2, hgo, hgl, _, co, fo, ho⟩ := XQ.out.row (k := y) (by rw [List.length_set, HNL.out]; exact hyM)
                            rw [getL_set, if_pos ⟨rfl, by rw [HNL.out]; exact hyM⟩] at ho
                            simp only [Value.slice.injEq] at em2
                            obtain ⟨rfl, hq, rfl⟩ := em2
                            clear hq
                            obtain ⟨pq, _, cq, rfl, _, _⟩ := Dm.ints_shape ho
                            rw [hone] at cgz2
                            obtain ⟨TL, hTL⟩ : ∃ T, T = O.filter (fun y => !decide (y = x)) := ⟨_, rfl⟩
                            rw [← hTL] at HL1
                            have LSX := Lib.hid (show ∀ u, Below wx.heap.size wx u → Calls Tryd.prog 33 #[.slice pq O.length cq, .int .i64 x] u fun e w' => ∃ r, e = .returned r ∧ Dm.OwnsI w' 0 r TL ∧ Below u.heap.size u w' from fun u hu => (Dm.rlessL_any (Dm.reads_of_owns (owns_below ho hu)) (by omega) x).mono fun e w' ⟨r, e1, e2, e3⟩ => ⟨r, e1, by rw [hTL]; exact owns_low e2 (Nat.zero_le _), e3⟩)
                            have HFO := Lib.hid (And.intro co fo)
                            have HLD := Lib.hid (And.intro q1 (And.intro (cell_below HBX.out HCV.out) cxz))
                            have HNX := Lib.hid (show ∀ wy v', Below wx.heap.size wx wy → Dm.OwnsI wy 0 v' TL → ListsAt (wy.setCell ⟨go, y, none⟩ v') wb.heap.size (.slice (some ⟨go, 0, none⟩) Lw.length capo) (N.set y TL) ∧ Below wb.heap.size wb (wy.setCell ⟨go, y, none⟩ v') from fun wy v' hb hov => by
                              have h := (XQ.out.below hb).stored (by rw [List.length_set, HNL.out]; exact hyM) hov
                              rw [set_again] at h
                              exact ⟨h, (HBX.out.trans (hb.mono HBX.out.size)).setCell hgo _⟩)
                            have dy : (y : Int) < (Lw.length : Int) := by omega
                            clear ho fo co hgl hgo hTL hO hxz hone hcz cxz
                            go_upto_region 25 with fail
                            have HBZ := Lib.hid (show Below wx.heap.size wx wx.drew from (Below.refl _ _).drew)
                            refine wp_region_at (γ := GL15) (JL15 wx go y j w.heap.size b1 o1 n c1 gz Lw.length capo cz cq O.length pq x TL) putL15 ⟨u117, u118, u119, u120, u121, u122, u123, u124, u125, u126, u127, u128, u129, u130, u131, u132, u133, u134, u135⟩ ?hm ?ho ?hput ?h0 ?hs ?hd
                            case hm => kernel_rfl
                            case ho => kernel_rfl
                            case hput => (simp only [putL15, sA, sZ, sS])
                            case h0 => exact ⟨fun _ => HBZ.out, nofun, nofun, nofun, nofun, nofun, nofun, nofun, nofun, nofun, nofun, nofun, nofun, nofun, nofun, nofun, nofun, nofun, nofun, nofun, nofun, nofun, nofun, nofun, nofun, nofun, nofun, nofun⟩
                            case hs =>
                              as_aux_lemma =>
                              refine ⟨?s0, ?s1, ?s2, ?s3, ?s4, ?s5, ?s6, ?s7, ?s8, ?s9, ?s10, ?s11, ?s12, ?s13, ?s14, ?s15, ?s16, ?s17, ?s18, ?s19, trivial⟩
                              case s0 =>
                                rintro l ⟨v117, v118, v119, v120, v121, v122, v123, v124, v125, v126, v127, v128, v129, v130, v131, v132, v133, v134, v135⟩ u hl haf S K hK
                                simp only [JL15] at S
                                refine ⟨?_⟩
                                simp only [putL15, sA, sZ, sS]
                                go_simp
                                have nx := hK.out ⟨(.slice (some ⟨go, 0, none⟩) Lw.length capo), v118, v119, v120, v121, v122, v123, v124, v125, v126, v127, v128, v129, v130, v131, v132, v133, v134, v135⟩ u (S.s0)
                                clear hK
                                simp only [putL15, sA, sZ, sS] at nx
                                exact nx
                              case s1 =>
                                rintro l ⟨v117, v118, v119, v120, v121, v122, v123, v124, v125, v126, v127, v128, v129, v130, v131, v132, v133, v134, v135⟩ u hl haf S K hK
                                simp only [JL15] at S
                                refine ⟨?_⟩
                                simp only [putL15, sA, sZ, sS]
                                go_simp
                                have nx := hK.out ⟨v117, (.pointer (some ⟨w.heap.size, 1, none⟩)), v119, v120, v121, v122, v123, v124, v125, v126, v127, v128, v129, v130, v131, v132, v133, v134, v135⟩ u (S.s1)
                                clear hK
                                simp only [putL15, sA, sZ, sS] at nx
                                exact nx
                              case s2 =>
                                rintro l ⟨v117, v118, v119, v120, v121, v122, v123, v124, v125, v126, v127, v128, v129, v130, v131, v132, v133, v134, v135⟩ u hl haf S K hK
                                simp only [JL15] at S
                                obtain rfl := S.p1 (haf 1 (by kernel_rfl))
                                have c0 := cell_below (S.base (S.no2 hl)) HLD.out.1
                                refine ⟨?_⟩
                                simp only [putL15, sA, sZ, sS]
                                go_simp
                                have nx := hK.out ⟨v117, _, (.slice (some ⟨b1, o1, none⟩) n c1), v120, v121, v122, v123, v124, v125, v126, v127, v128, v129, v130, v131, v132, v133, v134, v135⟩ u (S.s2)
                                clear hK
                                simp only [putL15, sA, sZ, sS] at nx
                                exact nx
                              case s3 =>
                                rintro l ⟨v117, v118, v119, v120, v121, v122, v123, v124, v125, v126, v127, v128, v129, v130, v131, v132, v133, v134, v135⟩ u hl haf S K hK
                                simp only [JL15] at S
                                refine ⟨?_⟩
                                simp only [putL15, sA, sZ, sS]
                                go_simp
                                have nx := hK.out ⟨v117, v118, v119, (.int .i64 (j : Nat)), v121, v122, v123, v124, v125, v126, v127, v128, v129, v130, v131, v132, v133, v134, v135⟩ u (S.s3)
                                clear hK
                                simp only [putL15, sA, sZ, sS] at nx
                                exact nx
                              case s4 =>
                                rintro l ⟨v117, v118, v119, v120, v121, v122, v123, v124, v125, v126, v127, v128, v129, v130, v131, v132, v133, v134, v135⟩ u hl haf S K hK
                                simp only [JL15] at S
                                obtain rfl := S.p2 (haf 2 (by kernel_rfl))
                                obtain rfl := S.p3 (haf 3 (by kernel_rfl))
                                refine ⟨?_⟩
                                simp only [putL15, sA, sZ, sS]
                                go_simp
                                have nx := hK.out ⟨v117, v118, _, _, (.pointer (some ⟨b1, o1 + j, none⟩)), v122, v123, v124, v125, v126, v127, v128, v129, v130, v131, v132, v133, v134, v135⟩ u (S.s4 (haf 2 (by kernel_rfl)))
                                clear hK
                                simp only [putL15, sA, sZ, sS] at nx
                                exact nx
                              case s5 =>
                                rintro l ⟨v117, v118, v119, v120, v121, v122, v123, v124, v125, v126, v127, v128, v129, v130, v131, v132, v133, v134, v135⟩ u hl haf S K hK
                                simp only [JL15] at S
                                obtain rfl := S.p4 (haf 4 (by kernel_rfl))
                                have c0 := cell_below (S.base (S.no5 hl)) HLD.out.2.1
                                refine ⟨?_⟩
                                simp only [putL15, sA, sZ, sS]
                                go_simp
                                have nx := hK.out ⟨v117, v118, v119, v120, _, (.int .i64 (y : Nat)), v123, v124, v125, v126, v127, v128, v129, v130, v131, v132, v133, v134, v135⟩ u (S.s5 (haf 4 (by kernel_rfl)))
                                clear hK
                                simp only [putL15, sA, sZ, sS] at nx
                                exact nx
                              case s6 =>
                                rintro l ⟨v117, v118, v119, v120, v121, v122, v123, v124, v125, v126, v127, v128, v129, v130, v131, v132, v133, v134, v135⟩ u hl haf S K hK
                                simp only [JL15] at S
                                refine ⟨?_⟩
                                simp only [putL15, sA, sZ, sS]
                                go_simp
                                have nx := hK.out ⟨v117, v118, v119, v120, v121, v122, (.slice (some ⟨go, 0, none⟩) Lw.length capo), v124, v125, v126, v127, v128, v129, v130, v131, v132, v133, v134, v135⟩ u (S.s6)
                                clear hK
                                simp only [putL15, sA, sZ, sS] at nx
                                exact nx
                              case s7 =>
                                rintro l ⟨v117, v118, v119, v120, v121, v122, v123, v124, v125, v126, v127, v128, v129, v130, v131, v132, v133, v134, v135⟩ u hl haf S K hK
                                simp only [JL15] at S
                                refine ⟨?_⟩
                                simp only [putL15, sA, sZ, sS]
                                go_simp
                                have nx := hK.out ⟨v117, v118, v119, v120, v121, v122, v123, (.pointer (some ⟨w.heap.size, 1, none⟩)), v125, v126, v127, v128, v129, v130, v131, v132, v133, v134, v135⟩ u (S.s7)
                                clear hK
                                simp only [putL15, sA, sZ, sS] at nx
                                exact nx
                              case s8 =>
                                rintro l ⟨v117, v118, v119, v120, v121, v122, v123, v124, v125, v126, v127, v128, v129, v130, v131, v132, v133, v134, v135⟩ u hl haf S K hK
                                simp only [JL15] at S
                                obtain rfl := S.p7 (haf 7 (by kernel_rfl))
                                have c0 := cell_below (S.base (S.no8 hl)) HLD.out.1
                                refine ⟨?_⟩
                                simp only [putL15, sA, sZ, sS]
                                go_simp
                                have nx := hK.out ⟨v117, v118, v119, v120, v121, v122, v123, _, (.slice (some ⟨b1, o1, none⟩) n c1), v126, v127, v128, v129, v130, v131, v132, v133, v134, v135⟩ u (S.s8)
                                clear hK
                                simp only [putL15, sA, sZ, sS] at nx
                                exact nx
                              case s9 =>
                                rintro l ⟨v117, v118, v119, v120, v121, v122, v123, v124, v125, v126, v127, v128, v129, v130, v131, v132, v133, v134, v135⟩ u hl haf S K hK
                                simp only [JL15] at S
                                refine ⟨?_⟩
                                simp only [putL15, sA, sZ, sS]
                                go_simp
                                have nx := hK.out ⟨v117, v118, v119, v120, v121, v122, v123, v124, v125, (.int .i64 (j : Nat)), v127, v128, v129, v130, v131, v132, v133, v134, v135⟩ u (S.s9)
                                clear hK
                                simp only [putL15, sA, sZ, sS] at nx
                                exact nx
                              case s10 =>
                                rintro l ⟨v117, v118, v119, v120, v121, v122, v123, v124, v125, v126, v127, v128, v129, v130, v131, v132, v133, v134, v135⟩ u hl haf S K hK
                                simp only [JL15] at S
                                obtain rfl := S.p8 (haf 8 (by kernel_rfl))
                                obtain rfl := S.p9 (haf 9 (by kernel_rfl))
                                refine ⟨?_⟩
                                simp only [putL15, sA, sZ, sS]
                                go_simp
                                have nx := hK.out ⟨v117, v118, v119, v120, v121, v122, v123, v124, _, _, (.pointer (some ⟨b1, o1 + j, none⟩)), v128, v129, v130, v131, v132, v133, v134, v135⟩ u (S.s10 (haf 8 (by kernel_rfl)))
                                clear hK
                                simp only [putL15, sA, sZ, sS] at nx
                                exact nx
                              case s11 =>
                                rintro l ⟨v117, v118, v119, v120, v121, v122, v123, v124, v125, v126, v127, v128, v129, v130, v131, v132, v133, v134, v135⟩ u hl haf S K hK
                                simp only [JL15] at S
                                obtain rfl := S.p10 (haf 10 (by kernel_rfl))
                                have c0 := cell_below (S.base (S.no11 hl)) HLD.out.2.1
                                refine ⟨?_⟩
                                simp only [putL15, sA, sZ, sS]
                                go_simp
                                have nx := hK.out ⟨v117, v118, v119, v120, v121, v122, v123, v124, v125, v126, _, (.int .i64 (y : Nat)), v129, v130, v131, v132, v133, v134, v135⟩ u (S.s11 (haf 10 (by kernel_rfl)))
                                clear hK
                                simp only [putL15, sA, sZ, sS] at nx
                                exact nx
                              case s12 =>
                                rintro l ⟨v117, v118, v119, v120, v121, v122, v123, v124, v125, v126, v127, v128, v129, v130, v131, v132, v133, v134, v135⟩ u hl haf S K hK
                                simp only [JL15] at S
                                obtain rfl := S.p6 (haf 6 (by kernel_rfl))
                                obtain rfl := S.p11 (haf 11 (by kernel_rfl))
                                refine ⟨?_⟩
                                simp only [putL15, sA, sZ, sS]
                                go_simp
                                have nx := hK.out ⟨v117, v118, v119, v120, v121, v122, _, v124, v125, v126, v127, _, (.pointer (some ⟨go, y, none⟩)), v130, v131, v132, v133, v134, v135⟩ u (S.s12 (haf 11 (by kernel_rfl)))
                                clear hK
                                simp only [putL15, sA, sZ, sS] at nx
                                exact nx
                              case s13 =>
                                rintro l ⟨v117, v118, v119, v120, v121, v122, v123, v124, v125, v126, v127, v128, v129, v130, v131, v132, v133, v134, v135⟩ u hl haf S K hK
                                simp only [JL15] at S
                                obtain rfl := S.p12 (haf 12 (by kernel_rfl))
                                have c0 := cell_below (S.base (S.no13 hl)) HFO.out.1
                                refine ⟨?_⟩
                                simp only [putL15, sA, sZ, sS]
                                go_simp
                                have nx := hK.out ⟨v117, v118, v119, v120, v121, v122, v123, v124, v125, v126, v127, v128, _, (.slice pq O.length cq), v131, v132, v133, v134, v135⟩ u (S.s13 (haf 12 (by kernel_rfl)))
                                clear hK
                                simp only [putL15, sA, sZ, sS] at nx
                                exact nx
                              case s14 =>
                                rintro l ⟨v117, v118, v119, v120, v121, v122, v123, v124, v125, v126, v127, v128, v129, v130, v131, v132, v133, v134, v135⟩ u hl haf S K hK
                                simp only [JL15] at S
                                refine ⟨?_⟩
                                simp only [putL15, sA, sZ, sS]
                                go_simp
                                have nx := hK.out ⟨v117, v118, v119, v120, v121, v122, v123, v124, v125, v126, v127, v128, v129, v130, (.slice (some ⟨gz, 0, none⟩) 1 cz), v132, v133, v134, v135⟩ u (S.s14)
                                clear hK
                                simp only [putL15, sA, sZ, sS] at nx
                                exact nx
                              case s15 =>
                                rintro l ⟨v117, v118, v119, v120, v121, v122, v123, v124, v125, v126, v127, v128, v129, v130, v131, v132, v133, v134, v135⟩ u hl haf S K hK
                                simp only [JL15] at S
                                obtain rfl := S.p14 (haf 14 (by kernel_rfl))
                                refine ⟨?_⟩
                                simp only [putL15, sA, sZ, sS]
                                go_simp
                                have nx := hK.out ⟨v117, v118, v119, v120, v121, v122, v123, v124, v125, v126, v127, v128, v129, v130, _, (.pointer (some ⟨gz, 0, none⟩)), v133, v134, v135⟩ u (S.s15)
                                clear hK
                                simp only [putL15, sA, sZ, sS] at nx
                                exact nx
                              case s16 =>
                                rintro l ⟨v117, v118, v119, v120, v121, v122, v123, v124, v125, v126, v127, v128, v129, v130, v131, v132, v133, v134, v135⟩ u hl haf S K hK
                                simp only [JL15] at S
                                obtain rfl := S.p15 (haf 15 (by kernel_rfl))
                                have c0 := cell_below (S.base (S.no16 hl)) HLD.out.2.2
                                refine ⟨?_⟩
                                simp only [putL15, sA, sZ, sS]
                                go_simp
                                have nx := hK.out ⟨v117, v118, v119, v120, v121, v122, v123, v124, v125, v126, v127, v128, v129, v130, v131, _, (.int .i64 x), v134, v135⟩ u (S.s16)
                                clear hK
                                simp only [putL15, sA, sZ, sS] at nx
                                exact nx
                              case s17 =>
                                rintro l ⟨v117, v118, v119, v120, v121, v122, v123, v124, v125, v126, v127, v128, v129, v130, v131, v132, v133, v134, v135⟩ u hl haf S K hK
                                simp only [JL15] at S
                                have h13 := haf 13 (by kernel_rfl)
                                have h16 := haf 16 (by kernel_rfl)
                                obtain rfl := S.p13 h13
                                obtain rfl := S.p16 h16
                                have n19 := S.no17 hl
                                refine ⟨?_⟩
                                simp only [putL15, sA, sZ, sS]
                                go_simp
                                refine (LSX.out _ (S.base n19)).mono ?_
                                rintro e u2 ⟨r, rfl, ho, hB⟩
                                have nx := hK.out ⟨v117, v118, v119, v120, v121, v122, v123, v124, v125, v126, v127, v128, v129, _, v131, v132, _, r, v135⟩ u2 (S.s17 hl h13 h16 hB ho)
                                clear hK
                                simp only [putL15, sA, sZ, sS] at nx
                                exact nx
                              case s18 =>
                                rintro l ⟨v117, v118, v119, v120, v121, v122, v123, v124, v125, v126, v127, v128, v129, v130, v131, v132, v133, v134, v135⟩ u hl haf S K hK
                                simp only [JL15] at S
                                obtain rfl := S.p0 (haf 0 (by kernel_rfl))
                                obtain rfl := S.p5 (haf 5 (by kernel_rfl))
                                refine ⟨?_⟩
                                simp only [putL15, sA, sZ, sS]
                                go_simp
                                have nx := hK.out ⟨_, v118, v119, v120, v121, _, v123, v124, v125, v126, v127, v128, v129, v130, v131, v132, v133, v134, (.pointer (some ⟨go, y, none⟩))⟩ u (S.s18 (haf 5 (by kernel_rfl)))
                                clear hK
                                simp only [putL15, sA, sZ, sS] at nx
                                exact nx
                              case s19 =>
                                rintro l ⟨v117, v118, v119, v120, v121, v122, v123, v124, v125, v126, v127, v128, v129, v130, v131, v132, v133, v134, v135⟩ u hl haf S K hK
                                simp only [JL15] at S
                                have h17 := haf 17 (by kernel_rfl)
                                have h18 := haf 18 (by kernel_rfl)
                                obtain ⟨q1, q2, q3, rfl, hq1, _⟩ := Dm.ints_shape ((S.f17 h17).2 hl)
                                clear hq1
                                obtain rfl := S.p18 h18
                                have c0 := cell_below (S.base hl) HFO.out.1
                                have f0 := Dm.frozen_below (S.base hl) HFO.out.1 HFO.out.2
                                refine ⟨?_⟩
                                simp only [putL15, sA, sZ, sS]
                                go_simp
                                have nx := hK.out ⟨v117, v118, v119, v120, v121, v122, v123, v124, v125, v126, v127, v128, v129, v130, v131, v132, v133, _, _⟩ _ (S.s19 hl h17 h18)
                                clear hK
                                simp only [putL15, sA, sZ, sS] at nx
                                exact nx
                            case hd =>
                              rintro ⟨v117, v118, v119, v120, v121, v122, v123, v124, v125, v126, v127, v128, v129, v130, v131, v132, v133, v134, v135⟩ u l hall S
                              simp only [JL15] at S
                              obtain ⟨_, u0, hB0, hO0, rfl⟩ := S.f19 (hall 19 (by decide))
                              have HX0 := Lib.hid (And.intro hB0 hO0)
                              clear S hall hB0 hO0
                              refine ⟨?_⟩
                              simp only [putL15, sA, sZ, sS]
                              go_wp2_with fail
                              go_roundw
                              case rel => exact ⟨k + 1, by omega, by go_num, by rw [HL1.out]; exact (HNX.out _ _ HX0.out.1 HX0.out.2).1, (HNX.out _ _ HX0.out.1 HX0.out.2).2⟩
                              case measure => simp [intOf]; omega
                          · have HL0 := Lib.hid (show lessTo Lw c.vars j (k + 1) = lessTo Lw c.vars j k by rw [HLS.out, if_neg (fun q => hone q.2)])
                            have done : ((lz.length : Int) == 1) = false := beq_eq_false_iff_ne.2 (by omega)
                            go_wp2_with fail
                            go_roundw
                            case rel => exact ⟨k + 1, by omega, by go_num, by rw [HL0.out]; exact XQ.out, HBX.out⟩
                            case measure => simp [intOf]; omega
                      · have d6 : ¬ ((k : Int) < (n : Int)) := by omega
                        have XN := Lib.hid (show ListsAt wx wb.heap.size (.slice po Lw.length capo) (setTo Lw c.vars (fun a => lessTo Lw c.vars a c.vars.length) (j + 1)) by
                          rw [HSC.out, ← HLG.out, show n = k by omega]
                          exact XQ.out)
                        go_wp2_with fail
                        go_roundw
                        case rel => exact ⟨j + 1, by omega, by go_num, XN.out, HBX.out⟩
                        case measure => simp [intOf]; omega
                  · have d5 : ¬ ((j : Int) < (n : Int)) := by omega
                    have HSN := Lib.hid (show setTo Lw c.vars (fun a => lessTo Lw c.vars a c.vars.length) j = setTo Lw c.vars (diffRow Lw c) c.vars.length by rw [diff_on HON.out, show j = c.vars.length by have := HLG.out; omega])
                    have KY := Lib.hid (KX.out _ (below_two HBR.out HB.out) _ _ _ X.out (by rw [HSN.out, setTo_length]; exact HLL.out.symm) (by rw [HSN.out, diff_on HON.out]; exact setTo_short (fun l hl => (HSM.out l hl).1) (fun a => lessTo_short (fun l hl => (HSM.out l hl).1) _) _))
                    go_wp2_with fail
                    refine KY.out.mono ?_
                    rintro e w20 ⟨x20, rfl, hx20, hB20⟩
                    have X20 := Lib.hid hx20
                    have HB20 := Lib.hid (below_two (below_two HBR.out HB.out) hB20)
                    clear hx20 hB20
                    go_wp2_with fail
                    go_ret2
                    exact ⟨x20, by rw [HSL.out]; rfl, by rw [HSL.out]; show DomsAt _ _ _ (keepTo L (setTo Lw c.vars (diffRow Lw c) c.vars.length) L.length); rw [← HSN.out]; exact X20.out.low (below_two HBR.out HB.out).size, HB20.out⟩
          · have HOFF := Lib.hid (show wipeTo M c.vars c.vars.length = true ∨ (unionTo M c.vars c.vars.length).length < c.vars.length from .inl HWI.out.1.symm)
            have NX1 := Lib.hid (NX.out _ (below_two HB4.out HB.out) _ Lw (by rw [HWL.out]; exact hmn) ((X4.out.below HB.out).low (Nat.zero_le _)) (by rw [HWL.out]; exact HVM.out))
            go_wp2_with fail
            refine NX1.out.mono ?_
            rintro e w8 ⟨x8, rfl, hx8, hB8⟩
            have HB8 := Lib.hid (below_two (below_two HB4.out HB.out) hB8)
            have KY := Lib.hid (KX.out _ HB8.out _ _ _ hx8 (by rw [HNW.out]; unfold noneL; rw [setTo_length]; exact HLL.out.symm) (by rw [HNW.out]; exact none_short _ _ fun l hl => (HSM.out l hl).1))
            clear hx8 hB8
            go_wp2_with fail
            refine KY.out.mono ?_
            rintro e w20 ⟨x20, rfl, hx20, hB20⟩
            have X20 := Lib.hid hx20
            have HB20 := Lib.hid (below_two HB8.out hB20)
            clear hx20 hB20
            go_wp2_with fail
            go_ret2
            exact ⟨x20, by rw [HSL.out]; rfl, by rw [HSL.out]; show DomsAt _ _ _ (keepTo L (setTo M c.vars (diffRow M c) c.vars.length) L.length); rw [diff_off HOFF.out, ← HNW.out]; exact X20.out.low HB8.out.size, HB20.out⟩
end Go.Proofs.YtiaibggbbkhjlaaDoor.Ge.Di
