/-
  An append of one number to a row's copy, stored in the row's place, in whichever order: the relation of what has come up.
  What Step of the document's answers for products answers.
-/
import Derived.Test.YtccgoigmchcggaaDoorZYCA
import Derived.Test.YtccgoigmchcggaaDoorZYBI
import Derived.Test.YtccgoigmchcggaaDoorZYAZ
import Derived.Test.YtccgoigmchcggaaDoorZDRkeep
import Derived.Test.YtccgoigmchcggaaDoorZYCF
import Derived.Test.YtccgoigmchcggaaDoorZYBB
import Derived.Test.YtccgoigmchcggaaDoorZYAX
import Derived.Test.YtccgoigmchcggaaDoorZYAU
namespace Go.Proofs.YtccgoigmchcggaaDoor.Ge
open Go.RowKit St
set_option maxRecDepth 100000

theorem own_one {base : Nat} (w : World) (z : Int) (hb : base ≤ w.heap.size) : Dm.OwnsI (w.alloc (.cells #[.int .i64 z] 3)) base (.slice (some ⟨w.heap.size, 0, none⟩) 1 1) [z] :=
  World.ownsRow_lit w #[.int .i64 z] 1 hb (by decide) rfl
theorem own_none (w : World) (base : Nat) (hb : base ≤ w.heap.size) : Dm.OwnsI (w.alloc (.cells #[] 3)) base (.slice (some ⟨w.heap.size, 0, none⟩) 0 0) [] := made_ints w base hb
theorem own_apart {w w' : World} {base a b l c l2 c2 : Nat} {T : List Int} (h : Dm.OwnsI w base (.slice (some ⟨a, 0, none⟩) l c) T) (hg : w.grownBy w' (Value.slice (some ⟨b, 0, none⟩) l2 c2).ownBlock) (hne : a ≠ b) : Dm.OwnsI w' base (.slice (some ⟨a, 0, none⟩) l c) T :=
  ints_same h fun k hk => hg.block k (ints_kind h hk).2.1 fun e => hne (by
    have e1 : a = k := Option.some.inj hk
    have e2 : b = k := Option.some.inj e.symm
    omega)
structure A13 (W : World) (go y g0 gu k n lm capm capo cu cq lO : Nat) (pq : Option Addr) (x : Int) (O : List Int) (b2 b15 : Nat) (v50 v51 v52 v53 v54 v55 v56 v57 v58 v59 v60 v61 v62 v63 v64 v65 v66 v67 : Value) (l : Nat → Bool) (u : World) : Prop where
  base : l 18 = false → Below W.heap.size W u
  p0 : l 0 = true → v50 = (.slice (some ⟨go, 0, none⟩) lm capo)
  p1 : l 1 = true → v51 = (.int .i64 (y : Nat))
  p3 : l 3 = true → v53 = (.slice (some ⟨go, 0, none⟩) lm capo)
  p4 : l 4 = true → v54 = (.int .i64 (y : Nat))
  p5 : l 5 = true → v55 = (.pointer (some ⟨go, y, none⟩))
  p6 : l 6 = true → v56 = (.slice pq lO cq)
  p8 : l 8 = true → v58 = (.slice (some ⟨g0, 0, none⟩) lm capm)
  p9 : l 9 = true → v59 = (.int .i64 (y : Nat))
  p10 : l 10 = true → v60 = (.pointer (some ⟨g0, y, none⟩))
  p11 : l 11 = true → v61 = (.slice (some ⟨gu, 0, none⟩) n cu)
  p12 : l 12 = true → v62 = (.int .i64 (k : Nat))
  p13 : l 13 = true → v63 = (.pointer (some ⟨gu, k, none⟩))
  p14 : l 14 = true → v64 = (.int .i64 x)
  p17 : l 17 = true → v67 = (.pointer (some ⟨go, y, none⟩))
  c13 : l 13 = true → l 11 = true
  c14 : l 14 = true → l 13 = true
  f2 : l 2 = true → v52 = .slice (some ⟨b2, 0, none⟩) 0 0 ∧ W.heap.size ≤ b2 ∧ b2 < u.heap.size ∧ (l 7 = false → Dm.OwnsI u W.heap.size v52 [])
  f7 : l 7 = true → (l 2 = true ∧ l 6 = true) ∧ (l 16 = false → Dm.OwnsI u W.heap.size v57 O)
  f15 : l 15 = true → l 14 = true ∧ v65 = .slice (some ⟨b15, 0, none⟩) 1 1 ∧ b15 < u.heap.size ∧ (l 16 = false → Dm.OwnsI u W.heap.size v65 [x])
  ne : l 2 = true → l 15 = true → b2 ≠ b15
  f16 : l 16 = true → (l 7 = true ∧ l 15 = true) ∧ (l 18 = false → Dm.OwnsI u W.heap.size v66 (O ++ [x]))
  f18 : l 18 = true → l 16 = true ∧ ∃ u0, Below W.heap.size W u0 ∧ Dm.OwnsI u0 W.heap.size v66 (O ++ [x]) ∧ u = u0.setCell ⟨go, y, none⟩ v66
structure GA13 where
  (b2 b15 : Nat)
  (v50 v51 v52 v53 v54 v55 v56 v57 v58 v59 v60 v61 v62 v63 v64 v65 v66 v67 : Value)
def putA13 (g : GA13) (tm : Array Value) : Array Value := ((((((((((((((((((((((((((((((((((((tm).setIfInBounds 50 g.v50)).setIfInBounds 51 g.v51)).setIfInBounds 52 g.v52)).setIfInBounds 53 g.v53)).setIfInBounds 54 g.v54)).setIfInBounds 55 g.v55)).setIfInBounds 56 g.v56)).setIfInBounds 57 g.v57)).setIfInBounds 58 g.v58)).setIfInBounds 59 g.v59)).setIfInBounds 60 g.v60)).setIfInBounds 61 g.v61)).setIfInBounds 62 g.v62)).setIfInBounds 63 g.v63)).setIfInBounds 64 g.v64)).setIfInBounds 65 g.v65)).setIfInBounds 66 g.v66)).setIfInBounds 67 g.v67)
def JA13 (W : World) (go y g0 gu k n lm capm capo cu cq lO : Nat) (pq : Option Addr) (x : Int) (O : List Int) (g : GA13) (l : Nat → Bool) (u : World) : Prop := A13 W go y g0 gu k n lm capm capo cu cq lO pq x O g.b2 g.b15 g.v50 g.v51 g.v52 g.v53 g.v54 g.v55 g.v56 g.v57 g.v58 g.v59 g.v60 g.v61 g.v62 g.v63 g.v64 g.v65 g.v66 g.v67 l u
section
variable {W : World} {go y g0 gu k n lm capm capo cu cq lO : Nat} {pq : Option Addr} {x : Int} {O : List Int} {b2 b15 : Nat} {v50 v51 v52 v53 v54 v55 v56 v57 v58 v59 v60 v61 v62 v63 v64 v65 v66 v67 : Value} {l : Nat → Bool} {u u2 : World}
theorem A13.no16 (S : A13 W go y g0 gu k n lm capm capo cu cq lO pq x O b2 b15 v50 v51 v52 v53 v54 v55 v56 v57 v58 v59 v60 v61 v62 v63 v64 v65 v66 v67 l u) (h : l 16 = false) : l 18 = false := by
  cases q : l 18
  · rfl
  · exact absurd (S.f18 q).1 (by rw [h]; decide)
theorem A13.no7 (S : A13 W go y g0 gu k n lm capm capo cu cq lO pq x O b2 b15 v50 v51 v52 v53 v54 v55 v56 v57 v58 v59 v60 v61 v62 v63 v64 v65 v66 v67 l u) (h : l 7 = false) : l 16 = false := by
  cases q : l 16
  · rfl
  · exact absurd (S.f16 q).1.1 (by rw [h]; decide)
theorem A13.no15 (S : A13 W go y g0 gu k n lm capm capo cu cq lO pq x O b2 b15 v50 v51 v52 v53 v54 v55 v56 v57 v58 v59 v60 v61 v62 v63 v64 v65 v66 v67 l u) (h : l 15 = false) : l 16 = false := by
  cases q : l 16
  · rfl
  · exact absurd (S.f16 q).1.2 (by rw [h]; decide)
theorem A13.no2 (S : A13 W go y g0 gu k n lm capm capo cu cq lO pq x O b2 b15 v50 v51 v52 v53 v54 v55 v56 v57 v58 v59 v60 v61 v62 v63 v64 v65 v66 v67 l u) (h : l 2 = false) : l 7 = false := by
  cases q : l 7
  · rfl
  · exact absurd (S.f7 q).1.1 (by rw [h]; decide)
theorem A13.no6 (S : A13 W go y g0 gu k n lm capm capo cu cq lO pq x O b2 b15 v50 v51 v52 v53 v54 v55 v56 v57 v58 v59 v60 v61 v62 v63 v64 v65 v66 v67 l u) (h : l 6 = false) : l 18 = false := S.no16 (S.no7 (by
  cases q : l 7
  · rfl
  · exact absurd (S.f7 q).1.2 (by rw [h]; decide)))
theorem A13.no14 (S : A13 W go y g0 gu k n lm capm capo cu cq lO pq x O b2 b15 v50 v51 v52 v53 v54 v55 v56 v57 v58 v59 v60 v61 v62 v63 v64 v65 v66 v67 l u) (h : l 14 = false) : l 18 = false := S.no16 (S.no15 (by
  cases q : l 15
  · rfl
  · exact absurd (S.f15 q).1 (by rw [h]; decide)))
theorem A13.no11 (S : A13 W go y g0 gu k n lm capm capo cu cq lO pq x O b2 b15 v50 v51 v52 v53 v54 v55 v56 v57 v58 v59 v60 v61 v62 v63 v64 v65 v66 v67 l u) (h : l 11 = false) : l 18 = false := S.no14 (by
  cases q : l 14
  · rfl
  · exact absurd (S.c13 (S.c14 q)) (by rw [h]; decide))
theorem A13.s0 (S : A13 W go y g0 gu k n lm capm capo cu cq lO pq x O b2 b15 v50 v51 v52 v53 v54 v55 v56 v57 v58 v59 v60 v61 v62 v63 v64 v65 v66 v67 l u) : A13 W go y g0 gu k n lm capm capo cu cq lO pq x O b2 b15 (.slice (some ⟨go, 0, none⟩) lm capo) v51 v52 v53 v54 v55 v56 v57 v58 v59 v60 v61 v62 v63 v64 v65 v66 v67 (upd l 0) u := by
  exact {
    base := S.base
    p0 := fun _ => rfl
    p1 := S.p1
    p3 := S.p3
    p4 := S.p4
    p5 := S.p5
    p6 := S.p6
    p8 := S.p8
    p9 := S.p9
    p10 := S.p10
    p11 := S.p11
    p12 := S.p12
    p13 := S.p13
    p14 := S.p14
    p17 := S.p17
    c13 := S.c13
    c14 := S.c14
    f2 := S.f2
    f7 := S.f7
    f15 := S.f15
    ne := S.ne
    f16 := S.f16
    f18 := S.f18 }
theorem A13.s1 (S : A13 W go y g0 gu k n lm capm capo cu cq lO pq x O b2 b15 v50 v51 v52 v53 v54 v55 v56 v57 v58 v59 v60 v61 v62 v63 v64 v65 v66 v67 l u) : A13 W go y g0 gu k n lm capm capo cu cq lO pq x O b2 b15 v50 (.int .i64 (y : Nat)) v52 v53 v54 v55 v56 v57 v58 v59 v60 v61 v62 v63 v64 v65 v66 v67 (upd l 1) u := by
  exact {
    base := S.base
    p0 := S.p0
    p1 := fun _ => rfl
    p3 := S.p3
    p4 := S.p4
    p5 := S.p5
    p6 := S.p6
    p8 := S.p8
    p9 := S.p9
    p10 := S.p10
    p11 := S.p11
    p12 := S.p12
    p13 := S.p13
    p14 := S.p14
    p17 := S.p17
    c13 := S.c13
    c14 := S.c14
    f2 := S.f2
    f7 := S.f7
    f15 := S.f15
    ne := S.ne
    f16 := S.f16
    f18 := S.f18 }
theorem A13.s3 (S : A13 W go y g0 gu k n lm capm capo cu cq lO pq x O b2 b15 v50 v51 v52 v53 v54 v55 v56 v57 v58 v59 v60 v61 v62 v63 v64 v65 v66 v67 l u) : A13 W go y g0 gu k n lm capm capo cu cq lO pq x O b2 b15 v50 v51 v52 (.slice (some ⟨go, 0, none⟩) lm capo) v54 v55 v56 v57 v58 v59 v60 v61 v62 v63 v64 v65 v66 v67 (upd l 3) u := by
  exact {
    base := S.base
    p0 := S.p0
    p1 := S.p1
    p3 := fun _ => rfl
    p4 := S.p4
    p5 := S.p5
    p6 := S.p6
    p8 := S.p8
    p9 := S.p9
    p10 := S.p10
    p11 := S.p11
    p12 := S.p12
    p13 := S.p13
    p14 := S.p14
    p17 := S.p17
    c13 := S.c13
    c14 := S.c14
    f2 := S.f2
    f7 := S.f7
    f15 := S.f15
    ne := S.ne
    f16 := S.f16
    f18 := S.f18 }
theorem A13.s4 (S : A13 W go y g0 gu k n lm capm capo cu cq lO pq x O b2 b15 v50 v51 v52 v53 v54 v55 v56 v57 v58 v59 v60 v61 v62 v63 v64 v65 v66 v67 l u) : A13 W go y g0 gu k n lm capm capo cu cq lO pq x O b2 b15 v50 v51 v52 v53 (.int .i64 (y : Nat)) v55 v56 v57 v58 v59 v60 v61 v62 v63 v64 v65 v66 v67 (upd l 4) u := by
  exact {
    base := S.base
    p0 := S.p0
    p1 := S.p1
    p3 := S.p3
    p4 := fun _ => rfl
    p5 := S.p5
    p6 := S.p6
    p8 := S.p8
    p9 := S.p9
    p10 := S.p10
    p11 := S.p11
    p12 := S.p12
    p13 := S.p13
    p14 := S.p14
    p17 := S.p17
    c13 := S.c13
    c14 := S.c14
    f2 := S.f2
    f7 := S.f7
    f15 := S.f15
    ne := S.ne
    f16 := S.f16
    f18 := S.f18 }
theorem A13.s5 (S : A13 W go y g0 gu k n lm capm capo cu cq lO pq x O b2 b15 v50 v51 v52 v53 v54 v55 v56 v57 v58 v59 v60 v61 v62 v63 v64 v65 v66 v67 l u) : A13 W go y g0 gu k n lm capm capo cu cq lO pq x O b2 b15 v50 v51 v52 v53 v54 (.pointer (some ⟨go, y, none⟩)) v56 v57 v58 v59 v60 v61 v62 v63 v64 v65 v66 v67 (upd l 5) u := by
  exact {
    base := S.base
    p0 := S.p0
    p1 := S.p1
    p3 := S.p3
    p4 := S.p4
    p5 := fun _ => rfl
    p6 := S.p6
    p8 := S.p8
    p9 := S.p9
    p10 := S.p10
    p11 := S.p11
    p12 := S.p12
    p13 := S.p13
    p14 := S.p14
    p17 := S.p17
    c13 := S.c13
    c14 := S.c14
    f2 := S.f2
    f7 := S.f7
    f15 := S.f15
    ne := S.ne
    f16 := S.f16
    f18 := S.f18 }
theorem A13.s6 (S : A13 W go y g0 gu k n lm capm capo cu cq lO pq x O b2 b15 v50 v51 v52 v53 v54 v55 v56 v57 v58 v59 v60 v61 v62 v63 v64 v65 v66 v67 l u) : A13 W go y g0 gu k n lm capm capo cu cq lO pq x O b2 b15 v50 v51 v52 v53 v54 v55 (.slice pq lO cq) v57 v58 v59 v60 v61 v62 v63 v64 v65 v66 v67 (upd l 6) u := by
  exact {
    base := S.base
    p0 := S.p0
    p1 := S.p1
    p3 := S.p3
    p4 := S.p4
    p5 := S.p5
    p6 := fun _ => rfl
    p8 := S.p8
    p9 := S.p9
    p10 := S.p10
    p11 := S.p11
    p12 := S.p12
    p13 := S.p13
    p14 := S.p14
    p17 := S.p17
    c13 := S.c13
    c14 := S.c14
    f2 := S.f2
    f7 := fun q => ⟨⟨(S.f7 q).1.1, rfl⟩, (S.f7 q).2⟩
    f15 := S.f15
    ne := S.ne
    f16 := S.f16
    f18 := S.f18 }
theorem A13.s8 (S : A13 W go y g0 gu k n lm capm capo cu cq lO pq x O b2 b15 v50 v51 v52 v53 v54 v55 v56 v57 v58 v59 v60 v61 v62 v63 v64 v65 v66 v67 l u) : A13 W go y g0 gu k n lm capm capo cu cq lO pq x O b2 b15 v50 v51 v52 v53 v54 v55 v56 v57 (.slice (some ⟨g0, 0, none⟩) lm capm) v59 v60 v61 v62 v63 v64 v65 v66 v67 (upd l 8) u := by
  exact {
    base := S.base
    p0 := S.p0
    p1 := S.p1
    p3 := S.p3
    p4 := S.p4
    p5 := S.p5
    p6 := S.p6
    p8 := fun _ => rfl
    p9 := S.p9
    p10 := S.p10
    p11 := S.p11
    p12 := S.p12
    p13 := S.p13
    p14 := S.p14
    p17 := S.p17
    c13 := S.c13
    c14 := S.c14
    f2 := S.f2
    f7 := S.f7
    f15 := S.f15
    ne := S.ne
    f16 := S.f16
    f18 := S.f18 }
theorem A13.s9 (S : A13 W go y g0 gu k n lm capm capo cu cq lO pq x O b2 b15 v50 v51 v52 v53 v54 v55 v56 v57 v58 v59 v60 v61 v62 v63 v64 v65 v66 v67 l u) : A13 W go y g0 gu k n lm capm capo cu cq lO pq x O b2 b15 v50 v51 v52 v53 v54 v55 v56 v57 v58 (.int .i64 (y : Nat)) v60 v61 v62 v63 v64 v65 v66 v67 (upd l 9) u := by
  exact {
    base := S.base
    p0 := S.p0
    p1 := S.p1
    p3 := S.p3
    p4 := S.p4
    p5 := S.p5
    p6 := S.p6
    p8 := S.p8
    p9 := fun _ => rfl
    p10 := S.p10
    p11 := S.p11
    p12 := S.p12
    p13 := S.p13
    p14 := S.p14
    p17 := S.p17
    c13 := S.c13
    c14 := S.c14
    f2 := S.f2
    f7 := S.f7
    f15 := S.f15
    ne := S.ne
    f16 := S.f16
    f18 := S.f18 }
theorem A13.s10 (S : A13 W go y g0 gu k n lm capm capo cu cq lO pq x O b2 b15 v50 v51 v52 v53 v54 v55 v56 v57 v58 v59 v60 v61 v62 v63 v64 v65 v66 v67 l u) : A13 W go y g0 gu k n lm capm capo cu cq lO pq x O b2 b15 v50 v51 v52 v53 v54 v55 v56 v57 v58 v59 (.pointer (some ⟨g0, y, none⟩)) v61 v62 v63 v64 v65 v66 v67 (upd l 10) u := by
  exact {
    base := S.base
    p0 := S.p0
    p1 := S.p1
    p3 := S.p3
    p4 := S.p4
    p5 := S.p5
    p6 := S.p6
    p8 := S.p8
    p9 := S.p9
    p10 := fun _ => rfl
    p11 := S.p11
    p12 := S.p12
    p13 := S.p13
    p14 := S.p14
    p17 := S.p17
    c13 := S.c13
    c14 := S.c14
    f2 := S.f2
    f7 := S.f7
    f15 := S.f15
    ne := S.ne
    f16 := S.f16
    f18 := S.f18 }
theorem A13.s11 (S : A13 W go y g0 gu k n lm capm capo cu cq lO pq x O b2 b15 v50 v51 v52 v53 v54 v55 v56 v57 v58 v59 v60 v61 v62 v63 v64 v65 v66 v67 l u) : A13 W go y g0 gu k n lm capm capo cu cq lO pq x O b2 b15 v50 v51 v52 v53 v54 v55 v56 v57 v58 v59 v60 (.slice (some ⟨gu, 0, none⟩) n cu) v62 v63 v64 v65 v66 v67 (upd l 11) u := by
  exact {
    base := S.base
    p0 := S.p0
    p1 := S.p1
    p3 := S.p3
    p4 := S.p4
    p5 := S.p5
    p6 := S.p6
    p8 := S.p8
    p9 := S.p9
    p10 := S.p10
    p11 := fun _ => rfl
    p12 := S.p12
    p13 := S.p13
    p14 := S.p14
    p17 := S.p17
    c13 := fun _ => rfl
    c14 := S.c14
    f2 := S.f2
    f7 := S.f7
    f15 := S.f15
    ne := S.ne
    f16 := S.f16
    f18 := S.f18 }
theorem A13.s12 (S : A13 W go y g0 gu k n lm capm capo cu cq lO pq x O b2 b15 v50 v51 v52 v53 v54 v55 v56 v57 v58 v59 v60 v61 v62 v63 v64 v65 v66 v67 l u) : A13 W go y g0 gu k n lm capm capo cu cq lO pq x O b2 b15 v50 v51 v52 v53 v54 v55 v56 v57 v58 v59 v60 v61 (.int .i64 (k : Nat)) v63 v64 v65 v66 v67 (upd l 12) u := by
  exact {
    base := S.base
    p0 := S.p0
    p1 := S.p1
    p3 := S.p3
    p4 := S.p4
    p5 := S.p5
    p6 := S.p6
    p8 := S.p8
    p9 := S.p9
    p10 := S.p10
    p11 := S.p11
    p12 := fun _ => rfl
    p13 := S.p13
    p14 := S.p14
    p17 := S.p17
    c13 := S.c13
    c14 := S.c14
    f2 := S.f2
    f7 := S.f7
    f15 := S.f15
    ne := S.ne
    f16 := S.f16
    f18 := S.f18 }
theorem A13.s13 (S : A13 W go y g0 gu k n lm capm capo cu cq lO pq x O b2 b15 v50 v51 v52 v53 v54 v55 v56 v57 v58 v59 v60 v61 v62 v63 v64 v65 v66 v67 l u) (h11 : l 11 = true) : A13 W go y g0 gu k n lm capm capo cu cq lO pq x O b2 b15 v50 v51 v52 v53 v54 v55 v56 v57 v58 v59 v60 v61 v62 (.pointer (some ⟨gu, k, none⟩)) v64 v65 v66 v67 (upd l 13) u := by
  exact {
    base := S.base
    p0 := S.p0
    p1 := S.p1
    p3 := S.p3
    p4 := S.p4
    p5 := S.p5
    p6 := S.p6
    p8 := S.p8
    p9 := S.p9
    p10 := S.p10
    p11 := S.p11
    p12 := S.p12
    p13 := fun _ => rfl
    p14 := S.p14
    p17 := S.p17
    c13 := fun _ => h11
    c14 := fun _ => rfl
    f2 := S.f2
    f7 := S.f7
    f15 := S.f15
    ne := S.ne
    f16 := S.f16
    f18 := S.f18 }
theorem A13.s14 (S : A13 W go y g0 gu k n lm capm capo cu cq lO pq x O b2 b15 v50 v51 v52 v53 v54 v55 v56 v57 v58 v59 v60 v61 v62 v63 v64 v65 v66 v67 l u) (h13 : l 13 = true) : A13 W go y g0 gu k n lm capm capo cu cq lO pq x O b2 b15 v50 v51 v52 v53 v54 v55 v56 v57 v58 v59 v60 v61 v62 v63 (.int .i64 x) v65 v66 v67 (upd l 14) u := by
  exact {
    base := S.base
    p0 := S.p0
    p1 := S.p1
    p3 := S.p3
    p4 := S.p4
    p5 := S.p5
    p6 := S.p6
    p8 := S.p8
    p9 := S.p9
    p10 := S.p10
    p11 := S.p11
    p12 := S.p12
    p13 := S.p13
    p14 := fun _ => rfl
    p17 := S.p17
    c13 := S.c13
    c14 := fun _ => h13
    f2 := S.f2
    f7 := S.f7
    f15 := fun q => ⟨rfl, (S.f15 q).2⟩
    ne := S.ne
    f16 := S.f16
    f18 := S.f18 }
theorem A13.s17 (S : A13 W go y g0 gu k n lm capm capo cu cq lO pq x O b2 b15 v50 v51 v52 v53 v54 v55 v56 v57 v58 v59 v60 v61 v62 v63 v64 v65 v66 v67 l u) : A13 W go y g0 gu k n lm capm capo cu cq lO pq x O b2 b15 v50 v51 v52 v53 v54 v55 v56 v57 v58 v59 v60 v61 v62 v63 v64 v65 v66 (.pointer (some ⟨go, y, none⟩)) (upd l 17) u := by
  exact {
    base := S.base
    p0 := S.p0
    p1 := S.p1
    p3 := S.p3
    p4 := S.p4
    p5 := S.p5
    p6 := S.p6
    p8 := S.p8
    p9 := S.p9
    p10 := S.p10
    p11 := S.p11
    p12 := S.p12
    p13 := S.p13
    p14 := S.p14
    p17 := fun _ => rfl
    c13 := S.c13
    c14 := S.c14
    f2 := S.f2
    f7 := S.f7
    f15 := S.f15
    ne := S.ne
    f16 := S.f16
    f18 := S.f18 }
theorem A13.s2 (S : A13 W go y g0 gu k n lm capm capo cu cq lO pq x O b2 b15 v50 v51 v52 v53 v54 v55 v56 v57 v58 v59 v60 v61 v62 v63 v64 v65 v66 v67 l u) (h : l 2 = false) : A13 W go y g0 gu k n lm capm capo cu cq lO pq x O u.heap.size b15 v50 v51 (.slice (some ⟨u.heap.size, 0, none⟩) 0 0) v53 v54 v55 v56 v57 v58 v59 v60 v61 v62 v63 v64 v65 v66 v67 (upd l 2) (u.alloc (.cells #[] 3)) := by
  have n7 := S.no2 h
  have n16 := S.no7 n7
  have n18 := S.no16 n16
  have hB := new_below u (.cells #[] 3)
  have hW := (S.base n18).size
  exact {
    base := fun q => (S.base q).trans (hB.mono (S.base q).size)
    p0 := S.p0
    p1 := S.p1
    p3 := S.p3
    p4 := S.p4
    p5 := S.p5
    p6 := S.p6
    p8 := S.p8
    p9 := S.p9
    p10 := S.p10
    p11 := S.p11
    p12 := S.p12
    p13 := S.p13
    p14 := S.p14
    p17 := S.p17
    c13 := S.c13
    c14 := S.c14
    f2 := fun _ => ⟨rfl, hW, by rw [World.size_alloc]; exact Nat.lt_succ_self _, fun _ => own_none u _ hW⟩
    f7 := fun q => absurd (show l 7 = true from q) (by rw [n7]; decide)
    f15 := fun q => ⟨(S.f15 q).1, (S.f15 q).2.1, Nat.lt_of_lt_of_le (S.f15 q).2.2.1 hB.size, fun z => owns_below ((S.f15 q).2.2.2 z) hB⟩
    ne := fun _ q => Nat.ne_of_gt (S.f15 q).2.2.1
    f16 := fun q => absurd (show l 16 = true from q) (by rw [n16]; decide)
    f18 := fun q => absurd (show l 18 = true from q) (by rw [n18]; decide) }
theorem A13.s7 (S : A13 W go y g0 gu k n lm capm capo cu cq lO pq x O b2 b15 v50 v51 v52 v53 v54 v55 v56 v57 v58 v59 v60 v61 v62 v63 v64 v65 v66 v67 l u) (h : l 7 = false) (h2 : l 2 = true) (h6 : l 6 = true) {vn : Value} (hg : u.grownBy u2 v52.ownBlock) (ho : Dm.OwnsI u2 W.heap.size vn O) : A13 W go y g0 gu k n lm capm capo cu cq lO pq x O b2 b15 v50 v51 v52 v53 v54 v55 v56 vn v58 v59 v60 v61 v62 v63 v64 v65 v66 v67 (upd l 7) u2 := by
  have n16 := S.no7 h
  have n18 := S.no16 n16
  obtain ⟨e2, hw2, hl2, _⟩ := S.f2 h2
  have hW := (S.base n18).size
  have hs := hg.size
  exact {
    base := fun q => (S.base q).trans ((Below.refl _ _).grown hg hW (fun j e => by rw [e2] at e; obtain rfl : b2 = j := Option.some.inj e; exact hw2))
    p0 := S.p0
    p1 := S.p1
    p3 := S.p3
    p4 := S.p4
    p5 := S.p5
    p6 := S.p6
    p8 := S.p8
    p9 := S.p9
    p10 := S.p10
    p11 := S.p11
    p12 := S.p12
    p13 := S.p13
    p14 := S.p14
    p17 := S.p17
    c13 := S.c13
    c14 := S.c14
    f2 := fun _ => ⟨e2, hw2, Nat.lt_of_lt_of_le hl2 hs, fun q => absurd (show true = false from q) (by decide)⟩
    f7 := fun _ => ⟨⟨h2, h6⟩, fun _ => ho⟩
    f15 := fun q => ⟨(S.f15 q).1, (S.f15 q).2.1, Nat.lt_of_lt_of_le (S.f15 q).2.2.1 hs, fun z => by
      have o := (S.f15 q).2.2.2 z
      rw [e2] at hg
      rw [(S.f15 q).2.1] at o ⊢
      exact own_apart o hg (Ne.symm (S.ne h2 q))⟩
    ne := S.ne
    f16 := fun q => absurd (show l 16 = true from q) (by rw [n16]; decide)
    f18 := fun q => absurd (show l 18 = true from q) (by rw [n18]; decide) }
theorem A13.s15 (S : A13 W go y g0 gu k n lm capm capo cu cq lO pq x O b2 b15 v50 v51 v52 v53 v54 v55 v56 v57 v58 v59 v60 v61 v62 v63 v64 v65 v66 v67 l u) (h : l 15 = false) (h14 : l 14 = true) : A13 W go y g0 gu k n lm capm capo cu cq lO pq x O b2 u.heap.size v50 v51 v52 v53 v54 v55 v56 v57 v58 v59 v60 v61 v62 v63 v64 (.slice (some ⟨u.heap.size, 0, none⟩) 1 1) v66 v67 (upd l 15) (u.alloc (.cells #[.int .i64 x] 3)) := by
  have n16 := S.no15 h
  have n18 := S.no16 n16
  have hB := new_below u (.cells #[.int .i64 x] 3)
  have hW := (S.base n18).size
  exact {
    base := fun q => (S.base q).trans (hB.mono (S.base q).size)
    p0 := S.p0
    p1 := S.p1
    p3 := S.p3
    p4 := S.p4
    p5 := S.p5
    p6 := S.p6
    p8 := S.p8
    p9 := S.p9
    p10 := S.p10
    p11 := S.p11
    p12 := S.p12
    p13 := S.p13
    p14 := S.p14
    p17 := S.p17
    c13 := S.c13
    c14 := S.c14
    f2 := fun q => ⟨(S.f2 q).1, (S.f2 q).2.1, Nat.lt_of_lt_of_le (S.f2 q).2.2.1 hB.size, fun z => owns_below ((S.f2 q).2.2.2 z) hB⟩
    f7 := fun q => ⟨(S.f7 q).1, fun z => owns_below ((S.f7 q).2 z) hB⟩
    f15 := fun _ => ⟨h14, rfl, by rw [World.size_alloc]; exact Nat.lt_succ_self _, fun _ => own_one u _ hW⟩
    ne := fun q _ => Nat.ne_of_lt (S.f2 q).2.2.1
    f16 := fun q => absurd (show l 16 = true from q) (by rw [n16]; decide)
    f18 := fun q => absurd (show l 18 = true from q) (by rw [n18]; decide) }
theorem A13.s16 (S : A13 W go y g0 gu k n lm capm capo cu cq lO pq x O b2 b15 v50 v51 v52 v53 v54 v55 v56 v57 v58 v59 v60 v61 v62 v63 v64 v65 v66 v67 l u) (h : l 16 = false) (h7 : l 7 = true) (h15 : l 15 = true) {vn : Value} (hg : u.grownBy u2 v57.ownBlock) (ho : Dm.OwnsI u2 W.heap.size vn (O ++ [x])) : A13 W go y g0 gu k n lm capm capo cu cq lO pq x O b2 b15 v50 v51 v52 v53 v54 v55 v56 v57 v58 v59 v60 v61 v62 v63 v64 v65 vn v67 (upd l 16) u2 := by
  have n18 := S.no16 h
  have hW := (S.base n18).size
  have hs := hg.size
  exact {
    base := fun q => (S.base q).trans ((Below.refl _ _).grown hg hW (fun j e => (ints_kind ((S.f7 h7).2 h) e).1))
    p0 := S.p0
    p1 := S.p1
    p3 := S.p3
    p4 := S.p4
    p5 := S.p5
    p6 := S.p6
    p8 := S.p8
    p9 := S.p9
    p10 := S.p10
    p11 := S.p11
    p12 := S.p12
    p13 := S.p13
    p14 := S.p14
    p17 := S.p17
    c13 := S.c13
    c14 := S.c14
    f2 := fun q => ⟨(S.f2 q).1, (S.f2 q).2.1, Nat.lt_of_lt_of_le (S.f2 q).2.2.1 hs, fun z => absurd (show l 7 = false from z) (by rw [h7]; decide)⟩
    f7 := fun q => ⟨(S.f7 q).1, fun z => absurd (show true = false from z) (by decide)⟩
    f15 := fun q => ⟨(S.f15 q).1, (S.f15 q).2.1, Nat.lt_of_lt_of_le (S.f15 q).2.2.1 hs, fun z => absurd (show true = false from z) (by decide)⟩
    ne := S.ne
    f16 := fun _ => ⟨⟨h7, h15⟩, fun _ => ho⟩
    f18 := fun q => absurd (show l 18 = true from q) (by rw [n18]; decide) }
theorem A13.s18 (S : A13 W go y g0 gu k n lm capm capo cu cq lO pq x O b2 b15 v50 v51 v52 v53 v54 v55 v56 v57 v58 v59 v60 v61 v62 v63 v64 v65 v66 v67 l u) (h : l 18 = false) (h16 : l 16 = true) : A13 W go y g0 gu k n lm capm capo cu cq lO pq x O b2 b15 v50 v51 v52 v53 v54 v55 v56 v57 v58 v59 v60 v61 v62 v63 v64 v65 v66 v67 (upd l 18) (u.setCell ⟨go, y, none⟩ v66) := by
  have h7 := (S.f16 h16).1.1
  exact {
    base := fun q => absurd (show true = false from q) (by decide)
    p0 := S.p0
    p1 := S.p1
    p3 := S.p3
    p4 := S.p4
    p5 := S.p5
    p6 := S.p6
    p8 := S.p8
    p9 := S.p9
    p10 := S.p10
    p11 := S.p11
    p12 := S.p12
    p13 := S.p13
    p14 := S.p14
    p17 := S.p17
    c13 := S.c13
    c14 := S.c14
    f2 := fun q => ⟨(S.f2 q).1, (S.f2 q).2.1, by rw [World.size_setCell]; exact (S.f2 q).2.2.1, fun z => absurd (show l 7 = false from z) (by rw [h7]; decide)⟩
    f7 := fun q => ⟨(S.f7 q).1, fun z => absurd (show l 16 = false from z) (by rw [h16]; decide)⟩
    f15 := fun q => ⟨(S.f15 q).1, (S.f15 q).2.1, by rw [World.size_setCell]; exact (S.f15 q).2.2.1, fun z => absurd (show l 16 = false from z) (by rw [h16]; decide)⟩
    ne := S.ne
    f16 := fun q => ⟨(S.f16 q).1, fun z => absurd (show true = false from z) (by decide)⟩
    f18 := fun _ => ⟨h16, u, S.base h, (S.f16 h16).2 h, rfl⟩ }
end
end Go.Proofs.YtccgoigmchcggaaDoor.Ge
namespace Go.Proofs.YtccgoigmchcggaaDoor.Ge
open Go.RowKit St
set_option maxRecDepth 100000

theorem set_itself {N : List (List Int)} {y : Nat} {l : List Int} (h : N.getD y [] = l) (hy : y < N.length) : N.set y l = N := by
  refine List.ext_getElem (by simp) fun i h1 h2 => ?_
  rw [List.getElem_set]
  split
  · rename_i e
    subst e
    rw [List.getD_eq_getElem?_getD, List.getElem?_eq_getElem hy] at h
    exact h.symm
  · rfl
theorem set_again {N : List (List Int)} {y : Nat} {l m : List Int} : (N.set y l).set y m = N.set y m := by simp
theorem filter_more {l : List Int} {p : Int → Bool} {m : Nat} (h : m < l.length) : (l.take (m + 1)).filter p = (l.take m).filter p ++ (if p (l.getD m 0) = true then [l.getD m 0] else []) := by
  have e : l.getD m 0 = l[m] := by rw [List.getD_eq_getElem?_getD, List.getElem?_eq_getElem h]; rfl
  rw [List.take_succ_eq_append_getElem h, List.filter_append, e, List.filter_cons, List.filter_nil]
theorem prodRow_short {M : List (List Int)} {vars : List Int} (hM : ∀ l ∈ M, l.length ≤ 1000) (k : Nat) : (prodRow M vars k).length ≤ 1000 := by
  unfold prodRow
  refine Nat.le_trans (List.length_filter_le _ _) ?_
  by_cases h : (vars.getD k 0).toNat < M.length
  · exact hM _ (St.getL_mem h)
  · rw [List.getD_eq_getElem?_getD, List.getElem?_eq_none (by omega)]
    simp

set_option maxHeartbeats 8000000 in
theorem rstep_any {w : World} {v v1 v2 v3 : Value} {c : PCon} {L : List (List Int × Nat)} (hc : rCon w [.int .i64 c.kind, v1, v2, .int .i64 c.rel, .int .i64 c.const, v3] c) (hs : Short 1000 c) (h : Slc rDom 2 w v L) (hn : L.length ≤ 1000) (hm : ∀ d ∈ L, d.1.length ≤ 1000) :
    Calls Tryd.prog 10 #[.agg #[.int .i64 c.kind, v1, v2, .int .i64 c.rel, .int .i64 c.const, v3], v] w fun e w' => ∃ x, e = .returned (.tuple #[x, .int .i64 (stepG c L).2]) ∧ DomsAt w' w.heap.size x (stepG c L).1 ∧ Below w.heap.size w w' := by
  obtain ⟨W0, hW0⟩ : ∃ W0, W0 = w.alloc (.cells #[.int .i64 c.kind, v1, v2, .int .i64 c.rel, .int .i64 c.const, v3] 24) := ⟨_, rfl⟩
  obtain ⟨W1, hW1⟩ : ∃ W1, W1 = W0.alloc (.cells #[.int .i64 2] 3) := ⟨_, rfl⟩
  have hsz : W0.heap.size = w.heap.size + 1 := by rw [hW0, World.size_alloc]
  have HB1 := Lib.hid (show Below w.heap.size w W1 by rw [hW1, hW0]; exact below_two (new_below _ _) (new_below _ _))
  have Q1 := Lib.hid (show ConAt W1 w.heap.size [.int .i64 c.kind, v1, v2, .int .i64 c.rel, .int .i64 c.const, v3] from ConAt.below (w := W0) (by rw [hW0]; exact six_at _ _ _ _ _ _ _ _) (by rw [hW1]; exact new_below _ _))
  have hK : Dm.Reads W1 (.slice (some ⟨w.heap.size + 1, 0, none⟩) 1 1) [2] := by rw [hW1, ← hsz]; exact Dm.reads_of_readsN (St.one_reads _ _)
  have HW := Lib.hid (show W1 = (w.alloc (.cells #[.int .i64 c.kind, v1, v2, .int .i64 c.rel, .int .i64 c.const, v3] 24)).alloc (.cells #[.int .i64 2] 3) by rw [hW1, hW0])
  have CR := Lib.hid (rsright_any (rCon_stays _ _ _ _ HB1.out hc) hs (h.below rDom_stays HB1.out) hn hm hK (by decide))
  have LX := Lib.hid (fun u (hb : Below w.heap.size w u) => rlists_any (h.below rDom_stays hb) hn hm)
  have NX := Lib.hid (fun u (hb : Below w.heap.size w u) x (hx : ListsAt u 0 x (leftsOf L)) (hv : ∀ v ∈ c.vars, 0 ≤ v ∧ v < ((leftsOf L).length : Int)) => rsnone_any (rCon_stays _ _ _ _ hb hc) hs hx (by rw [lefts_length]; exact hn) hv)
  have KX := Lib.hid (fun u (hb : Below w.heap.size w u) b x M (hx : ListsAt u b x M) (hl : L.length = M.length) (hml : ∀ l ∈ M, l.length ≤ 1000) => rskeep_any (h.below rDom_stays hb) (hx.low (Nat.zero_le _)) hn hm hl hml)
  have HSL := Lib.hid (show stepG c L = if rightS c L [2] = true then (keepTo L (setTo (leftsOf L) c.vars (prodRow (leftsOf L) c.vars) c.vars.length) L.length, 0) else ([], 1) from stepL_G.symm)
  have HRP := Lib.hid (show rightS c L [2] = true → c.kind ∈ ([2] : List Int) ∧ rightC c L.length = true ∧ _ from fun q => rightK_parts ((rightS_K c L [2]).symm.trans q))
  obtain ⟨RS, hRS⟩ : ∃ b, b = rightS c L [2] := ⟨_, rfl⟩
  rw [← hRS] at CR HSL HRP
  have hs2 := hs
  have hc2 := hc
  clear hW0 hW1 hsz hK hc hs h hm hRS
  go_enter Tryd.func10, Tryd.ntmps10
  go_wp2_with fail
  rw [← HW.out]
  refine CR.out.mono ?_
  rintro e w2 ⟨rfl, hB2⟩
  have HB2 := Lib.hid (below_two HB1.out hB2)
  have Q2 := Lib.hid (Q1.out.below hB2)
  clear hB2
  cases RS
  · go_wp2_with fail
    go_ret2
    exact ⟨.slice none 0 0, by rw [HSL.out]; rfl, by rw [HSL.out]; exact doms_nil _ _, HB2.out⟩
  · obtain ⟨hkd, hrc, _⟩ := HRP.out rfl
    have hl3 := right_three hrc (by simpa using hkd)
    have hvt := vars_to hrc
    have HVT := Lib.hid (show VarsTo c.vars ((leftsOf L).length : Int) c.vars.length by rw [lefts_length]; exact hvt)
    have HVM := Lib.hid (show ∀ v ∈ c.vars, 0 ≤ v ∧ v < ((leftsOf L).length : Int) by rw [lefts_length]; exact vars_mem hvt)
    have HL3 := Lib.hid hl3
    have HSM := Lib.hid (lefts_small L)
    have HLL := Lib.hid (lefts_length L)
    have hn2 : (leftsOf L).length ≤ 1000 := by rw [lefts_length]; exact hn
    obtain ⟨M, hM⟩ : ∃ M, M = leftsOf L := ⟨_, rfl⟩
    rw [← hM] at HVT HVM HSM HLL HSL NX LX hn2
    clear hkd hrc hvt hl3 hM
    obtain ⟨q0, q1, q2, q3, q4, q5⟩ := Q2.out.six
    go_wp2_with fail
    refine (LX.out _ HB2.out).mono ?_
    rintro e w3 ⟨x3, rfl, hx3, hB3⟩
    have X3 := Lib.hid hx3
    have HB3 := Lib.hid (below_two HB2.out hB3)
    have Q3 := Lib.hid (Q2.out.below hB3)
    clear hB3 hx3 q0 q1 q2 q3 q4 q5
    obtain ⟨q0, q1, q2, q3, q4, q5⟩ := Q3.out.six
    go_wp2_with fail
    refine (NX.out _ HB3.out _ (X3.out.low (Nat.zero_le _)) HVM.out).mono ?_
    rintro e w4 ⟨x4, rfl, hx4, hB4⟩
    have X4 := Lib.hid hx4
    have HB4 := Lib.hid hB4
    clear hB4 hx4 q0 q1 q2 q3 q4 q5
    obtain ⟨u1, u2, u3, e, hft, ⟨p1, b1, o1, c1, l1, e1, hcap1, h1⟩, hr2, hr3⟩ := hc2
    have hcc : rCon w [.int .i64 c.kind, .slice p1 l1 c1, v2, .int .i64 c.rel, .int .i64 c.const, v3] c := by
      subst e1
      simp only [List.cons.injEq, and_true] at e
      obtain ⟨_, rfl, rfl, _, _, rfl⟩ := e
      exact ⟨_, _, _, rfl, hft, ⟨p1, b1, o1, c1, l1, rfl, hcap1, h1⟩, hr2, hr3⟩
    subst e1
    simp only [List.cons.injEq, and_true] at e
    obtain ⟨_, rfl, rfl, _, _, rfl⟩ := e
    obtain rfl : l1 = 3 := by have := h1.long; have := HL3.out; omega
    obtain rfl := h1.at_ (by omega)
    have HCC := Lib.hid hcc
    have HNV := Lib.hid (nums_of h1)
    obtain ⟨pm, capm, rfl⟩ := X3.out.shape
    obtain ⟨po, capo, rfl⟩ := X4.out.shape
    have hNl : (noneL M c.vars).length = M.length := by unfold noneL; rw [setTo_length]
    rw [hNl] at X4 ⊢
    have SX := Lib.hid (fun u (hu : Below w3.heap.size w3 u) (j : Nat) (hj : j < 3) (x : Int) (hx : -1048576 ≤ x ∧ x ≤ 1048576) => rsome_any (rCon_stays _ _ _ _ (below_two HB3.out hu) HCC.out) HL3.out ((X3.out.below hu).low (Nat.zero_le _)) HVM.out HSM.out hj hx)
    have HNL := Lib.hid hNl
    clear hcc hft hr2 hr3 h1 hNl
    go_wp2_with fail
    go_loopw [8] (fun f wr => ∃ j : Nat, j ≤ 3 ∧ f = .int .i64 j ∧ ListsAt wr w3.heap.size (.slice po M.length capo) (setTo (noneL M c.vars) c.vars (prodRow M c.vars) j) ∧ Below w3.heap.size w3 wr) (fun f _ => 3 - (intOf f).toNat)
    case atStart => exact ⟨0, by omega, rfl, X4.out, HB4.out⟩
    case round =>
      rename_i wr
      obtain ⟨j, hj, rfl, hx, hB⟩ := hrel
      have X := Lib.hid hx
      have HB := Lib.hid hB
      obtain ⟨q0, q1, q2, q3, q4, q5⟩ := (Q3.out.below hB).six
      clear hx hB
      by_cases hlt : j < 3
      · have hjv : j < c.vars.length := by have := HL3.out; omega
        have cv := cell_below (below_two HB3.out HB.out) (HNV.out.cell j hlt)
        have hvj := HVM.out (c.vars.getD j 0) (St.getD_memS hjv)
        have hemp := setTo_empty (f := prodRow M c.vars) HVT.out hjv
        have hsc := setTo_succ (noneL M c.vars) c.vars (prodRow M c.vars) j
        have hsl := setTo_length (noneL M c.vars) c.vars (prodRow M c.vars) j
        have hpr : prodRow M c.vars j = (M.getD (c.vars.getD j 0).toNat []).filter (someB M c.vars j) := rfl
        obtain ⟨y, hy⟩ : ∃ y, y = c.vars.getD j 0 := ⟨_, rfl⟩
        rw [← hy] at cv hvj hemp hsc hpr
        obtain ⟨y, rfl⟩ := Int.eq_ofNat_of_zero_le hvj.1
        simp only [Int.toNat_natCast] at hemp hsc hpr
        have hyM : y < M.length := by omega
        have hyN : y < (setTo (noneL M c.vars) c.vars (prodRow M c.vars) j).length := by rw [hsl, HNL.out]; exact hyM
        obtain ⟨g, cap, ul, em, _, _, _, cg, _, hu⟩ := X3.out.row hyM
        simp only [Value.slice.injEq] at em
        obtain ⟨rfl, _, rfl⟩ := em
        obtain ⟨pu, gu, cu, rfl, hpu, hcu⟩ := Dm.ints_shape hu
        obtain ⟨hls, hlv⟩ := HSM.out _ (St.getL_mem hyM)
        obtain ⟨l, hl⟩ : ∃ l, l = M.getD y [] := ⟨_, rfl⟩
        rw [← hl] at hpr cg hpu hcu hls hlv
        have HPR := Lib.hid hpr
        have HSC := Lib.hid hsc
        have HLV := Lib.hid hlv
        have HCU := Lib.hid hcu
        have HYN := Lib.hid hyN
        obtain ⟨n, hn4⟩ : ∃ n, n = l.length := ⟨_, rfl⟩
        rw [← hn4] at cg hpu hls
        have HCG3 := Lib.hid cg
        have HGL := Lib.hid (show g < w3.heap.size from Dm.cell_lt cg)
        have HCU3 := Lib.hid (fun u (hu : Below w3.heap.size w3 u) k hk => cell_below hu (HCU.out k hk))
        have cg := cell_below HB.out cg
        have HN4 := Lib.hid hn4
        have HIT := Lib.hid (set_itself hemp hyN)
        obtain ⟨N, hN⟩ : ∃ N, N = setTo (noneL M c.vars) c.vars (prodRow M c.vars) j := ⟨_, rfl⟩
        rw [← hN] at X HSC HYN HIT
        have HNN := Lib.hid (show N.length = M.length by rw [hN, hsl, HNL.out])
        have d5 : (j : Int) < 3 := by omega
        have d6 : (y : Int) < (M.length : Int) := by omega
        clear hpr hemp hsc hsl hlv hcu hyN hn4 hl hN hy hu hvj
        go_wp2_with fail
        go_loopw [10] (fun f wx => ∃ k : Nat, k ≤ n ∧ f = .int .i64 k ∧ ListsAt wx w3.heap.size (.slice po M.length capo) (N.set y ((l.take k).filter (someB M c.vars j))) ∧ Below w3.heap.size w3 wx) (fun f _ => n - (intOf f).toNat)
        case atStart => exact ⟨0, by omega, rfl, by rw [List.take_zero, List.filter_nil, HIT.out]; exact X.out, HB.out⟩
        case round =>
          obtain ⟨k, hk, rfl, hxq, hBq⟩ := hrel
          obtain ⟨wq, rfl⟩ : ∃ z, z = wr := ⟨_, rfl⟩
          have XQ := Lib.hid hxq
          have HBq := Lib.hid hBq
          clear hxq hBq
          obtain ⟨q0, q1, q2, q3, q4, q5⟩ := (Q3.out.below HBq.out).six
          have cg2 := cell_below (HBq.out) (show w3.cell? ⟨g, y, none⟩ = some (.slice pu n cu) from HCG3.out)
          by_cases hlt2 : k < n
          · obtain rfl := hpu (by omega)
            have hkl : k < l.length := by have := HN4.out; omega
            have cx := HCU3.out _ HBq.out k hkl
            have HGU := Lib.hid (show gu < w3.heap.size from Dm.cell_lt (HCU.out k hkl))
            have hxs := HLV.out (l.getD k 0) (St.getD_memS hkl)
            have HSB := Lib.hid (fun u (hu : Below w3.heap.size w3 u) => SX.out u hu j hlt (l.getD k 0) hxs)
            have HFM := Lib.hid (filter_more (p := someB M c.vars j) hkl)
            obtain ⟨x, hx⟩ : ∃ x, x = l.getD k 0 := ⟨_, rfl⟩
            rw [← hx] at cx hxs HSB HFM
            obtain ⟨O, hO⟩ : ∃ O, O = (l.take k).filter (someB M c.vars j) := ⟨_, rfl⟩
            rw [← hO] at XQ HFM
            have hOl : O.length ≤ 1000 := by rw [hO]; exact Nat.le_trans (List.length_filter_le _ _) (by rw [List.length_take]; omega)
            obtain ⟨bb, hbb⟩ : ∃ b, b = someB M c.vars j x := ⟨_, rfl⟩
            rw [← hbb] at HSB HFM
            have d7 : (k : Int) < (n : Int) := by omega
            have BD := Lib.hid (show ∀ q, Below wq.heap.size wq (wq.drewN q) from fun q => below_drewN (Below.refl _ wq))
            clear hx hO hbb hkl
            go_upto_region 12 with fail
            go_cut [49] (fun b wx => b = .bool bb ∧ Below wq.heap.size wq wx)
            case first =>
              go_region_law (first
                | (go_simp; go_at_call 29; refine (HSB.out _ (HBq.out.trans ((BD.out _).mono HBq.out.size))).mono ?_; rintro e w5 ⟨rfl, hB5⟩; have HB5 := Lib.hid (below_two (BD.out 1) hB5); clear hB5))
              all_goals go_wp2_with fail
              all_goals go_meet
              all_goals exact ⟨rfl, HB5.out⟩
            case rest =>
              obtain ⟨rfl, hB⟩ := hcut
              obtain ⟨wt, rfl⟩ : ∃ z, z = wc := ⟨_, rfl⟩
              have HBT := Lib.hid (show Below w3.heap.size w3 wt from HBq.out.trans (hB.mono HBq.out.size))
              have XT := Lib.hid (XQ.out.below hB)
              clear q0 q1 q2 q3 q4 q5 cg2
              have cg2 := cell_below HBT.out (show w3.cell? ⟨g, y, none⟩ = some (.slice (some ⟨gu, 0, none⟩) n cu) from HCG3.out)
              have cx := cell_below hB cx
              clear hB
              cases bb
              · have HF2 := Lib.hid (show (l.take (k + 1)).filter (someB M c.vars j) = O by rw [HFM.out]; simp)
                go_wp2_with fail
                go_roundw
                case rel => exact ⟨k + 1, by omega, by go_num, by rw [HF2.out]; exact XT.out, HBT.out⟩
                case measure => simp [intOf]; omega
              · have HF2 := Lib.hid (show (l.take (k + 1)).filter (someB M c.vars j) = O ++ [x] by rw [HFM.out]; simp)
                obtain ⟨go, capo2, uo, em2, hgo, hgl, _, co, fo, ho⟩ := XT.out.row (k := y) (by rw [List.length_set]; exact HYN.out)
                rw [getL_set, if_pos ⟨rfl, HYN.out⟩] at ho
                simp only [Value.slice.injEq] at em2
                obtain ⟨rfl, hq, rfl⟩ := em2
                clear hq
                obtain ⟨pq, _, cq, rfl, _, _⟩ := Dm.ints_shape ho
                have HRO := Lib.hid (Dm.readsN_of_owns ho)
                have HFO := Lib.hid (And.intro co fo)
                have l0 : go < wt.heap.size := Dm.cell_lt co
                have l1 : g < wt.heap.size := Dm.cell_lt cg2
                have l2 : gu < wt.heap.size := Dm.cell_lt cx
                have HLO := Lib.hid (And.intro cg2 cx)
                have HNX := Lib.hid (show ∀ wx v', Below wt.heap.size wt wx → Dm.OwnsI wx 0 v' (O ++ [x]) → ListsAt (wx.setCell ⟨go, y, none⟩ v') w3.heap.size (.slice (some ⟨go, 0, none⟩) M.length capo) (N.set y (O ++ [x])) ∧ Below w3.heap.size w3 (wx.setCell ⟨go, y, none⟩ v') from fun wx v' hb hov => by
                  have h := (XT.out.below hb).stored (by rw [List.length_set]; exact HYN.out) hov
                  rw [set_again] at h
                  exact ⟨h, (HBT.out.trans (hb.mono HBT.out.size)).setCell hgo _⟩)
                have dO : (y : Int) < (M.length : Int) := d6
                clear ho fo hgl cg2 cx co hgo
                go_upto_region 13 with fail
                have HBZ := Lib.hid (show Below wt.heap.size wt wt.drew from (Below.refl _ _).drew)
                refine wp_region_at (γ := GA13) (JA13 wt go y g gu k n M.length capm capo cu cq O.length pq x O) putA13 ⟨0, 0, u50, u51, u52, u53, u54, u55, u56, u57, u58, u59, u60, u61, u62, u63, u64, u65, u66, u67⟩ ?hm ?ho ?hput ?h0 ?hs ?hd
                case hm => kernel_rfl
                case ho => kernel_rfl
                case hput => (simp only [putA13, List.setIfInBounds_toArray, List.set_cons_zero, List.set_cons_succ])
                case h0 => exact ⟨fun _ => HBZ.out, nofun, nofun, nofun, nofun, nofun, nofun, nofun, nofun, nofun, nofun, nofun, nofun, nofun, nofun, nofun, nofun, nofun, nofun, nofun, nofun, nofun, nofun⟩
                case hs =>
                  as_aux_lemma =>
                  refine ⟨?s0, ?s1, ?s2, ?s3, ?s4, ?s5, ?s6, ?s7, ?s8, ?s9, ?s10, ?s11, ?s12, ?s13, ?s14, ?s15, ?s16, ?s17, ?s18, trivial⟩
                  case s0 =>
                    rintro l ⟨b2, b15, v50, v51, v52, v53, v54, v55, v56, v57, v58, v59, v60, v61, v62, v63, v64, v65, v66, v67⟩ u hl haf S K hK
                    simp only [JA13] at S
                    refine ⟨?_⟩
                    simp only [putA13, List.setIfInBounds_toArray, List.set_cons_zero, List.set_cons_succ]
                    go_simp
                    have nx := hK.out ⟨b2, b15, (.slice (some ⟨go, 0, none⟩) M.length capo), v51, v52, v53, v54, v55, v56, v57, v58, v59, v60, v61, v62, v63, v64, v65, v66, v67⟩ u (S.s0)
                    clear hK
                    simp only [putA13, List.setIfInBounds_toArray, List.set_cons_zero, List.set_cons_succ] at nx
                    exact nx
                  case s1 =>
                    rintro l ⟨b2, b15, v50, v51, v52, v53, v54, v55, v56, v57, v58, v59, v60, v61, v62, v63, v64, v65, v66, v67⟩ u hl haf S K hK
                    simp only [JA13] at S
                    refine ⟨?_⟩
                    simp only [putA13, List.setIfInBounds_toArray, List.set_cons_zero, List.set_cons_succ]
                    go_simp
                    have nx := hK.out ⟨b2, b15, v50, (.int .i64 (y : Nat)), v52, v53, v54, v55, v56, v57, v58, v59, v60, v61, v62, v63, v64, v65, v66, v67⟩ u (S.s1)
                    clear hK
                    simp only [putA13, List.setIfInBounds_toArray, List.set_cons_zero, List.set_cons_succ] at nx
                    exact nx
                  case s2 =>
                    rintro l ⟨b2, b15, v50, v51, v52, v53, v54, v55, v56, v57, v58, v59, v60, v61, v62, v63, v64, v65, v66, v67⟩ u hl haf S K hK
                    simp only [JA13] at S
                    refine ⟨?_⟩
                    simp only [putA13, List.setIfInBounds_toArray, List.set_cons_zero, List.set_cons_succ]
                    go_simp
                    have nx := hK.out ⟨u.heap.size, b15, v50, v51, (.slice (some ⟨u.heap.size, 0, none⟩) 0 0), v53, v54, v55, v56, v57, v58, v59, v60, v61, v62, v63, v64, v65, v66, v67⟩ _ (S.s2 hl)
                    clear hK
                    simp only [putA13, List.setIfInBounds_toArray, List.set_cons_zero, List.set_cons_succ] at nx
                    exact nx
                  case s3 =>
                    rintro l ⟨b2, b15, v50, v51, v52, v53, v54, v55, v56, v57, v58, v59, v60, v61, v62, v63, v64, v65, v66, v67⟩ u hl haf S K hK
                    simp only [JA13] at S
                    refine ⟨?_⟩
                    simp only [putA13, List.setIfInBounds_toArray, List.set_cons_zero, List.set_cons_succ]
                    go_simp
                    have nx := hK.out ⟨b2, b15, v50, v51, v52, (.slice (some ⟨go, 0, none⟩) M.length capo), v54, v55, v56, v57, v58, v59, v60, v61, v62, v63, v64, v65, v66, v67⟩ u (S.s3)
                    clear hK
                    simp only [putA13, List.setIfInBounds_toArray, List.set_cons_zero, List.set_cons_succ] at nx
                    exact nx
                  case s4 =>
                    rintro l ⟨b2, b15, v50, v51, v52, v53, v54, v55, v56, v57, v58, v59, v60, v61, v62, v63, v64, v65, v66, v67⟩ u hl haf S K hK
                    simp only [JA13] at S
                    refine ⟨?_⟩
                    simp only [putA13, List.setIfInBounds_toArray, List.set_cons_zero, List.set_cons_succ]
                    go_simp
                    have nx := hK.out ⟨b2, b15, v50, v51, v52, v53, (.int .i64 (y : Nat)), v55, v56, v57, v58, v59, v60, v61, v62, v63, v64, v65, v66, v67⟩ u (S.s4)
                    clear hK
                    simp only [putA13, List.setIfInBounds_toArray, List.set_cons_zero, List.set_cons_succ] at nx
                    exact nx
                  case s5 =>
                    rintro l ⟨b2, b15, v50, v51, v52, v53, v54, v55, v56, v57, v58, v59, v60, v61, v62, v63, v64, v65, v66, v67⟩ u hl haf S K hK
                    simp only [JA13] at S
                    obtain rfl := S.p3 (haf 3 (by kernel_rfl))
                    obtain rfl := S.p4 (haf 4 (by kernel_rfl))
                    refine ⟨?_⟩
                    simp only [putA13, List.setIfInBounds_toArray, List.set_cons_zero, List.set_cons_succ]
                    go_simp
                    have nx := hK.out ⟨b2, b15, v50, v51, v52, _, _, (.pointer (some ⟨go, y, none⟩)), v56, v57, v58, v59, v60, v61, v62, v63, v64, v65, v66, v67⟩ u (S.s5)
                    clear hK
                    simp only [putA13, List.setIfInBounds_toArray, List.set_cons_zero, List.set_cons_succ] at nx
                    exact nx
                  case s6 =>
                    rintro l ⟨b2, b15, v50, v51, v52, v53, v54, v55, v56, v57, v58, v59, v60, v61, v62, v63, v64, v65, v66, v67⟩ u hl haf S K hK
                    simp only [JA13] at S
                    obtain rfl := S.p5 (haf 5 (by kernel_rfl))
                    have c0 := cell_below (S.base (S.no6 hl)) HFO.out.1
                    refine ⟨?_⟩
                    simp only [putA13, List.setIfInBounds_toArray, List.set_cons_zero, List.set_cons_succ]
                    go_simp
                    have nx := hK.out ⟨b2, b15, v50, v51, v52, v53, v54, _, (.slice pq O.length cq), v57, v58, v59, v60, v61, v62, v63, v64, v65, v66, v67⟩ u (S.s6)
                    clear hK
                    simp only [putA13, List.setIfInBounds_toArray, List.set_cons_zero, List.set_cons_succ] at nx
                    exact nx
                  case s7 =>
                    rintro l ⟨b2, b15, v50, v51, v52, v53, v54, v55, v56, v57, v58, v59, v60, v61, v62, v63, v64, v65, v66, v67⟩ u hl haf S K hK
                    simp only [JA13] at S
                    have h2 := haf 2 (by kernel_rfl)
                    have h6 := haf 6 (by kernel_rfl)
                    obtain rfl := S.p6 h6
                    have n18 := S.no16 (S.no7 hl)
                    obtain ⟨_, _, _, ow⟩ := S.f2 h2
                    refine ⟨?_⟩
                    simp only [putA13, List.setIfInBounds_toArray, List.set_cons_zero, List.set_cons_succ]
                    refine Dm.step_append_ints (a := ⟨_, _⟩) (by rfl) _ _ (by rfl) wt.heap.size v52 (.slice pq O.length cq) [] O (by rfl) (by rfl) (ow hl) (Dm.readsN_below HRO.out (S.base n18)) (by simp; omega) (S.base n18).size ?_
                    intro vn u2 ho hg
                    have nx := hK.out ⟨b2, b15, v50, v51, v52, v53, v54, v55, _, vn, v58, v59, v60, v61, v62, v63, v64, v65, v66, v67⟩ u2 (S.s7 hl h2 h6 hg ho)
                    clear hK
                    simp only [putA13, List.setIfInBounds_toArray, List.set_cons_zero, List.set_cons_succ] at nx
                    exact nx
                  case s8 =>
                    rintro l ⟨b2, b15, v50, v51, v52, v53, v54, v55, v56, v57, v58, v59, v60, v61, v62, v63, v64, v65, v66, v67⟩ u hl haf S K hK
                    simp only [JA13] at S
                    refine ⟨?_⟩
                    simp only [putA13, List.setIfInBounds_toArray, List.set_cons_zero, List.set_cons_succ]
                    go_simp
                    have nx := hK.out ⟨b2, b15, v50, v51, v52, v53, v54, v55, v56, v57, (.slice (some ⟨g, 0, none⟩) M.length capm), v59, v60, v61, v62, v63, v64, v65, v66, v67⟩ u (S.s8)
                    clear hK
                    simp only [putA13, List.setIfInBounds_toArray, List.set_cons_zero, List.set_cons_succ] at nx
                    exact nx
                  case s9 =>
                    rintro l ⟨b2, b15, v50, v51, v52, v53, v54, v55, v56, v57, v58, v59, v60, v61, v62, v63, v64, v65, v66, v67⟩ u hl haf S K hK
                    simp only [JA13] at S
                    refine ⟨?_⟩
                    simp only [putA13, List.setIfInBounds_toArray, List.set_cons_zero, List.set_cons_succ]
                    go_simp
                    have nx := hK.out ⟨b2, b15, v50, v51, v52, v53, v54, v55, v56, v57, v58, (.int .i64 (y : Nat)), v60, v61, v62, v63, v64, v65, v66, v67⟩ u (S.s9)
                    clear hK
                    simp only [putA13, List.setIfInBounds_toArray, List.set_cons_zero, List.set_cons_succ] at nx
                    exact nx
                  case s10 =>
                    rintro l ⟨b2, b15, v50, v51, v52, v53, v54, v55, v56, v57, v58, v59, v60, v61, v62, v63, v64, v65, v66, v67⟩ u hl haf S K hK
                    simp only [JA13] at S
                    obtain rfl := S.p8 (haf 8 (by kernel_rfl))
                    obtain rfl := S.p9 (haf 9 (by kernel_rfl))
                    refine ⟨?_⟩
                    simp only [putA13, List.setIfInBounds_toArray, List.set_cons_zero, List.set_cons_succ]
                    go_simp
                    have nx := hK.out ⟨b2, b15, v50, v51, v52, v53, v54, v55, v56, v57, _, _, (.pointer (some ⟨g, y, none⟩)), v61, v62, v63, v64, v65, v66, v67⟩ u (S.s10)
                    clear hK
                    simp only [putA13, List.setIfInBounds_toArray, List.set_cons_zero, List.set_cons_succ] at nx
                    exact nx
                  case s11 =>
                    rintro l ⟨b2, b15, v50, v51, v52, v53, v54, v55, v56, v57, v58, v59, v60, v61, v62, v63, v64, v65, v66, v67⟩ u hl haf S K hK
                    simp only [JA13] at S
                    obtain rfl := S.p10 (haf 10 (by kernel_rfl))
                    have c0 := cell_below (S.base (S.no11 hl)) HLO.out.1
                    refine ⟨?_⟩
                    simp only [putA13, List.setIfInBounds_toArray, List.set_cons_zero, List.set_cons_succ]
                    go_simp
                    have nx := hK.out ⟨b2, b15, v50, v51, v52, v53, v54, v55, v56, v57, v58, v59, _, (.slice (some ⟨gu, 0, none⟩) n cu), v62, v63, v64, v65, v66, v67⟩ u (S.s11)
                    clear hK
                    simp only [putA13, List.setIfInBounds_toArray, List.set_cons_zero, List.set_cons_succ] at nx
                    exact nx
                  case s12 =>
                    rintro l ⟨b2, b15, v50, v51, v52, v53, v54, v55, v56, v57, v58, v59, v60, v61, v62, v63, v64, v65, v66, v67⟩ u hl haf S K hK
                    simp only [JA13] at S
                    refine ⟨?_⟩
                    simp only [putA13, List.setIfInBounds_toArray, List.set_cons_zero, List.set_cons_succ]
                    go_simp
                    have nx := hK.out ⟨b2, b15, v50, v51, v52, v53, v54, v55, v56, v57, v58, v59, v60, v61, (.int .i64 (k : Nat)), v63, v64, v65, v66, v67⟩ u (S.s12)
                    clear hK
                    simp only [putA13, List.setIfInBounds_toArray, List.set_cons_zero, List.set_cons_succ] at nx
                    exact nx
                  case s13 =>
                    rintro l ⟨b2, b15, v50, v51, v52, v53, v54, v55, v56, v57, v58, v59, v60, v61, v62, v63, v64, v65, v66, v67⟩ u hl haf S K hK
                    simp only [JA13] at S
                    obtain rfl := S.p11 (haf 11 (by kernel_rfl))
                    obtain rfl := S.p12 (haf 12 (by kernel_rfl))
                    refine ⟨?_⟩
                    simp only [putA13, List.setIfInBounds_toArray, List.set_cons_zero, List.set_cons_succ]
                    go_simp
                    have nx := hK.out ⟨b2, b15, v50, v51, v52, v53, v54, v55, v56, v57, v58, v59, v60, _, _, (.pointer (some ⟨gu, k, none⟩)), v64, v65, v66, v67⟩ u (S.s13 (haf 11 (by kernel_rfl)))
                    clear hK
                    simp only [putA13, List.setIfInBounds_toArray, List.set_cons_zero, List.set_cons_succ] at nx
                    exact nx
                  case s14 =>
                    rintro l ⟨b2, b15, v50, v51, v52, v53, v54, v55, v56, v57, v58, v59, v60, v61, v62, v63, v64, v65, v66, v67⟩ u hl haf S K hK
                    simp only [JA13] at S
                    obtain rfl := S.p13 (haf 13 (by kernel_rfl))
                    have c0 := cell_below (S.base (S.no14 hl)) HLO.out.2
                    refine ⟨?_⟩
                    simp only [putA13, List.setIfInBounds_toArray, List.set_cons_zero, List.set_cons_succ]
                    go_simp
                    have nx := hK.out ⟨b2, b15, v50, v51, v52, v53, v54, v55, v56, v57, v58, v59, v60, v61, v62, _, (.int .i64 x), v65, v66, v67⟩ u (S.s14 (haf 13 (by kernel_rfl)))
                    clear hK
                    simp only [putA13, List.setIfInBounds_toArray, List.set_cons_zero, List.set_cons_succ] at nx
                    exact nx
                  case s15 =>
                    rintro l ⟨b2, b15, v50, v51, v52, v53, v54, v55, v56, v57, v58, v59, v60, v61, v62, v63, v64, v65, v66, v67⟩ u hl haf S K hK
                    simp only [JA13] at S
                    have h14 := haf 14 (by kernel_rfl)
                    obtain rfl := S.p14 h14
                    refine ⟨?_⟩
                    simp only [putA13, List.setIfInBounds_toArray, List.set_cons_zero, List.set_cons_succ]
                    go_simp
                    have nx := hK.out ⟨b2, u.heap.size, v50, v51, v52, v53, v54, v55, v56, v57, v58, v59, v60, v61, v62, v63, _, (.slice (some ⟨u.heap.size, 0, none⟩) 1 1), v66, v67⟩ _ (S.s15 hl h14)
                    clear hK
                    simp only [putA13, List.setIfInBounds_toArray, List.set_cons_zero, List.set_cons_succ] at nx
                    exact nx
                  case s16 =>
                    rintro l ⟨b2, b15, v50, v51, v52, v53, v54, v55, v56, v57, v58, v59, v60, v61, v62, v63, v64, v65, v66, v67⟩ u hl haf S K hK
                    simp only [JA13] at S
                    have h7 := haf 7 (by kernel_rfl)
                    have h15 := haf 15 (by kernel_rfl)
                    have n18 := S.no16 hl
                    refine ⟨?_⟩
                    simp only [putA13, List.setIfInBounds_toArray, List.set_cons_zero, List.set_cons_succ]
                    refine Dm.step_append_ints (a := ⟨_, _⟩) (by rfl) _ _ (by rfl) wt.heap.size v57 v65 O [x] (by rfl) (by rfl) ((S.f7 h7).2 hl) (Dm.readsN_of_owns ((S.f15 h15).2.2.2 hl)) (by simp; omega) (S.base n18).size ?_
                    intro vn u2 ho hg
                    have nx := hK.out ⟨b2, b15, v50, v51, v52, v53, v54, v55, v56, v57, v58, v59, v60, v61, v62, v63, v64, v65, vn, v67⟩ u2 (S.s16 hl h7 h15 hg ho)
                    clear hK
                    simp only [putA13, List.setIfInBounds_toArray, List.set_cons_zero, List.set_cons_succ] at nx
                    exact nx
                  case s17 =>
                    rintro l ⟨b2, b15, v50, v51, v52, v53, v54, v55, v56, v57, v58, v59, v60, v61, v62, v63, v64, v65, v66, v67⟩ u hl haf S K hK
                    simp only [JA13] at S
                    obtain rfl := S.p0 (haf 0 (by kernel_rfl))
                    obtain rfl := S.p1 (haf 1 (by kernel_rfl))
                    refine ⟨?_⟩
                    simp only [putA13, List.setIfInBounds_toArray, List.set_cons_zero, List.set_cons_succ]
                    go_simp
                    have nx := hK.out ⟨b2, b15, _, _, v52, v53, v54, v55, v56, v57, v58, v59, v60, v61, v62, v63, v64, v65, v66, (.pointer (some ⟨go, y, none⟩))⟩ u (S.s17)
                    clear hK
                    simp only [putA13, List.setIfInBounds_toArray, List.set_cons_zero, List.set_cons_succ] at nx
                    exact nx
                  case s18 =>
                    rintro l ⟨b2, b15, v50, v51, v52, v53, v54, v55, v56, v57, v58, v59, v60, v61, v62, v63, v64, v65, v66, v67⟩ u hl haf S K hK
                    simp only [JA13] at S
                    have h16 := haf 16 (by kernel_rfl)
                    obtain ⟨q1, q2, q3, hq, hq1, _⟩ := Dm.ints_shape ((S.f16 h16).2 hl)
                    obtain rfl := hq1 (by simp)
                    rw [List.length_append, List.length_singleton] at hq
                    clear hq1
                    subst hq
                    obtain rfl := S.p17 (haf 17 (by kernel_rfl))
                    have c0 := cell_below (S.base hl) HFO.out.1
                    have f0 := Dm.frozen_below (S.base hl) HFO.out.1 HFO.out.2
                    refine ⟨?_⟩
                    simp only [putA13, List.setIfInBounds_toArray, List.set_cons_zero, List.set_cons_succ]
                    go_simp
                    have nx := hK.out ⟨b2, b15, v50, v51, v52, v53, v54, v55, v56, v57, v58, v59, v60, v61, v62, v63, v64, v65, _, _⟩ _ (S.s18 hl h16)
                    clear hK
                    simp only [putA13, List.setIfInBounds_toArray, List.set_cons_zero, List.set_cons_succ] at nx
                    exact nx
                case hd =>
                  rintro ⟨b2, b15, v50, v51, v52, v53, v54, v55, v56, v57, v58, v59, v60, v61, v62, v63, v64, v65, v66, v67⟩ u l hall S
                  simp only [JA13] at S
                  obtain ⟨_, u0, hB0, hO0, rfl⟩ := S.f18 (hall 18 (by decide))
                  have HX0 := Lib.hid (And.intro hB0 hO0)
                  clear S hall hB0 hO0
                  refine ⟨?_⟩
                  simp only [putA13, List.setIfInBounds_toArray, List.set_cons_zero, List.set_cons_succ]
                  go_wp2_with fail
                  go_roundw
                  case rel => exact ⟨k + 1, by omega, by go_num, by rw [HF2.out]; exact (HNX.out _ _ HX0.out.1 (owns_low HX0.out.2 (Nat.zero_le _))).1, (HNX.out _ _ HX0.out.1 (owns_low HX0.out.2 (Nat.zero_le _))).2⟩
                  case measure => simp [intOf]; omega
          · have hkn : k = n := by omega
            have d7 : ¬ ((k : Int) < (n : Int)) := by omega
            have XN := Lib.hid (show ListsAt wq w3.heap.size (.slice po M.length capo) (setTo (noneL M c.vars) c.vars (prodRow M c.vars) (j + 1)) by
              have h := XQ.out
              rw [List.take_of_length_le (by have := HN4.out; omega), ← HPR.out] at h
              rw [HSC.out]
              exact h)
            go_wp2_with fail
            go_roundw
            case rel => exact ⟨j + 1, by omega, by go_num, XN.out, HBq.out⟩
            case measure => simp [intOf]; omega
      · obtain rfl : j = 3 := by omega
        have HSN := Lib.hid (show setTo (noneL M c.vars) c.vars (prodRow M c.vars) 3 = setTo M c.vars (prodRow M c.vars) c.vars.length by rw [← setTo_none HVT.out, HL3.out])
        have KY := Lib.hid (KX.out _ (below_two HB3.out HB.out) _ _ _ X.out (by rw [HSN.out, setTo_length]; exact HLL.out.symm) (by rw [HSN.out]; exact setTo_short (fun l hl => (HSM.out l hl).1) (prodRow_short fun l hl => (HSM.out l hl).1) _))
        go_wp2_with fail
        refine KY.out.mono ?_
        rintro e w20 ⟨x20, rfl, hx20, hB20⟩
        have X20 := Lib.hid hx20
        have HB20 := Lib.hid (below_two (below_two HB3.out HB.out) hB20)
        clear hx20 hB20
        go_wp2_with fail
        go_ret2
        exact ⟨x20, by rw [HSL.out]; rfl, by rw [HSL.out]; show DomsAt _ _ _ (keepTo L (setTo M c.vars (prodRow M c.vars) c.vars.length) L.length); rw [← HSN.out]; exact X20.out.low (below_two HB3.out HB.out).size, HB20.out⟩
end Go.Proofs.YtccgoigmchcggaaDoor.Ge
