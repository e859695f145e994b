/-
  What the closure of Step of package element answers: is there a number at a place, and does that stand in a set?
  What right of package element answers.
-/
import Derived.Test.YtomcgmeekmfdhaaDoorZYCB
import Derived.Test.YtomcgmeekmfdhaaDoorZYBI
import Derived.Test.YtomcgmeekmfdhaaDoorZJMem
import Derived.Test.YtomcgmeekmfdhaaDoorZYCA
import Derived.Test.YtomcgmeekmfdhaaDoorZYAW
import Derived.Test.YtomcgmeekmfdhaaDoorZPRight
import Derived.Test.YtomcgmeekmfdhaaDoorZYAI
import Derived.Test.YtomcgmeekmfdhaaDoorZIStep
namespace Go.Proofs.YtomcgmeekmfdhaaDoor.Ge
open Go.RowKit St
set_option maxRecDepth 100000

structure SF1 (W : World) (X V P5 : Value) (v5 v6 v7 v8 v9 v10 v11 v12 v13 v14 v15 v16 v17 v4 : Value) (l : Nat → Bool) (u : World) : Prop where
  base : Below W.heap.size W u
  f0 : l 0 = true → v5 = P5
  f1 : l 1 = true → v6 = X
  f2 : l 2 = true → v7 = V
  f3 : l 3 = true → v8 = (.bool false)
  f4 : l 4 = true → v9 = (.bool false)
  f5 : l 5 = true → v10 = undef
  f6 : l 6 = true → v11 = undef
  f7 : l 7 = true → v12 = undef
  f8 : l 8 = true → v13 = undef
  f9 : l 9 = true → v14 = undef
  f10 : l 10 = true → v15 = undef
  f11 : l 11 = true → v16 = undef
  f12 : l 12 = true → v17 = (.bool false)
  f13 : l 13 = true → v4 = (.bool false)
structure GSF1 where
  (v5 v6 v7 v8 v9 v10 v11 v12 v13 v14 v15 v16 v17 v4 : Value)
def putSF1 (g : GSF1) (tm : Array Value) : Array Value := ((((((((((((((((((((((((((((tm).setIfInBounds 5 g.v5)).setIfInBounds 6 g.v6)).setIfInBounds 7 g.v7)).setIfInBounds 8 g.v8)).setIfInBounds 9 g.v9)).setIfInBounds 10 g.v10)).setIfInBounds 11 g.v11)).setIfInBounds 12 g.v12)).setIfInBounds 13 g.v13)).setIfInBounds 14 g.v14)).setIfInBounds 15 g.v15)).setIfInBounds 16 g.v16)).setIfInBounds 17 g.v17)).setIfInBounds 4 g.v4)
def JSF1 (W : World) (X V P5 : Value) (g : GSF1) (l : Nat → Bool) (u : World) : Prop := SF1 W X V P5 g.v5 g.v6 g.v7 g.v8 g.v9 g.v10 g.v11 g.v12 g.v13 g.v14 g.v15 g.v16 g.v17 g.v4 l u
theorem SF1.s0 {W : World} {X V P5 : Value} {v5 v6 v7 v8 v9 v10 v11 v12 v13 v14 v15 v16 v17 v4 : Value} {l : Nat → Bool} {u : World} (S : SF1 W X V P5 v5 v6 v7 v8 v9 v10 v11 v12 v13 v14 v15 v16 v17 v4 l u) (hn : l 0 = false) : SF1 W X V P5 P5 v6 v7 v8 v9 v10 v11 v12 v13 v14 v15 v16 v17 v4 (upd l 0) u := by
  have _ := hn
  refine ⟨S.base,
   fun _ => rfl,
   fun h => S.f1 (upd_old (by decide) h),
   fun h => S.f2 (upd_old (by decide) h),
   fun h => S.f3 (upd_old (by decide) h),
   fun h => S.f4 (upd_old (by decide) h),
   fun h => S.f5 (upd_old (by decide) h),
   fun h => S.f6 (upd_old (by decide) h),
   fun h => S.f7 (upd_old (by decide) h),
   fun h => S.f8 (upd_old (by decide) h),
   fun h => S.f9 (upd_old (by decide) h),
   fun h => S.f10 (upd_old (by decide) h),
   fun h => S.f11 (upd_old (by decide) h),
   fun h => S.f12 (upd_old (by decide) h),
   fun h => S.f13 (upd_old (by decide) h)⟩
theorem SF1.s1 {W : World} {X V P5 : Value} {v5 v6 v7 v8 v9 v10 v11 v12 v13 v14 v15 v16 v17 v4 : Value} {l : Nat → Bool} {u : World} (S : SF1 W X V P5 v5 v6 v7 v8 v9 v10 v11 v12 v13 v14 v15 v16 v17 v4 l u) (hn : l 1 = false) : SF1 W X V P5 v5 X v7 v8 v9 v10 v11 v12 v13 v14 v15 v16 v17 v4 (upd l 1) u := by
  have _ := hn
  refine ⟨S.base,
   fun h => S.f0 (upd_old (by decide) h),
   fun _ => rfl,
   fun h => S.f2 (upd_old (by decide) h),
   fun h => S.f3 (upd_old (by decide) h),
   fun h => S.f4 (upd_old (by decide) h),
   fun h => S.f5 (upd_old (by decide) h),
   fun h => S.f6 (upd_old (by decide) h),
   fun h => S.f7 (upd_old (by decide) h),
   fun h => S.f8 (upd_old (by decide) h),
   fun h => S.f9 (upd_old (by decide) h),
   fun h => S.f10 (upd_old (by decide) h),
   fun h => S.f11 (upd_old (by decide) h),
   fun h => S.f12 (upd_old (by decide) h),
   fun h => S.f13 (upd_old (by decide) h)⟩
theorem SF1.s2 {W : World} {X V P5 : Value} {v5 v6 v7 v8 v9 v10 v11 v12 v13 v14 v15 v16 v17 v4 : Value} {l : Nat → Bool} {u : World} (S : SF1 W X V P5 v5 v6 v7 v8 v9 v10 v11 v12 v13 v14 v15 v16 v17 v4 l u) (hn : l 2 = false) : SF1 W X V P5 v5 v6 V v8 v9 v10 v11 v12 v13 v14 v15 v16 v17 v4 (upd l 2) u := by
  have _ := hn
  refine ⟨S.base,
   fun h => S.f0 (upd_old (by decide) h),
   fun h => S.f1 (upd_old (by decide) h),
   fun _ => rfl,
   fun h => S.f3 (upd_old (by decide) h),
   fun h => S.f4 (upd_old (by decide) h),
   fun h => S.f5 (upd_old (by decide) h),
   fun h => S.f6 (upd_old (by decide) h),
   fun h => S.f7 (upd_old (by decide) h),
   fun h => S.f8 (upd_old (by decide) h),
   fun h => S.f9 (upd_old (by decide) h),
   fun h => S.f10 (upd_old (by decide) h),
   fun h => S.f11 (upd_old (by decide) h),
   fun h => S.f12 (upd_old (by decide) h),
   fun h => S.f13 (upd_old (by decide) h)⟩
theorem SF1.s3 {W : World} {X V P5 : Value} {v5 v6 v7 v8 v9 v10 v11 v12 v13 v14 v15 v16 v17 v4 : Value} {l : Nat → Bool} {u : World} (S : SF1 W X V P5 v5 v6 v7 v8 v9 v10 v11 v12 v13 v14 v15 v16 v17 v4 l u) (hn : l 3 = false) {u2 : World} (hB : Below u.heap.size u u2) : SF1 W X V P5 v5 v6 v7 (.bool false) v9 v10 v11 v12 v13 v14 v15 v16 v17 v4 (upd l 3) u2 := by
  have _ := hn
  refine ⟨S.base.trans (hB.mono S.base.size),
   fun h => S.f0 (upd_old (by decide) h),
   fun h => S.f1 (upd_old (by decide) h),
   fun h => S.f2 (upd_old (by decide) h),
   fun _ => rfl,
   fun h => S.f4 (upd_old (by decide) h),
   fun h => S.f5 (upd_old (by decide) h),
   fun h => S.f6 (upd_old (by decide) h),
   fun h => S.f7 (upd_old (by decide) h),
   fun h => S.f8 (upd_old (by decide) h),
   fun h => S.f9 (upd_old (by decide) h),
   fun h => S.f10 (upd_old (by decide) h),
   fun h => S.f11 (upd_old (by decide) h),
   fun h => S.f12 (upd_old (by decide) h),
   fun h => S.f13 (upd_old (by decide) h)⟩
theorem SF1.s4 {W : World} {X V P5 : Value} {v5 v6 v7 v8 v9 v10 v11 v12 v13 v14 v15 v16 v17 v4 : Value} {l : Nat → Bool} {u : World} (S : SF1 W X V P5 v5 v6 v7 v8 v9 v10 v11 v12 v13 v14 v15 v16 v17 v4 l u) (hn : l 4 = false) : SF1 W X V P5 v5 v6 v7 v8 (.bool false) v10 v11 v12 v13 v14 v15 v16 v17 v4 (upd l 4) u := by
  have _ := hn
  refine ⟨S.base,
   fun h => S.f0 (upd_old (by decide) h),
   fun h => S.f1 (upd_old (by decide) h),
   fun h => S.f2 (upd_old (by decide) h),
   fun h => S.f3 (upd_old (by decide) h),
   fun _ => rfl,
   fun h => S.f5 (upd_old (by decide) h),
   fun h => S.f6 (upd_old (by decide) h),
   fun h => S.f7 (upd_old (by decide) h),
   fun h => S.f8 (upd_old (by decide) h),
   fun h => S.f9 (upd_old (by decide) h),
   fun h => S.f10 (upd_old (by decide) h),
   fun h => S.f11 (upd_old (by decide) h),
   fun h => S.f12 (upd_old (by decide) h),
   fun h => S.f13 (upd_old (by decide) h)⟩
theorem SF1.s5 {W : World} {X V P5 : Value} {v5 v6 v7 v8 v9 v10 v11 v12 v13 v14 v15 v16 v17 v4 : Value} {l : Nat → Bool} {u : World} (S : SF1 W X V P5 v5 v6 v7 v8 v9 v10 v11 v12 v13 v14 v15 v16 v17 v4 l u) (hn : l 5 = false) : SF1 W X V P5 v5 v6 v7 v8 v9 undef v11 v12 v13 v14 v15 v16 v17 v4 (upd l 5) u := by
  have _ := hn
  refine ⟨S.base,
   fun h => S.f0 (upd_old (by decide) h),
   fun h => S.f1 (upd_old (by decide) h),
   fun h => S.f2 (upd_old (by decide) h),
   fun h => S.f3 (upd_old (by decide) h),
   fun h => S.f4 (upd_old (by decide) h),
   fun _ => rfl,
   fun h => S.f6 (upd_old (by decide) h),
   fun h => S.f7 (upd_old (by decide) h),
   fun h => S.f8 (upd_old (by decide) h),
   fun h => S.f9 (upd_old (by decide) h),
   fun h => S.f10 (upd_old (by decide) h),
   fun h => S.f11 (upd_old (by decide) h),
   fun h => S.f12 (upd_old (by decide) h),
   fun h => S.f13 (upd_old (by decide) h)⟩
theorem SF1.s6 {W : World} {X V P5 : Value} {v5 v6 v7 v8 v9 v10 v11 v12 v13 v14 v15 v16 v17 v4 : Value} {l : Nat → Bool} {u : World} (S : SF1 W X V P5 v5 v6 v7 v8 v9 v10 v11 v12 v13 v14 v15 v16 v17 v4 l u) (hn : l 6 = false) : SF1 W X V P5 v5 v6 v7 v8 v9 v10 undef v12 v13 v14 v15 v16 v17 v4 (upd l 6) u := by
  have _ := hn
  refine ⟨S.base,
   fun h => S.f0 (upd_old (by decide) h),
   fun h => S.f1 (upd_old (by decide) h),
   fun h => S.f2 (upd_old (by decide) h),
   fun h => S.f3 (upd_old (by decide) h),
   fun h => S.f4 (upd_old (by decide) h),
   fun h => S.f5 (upd_old (by decide) h),
   fun _ => rfl,
   fun h => S.f7 (upd_old (by decide) h),
   fun h => S.f8 (upd_old (by decide) h),
   fun h => S.f9 (upd_old (by decide) h),
   fun h => S.f10 (upd_old (by decide) h),
   fun h => S.f11 (upd_old (by decide) h),
   fun h => S.f12 (upd_old (by decide) h),
   fun h => S.f13 (upd_old (by decide) h)⟩
theorem SF1.s7 {W : World} {X V P5 : Value} {v5 v6 v7 v8 v9 v10 v11 v12 v13 v14 v15 v16 v17 v4 : Value} {l : Nat → Bool} {u : World} (S : SF1 W X V P5 v5 v6 v7 v8 v9 v10 v11 v12 v13 v14 v15 v16 v17 v4 l u) (hn : l 7 = false) : SF1 W X V P5 v5 v6 v7 v8 v9 v10 v11 undef v13 v14 v15 v16 v17 v4 (upd l 7) u := by
  have _ := hn
  refine ⟨S.base,
   fun h => S.f0 (upd_old (by decide) h),
   fun h => S.f1 (upd_old (by decide) h),
   fun h => S.f2 (upd_old (by decide) h),
   fun h => S.f3 (upd_old (by decide) h),
   fun h => S.f4 (upd_old (by decide) h),
   fun h => S.f5 (upd_old (by decide) h),
   fun h => S.f6 (upd_old (by decide) h),
   fun _ => rfl,
   fun h => S.f8 (upd_old (by decide) h),
   fun h => S.f9 (upd_old (by decide) h),
   fun h => S.f10 (upd_old (by decide) h),
   fun h => S.f11 (upd_old (by decide) h),
   fun h => S.f12 (upd_old (by decide) h),
   fun h => S.f13 (upd_old (by decide) h)⟩
theorem SF1.s8 {W : World} {X V P5 : Value} {v5 v6 v7 v8 v9 v10 v11 v12 v13 v14 v15 v16 v17 v4 : Value} {l : Nat → Bool} {u : World} (S : SF1 W X V P5 v5 v6 v7 v8 v9 v10 v11 v12 v13 v14 v15 v16 v17 v4 l u) (hn : l 8 = false) : SF1 W X V P5 v5 v6 v7 v8 v9 v10 v11 v12 undef v14 v15 v16 v17 v4 (upd l 8) u := by
  have _ := hn
  refine ⟨S.base,
   fun h => S.f0 (upd_old (by decide) h),
   fun h => S.f1 (upd_old (by decide) h),
   fun h => S.f2 (upd_old (by decide) h),
   fun h => S.f3 (upd_old (by decide) h),
   fun h => S.f4 (upd_old (by decide) h),
   fun h => S.f5 (upd_old (by decide) h),
   fun h => S.f6 (upd_old (by decide) h),
   fun h => S.f7 (upd_old (by decide) h),
   fun _ => rfl,
   fun h => S.f9 (upd_old (by decide) h),
   fun h => S.f10 (upd_old (by decide) h),
   fun h => S.f11 (upd_old (by decide) h),
   fun h => S.f12 (upd_old (by decide) h),
   fun h => S.f13 (upd_old (by decide) h)⟩
theorem SF1.s9 {W : World} {X V P5 : Value} {v5 v6 v7 v8 v9 v10 v11 v12 v13 v14 v15 v16 v17 v4 : Value} {l : Nat → Bool} {u : World} (S : SF1 W X V P5 v5 v6 v7 v8 v9 v10 v11 v12 v13 v14 v15 v16 v17 v4 l u) (hn : l 9 = false) : SF1 W X V P5 v5 v6 v7 v8 v9 v10 v11 v12 v13 undef v15 v16 v17 v4 (upd l 9) u := by
  have _ := hn
  refine ⟨S.base,
   fun h => S.f0 (upd_old (by decide) h),
   fun h => S.f1 (upd_old (by decide) h),
   fun h => S.f2 (upd_old (by decide) h),
   fun h => S.f3 (upd_old (by decide) h),
   fun h => S.f4 (upd_old (by decide) h),
   fun h => S.f5 (upd_old (by decide) h),
   fun h => S.f6 (upd_old (by decide) h),
   fun h => S.f7 (upd_old (by decide) h),
   fun h => S.f8 (upd_old (by decide) h),
   fun _ => rfl,
   fun h => S.f10 (upd_old (by decide) h),
   fun h => S.f11 (upd_old (by decide) h),
   fun h => S.f12 (upd_old (by decide) h),
   fun h => S.f13 (upd_old (by decide) h)⟩
theorem SF1.s10 {W : World} {X V P5 : Value} {v5 v6 v7 v8 v9 v10 v11 v12 v13 v14 v15 v16 v17 v4 : Value} {l : Nat → Bool} {u : World} (S : SF1 W X V P5 v5 v6 v7 v8 v9 v10 v11 v12 v13 v14 v15 v16 v17 v4 l u) (hn : l 10 = false) : SF1 W X V P5 v5 v6 v7 v8 v9 v10 v11 v12 v13 v14 undef v16 v17 v4 (upd l 10) u := by
  have _ := hn
  refine ⟨S.base,
   fun h => S.f0 (upd_old (by decide) h),
   fun h => S.f1 (upd_old (by decide) h),
   fun h => S.f2 (upd_old (by decide) h),
   fun h => S.f3 (upd_old (by decide) h),
   fun h => S.f4 (upd_old (by decide) h),
   fun h => S.f5 (upd_old (by decide) h),
   fun h => S.f6 (upd_old (by decide) h),
   fun h => S.f7 (upd_old (by decide) h),
   fun h => S.f8 (upd_old (by decide) h),
   fun h => S.f9 (upd_old (by decide) h),
   fun _ => rfl,
   fun h => S.f11 (upd_old (by decide) h),
   fun h => S.f12 (upd_old (by decide) h),
   fun h => S.f13 (upd_old (by decide) h)⟩
theorem SF1.s11 {W : World} {X V P5 : Value} {v5 v6 v7 v8 v9 v10 v11 v12 v13 v14 v15 v16 v17 v4 : Value} {l : Nat → Bool} {u : World} (S : SF1 W X V P5 v5 v6 v7 v8 v9 v10 v11 v12 v13 v14 v15 v16 v17 v4 l u) (hn : l 11 = false) : SF1 W X V P5 v5 v6 v7 v8 v9 v10 v11 v12 v13 v14 v15 undef v17 v4 (upd l 11) u := by
  have _ := hn
  refine ⟨S.base,
   fun h => S.f0 (upd_old (by decide) h),
   fun h => S.f1 (upd_old (by decide) h),
   fun h => S.f2 (upd_old (by decide) h),
   fun h => S.f3 (upd_old (by decide) h),
   fun h => S.f4 (upd_old (by decide) h),
   fun h => S.f5 (upd_old (by decide) h),
   fun h => S.f6 (upd_old (by decide) h),
   fun h => S.f7 (upd_old (by decide) h),
   fun h => S.f8 (upd_old (by decide) h),
   fun h => S.f9 (upd_old (by decide) h),
   fun h => S.f10 (upd_old (by decide) h),
   fun _ => rfl,
   fun h => S.f12 (upd_old (by decide) h),
   fun h => S.f13 (upd_old (by decide) h)⟩
theorem SF1.s12 {W : World} {X V P5 : Value} {v5 v6 v7 v8 v9 v10 v11 v12 v13 v14 v15 v16 v17 v4 : Value} {l : Nat → Bool} {u : World} (S : SF1 W X V P5 v5 v6 v7 v8 v9 v10 v11 v12 v13 v14 v15 v16 v17 v4 l u) (hn : l 12 = false) : SF1 W X V P5 v5 v6 v7 v8 v9 v10 v11 v12 v13 v14 v15 v16 (.bool false) v4 (upd l 12) u := by
  have _ := hn
  refine ⟨S.base,
   fun h => S.f0 (upd_old (by decide) h),
   fun h => S.f1 (upd_old (by decide) h),
   fun h => S.f2 (upd_old (by decide) h),
   fun h => S.f3 (upd_old (by decide) h),
   fun h => S.f4 (upd_old (by decide) h),
   fun h => S.f5 (upd_old (by decide) h),
   fun h => S.f6 (upd_old (by decide) h),
   fun h => S.f7 (upd_old (by decide) h),
   fun h => S.f8 (upd_old (by decide) h),
   fun h => S.f9 (upd_old (by decide) h),
   fun h => S.f10 (upd_old (by decide) h),
   fun h => S.f11 (upd_old (by decide) h),
   fun _ => rfl,
   fun h => S.f13 (upd_old (by decide) h)⟩
theorem SF1.s13 {W : World} {X V P5 : Value} {v5 v6 v7 v8 v9 v10 v11 v12 v13 v14 v15 v16 v17 v4 : Value} {l : Nat → Bool} {u : World} (S : SF1 W X V P5 v5 v6 v7 v8 v9 v10 v11 v12 v13 v14 v15 v16 v17 v4 l u) (hn : l 13 = false) : SF1 W X V P5 v5 v6 v7 v8 v9 v10 v11 v12 v13 v14 v15 v16 v17 (.bool false) (upd l 13) u := by
  have _ := hn
  refine ⟨S.base,
   fun h => S.f0 (upd_old (by decide) h),
   fun h => S.f1 (upd_old (by decide) h),
   fun h => S.f2 (upd_old (by decide) h),
   fun h => S.f3 (upd_old (by decide) h),
   fun h => S.f4 (upd_old (by decide) h),
   fun h => S.f5 (upd_old (by decide) h),
   fun h => S.f6 (upd_old (by decide) h),
   fun h => S.f7 (upd_old (by decide) h),
   fun h => S.f8 (upd_old (by decide) h),
   fun h => S.f9 (upd_old (by decide) h),
   fun h => S.f10 (upd_old (by decide) h),
   fun h => S.f11 (upd_old (by decide) h),
   fun h => S.f12 (upd_old (by decide) h),
   fun _ => rfl⟩
structure ST1 (W : World) (X V P5 F QA Y B : Value) (v5 v6 v7 v8 v9 v10 v11 v12 v13 v14 v15 v16 v17 v4 : Value) (l : Nat → Bool) (u : World) : Prop where
  base : Below W.heap.size W u
  f0 : l 0 = true → v5 = P5
  f1 : l 1 = true → v6 = X
  f2 : l 2 = true → v7 = V
  f3 : l 3 = true → v8 = (.bool true)
  f4 : l 4 = true → v9 = (.bool true)
  f5 : l 5 = true → v10 = F
  f6 : l 6 = true → v11 = P5
  f7 : l 7 = true → v12 = X
  f8 : l 8 = true → v13 = V
  f9 : l 9 = true → v14 = QA
  f10 : l 10 = true → v15 = Y
  f11 : l 11 = true → v16 = B
  f12 : l 12 = true → v17 = B
  f13 : l 13 = true → v4 = B
structure GST1 where
  (v5 v6 v7 v8 v9 v10 v11 v12 v13 v14 v15 v16 v17 v4 : Value)
def putST1 (g : GST1) (tm : Array Value) : Array Value := ((((((((((((((((((((((((((((tm).setIfInBounds 5 g.v5)).setIfInBounds 6 g.v6)).setIfInBounds 7 g.v7)).setIfInBounds 8 g.v8)).setIfInBounds 9 g.v9)).setIfInBounds 10 g.v10)).setIfInBounds 11 g.v11)).setIfInBounds 12 g.v12)).setIfInBounds 13 g.v13)).setIfInBounds 14 g.v14)).setIfInBounds 15 g.v15)).setIfInBounds 16 g.v16)).setIfInBounds 17 g.v17)).setIfInBounds 4 g.v4)
def JST1 (W : World) (X V P5 F QA Y B : Value) (g : GST1) (l : Nat → Bool) (u : World) : Prop := ST1 W X V P5 F QA Y B g.v5 g.v6 g.v7 g.v8 g.v9 g.v10 g.v11 g.v12 g.v13 g.v14 g.v15 g.v16 g.v17 g.v4 l u
theorem ST1.s0 {W : World} {X V P5 F QA Y B : Value} {v5 v6 v7 v8 v9 v10 v11 v12 v13 v14 v15 v16 v17 v4 : Value} {l : Nat → Bool} {u : World} (S : ST1 W X V P5 F QA Y B v5 v6 v7 v8 v9 v10 v11 v12 v13 v14 v15 v16 v17 v4 l u) (hn : l 0 = false) : ST1 W X V P5 F QA Y B P5 v6 v7 v8 v9 v10 v11 v12 v13 v14 v15 v16 v17 v4 (upd l 0) u := by
  have _ := hn
  refine ⟨S.base,
   fun _ => rfl,
   fun h => S.f1 (upd_old (by decide) h),
   fun h => S.f2 (upd_old (by decide) h),
   fun h => S.f3 (upd_old (by decide) h),
   fun h => S.f4 (upd_old (by decide) h),
   fun h => S.f5 (upd_old (by decide) h),
   fun h => S.f6 (upd_old (by decide) h),
   fun h => S.f7 (upd_old (by decide) h),
   fun h => S.f8 (upd_old (by decide) h),
   fun h => S.f9 (upd_old (by decide) h),
   fun h => S.f10 (upd_old (by decide) h),
   fun h => S.f11 (upd_old (by decide) h),
   fun h => S.f12 (upd_old (by decide) h),
   fun h => S.f13 (upd_old (by decide) h)⟩
theorem ST1.s1 {W : World} {X V P5 F QA Y B : Value} {v5 v6 v7 v8 v9 v10 v11 v12 v13 v14 v15 v16 v17 v4 : Value} {l : Nat → Bool} {u : World} (S : ST1 W X V P5 F QA Y B v5 v6 v7 v8 v9 v10 v11 v12 v13 v14 v15 v16 v17 v4 l u) (hn : l 1 = false) : ST1 W X V P5 F QA Y B v5 X v7 v8 v9 v10 v11 v12 v13 v14 v15 v16 v17 v4 (upd l 1) u := by
  have _ := hn
  refine ⟨S.base,
   fun h => S.f0 (upd_old (by decide) h),
   fun _ => rfl,
   fun h => S.f2 (upd_old (by decide) h),
   fun h => S.f3 (upd_old (by decide) h),
   fun h => S.f4 (upd_old (by decide) h),
   fun h => S.f5 (upd_old (by decide) h),
   fun h => S.f6 (upd_old (by decide) h),
   fun h => S.f7 (upd_old (by decide) h),
   fun h => S.f8 (upd_old (by decide) h),
   fun h => S.f9 (upd_old (by decide) h),
   fun h => S.f10 (upd_old (by decide) h),
   fun h => S.f11 (upd_old (by decide) h),
   fun h => S.f12 (upd_old (by decide) h),
   fun h => S.f13 (upd_old (by decide) h)⟩
theorem ST1.s2 {W : World} {X V P5 F QA Y B : Value} {v5 v6 v7 v8 v9 v10 v11 v12 v13 v14 v15 v16 v17 v4 : Value} {l : Nat → Bool} {u : World} (S : ST1 W X V P5 F QA Y B v5 v6 v7 v8 v9 v10 v11 v12 v13 v14 v15 v16 v17 v4 l u) (hn : l 2 = false) : ST1 W X V P5 F QA Y B v5 v6 V v8 v9 v10 v11 v12 v13 v14 v15 v16 v17 v4 (upd l 2) u := by
  have _ := hn
  refine ⟨S.base,
   fun h => S.f0 (upd_old (by decide) h),
   fun h => S.f1 (upd_old (by decide) h),
   fun _ => rfl,
   fun h => S.f3 (upd_old (by decide) h),
   fun h => S.f4 (upd_old (by decide) h),
   fun h => S.f5 (upd_old (by decide) h),
   fun h => S.f6 (upd_old (by decide) h),
   fun h => S.f7 (upd_old (by decide) h),
   fun h => S.f8 (upd_old (by decide) h),
   fun h => S.f9 (upd_old (by decide) h),
   fun h => S.f10 (upd_old (by decide) h),
   fun h => S.f11 (upd_old (by decide) h),
   fun h => S.f12 (upd_old (by decide) h),
   fun h => S.f13 (upd_old (by decide) h)⟩
theorem ST1.s3 {W : World} {X V P5 F QA Y B : Value} {v5 v6 v7 v8 v9 v10 v11 v12 v13 v14 v15 v16 v17 v4 : Value} {l : Nat → Bool} {u : World} (S : ST1 W X V P5 F QA Y B v5 v6 v7 v8 v9 v10 v11 v12 v13 v14 v15 v16 v17 v4 l u) (hn : l 3 = false) {u2 : World} (hB : Below u.heap.size u u2) : ST1 W X V P5 F QA Y B v5 v6 v7 (.bool true) v9 v10 v11 v12 v13 v14 v15 v16 v17 v4 (upd l 3) u2 := by
  have _ := hn
  refine ⟨S.base.trans (hB.mono S.base.size),
   fun h => S.f0 (upd_old (by decide) h),
   fun h => S.f1 (upd_old (by decide) h),
   fun h => S.f2 (upd_old (by decide) h),
   fun _ => rfl,
   fun h => S.f4 (upd_old (by decide) h),
   fun h => S.f5 (upd_old (by decide) h),
   fun h => S.f6 (upd_old (by decide) h),
   fun h => S.f7 (upd_old (by decide) h),
   fun h => S.f8 (upd_old (by decide) h),
   fun h => S.f9 (upd_old (by decide) h),
   fun h => S.f10 (upd_old (by decide) h),
   fun h => S.f11 (upd_old (by decide) h),
   fun h => S.f12 (upd_old (by decide) h),
   fun h => S.f13 (upd_old (by decide) h)⟩
theorem ST1.s4 {W : World} {X V P5 F QA Y B : Value} {v5 v6 v7 v8 v9 v10 v11 v12 v13 v14 v15 v16 v17 v4 : Value} {l : Nat → Bool} {u : World} (S : ST1 W X V P5 F QA Y B v5 v6 v7 v8 v9 v10 v11 v12 v13 v14 v15 v16 v17 v4 l u) (hn : l 4 = false) : ST1 W X V P5 F QA Y B v5 v6 v7 v8 (.bool true) v10 v11 v12 v13 v14 v15 v16 v17 v4 (upd l 4) u := by
  have _ := hn
  refine ⟨S.base,
   fun h => S.f0 (upd_old (by decide) h),
   fun h => S.f1 (upd_old (by decide) h),
   fun h => S.f2 (upd_old (by decide) h),
   fun h => S.f3 (upd_old (by decide) h),
   fun _ => rfl,
   fun h => S.f5 (upd_old (by decide) h),
   fun h => S.f6 (upd_old (by decide) h),
   fun h => S.f7 (upd_old (by decide) h),
   fun h => S.f8 (upd_old (by decide) h),
   fun h => S.f9 (upd_old (by decide) h),
   fun h => S.f10 (upd_old (by decide) h),
   fun h => S.f11 (upd_old (by decide) h),
   fun h => S.f12 (upd_old (by decide) h),
   fun h => S.f13 (upd_old (by decide) h)⟩
theorem ST1.s5 {W : World} {X V P5 F QA Y B : Value} {v5 v6 v7 v8 v9 v10 v11 v12 v13 v14 v15 v16 v17 v4 : Value} {l : Nat → Bool} {u : World} (S : ST1 W X V P5 F QA Y B v5 v6 v7 v8 v9 v10 v11 v12 v13 v14 v15 v16 v17 v4 l u) (hn : l 5 = false) : ST1 W X V P5 F QA Y B v5 v6 v7 v8 v9 F v11 v12 v13 v14 v15 v16 v17 v4 (upd l 5) u := by
  have _ := hn
  refine ⟨S.base,
   fun h => S.f0 (upd_old (by decide) h),
   fun h => S.f1 (upd_old (by decide) h),
   fun h => S.f2 (upd_old (by decide) h),
   fun h => S.f3 (upd_old (by decide) h),
   fun h => S.f4 (upd_old (by decide) h),
   fun _ => rfl,
   fun h => S.f6 (upd_old (by decide) h),
   fun h => S.f7 (upd_old (by decide) h),
   fun h => S.f8 (upd_old (by decide) h),
   fun h => S.f9 (upd_old (by decide) h),
   fun h => S.f10 (upd_old (by decide) h),
   fun h => S.f11 (upd_old (by decide) h),
   fun h => S.f12 (upd_old (by decide) h),
   fun h => S.f13 (upd_old (by decide) h)⟩
theorem ST1.s6 {W : World} {X V P5 F QA Y B : Value} {v5 v6 v7 v8 v9 v10 v11 v12 v13 v14 v15 v16 v17 v4 : Value} {l : Nat → Bool} {u : World} (S : ST1 W X V P5 F QA Y B v5 v6 v7 v8 v9 v10 v11 v12 v13 v14 v15 v16 v17 v4 l u) (hn : l 6 = false) : ST1 W X V P5 F QA Y B v5 v6 v7 v8 v9 v10 P5 v12 v13 v14 v15 v16 v17 v4 (upd l 6) u := by
  have _ := hn
  refine ⟨S.base,
   fun h => S.f0 (upd_old (by decide) h),
   fun h => S.f1 (upd_old (by decide) h),
   fun h => S.f2 (upd_old (by decide) h),
   fun h => S.f3 (upd_old (by decide) h),
   fun h => S.f4 (upd_old (by decide) h),
   fun h => S.f5 (upd_old (by decide) h),
   fun _ => rfl,
   fun h => S.f7 (upd_old (by decide) h),
   fun h => S.f8 (upd_old (by decide) h),
   fun h => S.f9 (upd_old (by decide) h),
   fun h => S.f10 (upd_old (by decide) h),
   fun h => S.f11 (upd_old (by decide) h),
   fun h => S.f12 (upd_old (by decide) h),
   fun h => S.f13 (upd_old (by decide) h)⟩
theorem ST1.s7 {W : World} {X V P5 F QA Y B : Value} {v5 v6 v7 v8 v9 v10 v11 v12 v13 v14 v15 v16 v17 v4 : Value} {l : Nat → Bool} {u : World} (S : ST1 W X V P5 F QA Y B v5 v6 v7 v8 v9 v10 v11 v12 v13 v14 v15 v16 v17 v4 l u) (hn : l 7 = false) : ST1 W X V P5 F QA Y B v5 v6 v7 v8 v9 v10 v11 X v13 v14 v15 v16 v17 v4 (upd l 7) u := by
  have _ := hn
  refine ⟨S.base,
   fun h => S.f0 (upd_old (by decide) h),
   fun h => S.f1 (upd_old (by decide) h),
   fun h => S.f2 (upd_old (by decide) h),
   fun h => S.f3 (upd_old (by decide) h),
   fun h => S.f4 (upd_old (by decide) h),
   fun h => S.f5 (upd_old (by decide) h),
   fun h => S.f6 (upd_old (by decide) h),
   fun _ => rfl,
   fun h => S.f8 (upd_old (by decide) h),
   fun h => S.f9 (upd_old (by decide) h),
   fun h => S.f10 (upd_old (by decide) h),
   fun h => S.f11 (upd_old (by decide) h),
   fun h => S.f12 (upd_old (by decide) h),
   fun h => S.f13 (upd_old (by decide) h)⟩
theorem ST1.s8 {W : World} {X V P5 F QA Y B : Value} {v5 v6 v7 v8 v9 v10 v11 v12 v13 v14 v15 v16 v17 v4 : Value} {l : Nat → Bool} {u : World} (S : ST1 W X V P5 F QA Y B v5 v6 v7 v8 v9 v10 v11 v12 v13 v14 v15 v16 v17 v4 l u) (hn : l 8 = false) : ST1 W X V P5 F QA Y B v5 v6 v7 v8 v9 v10 v11 v12 V v14 v15 v16 v17 v4 (upd l 8) u := by
  have _ := hn
  refine ⟨S.base,
   fun h => S.f0 (upd_old (by decide) h),
   fun h => S.f1 (upd_old (by decide) h),
   fun h => S.f2 (upd_old (by decide) h),
   fun h => S.f3 (upd_old (by decide) h),
   fun h => S.f4 (upd_old (by decide) h),
   fun h => S.f5 (upd_old (by decide) h),
   fun h => S.f6 (upd_old (by decide) h),
   fun h => S.f7 (upd_old (by decide) h),
   fun _ => rfl,
   fun h => S.f9 (upd_old (by decide) h),
   fun h => S.f10 (upd_old (by decide) h),
   fun h => S.f11 (upd_old (by decide) h),
   fun h => S.f12 (upd_old (by decide) h),
   fun h => S.f13 (upd_old (by decide) h)⟩
theorem ST1.s9 {W : World} {X V P5 F QA Y B : Value} {v5 v6 v7 v8 v9 v10 v11 v12 v13 v14 v15 v16 v17 v4 : Value} {l : Nat → Bool} {u : World} (S : ST1 W X V P5 F QA Y B v5 v6 v7 v8 v9 v10 v11 v12 v13 v14 v15 v16 v17 v4 l u) (hn : l 9 = false) : ST1 W X V P5 F QA Y B v5 v6 v7 v8 v9 v10 v11 v12 v13 QA v15 v16 v17 v4 (upd l 9) u := by
  have _ := hn
  refine ⟨S.base,
   fun h => S.f0 (upd_old (by decide) h),
   fun h => S.f1 (upd_old (by decide) h),
   fun h => S.f2 (upd_old (by decide) h),
   fun h => S.f3 (upd_old (by decide) h),
   fun h => S.f4 (upd_old (by decide) h),
   fun h => S.f5 (upd_old (by decide) h),
   fun h => S.f6 (upd_old (by decide) h),
   fun h => S.f7 (upd_old (by decide) h),
   fun h => S.f8 (upd_old (by decide) h),
   fun _ => rfl,
   fun h => S.f10 (upd_old (by decide) h),
   fun h => S.f11 (upd_old (by decide) h),
   fun h => S.f12 (upd_old (by decide) h),
   fun h => S.f13 (upd_old (by decide) h)⟩
theorem ST1.s10 {W : World} {X V P5 F QA Y B : Value} {v5 v6 v7 v8 v9 v10 v11 v12 v13 v14 v15 v16 v17 v4 : Value} {l : Nat → Bool} {u : World} (S : ST1 W X V P5 F QA Y B v5 v6 v7 v8 v9 v10 v11 v12 v13 v14 v15 v16 v17 v4 l u) (hn : l 10 = false) : ST1 W X V P5 F QA Y B v5 v6 v7 v8 v9 v10 v11 v12 v13 v14 Y v16 v17 v4 (upd l 10) u := by
  have _ := hn
  refine ⟨S.base,
   fun h => S.f0 (upd_old (by decide) h),
   fun h => S.f1 (upd_old (by decide) h),
   fun h => S.f2 (upd_old (by decide) h),
   fun h => S.f3 (upd_old (by decide) h),
   fun h => S.f4 (upd_old (by decide) h),
   fun h => S.f5 (upd_old (by decide) h),
   fun h => S.f6 (upd_old (by decide) h),
   fun h => S.f7 (upd_old (by decide) h),
   fun h => S.f8 (upd_old (by decide) h),
   fun h => S.f9 (upd_old (by decide) h),
   fun _ => rfl,
   fun h => S.f11 (upd_old (by decide) h),
   fun h => S.f12 (upd_old (by decide) h),
   fun h => S.f13 (upd_old (by decide) h)⟩
theorem ST1.s11 {W : World} {X V P5 F QA Y B : Value} {v5 v6 v7 v8 v9 v10 v11 v12 v13 v14 v15 v16 v17 v4 : Value} {l : Nat → Bool} {u : World} (S : ST1 W X V P5 F QA Y B v5 v6 v7 v8 v9 v10 v11 v12 v13 v14 v15 v16 v17 v4 l u) (hn : l 11 = false) {u2 : World} (hB : Below u.heap.size u u2) : ST1 W X V P5 F QA Y B v5 v6 v7 v8 v9 v10 v11 v12 v13 v14 v15 B v17 v4 (upd l 11) u2 := by
  have _ := hn
  refine ⟨S.base.trans (hB.mono S.base.size),
   fun h => S.f0 (upd_old (by decide) h),
   fun h => S.f1 (upd_old (by decide) h),
   fun h => S.f2 (upd_old (by decide) h),
   fun h => S.f3 (upd_old (by decide) h),
   fun h => S.f4 (upd_old (by decide) h),
   fun h => S.f5 (upd_old (by decide) h),
   fun h => S.f6 (upd_old (by decide) h),
   fun h => S.f7 (upd_old (by decide) h),
   fun h => S.f8 (upd_old (by decide) h),
   fun h => S.f9 (upd_old (by decide) h),
   fun h => S.f10 (upd_old (by decide) h),
   fun _ => rfl,
   fun h => S.f12 (upd_old (by decide) h),
   fun h => S.f13 (upd_old (by decide) h)⟩
theorem ST1.s12 {W : World} {X V P5 F QA Y B : Value} {v5 v6 v7 v8 v9 v10 v11 v12 v13 v14 v15 v16 v17 v4 : Value} {l : Nat → Bool} {u : World} (S : ST1 W X V P5 F QA Y B v5 v6 v7 v8 v9 v10 v11 v12 v13 v14 v15 v16 v17 v4 l u) (hn : l 12 = false) : ST1 W X V P5 F QA Y B v5 v6 v7 v8 v9 v10 v11 v12 v13 v14 v15 v16 B v4 (upd l 12) u := by
  have _ := hn
  refine ⟨S.base,
   fun h => S.f0 (upd_old (by decide) h),
   fun h => S.f1 (upd_old (by decide) h),
   fun h => S.f2 (upd_old (by decide) h),
   fun h => S.f3 (upd_old (by decide) h),
   fun h => S.f4 (upd_old (by decide) h),
   fun h => S.f5 (upd_old (by decide) h),
   fun h => S.f6 (upd_old (by decide) h),
   fun h => S.f7 (upd_old (by decide) h),
   fun h => S.f8 (upd_old (by decide) h),
   fun h => S.f9 (upd_old (by decide) h),
   fun h => S.f10 (upd_old (by decide) h),
   fun h => S.f11 (upd_old (by decide) h),
   fun _ => rfl,
   fun h => S.f13 (upd_old (by decide) h)⟩
theorem ST1.s13 {W : World} {X V P5 F QA Y B : Value} {v5 v6 v7 v8 v9 v10 v11 v12 v13 v14 v15 v16 v17 v4 : Value} {l : Nat → Bool} {u : World} (S : ST1 W X V P5 F QA Y B v5 v6 v7 v8 v9 v10 v11 v12 v13 v14 v15 v16 v17 v4 l u) (hn : l 13 = false) : ST1 W X V P5 F QA Y B v5 v6 v7 v8 v9 v10 v11 v12 v13 v14 v15 v16 v17 B (upd l 13) u := by
  have _ := hn
  refine ⟨S.base,
   fun h => S.f0 (upd_old (by decide) h),
   fun h => S.f1 (upd_old (by decide) h),
   fun h => S.f2 (upd_old (by decide) h),
   fun h => S.f3 (upd_old (by decide) h),
   fun h => S.f4 (upd_old (by decide) h),
   fun h => S.f5 (upd_old (by decide) h),
   fun h => S.f6 (upd_old (by decide) h),
   fun h => S.f7 (upd_old (by decide) h),
   fun h => S.f8 (upd_old (by decide) h),
   fun h => S.f9 (upd_old (by decide) h),
   fun h => S.f10 (upd_old (by decide) h),
   fun h => S.f11 (upd_old (by decide) h),
   fun h => S.f12 (upd_old (by decide) h),
   fun _ => rfl⟩
theorem ask_is {nums S : List Int} {x : Int} : (S.any fun z => atB nums x z) = (isPl nums.length x && decide (nums.getD x.toNat 0 ∈ S)) := by
  rw [Bool.eq_iff_iff, List.any_eq_true, Bool.and_eq_true, decide_eq_true_eq]
  unfold isPl
  rw [Bool.and_eq_true, decide_eq_true_eq, decide_eq_true_eq]
  constructor
  · rintro ⟨z, hz, h⟩
    obtain ⟨h1, h2, h3⟩ := atB_iff.1 h
    exact ⟨⟨h1, by omega⟩, by rw [h3]; exact hz⟩
  · rintro ⟨⟨h1, h2⟩, h3⟩
    exact ⟨_, h3, atB_iff.2 ⟨h1, by omega, rfl⟩⟩

set_option maxHeartbeats 4000000 in
theorem asks_any {w : World} {cb ab b o n cn m : Nat} {p : Option Addr} {nums S : List Int} (hn : Nums w p b o n nums) (hc : w.cell? ⟨cb, 5, none⟩ = some (.slice p n cn)) (ha : w.cell? ⟨ab, 0, none⟩ = some (.func (.func 38) #[] #[.pointer (some ⟨m, 0, none⟩)])) (hA : Asked w m S) (hs : ∀ y ∈ nums, -1048576 ≤ y ∧ y ≤ 1048576) (x : Int) :
    Calls Tryd.prog 23 #[.int .i64 x, .pointer (some ⟨cb, 0, none⟩), .pointer (some ⟨ab, 0, none⟩)] w fun e w' => e = .returned (.bool (S.any fun z => atB nums x z)) ∧ Below w.heap.size w w' := by
  rw [ask_is]
  have hl := hn.long
  rw [← hl]
  have HPX := Lib.hid (fun (u : World) => place_any (w := u) (p := p) (n := n) (c := cn) x)
  have HG := Lib.hid (And.intro hc ha)
  have HBZ := Lib.hid (show Below w.heap.size w w.drew from (Below.refl _ _).drew)
  cases hb : isPl n x
  · rw [hb] at HPX
    clear hn hA hs hl hb hc ha
    go_enter Tryd.func23, Tryd.ntmps23
    go_upto_region 1 with fail
    go_cut [4] (fun r wx => r = .bool false ∧ Below w.heap.size w wx)
    case first =>
      refine wp_region_at (γ := GSF1) (JSF1 w (.slice p n cn) (.int .i64 x) (.pointer (some ⟨cb, 5, none⟩))) putSF1 ⟨undef, undef, undef, undef, undef, undef, undef, undef, undef, undef, undef, undef, undef, .bool false⟩ ?hm ?ho ?hput ?h0 ?hs ?hd
      case hm => kernel_rfl
      case ho => kernel_rfl
      case hput => (simp only [putSF1, List.setIfInBounds_toArray, List.set_cons_zero, List.set_cons_succ])
      case h0 => exact ⟨HBZ.out, nofun, nofun, nofun, nofun, nofun, nofun, nofun, nofun, nofun, nofun, nofun, nofun, nofun, nofun⟩
      case hs =>
        as_aux_lemma =>
        refine ⟨?s0, ?s1, ?s2, ?s3, ?s4, ?s5, ?s6, ?s7, ?s8, ?s9, ?s10, ?s11, ?s12, ?s13, trivial⟩
        case s0 =>
          rintro l ⟨v5, v6, v7, v8, v9, v10, v11, v12, v13, v14, v15, v16, v17, v4⟩ u hl haf S K hK
          simp only [JSF1] at S
          refine ⟨?_⟩
          simp only [putSF1, List.setIfInBounds_toArray, List.set_cons_zero, List.set_cons_succ]
          go_simp
          have nx := hK.out ⟨(.pointer (some ⟨cb, 5, none⟩)), v6, v7, v8, v9, v10, v11, v12, v13, v14, v15, v16, v17, v4⟩ u (S.s0 hl)
          clear hK
          simp only [putSF1, List.setIfInBounds_toArray, List.set_cons_zero, List.set_cons_succ] at nx
          exact nx
        case s1 =>
          rintro l ⟨v5, v6, v7, v8, v9, v10, v11, v12, v13, v14, v15, v16, v17, v4⟩ u hl haf S K hK
          simp only [JSF1] at S
          have c0 := cell_below S.base HG.out.1
          obtain rfl := S.f0 (haf 0 (by kernel_rfl))
          refine ⟨?_⟩
          simp only [putSF1, List.setIfInBounds_toArray, List.set_cons_zero, List.set_cons_succ]
          go_simp
          have nx := hK.out ⟨_, (.slice p n cn), v7, v8, v9, v10, v11, v12, v13, v14, v15, v16, v17, v4⟩ u (S.s1 hl)
          clear hK
          simp only [putSF1, List.setIfInBounds_toArray, List.set_cons_zero, List.set_cons_succ] at nx
          exact nx
        case s2 =>
          rintro l ⟨v5, v6, v7, v8, v9, v10, v11, v12, v13, v14, v15, v16, v17, v4⟩ u hl haf S K hK
          simp only [JSF1] at S
          refine ⟨?_⟩
          simp only [putSF1, List.setIfInBounds_toArray, List.set_cons_zero, List.set_cons_succ]
          go_simp
          have nx := hK.out ⟨v5, v6, (.int .i64 x), v8, v9, v10, v11, v12, v13, v14, v15, v16, v17, v4⟩ u (S.s2 hl)
          clear hK
          simp only [putSF1, List.setIfInBounds_toArray, List.set_cons_zero, List.set_cons_succ] at nx
          exact nx
        case s3 =>
          rintro l ⟨v5, v6, v7, v8, v9, v10, v11, v12, v13, v14, v15, v16, v17, v4⟩ u hl haf S K hK
          simp only [JSF1] at S
          obtain rfl := S.f1 (haf 1 (by kernel_rfl))
          obtain rfl := S.f2 (haf 2 (by kernel_rfl))
          refine ⟨?_⟩
          simp only [putSF1, List.setIfInBounds_toArray, List.set_cons_zero, List.set_cons_succ]
          go_simp
          refine (HPX.out _).mono ?_
          rintro e u2 ⟨rfl, hB⟩
          have nx := hK.out ⟨v5, _, _, (.bool false), v9, v10, v11, v12, v13, v14, v15, v16, v17, v4⟩ u2 (S.s3 hl hB)
          clear hK
          simp only [putSF1, List.setIfInBounds_toArray, List.set_cons_zero, List.set_cons_succ] at nx
          exact nx
        case s4 =>
          rintro l ⟨v5, v6, v7, v8, v9, v10, v11, v12, v13, v14, v15, v16, v17, v4⟩ u hl haf S K hK
          simp only [JSF1] at S
          obtain rfl := S.f3 (haf 3 (by kernel_rfl))
          refine ⟨?_⟩
          simp only [putSF1, List.setIfInBounds_toArray, List.set_cons_zero, List.set_cons_succ]
          go_simp
          have nx := hK.out ⟨v5, v6, v7, _, (.bool false), v10, v11, v12, v13, v14, v15, v16, v17, v4⟩ u (S.s4 hl)
          clear hK
          simp only [putSF1, List.setIfInBounds_toArray, List.set_cons_zero, List.set_cons_succ] at nx
          exact nx
        case s5 =>
          rintro l ⟨v5, v6, v7, v8, v9, v10, v11, v12, v13, v14, v15, v16, v17, v4⟩ u hl haf S K hK
          simp only [JSF1] at S
          obtain rfl := S.f4 (haf 4 (by kernel_rfl))
          refine ⟨?_⟩
          simp only [putSF1, List.setIfInBounds_toArray, List.set_cons_zero, List.set_cons_succ]
          go_simp
          have nx := hK.out ⟨v5, v6, v7, v8, _, undef, v11, v12, v13, v14, v15, v16, v17, v4⟩ u (S.s5 hl)
          clear hK
          simp only [putSF1, List.setIfInBounds_toArray, List.set_cons_zero, List.set_cons_succ] at nx
          exact nx
        case s6 =>
          rintro l ⟨v5, v6, v7, v8, v9, v10, v11, v12, v13, v14, v15, v16, v17, v4⟩ u hl haf S K hK
          simp only [JSF1] at S
          obtain rfl := S.f4 (haf 4 (by kernel_rfl))
          refine ⟨?_⟩
          simp only [putSF1, List.setIfInBounds_toArray, List.set_cons_zero, List.set_cons_succ]
          go_simp
          have nx := hK.out ⟨v5, v6, v7, v8, _, v10, undef, v12, v13, v14, v15, v16, v17, v4⟩ u (S.s6 hl)
          clear hK
          simp only [putSF1, List.setIfInBounds_toArray, List.set_cons_zero, List.set_cons_succ] at nx
          exact nx
        case s7 =>
          rintro l ⟨v5, v6, v7, v8, v9, v10, v11, v12, v13, v14, v15, v16, v17, v4⟩ u hl haf S K hK
          simp only [JSF1] at S
          obtain rfl := S.f4 (haf 4 (by kernel_rfl))
          refine ⟨?_⟩
          simp only [putSF1, List.setIfInBounds_toArray, List.set_cons_zero, List.set_cons_succ]
          go_simp
          have nx := hK.out ⟨v5, v6, v7, v8, _, v10, v11, undef, v13, v14, v15, v16, v17, v4⟩ u (S.s7 hl)
          clear hK
          simp only [putSF1, List.setIfInBounds_toArray, List.set_cons_zero, List.set_cons_succ] at nx
          exact nx
        case s8 =>
          rintro l ⟨v5, v6, v7, v8, v9, v10, v11, v12, v13, v14, v15, v16, v17, v4⟩ u hl haf S K hK
          simp only [JSF1] at S
          obtain rfl := S.f4 (haf 4 (by kernel_rfl))
          refine ⟨?_⟩
          simp only [putSF1, List.setIfInBounds_toArray, List.set_cons_zero, List.set_cons_succ]
          go_simp
          have nx := hK.out ⟨v5, v6, v7, v8, _, v10, v11, v12, undef, v14, v15, v16, v17, v4⟩ u (S.s8 hl)
          clear hK
          simp only [putSF1, List.setIfInBounds_toArray, List.set_cons_zero, List.set_cons_succ] at nx
          exact nx
        case s9 =>
          rintro l ⟨v5, v6, v7, v8, v9, v10, v11, v12, v13, v14, v15, v16, v17, v4⟩ u hl haf S K hK
          simp only [JSF1] at S
          obtain rfl := S.f4 (haf 4 (by kernel_rfl))
          refine ⟨?_⟩
          simp only [putSF1, List.setIfInBounds_toArray, List.set_cons_zero, List.set_cons_succ]
          go_simp
          have nx := hK.out ⟨v5, v6, v7, v8, _, v10, v11, v12, v13, undef, v15, v16, v17, v4⟩ u (S.s9 hl)
          clear hK
          simp only [putSF1, List.setIfInBounds_toArray, List.set_cons_zero, List.set_cons_succ] at nx
          exact nx
        case s10 =>
          rintro l ⟨v5, v6, v7, v8, v9, v10, v11, v12, v13, v14, v15, v16, v17, v4⟩ u hl haf S K hK
          simp only [JSF1] at S
          obtain rfl := S.f4 (haf 4 (by kernel_rfl))
          refine ⟨?_⟩
          simp only [putSF1, List.setIfInBounds_toArray, List.set_cons_zero, List.set_cons_succ]
          go_simp
          have nx := hK.out ⟨v5, v6, v7, v8, _, v10, v11, v12, v13, v14, undef, v16, v17, v4⟩ u (S.s10 hl)
          clear hK
          simp only [putSF1, List.setIfInBounds_toArray, List.set_cons_zero, List.set_cons_succ] at nx
          exact nx
        case s11 =>
          rintro l ⟨v5, v6, v7, v8, v9, v10, v11, v12, v13, v14, v15, v16, v17, v4⟩ u hl haf S K hK
          simp only [JSF1] at S
          obtain rfl := S.f4 (haf 4 (by kernel_rfl))
          refine ⟨?_⟩
          simp only [putSF1, List.setIfInBounds_toArray, List.set_cons_zero, List.set_cons_succ]
          go_simp
          have nx := hK.out ⟨v5, v6, v7, v8, _, v10, v11, v12, v13, v14, v15, undef, v17, v4⟩ u (S.s11 hl)
          clear hK
          simp only [putSF1, List.setIfInBounds_toArray, List.set_cons_zero, List.set_cons_succ] at nx
          exact nx
        case s12 =>
          rintro l ⟨v5, v6, v7, v8, v9, v10, v11, v12, v13, v14, v15, v16, v17, v4⟩ u hl haf S K hK
          simp only [JSF1] at S
          obtain rfl := S.f4 (haf 4 (by kernel_rfl))
          refine ⟨?_⟩
          simp only [putSF1, List.setIfInBounds_toArray, List.set_cons_zero, List.set_cons_succ]
          go_simp
          have nx := hK.out ⟨v5, v6, v7, v8, _, v10, v11, v12, v13, v14, v15, v16, (.bool false), v4⟩ u (S.s12 hl)
          clear hK
          simp only [putSF1, List.setIfInBounds_toArray, List.set_cons_zero, List.set_cons_succ] at nx
          exact nx
        case s13 =>
          rintro l ⟨v5, v6, v7, v8, v9, v10, v11, v12, v13, v14, v15, v16, v17, v4⟩ u hl haf S K hK
          simp only [JSF1] at S
          obtain rfl := S.f12 (haf 12 (by kernel_rfl))
          refine ⟨?_⟩
          simp only [putSF1, List.setIfInBounds_toArray, List.set_cons_zero, List.set_cons_succ]
          go_simp
          have nx := hK.out ⟨v5, v6, v7, v8, v9, v10, v11, v12, v13, v14, v15, v16, _, (.bool false)⟩ u (S.s13 hl)
          clear hK
          simp only [putSF1, List.setIfInBounds_toArray, List.set_cons_zero, List.set_cons_succ] at nx
          exact nx
      case hd =>
        rintro ⟨v5, v6, v7, v8, v9, v10, v11, v12, v13, v14, v15, v16, v17, v4⟩ u l hall S
        simp only [JSF1] at S
        have HB9 := Lib.hid S.base
        have h4 := S.f13 (hall 13 (by decide))
        refine ⟨?_⟩
        simp only [putSF1, List.setIfInBounds_toArray, List.set_cons_zero, List.set_cons_succ]
        rw [h4]
        clear S
        go_wp2_with fail
        go_meet
        exact ⟨rfl, HB9.out⟩
    case rest =>
      obtain ⟨rfl, hB⟩ := hcut
      go_wp2_with fail
      go_ret
      exact ⟨rfl, hB⟩
  · have hb2 := hb
    rw [hb] at HPX
    unfold isPl at hb2
    rw [Bool.and_eq_true, decide_eq_true_eq, decide_eq_true_eq] at hb2
    obtain ⟨hx0, hxn⟩ := hb2
    obtain ⟨q, rfl⟩ := Int.eq_ofNat_of_zero_le hx0
    obtain rfl := hn.at_ (by omega)
    have HCQ := Lib.hid (hn.cell q (by omega))
    rw [Int.toNat_natCast, Bool.true_and]
    have hyn : nums.getD q 0 ∈ nums := St.getD_mem (by omega)
    obtain ⟨y, hy⟩ : ∃ y, y = nums.getD q 0 := ⟨_, rfl⟩
    rw [← hy] at HCQ hyn ⊢
    have HQY := Lib.hid (fun (u : World) (hu : Below w.heap.size w u) => asked_any (hA.below hu) (hs y hyn))
    obtain ⟨R, hR⟩ : ∃ R, R = decide (y ∈ S) := ⟨_, rfl⟩
    rw [← hR] at HQY ⊢
    clear hn hA hs hl hb hc ha hy hyn hR
    go_enter Tryd.func23, Tryd.ntmps23
    go_upto_region 1 with fail
    go_cut [4] (fun r wx => r = .bool R ∧ Below w.heap.size w wx)
    case first =>
      refine wp_region_at (γ := GST1) (JST1 w (.slice (some ⟨b, o, none⟩) n cn) (.int .i64 q) (.pointer (some ⟨cb, 5, none⟩)) (.func (.func 38) #[] #[.pointer (some ⟨m, 0, none⟩)]) (.pointer (some ⟨b, o + q, none⟩)) (.int .i64 y) (.bool R)) putST1 ⟨undef, undef, undef, undef, undef, undef, undef, undef, undef, undef, undef, undef, undef, .bool false⟩ ?hm ?ho ?hput ?h0 ?hs ?hd
      case hm => kernel_rfl
      case ho => kernel_rfl
      case hput => (simp only [putST1, List.setIfInBounds_toArray, List.set_cons_zero, List.set_cons_succ])
      case h0 => exact ⟨HBZ.out, nofun, nofun, nofun, nofun, nofun, nofun, nofun, nofun, nofun, nofun, nofun, nofun, nofun, nofun⟩
      case hs =>
        as_aux_lemma =>
        refine ⟨?s0, ?s1, ?s2, ?s3, ?s4, ?s5, ?s6, ?s7, ?s8, ?s9, ?s10, ?s11, ?s12, ?s13, trivial⟩
        case s0 =>
          rintro l ⟨v5, v6, v7, v8, v9, v10, v11, v12, v13, v14, v15, v16, v17, v4⟩ u hl haf S K hK
          simp only [JST1] at S
          refine ⟨?_⟩
          simp only [putST1, List.setIfInBounds_toArray, List.set_cons_zero, List.set_cons_succ]
          go_simp
          have nx := hK.out ⟨(.pointer (some ⟨cb, 5, none⟩)), v6, v7, v8, v9, v10, v11, v12, v13, v14, v15, v16, v17, v4⟩ u (S.s0 hl)
          clear hK
          simp only [putST1, List.setIfInBounds_toArray, List.set_cons_zero, List.set_cons_succ] at nx
          exact nx
        case s1 =>
          rintro l ⟨v5, v6, v7, v8, v9, v10, v11, v12, v13, v14, v15, v16, v17, v4⟩ u hl haf S K hK
          simp only [JST1] at S
          have c0 := cell_below S.base HG.out.1
          obtain rfl := S.f0 (haf 0 (by kernel_rfl))
          refine ⟨?_⟩
          simp only [putST1, List.setIfInBounds_toArray, List.set_cons_zero, List.set_cons_succ]
          go_simp
          have nx := hK.out ⟨_, (.slice (some ⟨b, o, none⟩) n cn), v7, v8, v9, v10, v11, v12, v13, v14, v15, v16, v17, v4⟩ u (S.s1 hl)
          clear hK
          simp only [putST1, List.setIfInBounds_toArray, List.set_cons_zero, List.set_cons_succ] at nx
          exact nx
        case s2 =>
          rintro l ⟨v5, v6, v7, v8, v9, v10, v11, v12, v13, v14, v15, v16, v17, v4⟩ u hl haf S K hK
          simp only [JST1] at S
          refine ⟨?_⟩
          simp only [putST1, List.setIfInBounds_toArray, List.set_cons_zero, List.set_cons_succ]
          go_simp
          have nx := hK.out ⟨v5, v6, (.int .i64 q), v8, v9, v10, v11, v12, v13, v14, v15, v16, v17, v4⟩ u (S.s2 hl)
          clear hK
          simp only [putST1, List.setIfInBounds_toArray, List.set_cons_zero, List.set_cons_succ] at nx
          exact nx
        case s3 =>
          rintro l ⟨v5, v6, v7, v8, v9, v10, v11, v12, v13, v14, v15, v16, v17, v4⟩ u hl haf S K hK
          simp only [JST1] at S
          obtain rfl := S.f1 (haf 1 (by kernel_rfl))
          obtain rfl := S.f2 (haf 2 (by kernel_rfl))
          refine ⟨?_⟩
          simp only [putST1, List.setIfInBounds_toArray, List.set_cons_zero, List.set_cons_succ]
          go_simp
          refine (HPX.out _).mono ?_
          rintro e u2 ⟨rfl, hB⟩
          have nx := hK.out ⟨v5, _, _, (.bool true), v9, v10, v11, v12, v13, v14, v15, v16, v17, v4⟩ u2 (S.s3 hl hB)
          clear hK
          simp only [putST1, List.setIfInBounds_toArray, List.set_cons_zero, List.set_cons_succ] at nx
          exact nx
        case s4 =>
          rintro l ⟨v5, v6, v7, v8, v9, v10, v11, v12, v13, v14, v15, v16, v17, v4⟩ u hl haf S K hK
          simp only [JST1] at S
          obtain rfl := S.f3 (haf 3 (by kernel_rfl))
          refine ⟨?_⟩
          simp only [putST1, List.setIfInBounds_toArray, List.set_cons_zero, List.set_cons_succ]
          go_simp
          have nx := hK.out ⟨v5, v6, v7, _, (.bool true), v10, v11, v12, v13, v14, v15, v16, v17, v4⟩ u (S.s4 hl)
          clear hK
          simp only [putST1, List.setIfInBounds_toArray, List.set_cons_zero, List.set_cons_succ] at nx
          exact nx
        case s5 =>
          rintro l ⟨v5, v6, v7, v8, v9, v10, v11, v12, v13, v14, v15, v16, v17, v4⟩ u hl haf S K hK
          simp only [JST1] at S
          have c0 := cell_below S.base HG.out.2
          obtain rfl := S.f4 (haf 4 (by kernel_rfl))
          refine ⟨?_⟩
          simp only [putST1, List.setIfInBounds_toArray, List.set_cons_zero, List.set_cons_succ]
          go_simp
          have nx := hK.out ⟨v5, v6, v7, v8, _, (.func (.func 38) #[] #[.pointer (some ⟨m, 0, none⟩)]), v11, v12, v13, v14, v15, v16, v17, v4⟩ u (S.s5 hl)
          clear hK
          simp only [putST1, List.setIfInBounds_toArray, List.set_cons_zero, List.set_cons_succ] at nx
          exact nx
        case s6 =>
          rintro l ⟨v5, v6, v7, v8, v9, v10, v11, v12, v13, v14, v15, v16, v17, v4⟩ u hl haf S K hK
          simp only [JST1] at S
          obtain rfl := S.f4 (haf 4 (by kernel_rfl))
          refine ⟨?_⟩
          simp only [putST1, List.setIfInBounds_toArray, List.set_cons_zero, List.set_cons_succ]
          go_simp
          have nx := hK.out ⟨v5, v6, v7, v8, _, v10, (.pointer (some ⟨cb, 5, none⟩)), v12, v13, v14, v15, v16, v17, v4⟩ u (S.s6 hl)
          clear hK
          simp only [putST1, List.setIfInBounds_toArray, List.set_cons_zero, List.set_cons_succ] at nx
          exact nx
        case s7 =>
          rintro l ⟨v5, v6, v7, v8, v9, v10, v11, v12, v13, v14, v15, v16, v17, v4⟩ u hl haf S K hK
          simp only [JST1] at S
          have c0 := cell_below S.base HG.out.1
          obtain rfl := S.f4 (haf 4 (by kernel_rfl))
          obtain rfl := S.f6 (haf 6 (by kernel_rfl))
          refine ⟨?_⟩
          simp only [putST1, List.setIfInBounds_toArray, List.set_cons_zero, List.set_cons_succ]
          go_simp
          have nx := hK.out ⟨v5, v6, v7, v8, _, v10, _, (.slice (some ⟨b, o, none⟩) n cn), v13, v14, v15, v16, v17, v4⟩ u (S.s7 hl)
          clear hK
          simp only [putST1, List.setIfInBounds_toArray, List.set_cons_zero, List.set_cons_succ] at nx
          exact nx
        case s8 =>
          rintro l ⟨v5, v6, v7, v8, v9, v10, v11, v12, v13, v14, v15, v16, v17, v4⟩ u hl haf S K hK
          simp only [JST1] at S
          obtain rfl := S.f4 (haf 4 (by kernel_rfl))
          refine ⟨?_⟩
          simp only [putST1, List.setIfInBounds_toArray, List.set_cons_zero, List.set_cons_succ]
          go_simp
          have nx := hK.out ⟨v5, v6, v7, v8, _, v10, v11, v12, (.int .i64 q), v14, v15, v16, v17, v4⟩ u (S.s8 hl)
          clear hK
          simp only [putST1, List.setIfInBounds_toArray, List.set_cons_zero, List.set_cons_succ] at nx
          exact nx
        case s9 =>
          rintro l ⟨v5, v6, v7, v8, v9, v10, v11, v12, v13, v14, v15, v16, v17, v4⟩ u hl haf S K hK
          simp only [JST1] at S
          obtain rfl := S.f4 (haf 4 (by kernel_rfl))
          obtain rfl := S.f7 (haf 7 (by kernel_rfl))
          obtain rfl := S.f8 (haf 8 (by kernel_rfl))
          refine ⟨?_⟩
          simp only [putST1, List.setIfInBounds_toArray, List.set_cons_zero, List.set_cons_succ]
          go_simp
          have nx := hK.out ⟨v5, v6, v7, v8, _, v10, v11, _, _, (.pointer (some ⟨b, o + q, none⟩)), v15, v16, v17, v4⟩ u (S.s9 hl)
          clear hK
          simp only [putST1, List.setIfInBounds_toArray, List.set_cons_zero, List.set_cons_succ] at nx
          exact nx
        case s10 =>
          rintro l ⟨v5, v6, v7, v8, v9, v10, v11, v12, v13, v14, v15, v16, v17, v4⟩ u hl haf S K hK
          simp only [JST1] at S
          have c0 := cell_below S.base HCQ.out
          obtain rfl := S.f4 (haf 4 (by kernel_rfl))
          obtain rfl := S.f9 (haf 9 (by kernel_rfl))
          refine ⟨?_⟩
          simp only [putST1, List.setIfInBounds_toArray, List.set_cons_zero, List.set_cons_succ]
          go_simp
          have nx := hK.out ⟨v5, v6, v7, v8, _, v10, v11, v12, v13, _, (.int .i64 y), v16, v17, v4⟩ u (S.s10 hl)
          clear hK
          simp only [putST1, List.setIfInBounds_toArray, List.set_cons_zero, List.set_cons_succ] at nx
          exact nx
        case s11 =>
          rintro l ⟨v5, v6, v7, v8, v9, v10, v11, v12, v13, v14, v15, v16, v17, v4⟩ u hl haf S K hK
          simp only [JST1] at S
          obtain rfl := S.f4 (haf 4 (by kernel_rfl))
          obtain rfl := S.f5 (haf 5 (by kernel_rfl))
          obtain rfl := S.f10 (haf 10 (by kernel_rfl))
          refine ⟨?_⟩
          simp only [putST1, List.setIfInBounds_toArray, List.set_cons_zero, List.set_cons_succ]
          go_simp
          refine (HQY.out _ S.base).mono ?_
          rintro e u2 ⟨rfl, hB⟩
          have nx := hK.out ⟨v5, v6, v7, v8, _, _, v11, v12, v13, v14, _, (.bool R), v17, v4⟩ u2 (S.s11 hl hB)
          clear hK
          simp only [putST1, List.setIfInBounds_toArray, List.set_cons_zero, List.set_cons_succ] at nx
          exact nx
        case s12 =>
          rintro l ⟨v5, v6, v7, v8, v9, v10, v11, v12, v13, v14, v15, v16, v17, v4⟩ u hl haf S K hK
          simp only [JST1] at S
          obtain rfl := S.f4 (haf 4 (by kernel_rfl))
          obtain rfl := S.f11 (haf 11 (by kernel_rfl))
          refine ⟨?_⟩
          simp only [putST1, List.setIfInBounds_toArray, List.set_cons_zero, List.set_cons_succ]
          go_simp
          have nx := hK.out ⟨v5, v6, v7, v8, _, v10, v11, v12, v13, v14, v15, _, (.bool R), v4⟩ u (S.s12 hl)
          clear hK
          simp only [putST1, List.setIfInBounds_toArray, List.set_cons_zero, List.set_cons_succ] at nx
          exact nx
        case s13 =>
          rintro l ⟨v5, v6, v7, v8, v9, v10, v11, v12, v13, v14, v15, v16, v17, v4⟩ u hl haf S K hK
          simp only [JST1] at S
          obtain rfl := S.f12 (haf 12 (by kernel_rfl))
          refine ⟨?_⟩
          simp only [putST1, List.setIfInBounds_toArray, List.set_cons_zero, List.set_cons_succ]
          go_simp
          have nx := hK.out ⟨v5, v6, v7, v8, v9, v10, v11, v12, v13, v14, v15, v16, _, (.bool R)⟩ u (S.s13 hl)
          clear hK
          simp only [putST1, List.setIfInBounds_toArray, List.set_cons_zero, List.set_cons_succ] at nx
          exact nx
      case hd =>
        rintro ⟨v5, v6, v7, v8, v9, v10, v11, v12, v13, v14, v15, v16, v17, v4⟩ u l hall S
        simp only [JST1] at S
        have HB9 := Lib.hid S.base
        have h4 := S.f13 (hall 13 (by decide))
        refine ⟨?_⟩
        simp only [putST1, List.setIfInBounds_toArray, List.set_cons_zero, List.set_cons_succ]
        rw [h4]
        clear S
        go_wp2_with fail
        go_meet
        exact ⟨rfl, HB9.out⟩
    case rest =>
      obtain ⟨rfl, hB⟩ := hcut
      go_wp2_with fail
      go_ret
      exact ⟨rfl, hB⟩
end Go.Proofs.YtomcgmeekmfdhaaDoor.Ge
namespace Go.Proofs.YtomcgmeekmfdhaaDoor.Ge
open Go.RowKit St
set_option maxRecDepth 100000

set_option maxHeartbeats 1000000 in
theorem right1_any {u : World} {v1 : Value} {x : List Int × Nat} (hr : rDom u [v1, .int .u64 x.2] x) (hm : x.1.length ≤ 1000) : Calls Tryd.prog 36 #[.agg #[v1, .int .u64 x.2]] u fun e w' => e = .returned (.bool (!Dm.mayL x.1 x.2)) ∧ Below u.heap.size u w' := by
  obtain ⟨h1, h2, _⟩ := rDom_parts hr
  obtain ⟨p, n, c, rfl⟩ := rDom_shape hr
  have h0 := new_below u (.cells #[.slice p n c, .int .u64 x.2] 47)
  have M := Lib.hid (Dm.may_any (Dm.reads_below (Dm.reads_of_readsN h1) h0) (Nat.le_trans hm (by decide)) x.2 h2)
  have HB := Lib.hid h0
  generalize Dm.mayL x.1 x.2 = R at M ⊢
  generalize x.2 = y at M HB ⊢
  clear hr h1 h2 h0
  go_enter Tryd.func36, Tryd.ntmps36
  go_wp2_with fail
  refine M.out.mono ?_
  rintro e w2 ⟨rfl, hB2⟩
  have HB2 := Lib.hid (below_two HB.out hB2)
  clear hB2
  go_wp2_with fail
  go_ret
  exact ⟨rfl, HB2.out⟩

set_option maxHeartbeats 4000000 in
theorem right_any {w : World} {v1 v2 v3 v : Value} {c : PCon} {L : List (List Int × Nat)} (hc : rCon w [.int .i64 c.kind, v1, v2, .int .i64 c.rel, .int .i64 c.const, v3] c) (hs : Short 1000 c) (h : Slc rDom 2 w v L) (hn : L.length ≤ 1000) (hm : ∀ d ∈ L, d.1.length ≤ 1000) :
    Calls Tryd.prog 18 #[.agg #[.int .i64 c.kind, v1, v2, .int .i64 c.rel, .int .i64 c.const, v3], v] w fun e w' => e = .returned (.bool (rightK [4] c L)) ∧ Below w.heap.size w w' := by
  obtain ⟨p, b, off, cc, len, rfl, _, hss⟩ := h
  obtain ⟨W0, hW0⟩ : ∃ W0, W0 = w.alloc (.cells #[.int .i64 c.kind, v1, v2, .int .i64 c.rel, .int .i64 c.const, v3] 24) := ⟨_, rfl⟩
  have hb0 : Below w.heap.size w W0 := by rw [hW0]; exact new_below _ _
  have hc0 : ∀ j u, [Value.int .i64 c.kind, v1, v2, .int .i64 c.rel, .int .i64 c.const, v3][j]? = some u → W0.cell? ⟨w.heap.size, j, none⟩ = some u := fun j u e => by rw [hW0]; exact six_at _ _ _ _ _ _ _ _ j u e
  have HW := Lib.hid hW0
  have HB0 := Lib.hid hb0
  have hl := hss.long
  have RM := Lib.hid (pright_any (len : Int) (rCon_stays _ _ _ _ hb0 hc) hs)
  have HM := Lib.hid (fun (z : World) (hz : Below W0.heap.size W0 z) => hasM_any 36 (enters_of Tryd.func36 (by kernel_rfl) rfl) #[] (fun d => !Dm.mayL d.1 d.2) p b off cc len L z (hss.below rDom_stays (below_two hb0 hz)) (by omega) (fun u x v1 hu hx hrd => right1_any hrd (hm x hx)))
  have hR : rightK [4] c L = ((decide (c.kind = 4) && rightC c len) && !(L.any fun d => !Dm.mayL d.1 d.2)) := by
    rw [hl]
    unfold rightK
    have e2 : decide (c.kind ∈ ([4] : List Int)) = decide (c.kind = 4) := by simp
    rw [e2]
  obtain ⟨R1, hR1⟩ : ∃ R, R = rightC c len := ⟨_, rfl⟩
  obtain ⟨R2, hR2⟩ : ∃ R, R = L.any fun d => !Dm.mayL d.1 d.2 := ⟨_, rfl⟩
  rw [← hR1] at RM hR
  rw [← hR2] at HM hR
  have q0 := hc0 0 _ rfl
  have q1 := hc0 1 _ rfl
  have q2 := hc0 2 _ rfl
  have q3 := hc0 3 _ rfl
  have q4 := hc0 4 _ rfl
  have q5 := hc0 5 _ rfl
  obtain ⟨k, hk⟩ : ∃ k, k = c.kind := ⟨_, rfl⟩
  rw [← hk] at RM q0 hR HW ⊢
  have HR := Lib.hid hR
  clear hc hs hn hm hss hl hW0 hc0 hb0 hR1 hR2 hR hk
  by_cases k1 : k = 4
  · subst k1
    have HR2 := Lib.hid (show rightK [4] c L = (R1 && !R2) by rw [HR.out]; simp)
    clear HR
    cases R1
    · go_enter Tryd.func18, Tryd.ntmps18
      go_wp2_with fail
      rw [← HW.out]
      refine RM.out.mono ?_
      rintro e w1 ⟨rfl, hB1⟩
      have HB1 := Lib.hid (below_two HB0.out hB1)
      clear hB1
      go_wp2_with fail
      go_ret
      exact ⟨by rw [HR2.out]; rfl, HB1.out⟩
    · go_enter Tryd.func18, Tryd.ntmps18
      go_wp2_with fail
      rw [← HW.out]
      refine RM.out.mono ?_
      rintro e w1 ⟨rfl, hB1⟩
      have HB1 := Lib.hid hB1
      clear hB1
      go_wp2_with fail
      refine (HM.out _ HB1.out).mono ?_
      rintro e w2 ⟨rfl, hB2⟩
      have HB2 := Lib.hid (below_two HB0.out (below_two HB1.out hB2))
      clear hB2
      go_wp2_with fail
      go_ret
      exact ⟨by rw [HR2.out]; rfl, HB2.out⟩
  · have d1 : (k == 4) = false := beq_eq_false_iff_ne.2 k1
    have HR2 := Lib.hid (show rightK [4] c L = false by rw [HR.out, decide_eq_false k1]; rfl)
    clear HR k1 RM HM
    go_enter Tryd.func18, Tryd.ntmps18
    go_wp2_with fail
    go_ret
    exact ⟨by rw [HR2.out]; rfl, by rw [← HW.out]; exact HB0.out⟩
end Go.Proofs.YtomcgmeekmfdhaaDoor.Ge
