/-
  The relation of what has come up, for the part of Step of package product that lists three domains in whichever order.
  A row of domains that a step of the program makes: what lies there, one set of values stored, what it reads as.
  What lies in memory while Step of package product sets one domain after the other: the row that it hands back, three lists of numbers, two variables.
-/
import Derived.Test.YtccgoigmchcggaaDoorZYCA
import Derived.Test.YtccgoigmchcggaaDoorZYBJ
namespace Go.Proofs.YtccgoigmchcggaaDoor.Ge
open Go.RowKit St
set_option maxRecDepth 100000

theorem owns_box {w : World} {b base : Nat} {t : TypeId} {x z v : Value} {T : List Int} (h : Own1 w b t x) (ht : t ≠ 3) (o : Dm.OwnsI w base v T) : Dm.OwnsI (w.setCell ⟨b, 0, none⟩ z) base v T :=
  ints_same o fun k hk => Below.heap_setCell w ⟨b, 0, none⟩ z k (kinds_apart (ints_kind o hk).2.2 ⟨_, h⟩ (Ne.symm ht))

structure S10 (W : World) (b off len cc x y z : Nat) (D0 D1 D2 : Value) (T0 T1 T2 : List Int) (b13 b14 : Nat) (v52 v53 v54 v55 v56 v57 v58 v59 v60 v61 v62 v63 v64 v65 v66 v13 v14 v12 : Value) (l : Nat → Bool) (u : World) : Prop where
  base : Below W.heap.size W u
  f0 : l 0 = true → v52 = (.slice (some ⟨b, off, none⟩) len cc)
  f1 : l 1 = true → v53 = (.int .i64 (x : Nat))
  f2 : l 2 = true → v54 = (.pointer (some ⟨b, off + x * 2, none⟩))
  f3 : l 3 = true → v55 = D0
  f4 : l 4 = true → Dm.OwnsI u 0 v56 T0
  f5 : l 5 = true → v57 = (.slice (some ⟨b, off, none⟩) len cc)
  f6 : l 6 = true → v58 = (.int .i64 (y : Nat))
  f7 : l 7 = true → v59 = (.pointer (some ⟨b, off + y * 2, none⟩))
  f8 : l 8 = true → v60 = D1
  f9 : l 9 = true → Dm.OwnsI u 0 v61 T1
  f10 : l 10 = true → v62 = (.slice (some ⟨b, off, none⟩) len cc)
  f11 : l 11 = true → v63 = (.int .i64 (z : Nat))
  f12 : l 12 = true → v64 = (.pointer (some ⟨b, off + z * 2, none⟩))
  f13 : l 13 = true → v65 = D2
  f14 : l 14 = true → Dm.OwnsI u 0 v66 T2
  f15 : l 15 = true → v13 = .pointer (some ⟨b13, 0, none⟩) ∧ W.heap.size ≤ b13 ∧ ∃ z, Own1 u b13 22 z ∧ (∃ q1 q2 q3, z = .slice q1 q2 q3) ∧ (l 18 = true → z = v61)
  f16 : l 16 = true → v14 = .pointer (some ⟨b14, 0, none⟩) ∧ W.heap.size ≤ b14 ∧ ∃ z, Own1 u b14 22 z ∧ (∃ q1 q2 q3, z = .slice q1 q2 q3) ∧ (l 19 = true → z = v66)
  f17 : l 17 = true → l 4 = true ∧ v12 = v56
  n15_16 : l 15 = true → l 16 = true → b13 ≠ b14
  w18 : l 18 = true → l 15 = true
  y18 : l 18 = true → l 9 = true
  w19 : l 19 = true → l 16 = true
  y19 : l 19 = true → l 14 = true
structure GS10 where
  (b13 b14 : Nat)
  (v52 v53 v54 v55 v56 v57 v58 v59 v60 v61 v62 v63 v64 v65 v66 v13 v14 v12 : Value)
def putS10 (g : GS10) (tm : Array Value) : Array Value := ((((((((((((((((((((((((((((((((((((tm).setIfInBounds 52 g.v52)).setIfInBounds 53 g.v53)).setIfInBounds 54 g.v54)).setIfInBounds 55 g.v55)).setIfInBounds 56 g.v56)).setIfInBounds 57 g.v57)).setIfInBounds 58 g.v58)).setIfInBounds 59 g.v59)).setIfInBounds 60 g.v60)).setIfInBounds 61 g.v61)).setIfInBounds 62 g.v62)).setIfInBounds 63 g.v63)).setIfInBounds 64 g.v64)).setIfInBounds 65 g.v65)).setIfInBounds 66 g.v66)).setIfInBounds 13 g.v13)).setIfInBounds 14 g.v14)).setIfInBounds 12 g.v12)
def JS10 (W : World) (b off len cc x y z : Nat) (D0 D1 D2 : Value) (T0 T1 T2 : List Int) (g : GS10) (l : Nat → Bool) (u : World) : Prop := S10 W b off len cc x y z D0 D1 D2 T0 T1 T2 g.b13 g.b14 g.v52 g.v53 g.v54 g.v55 g.v56 g.v57 g.v58 g.v59 g.v60 g.v61 g.v62 g.v63 g.v64 g.v65 g.v66 g.v13 g.v14 g.v12 l u
theorem S10.s0 {W : World} {b off len cc x y z : Nat} {D0 D1 D2 : Value} {T0 T1 T2 : List Int} {b13 b14 : Nat} {v52 v53 v54 v55 v56 v57 v58 v59 v60 v61 v62 v63 v64 v65 v66 v13 v14 v12 : Value} {l : Nat → Bool} {u : World} (S : S10 W b off len cc x y z D0 D1 D2 T0 T1 T2 b13 b14 v52 v53 v54 v55 v56 v57 v58 v59 v60 v61 v62 v63 v64 v65 v66 v13 v14 v12 l u) (hn : l 0 = false) : S10 W b off len cc x y z D0 D1 D2 T0 T1 T2 b13 b14 (.slice (some ⟨b, off, none⟩) len cc) v53 v54 v55 v56 v57 v58 v59 v60 v61 v62 v63 v64 v65 v66 v13 v14 v12 (upd l 0) u := by
  have _ := hn
  refine ⟨S.base,
   fun _ => rfl,
   fun h => S.f1 (upd_old (by decide) h),
   fun h => S.f2 (upd_old (by decide) h),
   fun h => S.f3 (upd_old (by decide) h),
   fun h => S.f4 (upd_old (by decide) h),
   fun h => S.f5 (upd_old (by decide) h),
   fun h => S.f6 (upd_old (by decide) h),
   fun h => S.f7 (upd_old (by decide) h),
   fun h => S.f8 (upd_old (by decide) h),
   fun h => S.f9 (upd_old (by decide) h),
   fun h => S.f10 (upd_old (by decide) h),
   fun h => S.f11 (upd_old (by decide) h),
   fun h => S.f12 (upd_old (by decide) h),
   fun h => S.f13 (upd_old (by decide) h),
   fun h => S.f14 (upd_old (by decide) h),
   fun h => by
    obtain ⟨e1, e2, z, e3, e4, e5⟩ := S.f15 (upd_old (by decide) h)
    exact ⟨e1, e2, z, e3, e4, fun q => e5 (upd_old (by decide) q)⟩,
   fun h => by
    obtain ⟨e1, e2, z, e3, e4, e5⟩ := S.f16 (upd_old (by decide) h)
    exact ⟨e1, e2, z, e3, e4, fun q => e5 (upd_old (by decide) q)⟩,
   fun h => ⟨by rw [upd_ne (by decide)]; exact (S.f17 (upd_old (by decide) h)).1, (S.f17 (upd_old (by decide) h)).2⟩,
   fun h h2 => S.n15_16 (upd_old (by decide) h) (upd_old (by decide) h2),
   fun h => by rw [upd_ne (by decide)]; exact S.w18 (upd_old (by decide) h),
   fun h => by rw [upd_ne (by decide)]; exact S.y18 (upd_old (by decide) h),
   fun h => by rw [upd_ne (by decide)]; exact S.w19 (upd_old (by decide) h),
   fun h => by rw [upd_ne (by decide)]; exact S.y19 (upd_old (by decide) h)⟩
theorem S10.s1 {W : World} {b off len cc x y z : Nat} {D0 D1 D2 : Value} {T0 T1 T2 : List Int} {b13 b14 : Nat} {v52 v53 v54 v55 v56 v57 v58 v59 v60 v61 v62 v63 v64 v65 v66 v13 v14 v12 : Value} {l : Nat → Bool} {u : World} (S : S10 W b off len cc x y z D0 D1 D2 T0 T1 T2 b13 b14 v52 v53 v54 v55 v56 v57 v58 v59 v60 v61 v62 v63 v64 v65 v66 v13 v14 v12 l u) (hn : l 1 = false) : S10 W b off len cc x y z D0 D1 D2 T0 T1 T2 b13 b14 v52 (.int .i64 (x : Nat)) v54 v55 v56 v57 v58 v59 v60 v61 v62 v63 v64 v65 v66 v13 v14 v12 (upd l 1) u := by
  have _ := hn
  refine ⟨S.base,
   fun h => S.f0 (upd_old (by decide) h),
   fun _ => rfl,
   fun h => S.f2 (upd_old (by decide) h),
   fun h => S.f3 (upd_old (by decide) h),
   fun h => S.f4 (upd_old (by decide) h),
   fun h => S.f5 (upd_old (by decide) h),
   fun h => S.f6 (upd_old (by decide) h),
   fun h => S.f7 (upd_old (by decide) h),
   fun h => S.f8 (upd_old (by decide) h),
   fun h => S.f9 (upd_old (by decide) h),
   fun h => S.f10 (upd_old (by decide) h),
   fun h => S.f11 (upd_old (by decide) h),
   fun h => S.f12 (upd_old (by decide) h),
   fun h => S.f13 (upd_old (by decide) h),
   fun h => S.f14 (upd_old (by decide) h),
   fun h => by
    obtain ⟨e1, e2, z, e3, e4, e5⟩ := S.f15 (upd_old (by decide) h)
    exact ⟨e1, e2, z, e3, e4, fun q => e5 (upd_old (by decide) q)⟩,
   fun h => by
    obtain ⟨e1, e2, z, e3, e4, e5⟩ := S.f16 (upd_old (by decide) h)
    exact ⟨e1, e2, z, e3, e4, fun q => e5 (upd_old (by decide) q)⟩,
   fun h => ⟨by rw [upd_ne (by decide)]; exact (S.f17 (upd_old (by decide) h)).1, (S.f17 (upd_old (by decide) h)).2⟩,
   fun h h2 => S.n15_16 (upd_old (by decide) h) (upd_old (by decide) h2),
   fun h => by rw [upd_ne (by decide)]; exact S.w18 (upd_old (by decide) h),
   fun h => by rw [upd_ne (by decide)]; exact S.y18 (upd_old (by decide) h),
   fun h => by rw [upd_ne (by decide)]; exact S.w19 (upd_old (by decide) h),
   fun h => by rw [upd_ne (by decide)]; exact S.y19 (upd_old (by decide) h)⟩
theorem S10.s2 {W : World} {b off len cc x y z : Nat} {D0 D1 D2 : Value} {T0 T1 T2 : List Int} {b13 b14 : Nat} {v52 v53 v54 v55 v56 v57 v58 v59 v60 v61 v62 v63 v64 v65 v66 v13 v14 v12 : Value} {l : Nat → Bool} {u : World} (S : S10 W b off len cc x y z D0 D1 D2 T0 T1 T2 b13 b14 v52 v53 v54 v55 v56 v57 v58 v59 v60 v61 v62 v63 v64 v65 v66 v13 v14 v12 l u) (hn : l 2 = false) : S10 W b off len cc x y z D0 D1 D2 T0 T1 T2 b13 b14 v52 v53 (.pointer (some ⟨b, off + x * 2, none⟩)) v55 v56 v57 v58 v59 v60 v61 v62 v63 v64 v65 v66 v13 v14 v12 (upd l 2) u := by
  have _ := hn
  refine ⟨S.base,
   fun h => S.f0 (upd_old (by decide) h),
   fun h => S.f1 (upd_old (by decide) h),
   fun _ => rfl,
   fun h => S.f3 (upd_old (by decide) h),
   fun h => S.f4 (upd_old (by decide) h),
   fun h => S.f5 (upd_old (by decide) h),
   fun h => S.f6 (upd_old (by decide) h),
   fun h => S.f7 (upd_old (by decide) h),
   fun h => S.f8 (upd_old (by decide) h),
   fun h => S.f9 (upd_old (by decide) h),
   fun h => S.f10 (upd_old (by decide) h),
   fun h => S.f11 (upd_old (by decide) h),
   fun h => S.f12 (upd_old (by decide) h),
   fun h => S.f13 (upd_old (by decide) h),
   fun h => S.f14 (upd_old (by decide) h),
   fun h => by
    obtain ⟨e1, e2, z, e3, e4, e5⟩ := S.f15 (upd_old (by decide) h)
    exact ⟨e1, e2, z, e3, e4, fun q => e5 (upd_old (by decide) q)⟩,
   fun h => by
    obtain ⟨e1, e2, z, e3, e4, e5⟩ := S.f16 (upd_old (by decide) h)
    exact ⟨e1, e2, z, e3, e4, fun q => e5 (upd_old (by decide) q)⟩,
   fun h => ⟨by rw [upd_ne (by decide)]; exact (S.f17 (upd_old (by decide) h)).1, (S.f17 (upd_old (by decide) h)).2⟩,
   fun h h2 => S.n15_16 (upd_old (by decide) h) (upd_old (by decide) h2),
   fun h => by rw [upd_ne (by decide)]; exact S.w18 (upd_old (by decide) h),
   fun h => by rw [upd_ne (by decide)]; exact S.y18 (upd_old (by decide) h),
   fun h => by rw [upd_ne (by decide)]; exact S.w19 (upd_old (by decide) h),
   fun h => by rw [upd_ne (by decide)]; exact S.y19 (upd_old (by decide) h)⟩
theorem S10.s3 {W : World} {b off len cc x y z : Nat} {D0 D1 D2 : Value} {T0 T1 T2 : List Int} {b13 b14 : Nat} {v52 v53 v54 v55 v56 v57 v58 v59 v60 v61 v62 v63 v64 v65 v66 v13 v14 v12 : Value} {l : Nat → Bool} {u : World} (S : S10 W b off len cc x y z D0 D1 D2 T0 T1 T2 b13 b14 v52 v53 v54 v55 v56 v57 v58 v59 v60 v61 v62 v63 v64 v65 v66 v13 v14 v12 l u) (hn : l 3 = false) : S10 W b off len cc x y z D0 D1 D2 T0 T1 T2 b13 b14 v52 v53 v54 D0 v56 v57 v58 v59 v60 v61 v62 v63 v64 v65 v66 v13 v14 v12 (upd l 3) u := by
  have _ := hn
  refine ⟨S.base,
   fun h => S.f0 (upd_old (by decide) h),
   fun h => S.f1 (upd_old (by decide) h),
   fun h => S.f2 (upd_old (by decide) h),
   fun _ => rfl,
   fun h => S.f4 (upd_old (by decide) h),
   fun h => S.f5 (upd_old (by decide) h),
   fun h => S.f6 (upd_old (by decide) h),
   fun h => S.f7 (upd_old (by decide) h),
   fun h => S.f8 (upd_old (by decide) h),
   fun h => S.f9 (upd_old (by decide) h),
   fun h => S.f10 (upd_old (by decide) h),
   fun h => S.f11 (upd_old (by decide) h),
   fun h => S.f12 (upd_old (by decide) h),
   fun h => S.f13 (upd_old (by decide) h),
   fun h => S.f14 (upd_old (by decide) h),
   fun h => by
    obtain ⟨e1, e2, z, e3, e4, e5⟩ := S.f15 (upd_old (by decide) h)
    exact ⟨e1, e2, z, e3, e4, fun q => e5 (upd_old (by decide) q)⟩,
   fun h => by
    obtain ⟨e1, e2, z, e3, e4, e5⟩ := S.f16 (upd_old (by decide) h)
    exact ⟨e1, e2, z, e3, e4, fun q => e5 (upd_old (by decide) q)⟩,
   fun h => ⟨by rw [upd_ne (by decide)]; exact (S.f17 (upd_old (by decide) h)).1, (S.f17 (upd_old (by decide) h)).2⟩,
   fun h h2 => S.n15_16 (upd_old (by decide) h) (upd_old (by decide) h2),
   fun h => by rw [upd_ne (by decide)]; exact S.w18 (upd_old (by decide) h),
   fun h => by rw [upd_ne (by decide)]; exact S.y18 (upd_old (by decide) h),
   fun h => by rw [upd_ne (by decide)]; exact S.w19 (upd_old (by decide) h),
   fun h => by rw [upd_ne (by decide)]; exact S.y19 (upd_old (by decide) h)⟩
theorem S10.s4 {W : World} {b off len cc x y z : Nat} {D0 D1 D2 : Value} {T0 T1 T2 : List Int} {b13 b14 : Nat} {v52 v53 v54 v55 v56 v57 v58 v59 v60 v61 v62 v63 v64 v65 v66 v13 v14 v12 : Value} {l : Nat → Bool} {u : World} (S : S10 W b off len cc x y z D0 D1 D2 T0 T1 T2 b13 b14 v52 v53 v54 v55 v56 v57 v58 v59 v60 v61 v62 v63 v64 v65 v66 v13 v14 v12 l u) (hn : l 4 = false) {u2 : World} {vn : Value} (hB : Below u.heap.size u u2) (hO : Dm.OwnsI u2 0 vn T0) : S10 W b off len cc x y z D0 D1 D2 T0 T1 T2 b13 b14 v52 v53 v54 v55 vn v57 v58 v59 v60 v61 v62 v63 v64 v65 v66 v13 v14 v12 (upd l 4) u2 := by
  have _ := hn
  refine ⟨S.base.trans (hB.mono S.base.size),
   fun h => S.f0 (upd_old (by decide) h),
   fun h => S.f1 (upd_old (by decide) h),
   fun h => S.f2 (upd_old (by decide) h),
   fun h => S.f3 (upd_old (by decide) h),
   fun _ => hO,
   fun h => S.f5 (upd_old (by decide) h),
   fun h => S.f6 (upd_old (by decide) h),
   fun h => S.f7 (upd_old (by decide) h),
   fun h => S.f8 (upd_old (by decide) h),
   fun h => owns_below (S.f9 (upd_old (by decide) h)) hB,
   fun h => S.f10 (upd_old (by decide) h),
   fun h => S.f11 (upd_old (by decide) h),
   fun h => S.f12 (upd_old (by decide) h),
   fun h => S.f13 (upd_old (by decide) h),
   fun h => owns_below (S.f14 (upd_old (by decide) h)) hB,
   fun h => by
    obtain ⟨e1, e2, z, e3, e4, e5⟩ := S.f15 (upd_old (by decide) h)
    exact ⟨e1, e2, z, e3.below hB, e4, fun q => e5 (upd_old (by decide) q)⟩,
   fun h => by
    obtain ⟨e1, e2, z, e3, e4, e5⟩ := S.f16 (upd_old (by decide) h)
    exact ⟨e1, e2, z, e3.below hB, e4, fun q => e5 (upd_old (by decide) q)⟩,
   fun h => absurd (S.f17 (upd_old (by decide) h)).1 (by rw [hn]; decide),
   fun h h2 => S.n15_16 (upd_old (by decide) h) (upd_old (by decide) h2),
   fun h => by rw [upd_ne (by decide)]; exact S.w18 (upd_old (by decide) h),
   fun h => by rw [upd_ne (by decide)]; exact S.y18 (upd_old (by decide) h),
   fun h => by rw [upd_ne (by decide)]; exact S.w19 (upd_old (by decide) h),
   fun h => by rw [upd_ne (by decide)]; exact S.y19 (upd_old (by decide) h)⟩
theorem S10.s5 {W : World} {b off len cc x y z : Nat} {D0 D1 D2 : Value} {T0 T1 T2 : List Int} {b13 b14 : Nat} {v52 v53 v54 v55 v56 v57 v58 v59 v60 v61 v62 v63 v64 v65 v66 v13 v14 v12 : Value} {l : Nat → Bool} {u : World} (S : S10 W b off len cc x y z D0 D1 D2 T0 T1 T2 b13 b14 v52 v53 v54 v55 v56 v57 v58 v59 v60 v61 v62 v63 v64 v65 v66 v13 v14 v12 l u) (hn : l 5 = false) : S10 W b off len cc x y z D0 D1 D2 T0 T1 T2 b13 b14 v52 v53 v54 v55 v56 (.slice (some ⟨b, off, none⟩) len cc) v58 v59 v60 v61 v62 v63 v64 v65 v66 v13 v14 v12 (upd l 5) u := by
  have _ := hn
  refine ⟨S.base,
   fun h => S.f0 (upd_old (by decide) h),
   fun h => S.f1 (upd_old (by decide) h),
   fun h => S.f2 (upd_old (by decide) h),
   fun h => S.f3 (upd_old (by decide) h),
   fun h => S.f4 (upd_old (by decide) h),
   fun _ => rfl,
   fun h => S.f6 (upd_old (by decide) h),
   fun h => S.f7 (upd_old (by decide) h),
   fun h => S.f8 (upd_old (by decide) h),
   fun h => S.f9 (upd_old (by decide) h),
   fun h => S.f10 (upd_old (by decide) h),
   fun h => S.f11 (upd_old (by decide) h),
   fun h => S.f12 (upd_old (by decide) h),
   fun h => S.f13 (upd_old (by decide) h),
   fun h => S.f14 (upd_old (by decide) h),
   fun h => by
    obtain ⟨e1, e2, z, e3, e4, e5⟩ := S.f15 (upd_old (by decide) h)
    exact ⟨e1, e2, z, e3, e4, fun q => e5 (upd_old (by decide) q)⟩,
   fun h => by
    obtain ⟨e1, e2, z, e3, e4, e5⟩ := S.f16 (upd_old (by decide) h)
    exact ⟨e1, e2, z, e3, e4, fun q => e5 (upd_old (by decide) q)⟩,
   fun h => ⟨by rw [upd_ne (by decide)]; exact (S.f17 (upd_old (by decide) h)).1, (S.f17 (upd_old (by decide) h)).2⟩,
   fun h h2 => S.n15_16 (upd_old (by decide) h) (upd_old (by decide) h2),
   fun h => by rw [upd_ne (by decide)]; exact S.w18 (upd_old (by decide) h),
   fun h => by rw [upd_ne (by decide)]; exact S.y18 (upd_old (by decide) h),
   fun h => by rw [upd_ne (by decide)]; exact S.w19 (upd_old (by decide) h),
   fun h => by rw [upd_ne (by decide)]; exact S.y19 (upd_old (by decide) h)⟩
theorem S10.s6 {W : World} {b off len cc x y z : Nat} {D0 D1 D2 : Value} {T0 T1 T2 : List Int} {b13 b14 : Nat} {v52 v53 v54 v55 v56 v57 v58 v59 v60 v61 v62 v63 v64 v65 v66 v13 v14 v12 : Value} {l : Nat → Bool} {u : World} (S : S10 W b off len cc x y z D0 D1 D2 T0 T1 T2 b13 b14 v52 v53 v54 v55 v56 v57 v58 v59 v60 v61 v62 v63 v64 v65 v66 v13 v14 v12 l u) (hn : l 6 = false) : S10 W b off len cc x y z D0 D1 D2 T0 T1 T2 b13 b14 v52 v53 v54 v55 v56 v57 (.int .i64 (y : Nat)) v59 v60 v61 v62 v63 v64 v65 v66 v13 v14 v12 (upd l 6) u := by
  have _ := hn
  refine ⟨S.base,
   fun h => S.f0 (upd_old (by decide) h),
   fun h => S.f1 (upd_old (by decide) h),
   fun h => S.f2 (upd_old (by decide) h),
   fun h => S.f3 (upd_old (by decide) h),
   fun h => S.f4 (upd_old (by decide) h),
   fun h => S.f5 (upd_old (by decide) h),
   fun _ => rfl,
   fun h => S.f7 (upd_old (by decide) h),
   fun h => S.f8 (upd_old (by decide) h),
   fun h => S.f9 (upd_old (by decide) h),
   fun h => S.f10 (upd_old (by decide) h),
   fun h => S.f11 (upd_old (by decide) h),
   fun h => S.f12 (upd_old (by decide) h),
   fun h => S.f13 (upd_old (by decide) h),
   fun h => S.f14 (upd_old (by decide) h),
   fun h => by
    obtain ⟨e1, e2, z, e3, e4, e5⟩ := S.f15 (upd_old (by decide) h)
    exact ⟨e1, e2, z, e3, e4, fun q => e5 (upd_old (by decide) q)⟩,
   fun h => by
    obtain ⟨e1, e2, z, e3, e4, e5⟩ := S.f16 (upd_old (by decide) h)
    exact ⟨e1, e2, z, e3, e4, fun q => e5 (upd_old (by decide) q)⟩,
   fun h => ⟨by rw [upd_ne (by decide)]; exact (S.f17 (upd_old (by decide) h)).1, (S.f17 (upd_old (by decide) h)).2⟩,
   fun h h2 => S.n15_16 (upd_old (by decide) h) (upd_old (by decide) h2),
   fun h => by rw [upd_ne (by decide)]; exact S.w18 (upd_old (by decide) h),
   fun h => by rw [upd_ne (by decide)]; exact S.y18 (upd_old (by decide) h),
   fun h => by rw [upd_ne (by decide)]; exact S.w19 (upd_old (by decide) h),
   fun h => by rw [upd_ne (by decide)]; exact S.y19 (upd_old (by decide) h)⟩
theorem S10.s7 {W : World} {b off len cc x y z : Nat} {D0 D1 D2 : Value} {T0 T1 T2 : List Int} {b13 b14 : Nat} {v52 v53 v54 v55 v56 v57 v58 v59 v60 v61 v62 v63 v64 v65 v66 v13 v14 v12 : Value} {l : Nat → Bool} {u : World} (S : S10 W b off len cc x y z D0 D1 D2 T0 T1 T2 b13 b14 v52 v53 v54 v55 v56 v57 v58 v59 v60 v61 v62 v63 v64 v65 v66 v13 v14 v12 l u) (hn : l 7 = false) : S10 W b off len cc x y z D0 D1 D2 T0 T1 T2 b13 b14 v52 v53 v54 v55 v56 v57 v58 (.pointer (some ⟨b, off + y * 2, none⟩)) v60 v61 v62 v63 v64 v65 v66 v13 v14 v12 (upd l 7) u := by
  have _ := hn
  refine ⟨S.base,
   fun h => S.f0 (upd_old (by decide) h),
   fun h => S.f1 (upd_old (by decide) h),
   fun h => S.f2 (upd_old (by decide) h),
   fun h => S.f3 (upd_old (by decide) h),
   fun h => S.f4 (upd_old (by decide) h),
   fun h => S.f5 (upd_old (by decide) h),
   fun h => S.f6 (upd_old (by decide) h),
   fun _ => rfl,
   fun h => S.f8 (upd_old (by decide) h),
   fun h => S.f9 (upd_old (by decide) h),
   fun h => S.f10 (upd_old (by decide) h),
   fun h => S.f11 (upd_old (by decide) h),
   fun h => S.f12 (upd_old (by decide) h),
   fun h => S.f13 (upd_old (by decide) h),
   fun h => S.f14 (upd_old (by decide) h),
   fun h => by
    obtain ⟨e1, e2, z, e3, e4, e5⟩ := S.f15 (upd_old (by decide) h)
    exact ⟨e1, e2, z, e3, e4, fun q => e5 (upd_old (by decide) q)⟩,
   fun h => by
    obtain ⟨e1, e2, z, e3, e4, e5⟩ := S.f16 (upd_old (by decide) h)
    exact ⟨e1, e2, z, e3, e4, fun q => e5 (upd_old (by decide) q)⟩,
   fun h => ⟨by rw [upd_ne (by decide)]; exact (S.f17 (upd_old (by decide) h)).1, (S.f17 (upd_old (by decide) h)).2⟩,
   fun h h2 => S.n15_16 (upd_old (by decide) h) (upd_old (by decide) h2),
   fun h => by rw [upd_ne (by decide)]; exact S.w18 (upd_old (by decide) h),
   fun h => by rw [upd_ne (by decide)]; exact S.y18 (upd_old (by decide) h),
   fun h => by rw [upd_ne (by decide)]; exact S.w19 (upd_old (by decide) h),
   fun h => by rw [upd_ne (by decide)]; exact S.y19 (upd_old (by decide) h)⟩
theorem S10.s8 {W : World} {b off len cc x y z : Nat} {D0 D1 D2 : Value} {T0 T1 T2 : List Int} {b13 b14 : Nat} {v52 v53 v54 v55 v56 v57 v58 v59 v60 v61 v62 v63 v64 v65 v66 v13 v14 v12 : Value} {l : Nat → Bool} {u : World} (S : S10 W b off len cc x y z D0 D1 D2 T0 T1 T2 b13 b14 v52 v53 v54 v55 v56 v57 v58 v59 v60 v61 v62 v63 v64 v65 v66 v13 v14 v12 l u) (hn : l 8 = false) : S10 W b off len cc x y z D0 D1 D2 T0 T1 T2 b13 b14 v52 v53 v54 v55 v56 v57 v58 v59 D1 v61 v62 v63 v64 v65 v66 v13 v14 v12 (upd l 8) u := by
  have _ := hn
  refine ⟨S.base,
   fun h => S.f0 (upd_old (by decide) h),
   fun h => S.f1 (upd_old (by decide) h),
   fun h => S.f2 (upd_old (by decide) h),
   fun h => S.f3 (upd_old (by decide) h),
   fun h => S.f4 (upd_old (by decide) h),
   fun h => S.f5 (upd_old (by decide) h),
   fun h => S.f6 (upd_old (by decide) h),
   fun h => S.f7 (upd_old (by decide) h),
   fun _ => rfl,
   fun h => S.f9 (upd_old (by decide) h),
   fun h => S.f10 (upd_old (by decide) h),
   fun h => S.f11 (upd_old (by decide) h),
   fun h => S.f12 (upd_old (by decide) h),
   fun h => S.f13 (upd_old (by decide) h),
   fun h => S.f14 (upd_old (by decide) h),
   fun h => by
    obtain ⟨e1, e2, z, e3, e4, e5⟩ := S.f15 (upd_old (by decide) h)
    exact ⟨e1, e2, z, e3, e4, fun q => e5 (upd_old (by decide) q)⟩,
   fun h => by
    obtain ⟨e1, e2, z, e3, e4, e5⟩ := S.f16 (upd_old (by decide) h)
    exact ⟨e1, e2, z, e3, e4, fun q => e5 (upd_old (by decide) q)⟩,
   fun h => ⟨by rw [upd_ne (by decide)]; exact (S.f17 (upd_old (by decide) h)).1, (S.f17 (upd_old (by decide) h)).2⟩,
   fun h h2 => S.n15_16 (upd_old (by decide) h) (upd_old (by decide) h2),
   fun h => by rw [upd_ne (by decide)]; exact S.w18 (upd_old (by decide) h),
   fun h => by rw [upd_ne (by decide)]; exact S.y18 (upd_old (by decide) h),
   fun h => by rw [upd_ne (by decide)]; exact S.w19 (upd_old (by decide) h),
   fun h => by rw [upd_ne (by decide)]; exact S.y19 (upd_old (by decide) h)⟩
theorem S10.s9 {W : World} {b off len cc x y z : Nat} {D0 D1 D2 : Value} {T0 T1 T2 : List Int} {b13 b14 : Nat} {v52 v53 v54 v55 v56 v57 v58 v59 v60 v61 v62 v63 v64 v65 v66 v13 v14 v12 : Value} {l : Nat → Bool} {u : World} (S : S10 W b off len cc x y z D0 D1 D2 T0 T1 T2 b13 b14 v52 v53 v54 v55 v56 v57 v58 v59 v60 v61 v62 v63 v64 v65 v66 v13 v14 v12 l u) (hn : l 9 = false) {u2 : World} {vn : Value} (hB : Below u.heap.size u u2) (hO : Dm.OwnsI u2 0 vn T1) : S10 W b off len cc x y z D0 D1 D2 T0 T1 T2 b13 b14 v52 v53 v54 v55 v56 v57 v58 v59 v60 vn v62 v63 v64 v65 v66 v13 v14 v12 (upd l 9) u2 := by
  have _ := hn
  refine ⟨S.base.trans (hB.mono S.base.size),
   fun h => S.f0 (upd_old (by decide) h),
   fun h => S.f1 (upd_old (by decide) h),
   fun h => S.f2 (upd_old (by decide) h),
   fun h => S.f3 (upd_old (by decide) h),
   fun h => owns_below (S.f4 (upd_old (by decide) h)) hB,
   fun h => S.f5 (upd_old (by decide) h),
   fun h => S.f6 (upd_old (by decide) h),
   fun h => S.f7 (upd_old (by decide) h),
   fun h => S.f8 (upd_old (by decide) h),
   fun _ => hO,
   fun h => S.f10 (upd_old (by decide) h),
   fun h => S.f11 (upd_old (by decide) h),
   fun h => S.f12 (upd_old (by decide) h),
   fun h => S.f13 (upd_old (by decide) h),
   fun h => owns_below (S.f14 (upd_old (by decide) h)) hB,
   fun h => by
    obtain ⟨e1, e2, z, e3, e4, e5⟩ := S.f15 (upd_old (by decide) h)
    exact ⟨e1, e2, z, e3.below hB, e4, fun q => absurd (S.y18 (upd_old (by decide) q)) (by rw [hn]; decide)⟩,
   fun h => by
    obtain ⟨e1, e2, z, e3, e4, e5⟩ := S.f16 (upd_old (by decide) h)
    exact ⟨e1, e2, z, e3.below hB, e4, fun q => e5 (upd_old (by decide) q)⟩,
   fun h => ⟨by rw [upd_ne (by decide)]; exact (S.f17 (upd_old (by decide) h)).1, (S.f17 (upd_old (by decide) h)).2⟩,
   fun h h2 => S.n15_16 (upd_old (by decide) h) (upd_old (by decide) h2),
   fun h => by rw [upd_ne (by decide)]; exact S.w18 (upd_old (by decide) h),
   fun _ => upd_same _ _,
   fun h => by rw [upd_ne (by decide)]; exact S.w19 (upd_old (by decide) h),
   fun h => by rw [upd_ne (by decide)]; exact S.y19 (upd_old (by decide) h)⟩
theorem S10.s10 {W : World} {b off len cc x y z : Nat} {D0 D1 D2 : Value} {T0 T1 T2 : List Int} {b13 b14 : Nat} {v52 v53 v54 v55 v56 v57 v58 v59 v60 v61 v62 v63 v64 v65 v66 v13 v14 v12 : Value} {l : Nat → Bool} {u : World} (S : S10 W b off len cc x y z D0 D1 D2 T0 T1 T2 b13 b14 v52 v53 v54 v55 v56 v57 v58 v59 v60 v61 v62 v63 v64 v65 v66 v13 v14 v12 l u) (hn : l 10 = false) : S10 W b off len cc x y z D0 D1 D2 T0 T1 T2 b13 b14 v52 v53 v54 v55 v56 v57 v58 v59 v60 v61 (.slice (some ⟨b, off, none⟩) len cc) v63 v64 v65 v66 v13 v14 v12 (upd l 10) u := by
  have _ := hn
  refine ⟨S.base,
   fun h => S.f0 (upd_old (by decide) h),
   fun h => S.f1 (upd_old (by decide) h),
   fun h => S.f2 (upd_old (by decide) h),
   fun h => S.f3 (upd_old (by decide) h),
   fun h => S.f4 (upd_old (by decide) h),
   fun h => S.f5 (upd_old (by decide) h),
   fun h => S.f6 (upd_old (by decide) h),
   fun h => S.f7 (upd_old (by decide) h),
   fun h => S.f8 (upd_old (by decide) h),
   fun h => S.f9 (upd_old (by decide) h),
   fun _ => rfl,
   fun h => S.f11 (upd_old (by decide) h),
   fun h => S.f12 (upd_old (by decide) h),
   fun h => S.f13 (upd_old (by decide) h),
   fun h => S.f14 (upd_old (by decide) h),
   fun h => by
    obtain ⟨e1, e2, z, e3, e4, e5⟩ := S.f15 (upd_old (by decide) h)
    exact ⟨e1, e2, z, e3, e4, fun q => e5 (upd_old (by decide) q)⟩,
   fun h => by
    obtain ⟨e1, e2, z, e3, e4, e5⟩ := S.f16 (upd_old (by decide) h)
    exact ⟨e1, e2, z, e3, e4, fun q => e5 (upd_old (by decide) q)⟩,
   fun h => ⟨by rw [upd_ne (by decide)]; exact (S.f17 (upd_old (by decide) h)).1, (S.f17 (upd_old (by decide) h)).2⟩,
   fun h h2 => S.n15_16 (upd_old (by decide) h) (upd_old (by decide) h2),
   fun h => by rw [upd_ne (by decide)]; exact S.w18 (upd_old (by decide) h),
   fun h => by rw [upd_ne (by decide)]; exact S.y18 (upd_old (by decide) h),
   fun h => by rw [upd_ne (by decide)]; exact S.w19 (upd_old (by decide) h),
   fun h => by rw [upd_ne (by decide)]; exact S.y19 (upd_old (by decide) h)⟩
theorem S10.s11 {W : World} {b off len cc x y z : Nat} {D0 D1 D2 : Value} {T0 T1 T2 : List Int} {b13 b14 : Nat} {v52 v53 v54 v55 v56 v57 v58 v59 v60 v61 v62 v63 v64 v65 v66 v13 v14 v12 : Value} {l : Nat → Bool} {u : World} (S : S10 W b off len cc x y z D0 D1 D2 T0 T1 T2 b13 b14 v52 v53 v54 v55 v56 v57 v58 v59 v60 v61 v62 v63 v64 v65 v66 v13 v14 v12 l u) (hn : l 11 = false) : S10 W b off len cc x y z D0 D1 D2 T0 T1 T2 b13 b14 v52 v53 v54 v55 v56 v57 v58 v59 v60 v61 v62 (.int .i64 (z : Nat)) v64 v65 v66 v13 v14 v12 (upd l 11) u := by
  have _ := hn
  refine ⟨S.base,
   fun h => S.f0 (upd_old (by decide) h),
   fun h => S.f1 (upd_old (by decide) h),
   fun h => S.f2 (upd_old (by decide) h),
   fun h => S.f3 (upd_old (by decide) h),
   fun h => S.f4 (upd_old (by decide) h),
   fun h => S.f5 (upd_old (by decide) h),
   fun h => S.f6 (upd_old (by decide) h),
   fun h => S.f7 (upd_old (by decide) h),
   fun h => S.f8 (upd_old (by decide) h),
   fun h => S.f9 (upd_old (by decide) h),
   fun h => S.f10 (upd_old (by decide) h),
   fun _ => rfl,
   fun h => S.f12 (upd_old (by decide) h),
   fun h => S.f13 (upd_old (by decide) h),
   fun h => S.f14 (upd_old (by decide) h),
   fun h => by
    obtain ⟨e1, e2, z, e3, e4, e5⟩ := S.f15 (upd_old (by decide) h)
    exact ⟨e1, e2, z, e3, e4, fun q => e5 (upd_old (by decide) q)⟩,
   fun h => by
    obtain ⟨e1, e2, z, e3, e4, e5⟩ := S.f16 (upd_old (by decide) h)
    exact ⟨e1, e2, z, e3, e4, fun q => e5 (upd_old (by decide) q)⟩,
   fun h => ⟨by rw [upd_ne (by decide)]; exact (S.f17 (upd_old (by decide) h)).1, (S.f17 (upd_old (by decide) h)).2⟩,
   fun h h2 => S.n15_16 (upd_old (by decide) h) (upd_old (by decide) h2),
   fun h => by rw [upd_ne (by decide)]; exact S.w18 (upd_old (by decide) h),
   fun h => by rw [upd_ne (by decide)]; exact S.y18 (upd_old (by decide) h),
   fun h => by rw [upd_ne (by decide)]; exact S.w19 (upd_old (by decide) h),
   fun h => by rw [upd_ne (by decide)]; exact S.y19 (upd_old (by decide) h)⟩
theorem S10.s12 {W : World} {b off len cc x y z : Nat} {D0 D1 D2 : Value} {T0 T1 T2 : List Int} {b13 b14 : Nat} {v52 v53 v54 v55 v56 v57 v58 v59 v60 v61 v62 v63 v64 v65 v66 v13 v14 v12 : Value} {l : Nat → Bool} {u : World} (S : S10 W b off len cc x y z D0 D1 D2 T0 T1 T2 b13 b14 v52 v53 v54 v55 v56 v57 v58 v59 v60 v61 v62 v63 v64 v65 v66 v13 v14 v12 l u) (hn : l 12 = false) : S10 W b off len cc x y z D0 D1 D2 T0 T1 T2 b13 b14 v52 v53 v54 v55 v56 v57 v58 v59 v60 v61 v62 v63 (.pointer (some ⟨b, off + z * 2, none⟩)) v65 v66 v13 v14 v12 (upd l 12) u := by
  have _ := hn
  refine ⟨S.base,
   fun h => S.f0 (upd_old (by decide) h),
   fun h => S.f1 (upd_old (by decide) h),
   fun h => S.f2 (upd_old (by decide) h),
   fun h => S.f3 (upd_old (by decide) h),
   fun h => S.f4 (upd_old (by decide) h),
   fun h => S.f5 (upd_old (by decide) h),
   fun h => S.f6 (upd_old (by decide) h),
   fun h => S.f7 (upd_old (by decide) h),
   fun h => S.f8 (upd_old (by decide) h),
   fun h => S.f9 (upd_old (by decide) h),
   fun h => S.f10 (upd_old (by decide) h),
   fun h => S.f11 (upd_old (by decide) h),
   fun _ => rfl,
   fun h => S.f13 (upd_old (by decide) h),
   fun h => S.f14 (upd_old (by decide) h),
   fun h => by
    obtain ⟨e1, e2, z, e3, e4, e5⟩ := S.f15 (upd_old (by decide) h)
    exact ⟨e1, e2, z, e3, e4, fun q => e5 (upd_old (by decide) q)⟩,
   fun h => by
    obtain ⟨e1, e2, z, e3, e4, e5⟩ := S.f16 (upd_old (by decide) h)
    exact ⟨e1, e2, z, e3, e4, fun q => e5 (upd_old (by decide) q)⟩,
   fun h => ⟨by rw [upd_ne (by decide)]; exact (S.f17 (upd_old (by decide) h)).1, (S.f17 (upd_old (by decide) h)).2⟩,
   fun h h2 => S.n15_16 (upd_old (by decide) h) (upd_old (by decide) h2),
   fun h => by rw [upd_ne (by decide)]; exact S.w18 (upd_old (by decide) h),
   fun h => by rw [upd_ne (by decide)]; exact S.y18 (upd_old (by decide) h),
   fun h => by rw [upd_ne (by decide)]; exact S.w19 (upd_old (by decide) h),
   fun h => by rw [upd_ne (by decide)]; exact S.y19 (upd_old (by decide) h)⟩
theorem S10.s13 {W : World} {b off len cc x y z : Nat} {D0 D1 D2 : Value} {T0 T1 T2 : List Int} {b13 b14 : Nat} {v52 v53 v54 v55 v56 v57 v58 v59 v60 v61 v62 v63 v64 v65 v66 v13 v14 v12 : Value} {l : Nat → Bool} {u : World} (S : S10 W b off len cc x y z D0 D1 D2 T0 T1 T2 b13 b14 v52 v53 v54 v55 v56 v57 v58 v59 v60 v61 v62 v63 v64 v65 v66 v13 v14 v12 l u) (hn : l 13 = false) : S10 W b off len cc x y z D0 D1 D2 T0 T1 T2 b13 b14 v52 v53 v54 v55 v56 v57 v58 v59 v60 v61 v62 v63 v64 D2 v66 v13 v14 v12 (upd l 13) u := by
  have _ := hn
  refine ⟨S.base,
   fun h => S.f0 (upd_old (by decide) h),
   fun h => S.f1 (upd_old (by decide) h),
   fun h => S.f2 (upd_old (by decide) h),
   fun h => S.f3 (upd_old (by decide) h),
   fun h => S.f4 (upd_old (by decide) h),
   fun h => S.f5 (upd_old (by decide) h),
   fun h => S.f6 (upd_old (by decide) h),
   fun h => S.f7 (upd_old (by decide) h),
   fun h => S.f8 (upd_old (by decide) h),
   fun h => S.f9 (upd_old (by decide) h),
   fun h => S.f10 (upd_old (by decide) h),
   fun h => S.f11 (upd_old (by decide) h),
   fun h => S.f12 (upd_old (by decide) h),
   fun _ => rfl,
   fun h => S.f14 (upd_old (by decide) h),
   fun h => by
    obtain ⟨e1, e2, z, e3, e4, e5⟩ := S.f15 (upd_old (by decide) h)
    exact ⟨e1, e2, z, e3, e4, fun q => e5 (upd_old (by decide) q)⟩,
   fun h => by
    obtain ⟨e1, e2, z, e3, e4, e5⟩ := S.f16 (upd_old (by decide) h)
    exact ⟨e1, e2, z, e3, e4, fun q => e5 (upd_old (by decide) q)⟩,
   fun h => ⟨by rw [upd_ne (by decide)]; exact (S.f17 (upd_old (by decide) h)).1, (S.f17 (upd_old (by decide) h)).2⟩,
   fun h h2 => S.n15_16 (upd_old (by decide) h) (upd_old (by decide) h2),
   fun h => by rw [upd_ne (by decide)]; exact S.w18 (upd_old (by decide) h),
   fun h => by rw [upd_ne (by decide)]; exact S.y18 (upd_old (by decide) h),
   fun h => by rw [upd_ne (by decide)]; exact S.w19 (upd_old (by decide) h),
   fun h => by rw [upd_ne (by decide)]; exact S.y19 (upd_old (by decide) h)⟩
theorem S10.s14 {W : World} {b off len cc x y z : Nat} {D0 D1 D2 : Value} {T0 T1 T2 : List Int} {b13 b14 : Nat} {v52 v53 v54 v55 v56 v57 v58 v59 v60 v61 v62 v63 v64 v65 v66 v13 v14 v12 : Value} {l : Nat → Bool} {u : World} (S : S10 W b off len cc x y z D0 D1 D2 T0 T1 T2 b13 b14 v52 v53 v54 v55 v56 v57 v58 v59 v60 v61 v62 v63 v64 v65 v66 v13 v14 v12 l u) (hn : l 14 = false) {u2 : World} {vn : Value} (hB : Below u.heap.size u u2) (hO : Dm.OwnsI u2 0 vn T2) : S10 W b off len cc x y z D0 D1 D2 T0 T1 T2 b13 b14 v52 v53 v54 v55 v56 v57 v58 v59 v60 v61 v62 v63 v64 v65 vn v13 v14 v12 (upd l 14) u2 := by
  have _ := hn
  refine ⟨S.base.trans (hB.mono S.base.size),
   fun h => S.f0 (upd_old (by decide) h),
   fun h => S.f1 (upd_old (by decide) h),
   fun h => S.f2 (upd_old (by decide) h),
   fun h => S.f3 (upd_old (by decide) h),
   fun h => owns_below (S.f4 (upd_old (by decide) h)) hB,
   fun h => S.f5 (upd_old (by decide) h),
   fun h => S.f6 (upd_old (by decide) h),
   fun h => S.f7 (upd_old (by decide) h),
   fun h => S.f8 (upd_old (by decide) h),
   fun h => owns_below (S.f9 (upd_old (by decide) h)) hB,
   fun h => S.f10 (upd_old (by decide) h),
   fun h => S.f11 (upd_old (by decide) h),
   fun h => S.f12 (upd_old (by decide) h),
   fun h => S.f13 (upd_old (by decide) h),
   fun _ => hO,
   fun h => by
    obtain ⟨e1, e2, z, e3, e4, e5⟩ := S.f15 (upd_old (by decide) h)
    exact ⟨e1, e2, z, e3.below hB, e4, fun q => e5 (upd_old (by decide) q)⟩,
   fun h => by
    obtain ⟨e1, e2, z, e3, e4, e5⟩ := S.f16 (upd_old (by decide) h)
    exact ⟨e1, e2, z, e3.below hB, e4, fun q => absurd (S.y19 (upd_old (by decide) q)) (by rw [hn]; decide)⟩,
   fun h => ⟨by rw [upd_ne (by decide)]; exact (S.f17 (upd_old (by decide) h)).1, (S.f17 (upd_old (by decide) h)).2⟩,
   fun h h2 => S.n15_16 (upd_old (by decide) h) (upd_old (by decide) h2),
   fun h => by rw [upd_ne (by decide)]; exact S.w18 (upd_old (by decide) h),
   fun h => by rw [upd_ne (by decide)]; exact S.y18 (upd_old (by decide) h),
   fun h => by rw [upd_ne (by decide)]; exact S.w19 (upd_old (by decide) h),
   fun _ => upd_same _ _⟩
theorem S10.s15 {W : World} {b off len cc x y z : Nat} {D0 D1 D2 : Value} {T0 T1 T2 : List Int} {b13 b14 : Nat} {v52 v53 v54 v55 v56 v57 v58 v59 v60 v61 v62 v63 v64 v65 v66 v13 v14 v12 : Value} {l : Nat → Bool} {u : World} (S : S10 W b off len cc x y z D0 D1 D2 T0 T1 T2 b13 b14 v52 v53 v54 v55 v56 v57 v58 v59 v60 v61 v62 v63 v64 v65 v66 v13 v14 v12 l u) (hn : l 15 = false) (ob : Obj) (ho : ob = .cells #[.slice none 0 0] 22) : S10 W b off len cc x y z D0 D1 D2 T0 T1 T2 u.heap.size b14 v52 v53 v54 v55 v56 v57 v58 v59 v60 v61 v62 v63 v64 v65 v66 (.pointer (some ⟨u.heap.size, 0, none⟩)) v14 v12 (upd l 15) (u.alloc ob) := by
  subst ho
  have hB := new_below u (.cells #[.slice none 0 0] 22)
  refine ⟨S.base.trans (hB.mono S.base.size),
   fun h => S.f0 (upd_old (by decide) h),
   fun h => S.f1 (upd_old (by decide) h),
   fun h => S.f2 (upd_old (by decide) h),
   fun h => S.f3 (upd_old (by decide) h),
   fun h => owns_below (S.f4 (upd_old (by decide) h)) hB,
   fun h => S.f5 (upd_old (by decide) h),
   fun h => S.f6 (upd_old (by decide) h),
   fun h => S.f7 (upd_old (by decide) h),
   fun h => S.f8 (upd_old (by decide) h),
   fun h => owns_below (S.f9 (upd_old (by decide) h)) hB,
   fun h => S.f10 (upd_old (by decide) h),
   fun h => S.f11 (upd_old (by decide) h),
   fun h => S.f12 (upd_old (by decide) h),
   fun h => S.f13 (upd_old (by decide) h),
   fun h => owns_below (S.f14 (upd_old (by decide) h)) hB,
   fun _ => ⟨rfl, S.base.size, _, Own1.new _ _ _, ⟨_, _, _, rfl⟩, fun h => absurd (S.w18 (upd_old (by decide) h)) (by rw [hn]; decide)⟩,
   fun h => by
    obtain ⟨e1, e2, z, e3, e4, e5⟩ := S.f16 (upd_old (by decide) h)
    exact ⟨e1, e2, z, e3.below hB, e4, fun q => e5 (upd_old (by decide) q)⟩,
   fun h => ⟨by rw [upd_ne (by decide)]; exact (S.f17 (upd_old (by decide) h)).1, (S.f17 (upd_old (by decide) h)).2⟩,
   fun _ h => by
    obtain ⟨_, _, _, k3, _⟩ := S.f16 (upd_old (by decide) h)
    exact Nat.ne_of_gt k3.lt,
   fun _ => upd_same _ _,
   fun h => by rw [upd_ne (by decide)]; exact S.y18 (upd_old (by decide) h),
   fun h => by rw [upd_ne (by decide)]; exact S.w19 (upd_old (by decide) h),
   fun h => by rw [upd_ne (by decide)]; exact S.y19 (upd_old (by decide) h)⟩
theorem S10.s16 {W : World} {b off len cc x y z : Nat} {D0 D1 D2 : Value} {T0 T1 T2 : List Int} {b13 b14 : Nat} {v52 v53 v54 v55 v56 v57 v58 v59 v60 v61 v62 v63 v64 v65 v66 v13 v14 v12 : Value} {l : Nat → Bool} {u : World} (S : S10 W b off len cc x y z D0 D1 D2 T0 T1 T2 b13 b14 v52 v53 v54 v55 v56 v57 v58 v59 v60 v61 v62 v63 v64 v65 v66 v13 v14 v12 l u) (hn : l 16 = false) (ob : Obj) (ho : ob = .cells #[.slice none 0 0] 22) : S10 W b off len cc x y z D0 D1 D2 T0 T1 T2 b13 u.heap.size v52 v53 v54 v55 v56 v57 v58 v59 v60 v61 v62 v63 v64 v65 v66 v13 (.pointer (some ⟨u.heap.size, 0, none⟩)) v12 (upd l 16) (u.alloc ob) := by
  subst ho
  have hB := new_below u (.cells #[.slice none 0 0] 22)
  refine ⟨S.base.trans (hB.mono S.base.size),
   fun h => S.f0 (upd_old (by decide) h),
   fun h => S.f1 (upd_old (by decide) h),
   fun h => S.f2 (upd_old (by decide) h),
   fun h => S.f3 (upd_old (by decide) h),
   fun h => owns_below (S.f4 (upd_old (by decide) h)) hB,
   fun h => S.f5 (upd_old (by decide) h),
   fun h => S.f6 (upd_old (by decide) h),
   fun h => S.f7 (upd_old (by decide) h),
   fun h => S.f8 (upd_old (by decide) h),
   fun h => owns_below (S.f9 (upd_old (by decide) h)) hB,
   fun h => S.f10 (upd_old (by decide) h),
   fun h => S.f11 (upd_old (by decide) h),
   fun h => S.f12 (upd_old (by decide) h),
   fun h => S.f13 (upd_old (by decide) h),
   fun h => owns_below (S.f14 (upd_old (by decide) h)) hB,
   fun h => by
    obtain ⟨e1, e2, z, e3, e4, e5⟩ := S.f15 (upd_old (by decide) h)
    exact ⟨e1, e2, z, e3.below hB, e4, fun q => e5 (upd_old (by decide) q)⟩,
   fun _ => ⟨rfl, S.base.size, _, Own1.new _ _ _, ⟨_, _, _, rfl⟩, fun h => absurd (S.w19 (upd_old (by decide) h)) (by rw [hn]; decide)⟩,
   fun h => ⟨by rw [upd_ne (by decide)]; exact (S.f17 (upd_old (by decide) h)).1, (S.f17 (upd_old (by decide) h)).2⟩,
   fun h _ => by
    obtain ⟨_, _, _, k3, _⟩ := S.f15 (upd_old (by decide) h)
    exact Nat.ne_of_lt k3.lt,
   fun h => by rw [upd_ne (by decide)]; exact S.w18 (upd_old (by decide) h),
   fun h => by rw [upd_ne (by decide)]; exact S.y18 (upd_old (by decide) h),
   fun _ => upd_same _ _,
   fun h => by rw [upd_ne (by decide)]; exact S.y19 (upd_old (by decide) h)⟩
theorem S10.s17 {W : World} {b off len cc x y z : Nat} {D0 D1 D2 : Value} {T0 T1 T2 : List Int} {b13 b14 : Nat} {v52 v53 v54 v55 v56 v57 v58 v59 v60 v61 v62 v63 v64 v65 v66 v13 v14 v12 : Value} {l : Nat → Bool} {u : World} (S : S10 W b off len cc x y z D0 D1 D2 T0 T1 T2 b13 b14 v52 v53 v54 v55 v56 v57 v58 v59 v60 v61 v62 v63 v64 v65 v66 v13 v14 v12 l u) (hn : l 17 = false) (hc : l 4 = true) : S10 W b off len cc x y z D0 D1 D2 T0 T1 T2 b13 b14 v52 v53 v54 v55 v56 v57 v58 v59 v60 v61 v62 v63 v64 v65 v66 v13 v14 v56 (upd l 17) u := by
  have _ := hn
  refine ⟨S.base,
   fun h => S.f0 (upd_old (by decide) h),
   fun h => S.f1 (upd_old (by decide) h),
   fun h => S.f2 (upd_old (by decide) h),
   fun h => S.f3 (upd_old (by decide) h),
   fun h => S.f4 (upd_old (by decide) h),
   fun h => S.f5 (upd_old (by decide) h),
   fun h => S.f6 (upd_old (by decide) h),
   fun h => S.f7 (upd_old (by decide) h),
   fun h => S.f8 (upd_old (by decide) h),
   fun h => S.f9 (upd_old (by decide) h),
   fun h => S.f10 (upd_old (by decide) h),
   fun h => S.f11 (upd_old (by decide) h),
   fun h => S.f12 (upd_old (by decide) h),
   fun h => S.f13 (upd_old (by decide) h),
   fun h => S.f14 (upd_old (by decide) h),
   fun h => by
    obtain ⟨e1, e2, z, e3, e4, e5⟩ := S.f15 (upd_old (by decide) h)
    exact ⟨e1, e2, z, e3, e4, fun q => e5 (upd_old (by decide) q)⟩,
   fun h => by
    obtain ⟨e1, e2, z, e3, e4, e5⟩ := S.f16 (upd_old (by decide) h)
    exact ⟨e1, e2, z, e3, e4, fun q => e5 (upd_old (by decide) q)⟩,
   fun _ => ⟨by rw [upd_ne (by decide)]; exact hc, rfl⟩,
   fun h h2 => S.n15_16 (upd_old (by decide) h) (upd_old (by decide) h2),
   fun h => by rw [upd_ne (by decide)]; exact S.w18 (upd_old (by decide) h),
   fun h => by rw [upd_ne (by decide)]; exact S.y18 (upd_old (by decide) h),
   fun h => by rw [upd_ne (by decide)]; exact S.w19 (upd_old (by decide) h),
   fun h => by rw [upd_ne (by decide)]; exact S.y19 (upd_old (by decide) h)⟩
theorem S10.s18 {W : World} {b off len cc x y z : Nat} {D0 D1 D2 : Value} {T0 T1 T2 : List Int} {b13 b14 : Nat} {v52 v53 v54 v55 v56 v57 v58 v59 v60 v61 v62 v63 v64 v65 v66 v13 v14 v12 : Value} {l : Nat → Bool} {u : World} (S : S10 W b off len cc x y z D0 D1 D2 T0 T1 T2 b13 b14 v52 v53 v54 v55 v56 v57 v58 v59 v60 v61 v62 v63 v64 v65 v66 v13 v14 v12 l u) (hn : l 18 = false) (hb : l 15 = true) (hc : l 9 = true) (hs : ∃ q1 q2 q3, v61 = .slice q1 q2 q3) : S10 W b off len cc x y z D0 D1 D2 T0 T1 T2 b13 b14 v52 v53 v54 v55 v56 v57 v58 v59 v60 v61 v62 v63 v64 v65 v66 v13 v14 v12 (upd l 18) (u.setCell ⟨b13, 0, none⟩ v61) := by
  have _ := hn
  obtain ⟨e1, e2, z0, e3, e4, e5⟩ := S.f15 hb
  refine ⟨S.base.setCell e2 _,
   fun h => S.f0 (upd_old (by decide) h),
   fun h => S.f1 (upd_old (by decide) h),
   fun h => S.f2 (upd_old (by decide) h),
   fun h => S.f3 (upd_old (by decide) h),
   fun h => owns_box e3 (by decide) (S.f4 (upd_old (by decide) h)),
   fun h => S.f5 (upd_old (by decide) h),
   fun h => S.f6 (upd_old (by decide) h),
   fun h => S.f7 (upd_old (by decide) h),
   fun h => S.f8 (upd_old (by decide) h),
   fun h => owns_box e3 (by decide) (S.f9 (upd_old (by decide) h)),
   fun h => S.f10 (upd_old (by decide) h),
   fun h => S.f11 (upd_old (by decide) h),
   fun h => S.f12 (upd_old (by decide) h),
   fun h => S.f13 (upd_old (by decide) h),
   fun h => owns_box e3 (by decide) (S.f14 (upd_old (by decide) h)),
   fun _ => ⟨e1, e2, _, e3.set _, hs, fun _ => rfl⟩,
   fun h => by
    have h2 := upd_old (by decide) h
    obtain ⟨k1, k2, z, k3, k4, k5⟩ := S.f16 h2
    exact ⟨k1, k2, z, k3.other (Ne.symm (S.n15_16 hb h2)) _, k4, fun q => k5 (upd_old (by decide) q)⟩,
   fun h => ⟨by rw [upd_ne (by decide)]; exact (S.f17 (upd_old (by decide) h)).1, (S.f17 (upd_old (by decide) h)).2⟩,
   fun h h2 => S.n15_16 (upd_old (by decide) h) (upd_old (by decide) h2),
   fun _ => by rw [upd_ne (by decide)]; exact hb,
   fun _ => by rw [upd_ne (by decide)]; exact hc,
   fun h => by rw [upd_ne (by decide)]; exact S.w19 (upd_old (by decide) h),
   fun h => by rw [upd_ne (by decide)]; exact S.y19 (upd_old (by decide) h)⟩
theorem S10.s19 {W : World} {b off len cc x y z : Nat} {D0 D1 D2 : Value} {T0 T1 T2 : List Int} {b13 b14 : Nat} {v52 v53 v54 v55 v56 v57 v58 v59 v60 v61 v62 v63 v64 v65 v66 v13 v14 v12 : Value} {l : Nat → Bool} {u : World} (S : S10 W b off len cc x y z D0 D1 D2 T0 T1 T2 b13 b14 v52 v53 v54 v55 v56 v57 v58 v59 v60 v61 v62 v63 v64 v65 v66 v13 v14 v12 l u) (hn : l 19 = false) (hb : l 16 = true) (hc : l 14 = true) (hs : ∃ q1 q2 q3, v66 = .slice q1 q2 q3) : S10 W b off len cc x y z D0 D1 D2 T0 T1 T2 b13 b14 v52 v53 v54 v55 v56 v57 v58 v59 v60 v61 v62 v63 v64 v65 v66 v13 v14 v12 (upd l 19) (u.setCell ⟨b14, 0, none⟩ v66) := by
  have _ := hn
  obtain ⟨e1, e2, z0, e3, e4, e5⟩ := S.f16 hb
  refine ⟨S.base.setCell e2 _,
   fun h => S.f0 (upd_old (by decide) h),
   fun h => S.f1 (upd_old (by decide) h),
   fun h => S.f2 (upd_old (by decide) h),
   fun h => S.f3 (upd_old (by decide) h),
   fun h => owns_box e3 (by decide) (S.f4 (upd_old (by decide) h)),
   fun h => S.f5 (upd_old (by decide) h),
   fun h => S.f6 (upd_old (by decide) h),
   fun h => S.f7 (upd_old (by decide) h),
   fun h => S.f8 (upd_old (by decide) h),
   fun h => owns_box e3 (by decide) (S.f9 (upd_old (by decide) h)),
   fun h => S.f10 (upd_old (by decide) h),
   fun h => S.f11 (upd_old (by decide) h),
   fun h => S.f12 (upd_old (by decide) h),
   fun h => S.f13 (upd_old (by decide) h),
   fun h => owns_box e3 (by decide) (S.f14 (upd_old (by decide) h)),
   fun h => by
    have h2 := upd_old (by decide) h
    obtain ⟨k1, k2, z, k3, k4, k5⟩ := S.f15 h2
    exact ⟨k1, k2, z, k3.other (S.n15_16 h2 hb) _, k4, fun q => k5 (upd_old (by decide) q)⟩,
   fun _ => ⟨e1, e2, _, e3.set _, hs, fun _ => rfl⟩,
   fun h => ⟨by rw [upd_ne (by decide)]; exact (S.f17 (upd_old (by decide) h)).1, (S.f17 (upd_old (by decide) h)).2⟩,
   fun h h2 => S.n15_16 (upd_old (by decide) h) (upd_old (by decide) h2),
   fun h => by rw [upd_ne (by decide)]; exact S.w18 (upd_old (by decide) h),
   fun h => by rw [upd_ne (by decide)]; exact S.y18 (upd_old (by decide) h),
   fun _ => by rw [upd_ne (by decide)]; exact hb,
   fun _ => by rw [upd_ne (by decide)]; exact hc⟩
end Go.Proofs.YtccgoigmchcggaaDoor.Ge
namespace Go.Proofs.YtccgoigmchcggaaDoor.Ge
open Go.RowKit St
set_option maxRecDepth 100000

/-- domains of one's own, in a row -/
structure LeftAt (w : World) (g n : Nat) (M : List (List Int × Nat)) : Prop where
  long : M.length = n
  row : ∃ G : Nat → Value × Value, Row2 n 47 w g G ∧ ∀ j, j < n → Dm.OwnsI w 0 (G j).1 (M.getD j ([], 0)).1 ∧ (G j).2 = .int .u64 ((M.getD j ([], 0)).2 : Nat)
theorem LeftAt.below {w w' : World} {g n : Nat} {M : List (List Int × Nat)} (h : LeftAt w g n M) (hb : Below w.heap.size w w') : LeftAt w' g n M := by
  obtain ⟨h0, G, h1, h2⟩ := h
  exact ⟨h0, G, h1.below hb, fun j hj => ⟨owns_below (h2 j hj).1 hb, (h2 j hj).2⟩⟩
/-- what a store into a domain's set wants -/
theorem LeftAt.cells {w : World} {g n : Nat} {M : List (List Int × Nat)} (h : LeftAt w g n M) {y : Nat} (hy : y < n) : (∃ p l c, w.cell? ⟨g, y * 2, none⟩ = some (.slice p l c)) ∧ w.cell? ⟨g, y * 2 + 1, none⟩ = some (.int .u64 ((M.getD y ([], 0)).2 : Nat)) ∧ w.frozen? ⟨g, y * 2 + 1, none⟩ = false := by
  obtain ⟨_, G, h1, h2⟩ := h
  obtain ⟨o, e⟩ := h2 y hy
  obtain ⟨p, _, c, es, _, _⟩ := Dm.ints_shape o
  have c0 := h1.cell0 hy
  have c1 := h1.cell1 hy
  rw [es] at c0
  rw [e] at c1
  exact ⟨⟨_, _, _, c0⟩, c1, h1.frozen _⟩
theorem LeftAt.set {w : World} {g n : Nat} {M : List (List Int × Nat)} (h : LeftAt w g n M) {y : Nat} (hy : y < n) (z : Nat) : LeftAt (w.setCell ⟨g, y * 2 + 1, none⟩ (.int .u64 (z : Nat))) g n (M.set y ((M.getD y ([], 0)).1, z)) := by
  obtain ⟨h0, G, h1, h2⟩ := h
  refine ⟨by rw [List.length_set]; exact h0, fun j => if j = y then ((G y).1, .int .u64 (z : Nat)) else G j, h1.set1 hy _ (if_pos rfl) (fun j hj => if_neg hj), fun j hj => ?_⟩
  have o := h2 j hj
  rw [getD_set]
  by_cases e : j = y
  · subst e
    rw [if_pos ⟨rfl, by omega⟩]
    simp only [if_true]
    exact ⟨own_set h1 (by decide) o.1, trivial⟩
  · rw [if_neg (fun q => e q.1.symm)]
    simp only [if_neg e]
    exact ⟨own_set h1 (by decide) o.1, o.2⟩
theorem LeftAt.slc {w : World} {g n : Nat} {M : List (List Int × Nat)} (h : LeftAt w g n M) (hm : ∀ d ∈ M, d.1.length ≤ 1000 ∧ d.2 < 18446744073709551616) : Slc rDom 2 w (.slice (some ⟨g, 0, none⟩) n n) M := by
  obtain ⟨h0, G, h1, h2⟩ := h
  refine ⟨_, g, 0, n, n, rfl, ⟨(fun e => by cases e), Nat.le_refl _⟩, ⟨h0.symm, fun _ => rfl, fun j a ha => ?_⟩⟩
  have hj : j < n := by
    have := (List.getElem?_eq_some_iff.1 ha).1
    omega
  have ea : a = M.getD j ([], 0) := by rw [List.getD_eq_getElem?_getD, ha]; rfl
  have o := h2 j hj
  have hma := hm a (List.mem_of_getElem? ha)
  refine ⟨[(G j).1, (G j).2], rfl, fun i hi => ?_, (G j).1, by rw [o.2, ea], ?_, ?_, ?_⟩
  · have c0 := h1.cell0 hj
    have c1 := h1.cell1 hj
    rw [Nat.zero_add]
    match i, hi with
    | 0, _ => exact c0
    | 1, _ => exact c1
  · rw [ea]
    exact Dm.readsN_of_owns o.1
  · exact hma.2
  · exact Nat.le_trans hma.1 (by decide)
/-- a list of one's own stays where such a row is written -/
theorem LeftAt.keeps {w : World} {g n : Nat} {M : List (List Int × Nat)} (h : LeftAt w g n M) {v z : Value} {xs : List Int} {off : Nat} (o : Dm.OwnsI w 0 v xs) : Dm.OwnsI (w.setCell ⟨g, off, none⟩ z) 0 v xs := by
  obtain ⟨_, G, h1, _⟩ := h
  exact own_set h1 (by decide) o
theorem box_keeps {w : World} {b g off : Nat} {t : TypeId} {x z : Value} (h : Own1 w b t x) (hne : b ≠ g) : Own1 (w.setCell ⟨g, off, none⟩ z) b t x :=
  (Below.heap_setCell w ⟨g, off, none⟩ z b hne).trans h
end Go.Proofs.YtccgoigmchcggaaDoor.Ge
namespace Go.Proofs.YtccgoigmchcggaaDoor.Ge
open Go.RowKit St
set_option maxRecDepth 100000

structure At3 (w : World) (g n b13 b14 : Nat) (vF vS vT : Value) (F S T : List Int) (M : List (List Int × Nat)) : Prop where
  left : LeftAt w g n M
  oF : Dm.OwnsI w 0 vF F
  oS : Dm.OwnsI w 0 vS S
  oT : Dm.OwnsI w 0 vT T
  c13 : Own1 w b13 22 vS
  c14 : Own1 w b14 22 vT
  n13 : b13 ≠ g
  n14 : b14 ≠ g
section
variable {w w' : World} {g n b13 b14 : Nat} {vF vS vT : Value} {F S T : List Int} {M : List (List Int × Nat)}
theorem At3.below (h : At3 w g n b13 b14 vF vS vT F S T M) (hb : Below w.heap.size w w') : At3 w' g n b13 b14 vF vS vT F S T M :=
  ⟨h.left.below hb, owns_below h.oF hb, owns_below h.oS hb, owns_below h.oT hb, h.c13.below hb, h.c14.below hb, h.n13, h.n14⟩
theorem At3.set (h : At3 w g n b13 b14 vF vS vT F S T M) {y : Nat} (hy : y < n) (z : Nat) : At3 (w.setCell ⟨g, y * 2 + 1, none⟩ (.int .u64 (z : Nat))) g n b13 b14 vF vS vT F S T (M.set y ((M.getD y ([], 0)).1, z)) :=
  ⟨h.left.set hy z, h.left.keeps h.oF, h.left.keeps h.oS, h.left.keeps h.oT, box_keeps h.c13 h.n13, box_keeps h.c14 h.n14, h.n13, h.n14⟩
end
end Go.Proofs.YtccgoigmchcggaaDoor.Ge
