/-
  The relation of what has come up, for the part of the document's some that lays three lists into an array, in whichever order.
  What some of the document's answers for products answers: are there values of the other two, for a value of one?
-/
import Derived.Test.YtccgoigmchcggaaDoorZYCA
import Derived.Test.YtccgoigmchcggaaDoorZYBI
import Derived.Test.YtccgoigmchcggaaDoorZIStep
import Derived.Test.YtccgoigmchcggaaDoorZYCB
namespace Go.Proofs.YtccgoigmchcggaaDoor.Ge
open Go.RowKit St
set_option maxRecDepth 100000

/-- an array of three lists, in a block of its own -/
def Arr (w : World) (b : Nat) (x y z : Value) : Prop := w.heap[b]? = some (.cells #[x, y, z] 72 (0, 0))
section
variable {w w' : World} {b : Nat} {x y z : Value}
theorem Arr.at (h : Arr w b x y z) : w.cell? ⟨b, 0, none⟩ = some x ∧ w.cell? ⟨b, 1, none⟩ = some y ∧ w.cell? ⟨b, 2, none⟩ = some z := by unfold Arr at h; simp [World.cell?, h]
theorem Arr.frozen (h : Arr w b x y z) (off : Nat) : w.frozen? ⟨b, off, none⟩ = false := by unfold Arr at h; simp [World.frozen?, h]
theorem Arr.set0 (h : Arr w b x y z) (u : Value) : Arr (w.setCell ⟨b, 0, none⟩ u) b u y z := by unfold Arr at h ⊢; simp [World.setCell, Array.getElem?_modify, h]
theorem Arr.set1 (h : Arr w b x y z) (u : Value) : Arr (w.setCell ⟨b, 1, none⟩ u) b x u z := by unfold Arr at h ⊢; simp [World.setCell, Array.getElem?_modify, h]
theorem Arr.set2 (h : Arr w b x y z) (u : Value) : Arr (w.setCell ⟨b, 2, none⟩ u) b x y u := by unfold Arr at h ⊢; simp [World.setCell, Array.getElem?_modify, h]
theorem Arr.below (h : Arr w b x y z) (hB : Below w.heap.size w w') : Arr w' b x y z := (hB.block b (Array.getElem?_eq_some_iff.1 h).1).trans h
theorem Arr.new (w : World) (x y z : Value) : Arr (w.alloc (.cells #[x, y, z] 72)) w.heap.size x y z := by unfold Arr World.alloc; simp
end
structure S1 (W : World) (b1 o1 c1 gm len cap cb y0 y1 y2 : Nat) (U0 U1 U2 : Value) (b9 : Nat) (v13 v14 v15 v16 v17 v18 v19 v20 v21 v22 v23 v24 v25 v26 v27 v28 v29 v30 v31 v32 v33 v34 v9 : Value) (l : Nat → Bool) (u : World) : Prop where
  base : Below W.heap.size W u
  f0 : l 0 = true → v13 = (.slice (some ⟨gm, 0, none⟩) len cap)
  f1 : l 1 = true → v14 = (.pointer (some ⟨cb, 1, none⟩))
  f2 : l 2 = true → v15 = (.slice (some ⟨b1, o1, none⟩) 3 c1)
  f3 : l 3 = true → v16 = (.pointer (some ⟨b1, o1, none⟩))
  f4 : l 4 = true → v17 = (.int .i64 (y0 : Nat))
  f5 : l 5 = true → v18 = (.pointer (some ⟨gm, y0, none⟩))
  f6 : l 6 = true → v19 = U0
  f7 : l 7 = true → v20 = (.slice (some ⟨gm, 0, none⟩) len cap)
  f8 : l 8 = true → v21 = (.pointer (some ⟨cb, 1, none⟩))
  f9 : l 9 = true → v22 = (.slice (some ⟨b1, o1, none⟩) 3 c1)
  f10 : l 10 = true → v23 = (.pointer (some ⟨b1, o1 + 1, none⟩))
  f11 : l 11 = true → v24 = (.int .i64 (y1 : Nat))
  f12 : l 12 = true → v25 = (.pointer (some ⟨gm, y1, none⟩))
  f13 : l 13 = true → v26 = U1
  f14 : l 14 = true → v27 = (.slice (some ⟨gm, 0, none⟩) len cap)
  f15 : l 15 = true → v28 = (.pointer (some ⟨cb, 1, none⟩))
  f16 : l 16 = true → v29 = (.slice (some ⟨b1, o1, none⟩) 3 c1)
  f17 : l 17 = true → v30 = (.pointer (some ⟨b1, o1 + 2, none⟩))
  f18 : l 18 = true → v31 = (.int .i64 (y2 : Nat))
  f19 : l 19 = true → v32 = (.pointer (some ⟨gm, y2, none⟩))
  f20 : l 20 = true → v33 = U2
  f21 : l 21 = true → v34 = (.agg #[U0, U1, U2])
  f22 : l 22 = true → v9 = .pointer (some ⟨b9, 0, none⟩) ∧ W.heap.size ≤ b9 ∧ ∃ z0 z1 z2, Arr u b9 z0 z1 z2 ∧ ((∃ q1 q2 q3, z0 = .slice q1 q2 q3) ∧ (∃ q1 q2 q3, z1 = .slice q1 q2 q3) ∧ (∃ q1 q2 q3, z2 = .slice q1 q2 q3)) ∧ (l 23 = true → z0 = U0 ∧ z1 = U1 ∧ z2 = U2)
  w23 : l 23 = true → l 22 = true
  y23 : l 23 = true → l 21 = true
structure GS1 where
  (b9 : Nat)
  (v13 v14 v15 v16 v17 v18 v19 v20 v21 v22 v23 v24 v25 v26 v27 v28 v29 v30 v31 v32 v33 v34 v9 : Value)
def putS1 (g : GS1) (tm : Array Value) : Array Value := ((((((((((((((((((((((((((((((((((((((((((((((tm).setIfInBounds 13 g.v13)).setIfInBounds 14 g.v14)).setIfInBounds 15 g.v15)).setIfInBounds 16 g.v16)).setIfInBounds 17 g.v17)).setIfInBounds 18 g.v18)).setIfInBounds 19 g.v19)).setIfInBounds 20 g.v20)).setIfInBounds 21 g.v21)).setIfInBounds 22 g.v22)).setIfInBounds 23 g.v23)).setIfInBounds 24 g.v24)).setIfInBounds 25 g.v25)).setIfInBounds 26 g.v26)).setIfInBounds 27 g.v27)).setIfInBounds 28 g.v28)).setIfInBounds 29 g.v29)).setIfInBounds 30 g.v30)).setIfInBounds 31 g.v31)).setIfInBounds 32 g.v32)).setIfInBounds 33 g.v33)).setIfInBounds 34 g.v34)).setIfInBounds 9 g.v9)
def JS1 (W : World) (b1 o1 c1 gm len cap cb y0 y1 y2 : Nat) (U0 U1 U2 : Value) (g : GS1) (l : Nat → Bool) (u : World) : Prop := S1 W b1 o1 c1 gm len cap cb y0 y1 y2 U0 U1 U2 g.b9 g.v13 g.v14 g.v15 g.v16 g.v17 g.v18 g.v19 g.v20 g.v21 g.v22 g.v23 g.v24 g.v25 g.v26 g.v27 g.v28 g.v29 g.v30 g.v31 g.v32 g.v33 g.v34 g.v9 l u
theorem S1.s0 {W : World} {b1 o1 c1 gm len cap cb y0 y1 y2 : Nat} {U0 U1 U2 : Value} {b9 : Nat} {v13 v14 v15 v16 v17 v18 v19 v20 v21 v22 v23 v24 v25 v26 v27 v28 v29 v30 v31 v32 v33 v34 v9 : Value} {l : Nat → Bool} {u : World} (S : S1 W b1 o1 c1 gm len cap cb y0 y1 y2 U0 U1 U2 b9 v13 v14 v15 v16 v17 v18 v19 v20 v21 v22 v23 v24 v25 v26 v27 v28 v29 v30 v31 v32 v33 v34 v9 l u) (hn : l 0 = false) : S1 W b1 o1 c1 gm len cap cb y0 y1 y2 U0 U1 U2 b9 (.slice (some ⟨gm, 0, none⟩) len cap) v14 v15 v16 v17 v18 v19 v20 v21 v22 v23 v24 v25 v26 v27 v28 v29 v30 v31 v32 v33 v34 v9 (upd l 0) u := by
  have _ := hn
  refine ⟨S.base,
   fun _ => rfl,
   fun h => S.f1 (upd_old (by decide) h),
   fun h => S.f2 (upd_old (by decide) h),
   fun h => S.f3 (upd_old (by decide) h),
   fun h => S.f4 (upd_old (by decide) h),
   fun h => S.f5 (upd_old (by decide) h),
   fun h => S.f6 (upd_old (by decide) h),
   fun h => S.f7 (upd_old (by decide) h),
   fun h => S.f8 (upd_old (by decide) h),
   fun h => S.f9 (upd_old (by decide) h),
   fun h => S.f10 (upd_old (by decide) h),
   fun h => S.f11 (upd_old (by decide) h),
   fun h => S.f12 (upd_old (by decide) h),
   fun h => S.f13 (upd_old (by decide) h),
   fun h => S.f14 (upd_old (by decide) h),
   fun h => S.f15 (upd_old (by decide) h),
   fun h => S.f16 (upd_old (by decide) h),
   fun h => S.f17 (upd_old (by decide) h),
   fun h => S.f18 (upd_old (by decide) h),
   fun h => S.f19 (upd_old (by decide) h),
   fun h => S.f20 (upd_old (by decide) h),
   fun h => S.f21 (upd_old (by decide) h),
   fun h => by
    obtain ⟨e1, e2, z0, z1, z2, e3, e4, e5⟩ := S.f22 (upd_old (by decide) h)
    exact ⟨e1, e2, z0, z1, z2, e3, e4, fun q => e5 (upd_old (by decide) q)⟩,
   fun h => by rw [upd_ne (by decide)]; exact S.w23 (upd_old (by decide) h),
   fun h => by rw [upd_ne (by decide)]; exact S.y23 (upd_old (by decide) h)⟩
theorem S1.s1 {W : World} {b1 o1 c1 gm len cap cb y0 y1 y2 : Nat} {U0 U1 U2 : Value} {b9 : Nat} {v13 v14 v15 v16 v17 v18 v19 v20 v21 v22 v23 v24 v25 v26 v27 v28 v29 v30 v31 v32 v33 v34 v9 : Value} {l : Nat → Bool} {u : World} (S : S1 W b1 o1 c1 gm len cap cb y0 y1 y2 U0 U1 U2 b9 v13 v14 v15 v16 v17 v18 v19 v20 v21 v22 v23 v24 v25 v26 v27 v28 v29 v30 v31 v32 v33 v34 v9 l u) (hn : l 1 = false) : S1 W b1 o1 c1 gm len cap cb y0 y1 y2 U0 U1 U2 b9 v13 (.pointer (some ⟨cb, 1, none⟩)) v15 v16 v17 v18 v19 v20 v21 v22 v23 v24 v25 v26 v27 v28 v29 v30 v31 v32 v33 v34 v9 (upd l 1) u := by
  have _ := hn
  refine ⟨S.base,
   fun h => S.f0 (upd_old (by decide) h),
   fun _ => rfl,
   fun h => S.f2 (upd_old (by decide) h),
   fun h => S.f3 (upd_old (by decide) h),
   fun h => S.f4 (upd_old (by decide) h),
   fun h => S.f5 (upd_old (by decide) h),
   fun h => S.f6 (upd_old (by decide) h),
   fun h => S.f7 (upd_old (by decide) h),
   fun h => S.f8 (upd_old (by decide) h),
   fun h => S.f9 (upd_old (by decide) h),
   fun h => S.f10 (upd_old (by decide) h),
   fun h => S.f11 (upd_old (by decide) h),
   fun h => S.f12 (upd_old (by decide) h),
   fun h => S.f13 (upd_old (by decide) h),
   fun h => S.f14 (upd_old (by decide) h),
   fun h => S.f15 (upd_old (by decide) h),
   fun h => S.f16 (upd_old (by decide) h),
   fun h => S.f17 (upd_old (by decide) h),
   fun h => S.f18 (upd_old (by decide) h),
   fun h => S.f19 (upd_old (by decide) h),
   fun h => S.f20 (upd_old (by decide) h),
   fun h => S.f21 (upd_old (by decide) h),
   fun h => by
    obtain ⟨e1, e2, z0, z1, z2, e3, e4, e5⟩ := S.f22 (upd_old (by decide) h)
    exact ⟨e1, e2, z0, z1, z2, e3, e4, fun q => e5 (upd_old (by decide) q)⟩,
   fun h => by rw [upd_ne (by decide)]; exact S.w23 (upd_old (by decide) h),
   fun h => by rw [upd_ne (by decide)]; exact S.y23 (upd_old (by decide) h)⟩
theorem S1.s2 {W : World} {b1 o1 c1 gm len cap cb y0 y1 y2 : Nat} {U0 U1 U2 : Value} {b9 : Nat} {v13 v14 v15 v16 v17 v18 v19 v20 v21 v22 v23 v24 v25 v26 v27 v28 v29 v30 v31 v32 v33 v34 v9 : Value} {l : Nat → Bool} {u : World} (S : S1 W b1 o1 c1 gm len cap cb y0 y1 y2 U0 U1 U2 b9 v13 v14 v15 v16 v17 v18 v19 v20 v21 v22 v23 v24 v25 v26 v27 v28 v29 v30 v31 v32 v33 v34 v9 l u) (hn : l 2 = false) : S1 W b1 o1 c1 gm len cap cb y0 y1 y2 U0 U1 U2 b9 v13 v14 (.slice (some ⟨b1, o1, none⟩) 3 c1) v16 v17 v18 v19 v20 v21 v22 v23 v24 v25 v26 v27 v28 v29 v30 v31 v32 v33 v34 v9 (upd l 2) u := by
  have _ := hn
  refine ⟨S.base,
   fun h => S.f0 (upd_old (by decide) h),
   fun h => S.f1 (upd_old (by decide) h),
   fun _ => rfl,
   fun h => S.f3 (upd_old (by decide) h),
   fun h => S.f4 (upd_old (by decide) h),
   fun h => S.f5 (upd_old (by decide) h),
   fun h => S.f6 (upd_old (by decide) h),
   fun h => S.f7 (upd_old (by decide) h),
   fun h => S.f8 (upd_old (by decide) h),
   fun h => S.f9 (upd_old (by decide) h),
   fun h => S.f10 (upd_old (by decide) h),
   fun h => S.f11 (upd_old (by decide) h),
   fun h => S.f12 (upd_old (by decide) h),
   fun h => S.f13 (upd_old (by decide) h),
   fun h => S.f14 (upd_old (by decide) h),
   fun h => S.f15 (upd_old (by decide) h),
   fun h => S.f16 (upd_old (by decide) h),
   fun h => S.f17 (upd_old (by decide) h),
   fun h => S.f18 (upd_old (by decide) h),
   fun h => S.f19 (upd_old (by decide) h),
   fun h => S.f20 (upd_old (by decide) h),
   fun h => S.f21 (upd_old (by decide) h),
   fun h => by
    obtain ⟨e1, e2, z0, z1, z2, e3, e4, e5⟩ := S.f22 (upd_old (by decide) h)
    exact ⟨e1, e2, z0, z1, z2, e3, e4, fun q => e5 (upd_old (by decide) q)⟩,
   fun h => by rw [upd_ne (by decide)]; exact S.w23 (upd_old (by decide) h),
   fun h => by rw [upd_ne (by decide)]; exact S.y23 (upd_old (by decide) h)⟩
theorem S1.s3 {W : World} {b1 o1 c1 gm len cap cb y0 y1 y2 : Nat} {U0 U1 U2 : Value} {b9 : Nat} {v13 v14 v15 v16 v17 v18 v19 v20 v21 v22 v23 v24 v25 v26 v27 v28 v29 v30 v31 v32 v33 v34 v9 : Value} {l : Nat → Bool} {u : World} (S : S1 W b1 o1 c1 gm len cap cb y0 y1 y2 U0 U1 U2 b9 v13 v14 v15 v16 v17 v18 v19 v20 v21 v22 v23 v24 v25 v26 v27 v28 v29 v30 v31 v32 v33 v34 v9 l u) (hn : l 3 = false) : S1 W b1 o1 c1 gm len cap cb y0 y1 y2 U0 U1 U2 b9 v13 v14 v15 (.pointer (some ⟨b1, o1, none⟩)) v17 v18 v19 v20 v21 v22 v23 v24 v25 v26 v27 v28 v29 v30 v31 v32 v33 v34 v9 (upd l 3) u := by
  have _ := hn
  refine ⟨S.base,
   fun h => S.f0 (upd_old (by decide) h),
   fun h => S.f1 (upd_old (by decide) h),
   fun h => S.f2 (upd_old (by decide) h),
   fun _ => rfl,
   fun h => S.f4 (upd_old (by decide) h),
   fun h => S.f5 (upd_old (by decide) h),
   fun h => S.f6 (upd_old (by decide) h),
   fun h => S.f7 (upd_old (by decide) h),
   fun h => S.f8 (upd_old (by decide) h),
   fun h => S.f9 (upd_old (by decide) h),
   fun h => S.f10 (upd_old (by decide) h),
   fun h => S.f11 (upd_old (by decide) h),
   fun h => S.f12 (upd_old (by decide) h),
   fun h => S.f13 (upd_old (by decide) h),
   fun h => S.f14 (upd_old (by decide) h),
   fun h => S.f15 (upd_old (by decide) h),
   fun h => S.f16 (upd_old (by decide) h),
   fun h => S.f17 (upd_old (by decide) h),
   fun h => S.f18 (upd_old (by decide) h),
   fun h => S.f19 (upd_old (by decide) h),
   fun h => S.f20 (upd_old (by decide) h),
   fun h => S.f21 (upd_old (by decide) h),
   fun h => by
    obtain ⟨e1, e2, z0, z1, z2, e3, e4, e5⟩ := S.f22 (upd_old (by decide) h)
    exact ⟨e1, e2, z0, z1, z2, e3, e4, fun q => e5 (upd_old (by decide) q)⟩,
   fun h => by rw [upd_ne (by decide)]; exact S.w23 (upd_old (by decide) h),
   fun h => by rw [upd_ne (by decide)]; exact S.y23 (upd_old (by decide) h)⟩
theorem S1.s4 {W : World} {b1 o1 c1 gm len cap cb y0 y1 y2 : Nat} {U0 U1 U2 : Value} {b9 : Nat} {v13 v14 v15 v16 v17 v18 v19 v20 v21 v22 v23 v24 v25 v26 v27 v28 v29 v30 v31 v32 v33 v34 v9 : Value} {l : Nat → Bool} {u : World} (S : S1 W b1 o1 c1 gm len cap cb y0 y1 y2 U0 U1 U2 b9 v13 v14 v15 v16 v17 v18 v19 v20 v21 v22 v23 v24 v25 v26 v27 v28 v29 v30 v31 v32 v33 v34 v9 l u) (hn : l 4 = false) : S1 W b1 o1 c1 gm len cap cb y0 y1 y2 U0 U1 U2 b9 v13 v14 v15 v16 (.int .i64 (y0 : Nat)) v18 v19 v20 v21 v22 v23 v24 v25 v26 v27 v28 v29 v30 v31 v32 v33 v34 v9 (upd l 4) u := by
  have _ := hn
  refine ⟨S.base,
   fun h => S.f0 (upd_old (by decide) h),
   fun h => S.f1 (upd_old (by decide) h),
   fun h => S.f2 (upd_old (by decide) h),
   fun h => S.f3 (upd_old (by decide) h),
   fun _ => rfl,
   fun h => S.f5 (upd_old (by decide) h),
   fun h => S.f6 (upd_old (by decide) h),
   fun h => S.f7 (upd_old (by decide) h),
   fun h => S.f8 (upd_old (by decide) h),
   fun h => S.f9 (upd_old (by decide) h),
   fun h => S.f10 (upd_old (by decide) h),
   fun h => S.f11 (upd_old (by decide) h),
   fun h => S.f12 (upd_old (by decide) h),
   fun h => S.f13 (upd_old (by decide) h),
   fun h => S.f14 (upd_old (by decide) h),
   fun h => S.f15 (upd_old (by decide) h),
   fun h => S.f16 (upd_old (by decide) h),
   fun h => S.f17 (upd_old (by decide) h),
   fun h => S.f18 (upd_old (by decide) h),
   fun h => S.f19 (upd_old (by decide) h),
   fun h => S.f20 (upd_old (by decide) h),
   fun h => S.f21 (upd_old (by decide) h),
   fun h => by
    obtain ⟨e1, e2, z0, z1, z2, e3, e4, e5⟩ := S.f22 (upd_old (by decide) h)
    exact ⟨e1, e2, z0, z1, z2, e3, e4, fun q => e5 (upd_old (by decide) q)⟩,
   fun h => by rw [upd_ne (by decide)]; exact S.w23 (upd_old (by decide) h),
   fun h => by rw [upd_ne (by decide)]; exact S.y23 (upd_old (by decide) h)⟩
theorem S1.s5 {W : World} {b1 o1 c1 gm len cap cb y0 y1 y2 : Nat} {U0 U1 U2 : Value} {b9 : Nat} {v13 v14 v15 v16 v17 v18 v19 v20 v21 v22 v23 v24 v25 v26 v27 v28 v29 v30 v31 v32 v33 v34 v9 : Value} {l : Nat → Bool} {u : World} (S : S1 W b1 o1 c1 gm len cap cb y0 y1 y2 U0 U1 U2 b9 v13 v14 v15 v16 v17 v18 v19 v20 v21 v22 v23 v24 v25 v26 v27 v28 v29 v30 v31 v32 v33 v34 v9 l u) (hn : l 5 = false) : S1 W b1 o1 c1 gm len cap cb y0 y1 y2 U0 U1 U2 b9 v13 v14 v15 v16 v17 (.pointer (some ⟨gm, y0, none⟩)) v19 v20 v21 v22 v23 v24 v25 v26 v27 v28 v29 v30 v31 v32 v33 v34 v9 (upd l 5) u := by
  have _ := hn
  refine ⟨S.base,
   fun h => S.f0 (upd_old (by decide) h),
   fun h => S.f1 (upd_old (by decide) h),
   fun h => S.f2 (upd_old (by decide) h),
   fun h => S.f3 (upd_old (by decide) h),
   fun h => S.f4 (upd_old (by decide) h),
   fun _ => rfl,
   fun h => S.f6 (upd_old (by decide) h),
   fun h => S.f7 (upd_old (by decide) h),
   fun h => S.f8 (upd_old (by decide) h),
   fun h => S.f9 (upd_old (by decide) h),
   fun h => S.f10 (upd_old (by decide) h),
   fun h => S.f11 (upd_old (by decide) h),
   fun h => S.f12 (upd_old (by decide) h),
   fun h => S.f13 (upd_old (by decide) h),
   fun h => S.f14 (upd_old (by decide) h),
   fun h => S.f15 (upd_old (by decide) h),
   fun h => S.f16 (upd_old (by decide) h),
   fun h => S.f17 (upd_old (by decide) h),
   fun h => S.f18 (upd_old (by decide) h),
   fun h => S.f19 (upd_old (by decide) h),
   fun h => S.f20 (upd_old (by decide) h),
   fun h => S.f21 (upd_old (by decide) h),
   fun h => by
    obtain ⟨e1, e2, z0, z1, z2, e3, e4, e5⟩ := S.f22 (upd_old (by decide) h)
    exact ⟨e1, e2, z0, z1, z2, e3, e4, fun q => e5 (upd_old (by decide) q)⟩,
   fun h => by rw [upd_ne (by decide)]; exact S.w23 (upd_old (by decide) h),
   fun h => by rw [upd_ne (by decide)]; exact S.y23 (upd_old (by decide) h)⟩
theorem S1.s6 {W : World} {b1 o1 c1 gm len cap cb y0 y1 y2 : Nat} {U0 U1 U2 : Value} {b9 : Nat} {v13 v14 v15 v16 v17 v18 v19 v20 v21 v22 v23 v24 v25 v26 v27 v28 v29 v30 v31 v32 v33 v34 v9 : Value} {l : Nat → Bool} {u : World} (S : S1 W b1 o1 c1 gm len cap cb y0 y1 y2 U0 U1 U2 b9 v13 v14 v15 v16 v17 v18 v19 v20 v21 v22 v23 v24 v25 v26 v27 v28 v29 v30 v31 v32 v33 v34 v9 l u) (hn : l 6 = false) : S1 W b1 o1 c1 gm len cap cb y0 y1 y2 U0 U1 U2 b9 v13 v14 v15 v16 v17 v18 U0 v20 v21 v22 v23 v24 v25 v26 v27 v28 v29 v30 v31 v32 v33 v34 v9 (upd l 6) u := by
  have _ := hn
  refine ⟨S.base,
   fun h => S.f0 (upd_old (by decide) h),
   fun h => S.f1 (upd_old (by decide) h),
   fun h => S.f2 (upd_old (by decide) h),
   fun h => S.f3 (upd_old (by decide) h),
   fun h => S.f4 (upd_old (by decide) h),
   fun h => S.f5 (upd_old (by decide) h),
   fun _ => rfl,
   fun h => S.f7 (upd_old (by decide) h),
   fun h => S.f8 (upd_old (by decide) h),
   fun h => S.f9 (upd_old (by decide) h),
   fun h => S.f10 (upd_old (by decide) h),
   fun h => S.f11 (upd_old (by decide) h),
   fun h => S.f12 (upd_old (by decide) h),
   fun h => S.f13 (upd_old (by decide) h),
   fun h => S.f14 (upd_old (by decide) h),
   fun h => S.f15 (upd_old (by decide) h),
   fun h => S.f16 (upd_old (by decide) h),
   fun h => S.f17 (upd_old (by decide) h),
   fun h => S.f18 (upd_old (by decide) h),
   fun h => S.f19 (upd_old (by decide) h),
   fun h => S.f20 (upd_old (by decide) h),
   fun h => S.f21 (upd_old (by decide) h),
   fun h => by
    obtain ⟨e1, e2, z0, z1, z2, e3, e4, e5⟩ := S.f22 (upd_old (by decide) h)
    exact ⟨e1, e2, z0, z1, z2, e3, e4, fun q => e5 (upd_old (by decide) q)⟩,
   fun h => by rw [upd_ne (by decide)]; exact S.w23 (upd_old (by decide) h),
   fun h => by rw [upd_ne (by decide)]; exact S.y23 (upd_old (by decide) h)⟩
theorem S1.s7 {W : World} {b1 o1 c1 gm len cap cb y0 y1 y2 : Nat} {U0 U1 U2 : Value} {b9 : Nat} {v13 v14 v15 v16 v17 v18 v19 v20 v21 v22 v23 v24 v25 v26 v27 v28 v29 v30 v31 v32 v33 v34 v9 : Value} {l : Nat → Bool} {u : World} (S : S1 W b1 o1 c1 gm len cap cb y0 y1 y2 U0 U1 U2 b9 v13 v14 v15 v16 v17 v18 v19 v20 v21 v22 v23 v24 v25 v26 v27 v28 v29 v30 v31 v32 v33 v34 v9 l u) (hn : l 7 = false) : S1 W b1 o1 c1 gm len cap cb y0 y1 y2 U0 U1 U2 b9 v13 v14 v15 v16 v17 v18 v19 (.slice (some ⟨gm, 0, none⟩) len cap) v21 v22 v23 v24 v25 v26 v27 v28 v29 v30 v31 v32 v33 v34 v9 (upd l 7) u := by
  have _ := hn
  refine ⟨S.base,
   fun h => S.f0 (upd_old (by decide) h),
   fun h => S.f1 (upd_old (by decide) h),
   fun h => S.f2 (upd_old (by decide) h),
   fun h => S.f3 (upd_old (by decide) h),
   fun h => S.f4 (upd_old (by decide) h),
   fun h => S.f5 (upd_old (by decide) h),
   fun h => S.f6 (upd_old (by decide) h),
   fun _ => rfl,
   fun h => S.f8 (upd_old (by decide) h),
   fun h => S.f9 (upd_old (by decide) h),
   fun h => S.f10 (upd_old (by decide) h),
   fun h => S.f11 (upd_old (by decide) h),
   fun h => S.f12 (upd_old (by decide) h),
   fun h => S.f13 (upd_old (by decide) h),
   fun h => S.f14 (upd_old (by decide) h),
   fun h => S.f15 (upd_old (by decide) h),
   fun h => S.f16 (upd_old (by decide) h),
   fun h => S.f17 (upd_old (by decide) h),
   fun h => S.f18 (upd_old (by decide) h),
   fun h => S.f19 (upd_old (by decide) h),
   fun h => S.f20 (upd_old (by decide) h),
   fun h => S.f21 (upd_old (by decide) h),
   fun h => by
    obtain ⟨e1, e2, z0, z1, z2, e3, e4, e5⟩ := S.f22 (upd_old (by decide) h)
    exact ⟨e1, e2, z0, z1, z2, e3, e4, fun q => e5 (upd_old (by decide) q)⟩,
   fun h => by rw [upd_ne (by decide)]; exact S.w23 (upd_old (by decide) h),
   fun h => by rw [upd_ne (by decide)]; exact S.y23 (upd_old (by decide) h)⟩
theorem S1.s8 {W : World} {b1 o1 c1 gm len cap cb y0 y1 y2 : Nat} {U0 U1 U2 : Value} {b9 : Nat} {v13 v14 v15 v16 v17 v18 v19 v20 v21 v22 v23 v24 v25 v26 v27 v28 v29 v30 v31 v32 v33 v34 v9 : Value} {l : Nat → Bool} {u : World} (S : S1 W b1 o1 c1 gm len cap cb y0 y1 y2 U0 U1 U2 b9 v13 v14 v15 v16 v17 v18 v19 v20 v21 v22 v23 v24 v25 v26 v27 v28 v29 v30 v31 v32 v33 v34 v9 l u) (hn : l 8 = false) : S1 W b1 o1 c1 gm len cap cb y0 y1 y2 U0 U1 U2 b9 v13 v14 v15 v16 v17 v18 v19 v20 (.pointer (some ⟨cb, 1, none⟩)) v22 v23 v24 v25 v26 v27 v28 v29 v30 v31 v32 v33 v34 v9 (upd l 8) u := by
  have _ := hn
  refine ⟨S.base,
   fun h => S.f0 (upd_old (by decide) h),
   fun h => S.f1 (upd_old (by decide) h),
   fun h => S.f2 (upd_old (by decide) h),
   fun h => S.f3 (upd_old (by decide) h),
   fun h => S.f4 (upd_old (by decide) h),
   fun h => S.f5 (upd_old (by decide) h),
   fun h => S.f6 (upd_old (by decide) h),
   fun h => S.f7 (upd_old (by decide) h),
   fun _ => rfl,
   fun h => S.f9 (upd_old (by decide) h),
   fun h => S.f10 (upd_old (by decide) h),
   fun h => S.f11 (upd_old (by decide) h),
   fun h => S.f12 (upd_old (by decide) h),
   fun h => S.f13 (upd_old (by decide) h),
   fun h => S.f14 (upd_old (by decide) h),
   fun h => S.f15 (upd_old (by decide) h),
   fun h => S.f16 (upd_old (by decide) h),
   fun h => S.f17 (upd_old (by decide) h),
   fun h => S.f18 (upd_old (by decide) h),
   fun h => S.f19 (upd_old (by decide) h),
   fun h => S.f20 (upd_old (by decide) h),
   fun h => S.f21 (upd_old (by decide) h),
   fun h => by
    obtain ⟨e1, e2, z0, z1, z2, e3, e4, e5⟩ := S.f22 (upd_old (by decide) h)
    exact ⟨e1, e2, z0, z1, z2, e3, e4, fun q => e5 (upd_old (by decide) q)⟩,
   fun h => by rw [upd_ne (by decide)]; exact S.w23 (upd_old (by decide) h),
   fun h => by rw [upd_ne (by decide)]; exact S.y23 (upd_old (by decide) h)⟩
theorem S1.s9 {W : World} {b1 o1 c1 gm len cap cb y0 y1 y2 : Nat} {U0 U1 U2 : Value} {b9 : Nat} {v13 v14 v15 v16 v17 v18 v19 v20 v21 v22 v23 v24 v25 v26 v27 v28 v29 v30 v31 v32 v33 v34 v9 : Value} {l : Nat → Bool} {u : World} (S : S1 W b1 o1 c1 gm len cap cb y0 y1 y2 U0 U1 U2 b9 v13 v14 v15 v16 v17 v18 v19 v20 v21 v22 v23 v24 v25 v26 v27 v28 v29 v30 v31 v32 v33 v34 v9 l u) (hn : l 9 = false) : S1 W b1 o1 c1 gm len cap cb y0 y1 y2 U0 U1 U2 b9 v13 v14 v15 v16 v17 v18 v19 v20 v21 (.slice (some ⟨b1, o1, none⟩) 3 c1) v23 v24 v25 v26 v27 v28 v29 v30 v31 v32 v33 v34 v9 (upd l 9) u := by
  have _ := hn
  refine ⟨S.base,
   fun h => S.f0 (upd_old (by decide) h),
   fun h => S.f1 (upd_old (by decide) h),
   fun h => S.f2 (upd_old (by decide) h),
   fun h => S.f3 (upd_old (by decide) h),
   fun h => S.f4 (upd_old (by decide) h),
   fun h => S.f5 (upd_old (by decide) h),
   fun h => S.f6 (upd_old (by decide) h),
   fun h => S.f7 (upd_old (by decide) h),
   fun h => S.f8 (upd_old (by decide) h),
   fun _ => rfl,
   fun h => S.f10 (upd_old (by decide) h),
   fun h => S.f11 (upd_old (by decide) h),
   fun h => S.f12 (upd_old (by decide) h),
   fun h => S.f13 (upd_old (by decide) h),
   fun h => S.f14 (upd_old (by decide) h),
   fun h => S.f15 (upd_old (by decide) h),
   fun h => S.f16 (upd_old (by decide) h),
   fun h => S.f17 (upd_old (by decide) h),
   fun h => S.f18 (upd_old (by decide) h),
   fun h => S.f19 (upd_old (by decide) h),
   fun h => S.f20 (upd_old (by decide) h),
   fun h => S.f21 (upd_old (by decide) h),
   fun h => by
    obtain ⟨e1, e2, z0, z1, z2, e3, e4, e5⟩ := S.f22 (upd_old (by decide) h)
    exact ⟨e1, e2, z0, z1, z2, e3, e4, fun q => e5 (upd_old (by decide) q)⟩,
   fun h => by rw [upd_ne (by decide)]; exact S.w23 (upd_old (by decide) h),
   fun h => by rw [upd_ne (by decide)]; exact S.y23 (upd_old (by decide) h)⟩
theorem S1.s10 {W : World} {b1 o1 c1 gm len cap cb y0 y1 y2 : Nat} {U0 U1 U2 : Value} {b9 : Nat} {v13 v14 v15 v16 v17 v18 v19 v20 v21 v22 v23 v24 v25 v26 v27 v28 v29 v30 v31 v32 v33 v34 v9 : Value} {l : Nat → Bool} {u : World} (S : S1 W b1 o1 c1 gm len cap cb y0 y1 y2 U0 U1 U2 b9 v13 v14 v15 v16 v17 v18 v19 v20 v21 v22 v23 v24 v25 v26 v27 v28 v29 v30 v31 v32 v33 v34 v9 l u) (hn : l 10 = false) : S1 W b1 o1 c1 gm len cap cb y0 y1 y2 U0 U1 U2 b9 v13 v14 v15 v16 v17 v18 v19 v20 v21 v22 (.pointer (some ⟨b1, o1 + 1, none⟩)) v24 v25 v26 v27 v28 v29 v30 v31 v32 v33 v34 v9 (upd l 10) u := by
  have _ := hn
  refine ⟨S.base,
   fun h => S.f0 (upd_old (by decide) h),
   fun h => S.f1 (upd_old (by decide) h),
   fun h => S.f2 (upd_old (by decide) h),
   fun h => S.f3 (upd_old (by decide) h),
   fun h => S.f4 (upd_old (by decide) h),
   fun h => S.f5 (upd_old (by decide) h),
   fun h => S.f6 (upd_old (by decide) h),
   fun h => S.f7 (upd_old (by decide) h),
   fun h => S.f8 (upd_old (by decide) h),
   fun h => S.f9 (upd_old (by decide) h),
   fun _ => rfl,
   fun h => S.f11 (upd_old (by decide) h),
   fun h => S.f12 (upd_old (by decide) h),
   fun h => S.f13 (upd_old (by decide) h),
   fun h => S.f14 (upd_old (by decide) h),
   fun h => S.f15 (upd_old (by decide) h),
   fun h => S.f16 (upd_old (by decide) h),
   fun h => S.f17 (upd_old (by decide) h),
   fun h => S.f18 (upd_old (by decide) h),
   fun h => S.f19 (upd_old (by decide) h),
   fun h => S.f20 (upd_old (by decide) h),
   fun h => S.f21 (upd_old (by decide) h),
   fun h => by
    obtain ⟨e1, e2, z0, z1, z2, e3, e4, e5⟩ := S.f22 (upd_old (by decide) h)
    exact ⟨e1, e2, z0, z1, z2, e3, e4, fun q => e5 (upd_old (by decide) q)⟩,
   fun h => by rw [upd_ne (by decide)]; exact S.w23 (upd_old (by decide) h),
   fun h => by rw [upd_ne (by decide)]; exact S.y23 (upd_old (by decide) h)⟩
theorem S1.s11 {W : World} {b1 o1 c1 gm len cap cb y0 y1 y2 : Nat} {U0 U1 U2 : Value} {b9 : Nat} {v13 v14 v15 v16 v17 v18 v19 v20 v21 v22 v23 v24 v25 v26 v27 v28 v29 v30 v31 v32 v33 v34 v9 : Value} {l : Nat → Bool} {u : World} (S : S1 W b1 o1 c1 gm len cap cb y0 y1 y2 U0 U1 U2 b9 v13 v14 v15 v16 v17 v18 v19 v20 v21 v22 v23 v24 v25 v26 v27 v28 v29 v30 v31 v32 v33 v34 v9 l u) (hn : l 11 = false) : S1 W b1 o1 c1 gm len cap cb y0 y1 y2 U0 U1 U2 b9 v13 v14 v15 v16 v17 v18 v19 v20 v21 v22 v23 (.int .i64 (y1 : Nat)) v25 v26 v27 v28 v29 v30 v31 v32 v33 v34 v9 (upd l 11) u := by
  have _ := hn
  refine ⟨S.base,
   fun h => S.f0 (upd_old (by decide) h),
   fun h => S.f1 (upd_old (by decide) h),
   fun h => S.f2 (upd_old (by decide) h),
   fun h => S.f3 (upd_old (by decide) h),
   fun h => S.f4 (upd_old (by decide) h),
   fun h => S.f5 (upd_old (by decide) h),
   fun h => S.f6 (upd_old (by decide) h),
   fun h => S.f7 (upd_old (by decide) h),
   fun h => S.f8 (upd_old (by decide) h),
   fun h => S.f9 (upd_old (by decide) h),
   fun h => S.f10 (upd_old (by decide) h),
   fun _ => rfl,
   fun h => S.f12 (upd_old (by decide) h),
   fun h => S.f13 (upd_old (by decide) h),
   fun h => S.f14 (upd_old (by decide) h),
   fun h => S.f15 (upd_old (by decide) h),
   fun h => S.f16 (upd_old (by decide) h),
   fun h => S.f17 (upd_old (by decide) h),
   fun h => S.f18 (upd_old (by decide) h),
   fun h => S.f19 (upd_old (by decide) h),
   fun h => S.f20 (upd_old (by decide) h),
   fun h => S.f21 (upd_old (by decide) h),
   fun h => by
    obtain ⟨e1, e2, z0, z1, z2, e3, e4, e5⟩ := S.f22 (upd_old (by decide) h)
    exact ⟨e1, e2, z0, z1, z2, e3, e4, fun q => e5 (upd_old (by decide) q)⟩,
   fun h => by rw [upd_ne (by decide)]; exact S.w23 (upd_old (by decide) h),
   fun h => by rw [upd_ne (by decide)]; exact S.y23 (upd_old (by decide) h)⟩
theorem S1.s12 {W : World} {b1 o1 c1 gm len cap cb y0 y1 y2 : Nat} {U0 U1 U2 : Value} {b9 : Nat} {v13 v14 v15 v16 v17 v18 v19 v20 v21 v22 v23 v24 v25 v26 v27 v28 v29 v30 v31 v32 v33 v34 v9 : Value} {l : Nat → Bool} {u : World} (S : S1 W b1 o1 c1 gm len cap cb y0 y1 y2 U0 U1 U2 b9 v13 v14 v15 v16 v17 v18 v19 v20 v21 v22 v23 v24 v25 v26 v27 v28 v29 v30 v31 v32 v33 v34 v9 l u) (hn : l 12 = false) : S1 W b1 o1 c1 gm len cap cb y0 y1 y2 U0 U1 U2 b9 v13 v14 v15 v16 v17 v18 v19 v20 v21 v22 v23 v24 (.pointer (some ⟨gm, y1, none⟩)) v26 v27 v28 v29 v30 v31 v32 v33 v34 v9 (upd l 12) u := by
  have _ := hn
  refine ⟨S.base,
   fun h => S.f0 (upd_old (by decide) h),
   fun h => S.f1 (upd_old (by decide) h),
   fun h => S.f2 (upd_old (by decide) h),
   fun h => S.f3 (upd_old (by decide) h),
   fun h => S.f4 (upd_old (by decide) h),
   fun h => S.f5 (upd_old (by decide) h),
   fun h => S.f6 (upd_old (by decide) h),
   fun h => S.f7 (upd_old (by decide) h),
   fun h => S.f8 (upd_old (by decide) h),
   fun h => S.f9 (upd_old (by decide) h),
   fun h => S.f10 (upd_old (by decide) h),
   fun h => S.f11 (upd_old (by decide) h),
   fun _ => rfl,
   fun h => S.f13 (upd_old (by decide) h),
   fun h => S.f14 (upd_old (by decide) h),
   fun h => S.f15 (upd_old (by decide) h),
   fun h => S.f16 (upd_old (by decide) h),
   fun h => S.f17 (upd_old (by decide) h),
   fun h => S.f18 (upd_old (by decide) h),
   fun h => S.f19 (upd_old (by decide) h),
   fun h => S.f20 (upd_old (by decide) h),
   fun h => S.f21 (upd_old (by decide) h),
   fun h => by
    obtain ⟨e1, e2, z0, z1, z2, e3, e4, e5⟩ := S.f22 (upd_old (by decide) h)
    exact ⟨e1, e2, z0, z1, z2, e3, e4, fun q => e5 (upd_old (by decide) q)⟩,
   fun h => by rw [upd_ne (by decide)]; exact S.w23 (upd_old (by decide) h),
   fun h => by rw [upd_ne (by decide)]; exact S.y23 (upd_old (by decide) h)⟩
theorem S1.s13 {W : World} {b1 o1 c1 gm len cap cb y0 y1 y2 : Nat} {U0 U1 U2 : Value} {b9 : Nat} {v13 v14 v15 v16 v17 v18 v19 v20 v21 v22 v23 v24 v25 v26 v27 v28 v29 v30 v31 v32 v33 v34 v9 : Value} {l : Nat → Bool} {u : World} (S : S1 W b1 o1 c1 gm len cap cb y0 y1 y2 U0 U1 U2 b9 v13 v14 v15 v16 v17 v18 v19 v20 v21 v22 v23 v24 v25 v26 v27 v28 v29 v30 v31 v32 v33 v34 v9 l u) (hn : l 13 = false) : S1 W b1 o1 c1 gm len cap cb y0 y1 y2 U0 U1 U2 b9 v13 v14 v15 v16 v17 v18 v19 v20 v21 v22 v23 v24 v25 U1 v27 v28 v29 v30 v31 v32 v33 v34 v9 (upd l 13) u := by
  have _ := hn
  refine ⟨S.base,
   fun h => S.f0 (upd_old (by decide) h),
   fun h => S.f1 (upd_old (by decide) h),
   fun h => S.f2 (upd_old (by decide) h),
   fun h => S.f3 (upd_old (by decide) h),
   fun h => S.f4 (upd_old (by decide) h),
   fun h => S.f5 (upd_old (by decide) h),
   fun h => S.f6 (upd_old (by decide) h),
   fun h => S.f7 (upd_old (by decide) h),
   fun h => S.f8 (upd_old (by decide) h),
   fun h => S.f9 (upd_old (by decide) h),
   fun h => S.f10 (upd_old (by decide) h),
   fun h => S.f11 (upd_old (by decide) h),
   fun h => S.f12 (upd_old (by decide) h),
   fun _ => rfl,
   fun h => S.f14 (upd_old (by decide) h),
   fun h => S.f15 (upd_old (by decide) h),
   fun h => S.f16 (upd_old (by decide) h),
   fun h => S.f17 (upd_old (by decide) h),
   fun h => S.f18 (upd_old (by decide) h),
   fun h => S.f19 (upd_old (by decide) h),
   fun h => S.f20 (upd_old (by decide) h),
   fun h => S.f21 (upd_old (by decide) h),
   fun h => by
    obtain ⟨e1, e2, z0, z1, z2, e3, e4, e5⟩ := S.f22 (upd_old (by decide) h)
    exact ⟨e1, e2, z0, z1, z2, e3, e4, fun q => e5 (upd_old (by decide) q)⟩,
   fun h => by rw [upd_ne (by decide)]; exact S.w23 (upd_old (by decide) h),
   fun h => by rw [upd_ne (by decide)]; exact S.y23 (upd_old (by decide) h)⟩
theorem S1.s14 {W : World} {b1 o1 c1 gm len cap cb y0 y1 y2 : Nat} {U0 U1 U2 : Value} {b9 : Nat} {v13 v14 v15 v16 v17 v18 v19 v20 v21 v22 v23 v24 v25 v26 v27 v28 v29 v30 v31 v32 v33 v34 v9 : Value} {l : Nat → Bool} {u : World} (S : S1 W b1 o1 c1 gm len cap cb y0 y1 y2 U0 U1 U2 b9 v13 v14 v15 v16 v17 v18 v19 v20 v21 v22 v23 v24 v25 v26 v27 v28 v29 v30 v31 v32 v33 v34 v9 l u) (hn : l 14 = false) : S1 W b1 o1 c1 gm len cap cb y0 y1 y2 U0 U1 U2 b9 v13 v14 v15 v16 v17 v18 v19 v20 v21 v22 v23 v24 v25 v26 (.slice (some ⟨gm, 0, none⟩) len cap) v28 v29 v30 v31 v32 v33 v34 v9 (upd l 14) u := by
  have _ := hn
  refine ⟨S.base,
   fun h => S.f0 (upd_old (by decide) h),
   fun h => S.f1 (upd_old (by decide) h),
   fun h => S.f2 (upd_old (by decide) h),
   fun h => S.f3 (upd_old (by decide) h),
   fun h => S.f4 (upd_old (by decide) h),
   fun h => S.f5 (upd_old (by decide) h),
   fun h => S.f6 (upd_old (by decide) h),
   fun h => S.f7 (upd_old (by decide) h),
   fun h => S.f8 (upd_old (by decide) h),
   fun h => S.f9 (upd_old (by decide) h),
   fun h => S.f10 (upd_old (by decide) h),
   fun h => S.f11 (upd_old (by decide) h),
   fun h => S.f12 (upd_old (by decide) h),
   fun h => S.f13 (upd_old (by decide) h),
   fun _ => rfl,
   fun h => S.f15 (upd_old (by decide) h),
   fun h => S.f16 (upd_old (by decide) h),
   fun h => S.f17 (upd_old (by decide) h),
   fun h => S.f18 (upd_old (by decide) h),
   fun h => S.f19 (upd_old (by decide) h),
   fun h => S.f20 (upd_old (by decide) h),
   fun h => S.f21 (upd_old (by decide) h),
   fun h => by
    obtain ⟨e1, e2, z0, z1, z2, e3, e4, e5⟩ := S.f22 (upd_old (by decide) h)
    exact ⟨e1, e2, z0, z1, z2, e3, e4, fun q => e5 (upd_old (by decide) q)⟩,
   fun h => by rw [upd_ne (by decide)]; exact S.w23 (upd_old (by decide) h),
   fun h => by rw [upd_ne (by decide)]; exact S.y23 (upd_old (by decide) h)⟩
theorem S1.s15 {W : World} {b1 o1 c1 gm len cap cb y0 y1 y2 : Nat} {U0 U1 U2 : Value} {b9 : Nat} {v13 v14 v15 v16 v17 v18 v19 v20 v21 v22 v23 v24 v25 v26 v27 v28 v29 v30 v31 v32 v33 v34 v9 : Value} {l : Nat → Bool} {u : World} (S : S1 W b1 o1 c1 gm len cap cb y0 y1 y2 U0 U1 U2 b9 v13 v14 v15 v16 v17 v18 v19 v20 v21 v22 v23 v24 v25 v26 v27 v28 v29 v30 v31 v32 v33 v34 v9 l u) (hn : l 15 = false) : S1 W b1 o1 c1 gm len cap cb y0 y1 y2 U0 U1 U2 b9 v13 v14 v15 v16 v17 v18 v19 v20 v21 v22 v23 v24 v25 v26 v27 (.pointer (some ⟨cb, 1, none⟩)) v29 v30 v31 v32 v33 v34 v9 (upd l 15) u := by
  have _ := hn
  refine ⟨S.base,
   fun h => S.f0 (upd_old (by decide) h),
   fun h => S.f1 (upd_old (by decide) h),
   fun h => S.f2 (upd_old (by decide) h),
   fun h => S.f3 (upd_old (by decide) h),
   fun h => S.f4 (upd_old (by decide) h),
   fun h => S.f5 (upd_old (by decide) h),
   fun h => S.f6 (upd_old (by decide) h),
   fun h => S.f7 (upd_old (by decide) h),
   fun h => S.f8 (upd_old (by decide) h),
   fun h => S.f9 (upd_old (by decide) h),
   fun h => S.f10 (upd_old (by decide) h),
   fun h => S.f11 (upd_old (by decide) h),
   fun h => S.f12 (upd_old (by decide) h),
   fun h => S.f13 (upd_old (by decide) h),
   fun h => S.f14 (upd_old (by decide) h),
   fun _ => rfl,
   fun h => S.f16 (upd_old (by decide) h),
   fun h => S.f17 (upd_old (by decide) h),
   fun h => S.f18 (upd_old (by decide) h),
   fun h => S.f19 (upd_old (by decide) h),
   fun h => S.f20 (upd_old (by decide) h),
   fun h => S.f21 (upd_old (by decide) h),
   fun h => by
    obtain ⟨e1, e2, z0, z1, z2, e3, e4, e5⟩ := S.f22 (upd_old (by decide) h)
    exact ⟨e1, e2, z0, z1, z2, e3, e4, fun q => e5 (upd_old (by decide) q)⟩,
   fun h => by rw [upd_ne (by decide)]; exact S.w23 (upd_old (by decide) h),
   fun h => by rw [upd_ne (by decide)]; exact S.y23 (upd_old (by decide) h)⟩
theorem S1.s16 {W : World} {b1 o1 c1 gm len cap cb y0 y1 y2 : Nat} {U0 U1 U2 : Value} {b9 : Nat} {v13 v14 v15 v16 v17 v18 v19 v20 v21 v22 v23 v24 v25 v26 v27 v28 v29 v30 v31 v32 v33 v34 v9 : Value} {l : Nat → Bool} {u : World} (S : S1 W b1 o1 c1 gm len cap cb y0 y1 y2 U0 U1 U2 b9 v13 v14 v15 v16 v17 v18 v19 v20 v21 v22 v23 v24 v25 v26 v27 v28 v29 v30 v31 v32 v33 v34 v9 l u) (hn : l 16 = false) : S1 W b1 o1 c1 gm len cap cb y0 y1 y2 U0 U1 U2 b9 v13 v14 v15 v16 v17 v18 v19 v20 v21 v22 v23 v24 v25 v26 v27 v28 (.slice (some ⟨b1, o1, none⟩) 3 c1) v30 v31 v32 v33 v34 v9 (upd l 16) u := by
  have _ := hn
  refine ⟨S.base,
   fun h => S.f0 (upd_old (by decide) h),
   fun h => S.f1 (upd_old (by decide) h),
   fun h => S.f2 (upd_old (by decide) h),
   fun h => S.f3 (upd_old (by decide) h),
   fun h => S.f4 (upd_old (by decide) h),
   fun h => S.f5 (upd_old (by decide) h),
   fun h => S.f6 (upd_old (by decide) h),
   fun h => S.f7 (upd_old (by decide) h),
   fun h => S.f8 (upd_old (by decide) h),
   fun h => S.f9 (upd_old (by decide) h),
   fun h => S.f10 (upd_old (by decide) h),
   fun h => S.f11 (upd_old (by decide) h),
   fun h => S.f12 (upd_old (by decide) h),
   fun h => S.f13 (upd_old (by decide) h),
   fun h => S.f14 (upd_old (by decide) h),
   fun h => S.f15 (upd_old (by decide) h),
   fun _ => rfl,
   fun h => S.f17 (upd_old (by decide) h),
   fun h => S.f18 (upd_old (by decide) h),
   fun h => S.f19 (upd_old (by decide) h),
   fun h => S.f20 (upd_old (by decide) h),
   fun h => S.f21 (upd_old (by decide) h),
   fun h => by
    obtain ⟨e1, e2, z0, z1, z2, e3, e4, e5⟩ := S.f22 (upd_old (by decide) h)
    exact ⟨e1, e2, z0, z1, z2, e3, e4, fun q => e5 (upd_old (by decide) q)⟩,
   fun h => by rw [upd_ne (by decide)]; exact S.w23 (upd_old (by decide) h),
   fun h => by rw [upd_ne (by decide)]; exact S.y23 (upd_old (by decide) h)⟩
theorem S1.s17 {W : World} {b1 o1 c1 gm len cap cb y0 y1 y2 : Nat} {U0 U1 U2 : Value} {b9 : Nat} {v13 v14 v15 v16 v17 v18 v19 v20 v21 v22 v23 v24 v25 v26 v27 v28 v29 v30 v31 v32 v33 v34 v9 : Value} {l : Nat → Bool} {u : World} (S : S1 W b1 o1 c1 gm len cap cb y0 y1 y2 U0 U1 U2 b9 v13 v14 v15 v16 v17 v18 v19 v20 v21 v22 v23 v24 v25 v26 v27 v28 v29 v30 v31 v32 v33 v34 v9 l u) (hn : l 17 = false) : S1 W b1 o1 c1 gm len cap cb y0 y1 y2 U0 U1 U2 b9 v13 v14 v15 v16 v17 v18 v19 v20 v21 v22 v23 v24 v25 v26 v27 v28 v29 (.pointer (some ⟨b1, o1 + 2, none⟩)) v31 v32 v33 v34 v9 (upd l 17) u := by
  have _ := hn
  refine ⟨S.base,
   fun h => S.f0 (upd_old (by decide) h),
   fun h => S.f1 (upd_old (by decide) h),
   fun h => S.f2 (upd_old (by decide) h),
   fun h => S.f3 (upd_old (by decide) h),
   fun h => S.f4 (upd_old (by decide) h),
   fun h => S.f5 (upd_old (by decide) h),
   fun h => S.f6 (upd_old (by decide) h),
   fun h => S.f7 (upd_old (by decide) h),
   fun h => S.f8 (upd_old (by decide) h),
   fun h => S.f9 (upd_old (by decide) h),
   fun h => S.f10 (upd_old (by decide) h),
   fun h => S.f11 (upd_old (by decide) h),
   fun h => S.f12 (upd_old (by decide) h),
   fun h => S.f13 (upd_old (by decide) h),
   fun h => S.f14 (upd_old (by decide) h),
   fun h => S.f15 (upd_old (by decide) h),
   fun h => S.f16 (upd_old (by decide) h),
   fun _ => rfl,
   fun h => S.f18 (upd_old (by decide) h),
   fun h => S.f19 (upd_old (by decide) h),
   fun h => S.f20 (upd_old (by decide) h),
   fun h => S.f21 (upd_old (by decide) h),
   fun h => by
    obtain ⟨e1, e2, z0, z1, z2, e3, e4, e5⟩ := S.f22 (upd_old (by decide) h)
    exact ⟨e1, e2, z0, z1, z2, e3, e4, fun q => e5 (upd_old (by decide) q)⟩,
   fun h => by rw [upd_ne (by decide)]; exact S.w23 (upd_old (by decide) h),
   fun h => by rw [upd_ne (by decide)]; exact S.y23 (upd_old (by decide) h)⟩
theorem S1.s18 {W : World} {b1 o1 c1 gm len cap cb y0 y1 y2 : Nat} {U0 U1 U2 : Value} {b9 : Nat} {v13 v14 v15 v16 v17 v18 v19 v20 v21 v22 v23 v24 v25 v26 v27 v28 v29 v30 v31 v32 v33 v34 v9 : Value} {l : Nat → Bool} {u : World} (S : S1 W b1 o1 c1 gm len cap cb y0 y1 y2 U0 U1 U2 b9 v13 v14 v15 v16 v17 v18 v19 v20 v21 v22 v23 v24 v25 v26 v27 v28 v29 v30 v31 v32 v33 v34 v9 l u) (hn : l 18 = false) : S1 W b1 o1 c1 gm len cap cb y0 y1 y2 U0 U1 U2 b9 v13 v14 v15 v16 v17 v18 v19 v20 v21 v22 v23 v24 v25 v26 v27 v28 v29 v30 (.int .i64 (y2 : Nat)) v32 v33 v34 v9 (upd l 18) u := by
  have _ := hn
  refine ⟨S.base,
   fun h => S.f0 (upd_old (by decide) h),
   fun h => S.f1 (upd_old (by decide) h),
   fun h => S.f2 (upd_old (by decide) h),
   fun h => S.f3 (upd_old (by decide) h),
   fun h => S.f4 (upd_old (by decide) h),
   fun h => S.f5 (upd_old (by decide) h),
   fun h => S.f6 (upd_old (by decide) h),
   fun h => S.f7 (upd_old (by decide) h),
   fun h => S.f8 (upd_old (by decide) h),
   fun h => S.f9 (upd_old (by decide) h),
   fun h => S.f10 (upd_old (by decide) h),
   fun h => S.f11 (upd_old (by decide) h),
   fun h => S.f12 (upd_old (by decide) h),
   fun h => S.f13 (upd_old (by decide) h),
   fun h => S.f14 (upd_old (by decide) h),
   fun h => S.f15 (upd_old (by decide) h),
   fun h => S.f16 (upd_old (by decide) h),
   fun h => S.f17 (upd_old (by decide) h),
   fun _ => rfl,
   fun h => S.f19 (upd_old (by decide) h),
   fun h => S.f20 (upd_old (by decide) h),
   fun h => S.f21 (upd_old (by decide) h),
   fun h => by
    obtain ⟨e1, e2, z0, z1, z2, e3, e4, e5⟩ := S.f22 (upd_old (by decide) h)
    exact ⟨e1, e2, z0, z1, z2, e3, e4, fun q => e5 (upd_old (by decide) q)⟩,
   fun h => by rw [upd_ne (by decide)]; exact S.w23 (upd_old (by decide) h),
   fun h => by rw [upd_ne (by decide)]; exact S.y23 (upd_old (by decide) h)⟩
theorem S1.s19 {W : World} {b1 o1 c1 gm len cap cb y0 y1 y2 : Nat} {U0 U1 U2 : Value} {b9 : Nat} {v13 v14 v15 v16 v17 v18 v19 v20 v21 v22 v23 v24 v25 v26 v27 v28 v29 v30 v31 v32 v33 v34 v9 : Value} {l : Nat → Bool} {u : World} (S : S1 W b1 o1 c1 gm len cap cb y0 y1 y2 U0 U1 U2 b9 v13 v14 v15 v16 v17 v18 v19 v20 v21 v22 v23 v24 v25 v26 v27 v28 v29 v30 v31 v32 v33 v34 v9 l u) (hn : l 19 = false) : S1 W b1 o1 c1 gm len cap cb y0 y1 y2 U0 U1 U2 b9 v13 v14 v15 v16 v17 v18 v19 v20 v21 v22 v23 v24 v25 v26 v27 v28 v29 v30 v31 (.pointer (some ⟨gm, y2, none⟩)) v33 v34 v9 (upd l 19) u := by
  have _ := hn
  refine ⟨S.base,
   fun h => S.f0 (upd_old (by decide) h),
   fun h => S.f1 (upd_old (by decide) h),
   fun h => S.f2 (upd_old (by decide) h),
   fun h => S.f3 (upd_old (by decide) h),
   fun h => S.f4 (upd_old (by decide) h),
   fun h => S.f5 (upd_old (by decide) h),
   fun h => S.f6 (upd_old (by decide) h),
   fun h => S.f7 (upd_old (by decide) h),
   fun h => S.f8 (upd_old (by decide) h),
   fun h => S.f9 (upd_old (by decide) h),
   fun h => S.f10 (upd_old (by decide) h),
   fun h => S.f11 (upd_old (by decide) h),
   fun h => S.f12 (upd_old (by decide) h),
   fun h => S.f13 (upd_old (by decide) h),
   fun h => S.f14 (upd_old (by decide) h),
   fun h => S.f15 (upd_old (by decide) h),
   fun h => S.f16 (upd_old (by decide) h),
   fun h => S.f17 (upd_old (by decide) h),
   fun h => S.f18 (upd_old (by decide) h),
   fun _ => rfl,
   fun h => S.f20 (upd_old (by decide) h),
   fun h => S.f21 (upd_old (by decide) h),
   fun h => by
    obtain ⟨e1, e2, z0, z1, z2, e3, e4, e5⟩ := S.f22 (upd_old (by decide) h)
    exact ⟨e1, e2, z0, z1, z2, e3, e4, fun q => e5 (upd_old (by decide) q)⟩,
   fun h => by rw [upd_ne (by decide)]; exact S.w23 (upd_old (by decide) h),
   fun h => by rw [upd_ne (by decide)]; exact S.y23 (upd_old (by decide) h)⟩
theorem S1.s20 {W : World} {b1 o1 c1 gm len cap cb y0 y1 y2 : Nat} {U0 U1 U2 : Value} {b9 : Nat} {v13 v14 v15 v16 v17 v18 v19 v20 v21 v22 v23 v24 v25 v26 v27 v28 v29 v30 v31 v32 v33 v34 v9 : Value} {l : Nat → Bool} {u : World} (S : S1 W b1 o1 c1 gm len cap cb y0 y1 y2 U0 U1 U2 b9 v13 v14 v15 v16 v17 v18 v19 v20 v21 v22 v23 v24 v25 v26 v27 v28 v29 v30 v31 v32 v33 v34 v9 l u) (hn : l 20 = false) : S1 W b1 o1 c1 gm len cap cb y0 y1 y2 U0 U1 U2 b9 v13 v14 v15 v16 v17 v18 v19 v20 v21 v22 v23 v24 v25 v26 v27 v28 v29 v30 v31 v32 U2 v34 v9 (upd l 20) u := by
  have _ := hn
  refine ⟨S.base,
   fun h => S.f0 (upd_old (by decide) h),
   fun h => S.f1 (upd_old (by decide) h),
   fun h => S.f2 (upd_old (by decide) h),
   fun h => S.f3 (upd_old (by decide) h),
   fun h => S.f4 (upd_old (by decide) h),
   fun h => S.f5 (upd_old (by decide) h),
   fun h => S.f6 (upd_old (by decide) h),
   fun h => S.f7 (upd_old (by decide) h),
   fun h => S.f8 (upd_old (by decide) h),
   fun h => S.f9 (upd_old (by decide) h),
   fun h => S.f10 (upd_old (by decide) h),
   fun h => S.f11 (upd_old (by decide) h),
   fun h => S.f12 (upd_old (by decide) h),
   fun h => S.f13 (upd_old (by decide) h),
   fun h => S.f14 (upd_old (by decide) h),
   fun h => S.f15 (upd_old (by decide) h),
   fun h => S.f16 (upd_old (by decide) h),
   fun h => S.f17 (upd_old (by decide) h),
   fun h => S.f18 (upd_old (by decide) h),
   fun h => S.f19 (upd_old (by decide) h),
   fun _ => rfl,
   fun h => S.f21 (upd_old (by decide) h),
   fun h => by
    obtain ⟨e1, e2, z0, z1, z2, e3, e4, e5⟩ := S.f22 (upd_old (by decide) h)
    exact ⟨e1, e2, z0, z1, z2, e3, e4, fun q => e5 (upd_old (by decide) q)⟩,
   fun h => by rw [upd_ne (by decide)]; exact S.w23 (upd_old (by decide) h),
   fun h => by rw [upd_ne (by decide)]; exact S.y23 (upd_old (by decide) h)⟩
theorem S1.s21 {W : World} {b1 o1 c1 gm len cap cb y0 y1 y2 : Nat} {U0 U1 U2 : Value} {b9 : Nat} {v13 v14 v15 v16 v17 v18 v19 v20 v21 v22 v23 v24 v25 v26 v27 v28 v29 v30 v31 v32 v33 v34 v9 : Value} {l : Nat → Bool} {u : World} (S : S1 W b1 o1 c1 gm len cap cb y0 y1 y2 U0 U1 U2 b9 v13 v14 v15 v16 v17 v18 v19 v20 v21 v22 v23 v24 v25 v26 v27 v28 v29 v30 v31 v32 v33 v34 v9 l u) (hn : l 21 = false) : S1 W b1 o1 c1 gm len cap cb y0 y1 y2 U0 U1 U2 b9 v13 v14 v15 v16 v17 v18 v19 v20 v21 v22 v23 v24 v25 v26 v27 v28 v29 v30 v31 v32 v33 (.agg #[U0, U1, U2]) v9 (upd l 21) u := by
  have _ := hn
  refine ⟨S.base,
   fun h => S.f0 (upd_old (by decide) h),
   fun h => S.f1 (upd_old (by decide) h),
   fun h => S.f2 (upd_old (by decide) h),
   fun h => S.f3 (upd_old (by decide) h),
   fun h => S.f4 (upd_old (by decide) h),
   fun h => S.f5 (upd_old (by decide) h),
   fun h => S.f6 (upd_old (by decide) h),
   fun h => S.f7 (upd_old (by decide) h),
   fun h => S.f8 (upd_old (by decide) h),
   fun h => S.f9 (upd_old (by decide) h),
   fun h => S.f10 (upd_old (by decide) h),
   fun h => S.f11 (upd_old (by decide) h),
   fun h => S.f12 (upd_old (by decide) h),
   fun h => S.f13 (upd_old (by decide) h),
   fun h => S.f14 (upd_old (by decide) h),
   fun h => S.f15 (upd_old (by decide) h),
   fun h => S.f16 (upd_old (by decide) h),
   fun h => S.f17 (upd_old (by decide) h),
   fun h => S.f18 (upd_old (by decide) h),
   fun h => S.f19 (upd_old (by decide) h),
   fun h => S.f20 (upd_old (by decide) h),
   fun _ => rfl,
   fun h => by
    obtain ⟨e1, e2, z0, z1, z2, e3, e4, e5⟩ := S.f22 (upd_old (by decide) h)
    exact ⟨e1, e2, z0, z1, z2, e3, e4, fun q => e5 (upd_old (by decide) q)⟩,
   fun h => by rw [upd_ne (by decide)]; exact S.w23 (upd_old (by decide) h),
   fun _ => upd_same _ _⟩
theorem S1.s22 {W : World} {b1 o1 c1 gm len cap cb y0 y1 y2 : Nat} {U0 U1 U2 : Value} {b9 : Nat} {v13 v14 v15 v16 v17 v18 v19 v20 v21 v22 v23 v24 v25 v26 v27 v28 v29 v30 v31 v32 v33 v34 v9 : Value} {l : Nat → Bool} {u : World} (S : S1 W b1 o1 c1 gm len cap cb y0 y1 y2 U0 U1 U2 b9 v13 v14 v15 v16 v17 v18 v19 v20 v21 v22 v23 v24 v25 v26 v27 v28 v29 v30 v31 v32 v33 v34 v9 l u) (hn : l 22 = false) (ob : Obj) (ho : ob = .cells #[.slice none 0 0, .slice none 0 0, .slice none 0 0] 72) : S1 W b1 o1 c1 gm len cap cb y0 y1 y2 U0 U1 U2 u.heap.size v13 v14 v15 v16 v17 v18 v19 v20 v21 v22 v23 v24 v25 v26 v27 v28 v29 v30 v31 v32 v33 v34 (.pointer (some ⟨u.heap.size, 0, none⟩)) (upd l 22) (u.alloc ob) := by
  subst ho
  have hB := new_below u (.cells #[.slice none 0 0, .slice none 0 0, .slice none 0 0] 72)
  refine ⟨S.base.trans (hB.mono S.base.size),
   fun h => S.f0 (upd_old (by decide) h),
   fun h => S.f1 (upd_old (by decide) h),
   fun h => S.f2 (upd_old (by decide) h),
   fun h => S.f3 (upd_old (by decide) h),
   fun h => S.f4 (upd_old (by decide) h),
   fun h => S.f5 (upd_old (by decide) h),
   fun h => S.f6 (upd_old (by decide) h),
   fun h => S.f7 (upd_old (by decide) h),
   fun h => S.f8 (upd_old (by decide) h),
   fun h => S.f9 (upd_old (by decide) h),
   fun h => S.f10 (upd_old (by decide) h),
   fun h => S.f11 (upd_old (by decide) h),
   fun h => S.f12 (upd_old (by decide) h),
   fun h => S.f13 (upd_old (by decide) h),
   fun h => S.f14 (upd_old (by decide) h),
   fun h => S.f15 (upd_old (by decide) h),
   fun h => S.f16 (upd_old (by decide) h),
   fun h => S.f17 (upd_old (by decide) h),
   fun h => S.f18 (upd_old (by decide) h),
   fun h => S.f19 (upd_old (by decide) h),
   fun h => S.f20 (upd_old (by decide) h),
   fun h => S.f21 (upd_old (by decide) h),
   fun _ => ⟨rfl, S.base.size, _, _, _, Arr.new _ _ _ _, ⟨⟨_, _, _, rfl⟩, ⟨_, _, _, rfl⟩, ⟨_, _, _, rfl⟩⟩, fun h => absurd (S.w23 (upd_old (by decide) h)) (by rw [hn]; decide)⟩,
   fun _ => upd_same _ _,
   fun h => by rw [upd_ne (by decide)]; exact S.y23 (upd_old (by decide) h)⟩
theorem S1.s23 {W : World} {b1 o1 c1 gm len cap cb y0 y1 y2 : Nat} {U0 U1 U2 : Value} {b9 : Nat} {v13 v14 v15 v16 v17 v18 v19 v20 v21 v22 v23 v24 v25 v26 v27 v28 v29 v30 v31 v32 v33 v34 v9 : Value} {l : Nat → Bool} {u : World} (S : S1 W b1 o1 c1 gm len cap cb y0 y1 y2 U0 U1 U2 b9 v13 v14 v15 v16 v17 v18 v19 v20 v21 v22 v23 v24 v25 v26 v27 v28 v29 v30 v31 v32 v33 v34 v9 l u) (hn : l 23 = false) (hb : l 22 = true) (hc : l 21 = true) (hs : (∃ q1 q2 q3, U0 = .slice q1 q2 q3) ∧ (∃ q1 q2 q3, U1 = .slice q1 q2 q3) ∧ (∃ q1 q2 q3, U2 = .slice q1 q2 q3)) : S1 W b1 o1 c1 gm len cap cb y0 y1 y2 U0 U1 U2 b9 v13 v14 v15 v16 v17 v18 v19 v20 v21 v22 v23 v24 v25 v26 v27 v28 v29 v30 v31 v32 v33 v34 v9 (upd l 23) (((u.setCell ⟨b9, 0, none⟩ U0).setCell ⟨b9, 1, none⟩ U1).setCell ⟨b9, 2, none⟩ U2) := by
  have _ := hn
  obtain ⟨e1, e2, z0, z1, z2, e3, e4, e5⟩ := S.f22 hb
  refine ⟨((S.base.setCell e2 _).setCell e2 _).setCell e2 _,
   fun h => S.f0 (upd_old (by decide) h),
   fun h => S.f1 (upd_old (by decide) h),
   fun h => S.f2 (upd_old (by decide) h),
   fun h => S.f3 (upd_old (by decide) h),
   fun h => S.f4 (upd_old (by decide) h),
   fun h => S.f5 (upd_old (by decide) h),
   fun h => S.f6 (upd_old (by decide) h),
   fun h => S.f7 (upd_old (by decide) h),
   fun h => S.f8 (upd_old (by decide) h),
   fun h => S.f9 (upd_old (by decide) h),
   fun h => S.f10 (upd_old (by decide) h),
   fun h => S.f11 (upd_old (by decide) h),
   fun h => S.f12 (upd_old (by decide) h),
   fun h => S.f13 (upd_old (by decide) h),
   fun h => S.f14 (upd_old (by decide) h),
   fun h => S.f15 (upd_old (by decide) h),
   fun h => S.f16 (upd_old (by decide) h),
   fun h => S.f17 (upd_old (by decide) h),
   fun h => S.f18 (upd_old (by decide) h),
   fun h => S.f19 (upd_old (by decide) h),
   fun h => S.f20 (upd_old (by decide) h),
   fun h => S.f21 (upd_old (by decide) h),
   fun _ => ⟨e1, e2, _, _, _, ((e3.set0 _).set1 _).set2 _, hs, fun _ => ⟨rfl, rfl, rfl⟩⟩,
   fun _ => by rw [upd_ne (by decide)]; exact hb,
   fun _ => by rw [upd_ne (by decide)]; exact hc⟩
end Go.Proofs.YtccgoigmchcggaaDoor.Ge
namespace Go.Proofs.YtccgoigmchcggaaDoor.Ge
open Go.RowKit St
set_option maxRecDepth 100000

/-- three lists, as they lie in an array of one's own -/
structure Arr3 (w : World) (b : Nat) (A B C : List Int) : Prop where
  cells : ∃ (pa : Option Addr) (ba oa ca : Nat) (pb : Option Addr) (bb ob cb : Nat) (pc : Option Addr) (bc oc cc : Nat),
    (w.cell? ⟨b, 0, none⟩ = some (.slice pa A.length ca) ∧ (0 < A.length → pa = some ⟨ba, oa, none⟩) ∧ ∀ k, k < A.length → w.cell? ⟨ba, oa + k, none⟩ = some (.int .i64 (A.getD k 0))) ∧
    (w.cell? ⟨b, 1, none⟩ = some (.slice pb B.length cb) ∧ (0 < B.length → pb = some ⟨bb, ob, none⟩) ∧ ∀ k, k < B.length → w.cell? ⟨bb, ob + k, none⟩ = some (.int .i64 (B.getD k 0))) ∧
    (w.cell? ⟨b, 2, none⟩ = some (.slice pc C.length cc) ∧ (0 < C.length → pc = some ⟨bc, oc, none⟩) ∧ ∀ k, k < C.length → w.cell? ⟨bc, oc + k, none⟩ = some (.int .i64 (C.getD k 0)))
theorem Arr3.of {w : World} {b : Nat} {A B C : List Int} {u0 u1 u2 : Value} (c0 : w.cell? ⟨b, 0, none⟩ = some u0) (c1 : w.cell? ⟨b, 1, none⟩ = some u1) (c2 : w.cell? ⟨b, 2, none⟩ = some u2) (r0 : Dm.Reads w u0 A) (r1 : Dm.Reads w u1 B) (r2 : Dm.Reads w u2 C) : Arr3 w b A B C := by
  obtain ⟨pa, ba, oa, ca, rfl, a1, a2⟩ := Dm.reads_shape r0
  obtain ⟨pb, bb, ob, cb, rfl, b1, b2⟩ := Dm.reads_shape r1
  obtain ⟨pc, bc, oc, cc, rfl, d1, d2⟩ := Dm.reads_shape r2
  exact ⟨pa, ba, oa, ca, pb, bb, ob, cb, pc, bc, oc, cc, ⟨c0, a1, a2⟩, ⟨c1, b1, b2⟩, ⟨c2, d1, d2⟩⟩
theorem short_take {O : List Int} {p : Int → Bool} {j : Nat} (h : j < O.length) (hn : (O.take j).any p = false) (hp : p (O.getD j 0) = false) : (O.take (j + 1)).any p = false := by rw [any_take h, hn, hp]; rfl

set_option maxHeartbeats 4000000 in
theorem rsome_any {w : World} {k r t : Int} {v1 v2 v3 vl : Value} {c : PCon} {M : List (List Int)} {a : Nat} {x : Int} (hc : rCon w [.int .i64 k, v1, v2, .int .i64 r, .int .i64 t, v3] c) (h3 : c.vars.length = 3) (hM : ListsAt w 0 vl M) (hv : ∀ v ∈ c.vars, 0 ≤ v ∧ v < (M.length : Int)) (hms : ∀ l ∈ M, l.length ≤ 1000 ∧ ∀ y ∈ l, -1048576 ≤ y ∧ y ≤ 1048576) (ha : a < 3) (hx : -1048576 ≤ x ∧ x ≤ 1048576) :
    Calls Tryd.prog 29 #[.agg #[.int .i64 k, v1, v2, .int .i64 r, .int .i64 t, v3], vl, .int .i64 a, .int .i64 x] w fun e w' => e = .returned (.bool (someB M c.vars a x)) ∧ Below w.heap.size w w' := by
  obtain ⟨u1, u2, u3, e, _, ⟨p1, b1, o1, c1, l1, e1, _, h1⟩, _⟩ := hc
  subst e1
  simp only [List.cons.injEq, and_true] at e
  obtain ⟨_, rfl, rfl, _, _, rfl⟩ := e
  obtain rfl : l1 = 3 := by have := h1.long; omega
  obtain rfl := h1.at_ (by omega)
  obtain ⟨R, hR⟩ : ∃ R, R = someB M c.vars a x := ⟨_, rfl⟩
  rw [← hR]
  obtain ⟨W0, hW0⟩ : ∃ W0, W0 = w.alloc (.cells #[.int .i64 k, .slice (some ⟨b1, o1, none⟩) 3 c1, v2, .int .i64 r, .int .i64 t, v3] 24) := ⟨_, rfl⟩
  have hb0 : Below w.heap.size w W0 := by rw [hW0]; exact new_below _ _
  have HB0 := Lib.hid hb0
  have HQ0 := Lib.hid (show W0.cell? ⟨w.heap.size, 1, none⟩ = some (.slice (some ⟨b1, o1, none⟩) 3 c1) by rw [hW0]; exact six_at _ _ _ _ _ _ _ _ 1 _ rfl)
  have HW := Lib.hid hW0
  have v0 := hv (c.vars.getD 0 0) (St.getD_memS (by omega))
  have v1 := hv (c.vars.getD 1 0) (St.getD_memS (by omega))
  have v2 := hv (c.vars.getD 2 0) (St.getD_memS (by omega))
  have k0 := cell_below hb0 ((nums_of h1).cell 0 (by omega))
  have k1 := cell_below hb0 ((nums_of h1).cell 1 (by omega))
  have k2 := cell_below hb0 ((nums_of h1).cell 2 (by omega))
  rw [Nat.add_zero] at k0
  have hO0 : ownL M c.vars a x 0 = if 0 = a then [x] else M.getD (c.vars.getD 0 0).toNat [] := rfl
  have hO1 : ownL M c.vars a x 1 = if 1 = a then [x] else M.getD (c.vars.getD 1 0).toNat [] := rfl
  have hO2 : ownL M c.vars a x 2 = if 2 = a then [x] else M.getD (c.vars.getD 2 0).toNat [] := rfl
  have hR2 : R = tripB (ownL M c.vars a x 0) (ownL M c.vars a x 1) (ownL M c.vars a x 2) := hR
  obtain ⟨y0, hy0⟩ : ∃ y, y = c.vars.getD 0 0 := ⟨_, rfl⟩
  obtain ⟨y1, hy1⟩ : ∃ y, y = c.vars.getD 1 0 := ⟨_, rfl⟩
  obtain ⟨y2, hy2⟩ : ∃ y, y = c.vars.getD 2 0 := ⟨_, rfl⟩
  rw [← hy0] at v0 k0 hO0
  rw [← hy1] at v1 k1 hO1
  rw [← hy2] at v2 k2 hO2
  obtain ⟨y0, rfl⟩ := Int.eq_ofNat_of_zero_le v0.1
  obtain ⟨y1, rfl⟩ := Int.eq_ofNat_of_zero_le v1.1
  obtain ⟨y2, rfl⟩ := Int.eq_ofNat_of_zero_le v2.1
  simp only [Int.toNat_natCast] at hO0 hO1 hO2
  have z0 : y0 < M.length := by omega
  have z1 : y1 < M.length := by omega
  have z2 : y2 < M.length := by omega
  obtain ⟨g, cap, u0, em, _, _, _, g0, _, s0⟩ := hM.row z0
  subst em
  obtain ⟨g', cap', u1, em, _, _, _, g1, _, s1⟩ := hM.row z1
  simp only [Value.slice.injEq, Option.some.injEq, Addr.mk.injEq, true_and, and_true] at em
  obtain ⟨rfl, rfl⟩ := em
  obtain ⟨g', cap', u2, em, _, _, _, g2, _, s2⟩ := hM.row z2
  simp only [Value.slice.injEq, Option.some.injEq, Addr.mk.injEq, true_and, and_true] at em
  obtain ⟨rfl, rfl⟩ := em
  have sm : ∀ i, i < M.length → (M.getD i []).length ≤ 1000 ∧ ∀ y ∈ M.getD i [], -1048576 ≤ y ∧ y ≤ 1048576 := fun i hi => hms _ (St.getL_mem hi)
  have so : ∀ (q : Nat) (y : Nat) (_ : y < M.length) (O : List Int), O = (if q = a then [x] else M.getD y []) → O.length ≤ 1000 ∧ ∀ y ∈ O, -1048576 ≤ y ∧ y ≤ 1048576 := fun q y hy O hO => by
    rw [hO]
    split
    · exact ⟨by simp, fun z hz => by obtain rfl : z = x := by simpa using hz
                                     exact hx⟩
    · exact sm y hy
  have SA := so 0 y0 z0 _ hO0
  have SB := so 1 y1 z1 _ hO1
  have SC := so 2 y2 z2 _ hO2
  obtain ⟨A, hA⟩ : ∃ A, A = ownL M c.vars a x 0 := ⟨_, rfl⟩
  obtain ⟨B, hB⟩ : ∃ B, B = ownL M c.vars a x 1 := ⟨_, rfl⟩
  obtain ⟨C, hC⟩ : ∃ C, C = ownL M c.vars a x 2 := ⟨_, rfl⟩
  rw [← hA] at hO0 hR2 SA
  rw [← hB] at hO1 hR2 SB
  rw [← hC] at hO2 hR2 SC
  have r0 : Dm.Reads W0 u0 (M.getD y0 []) := Dm.reads_of_owns (owns_below s0 hb0)
  have r1 : Dm.Reads W0 u1 (M.getD y1 []) := Dm.reads_of_owns (owns_below s1 hb0)
  have r2 : Dm.Reads W0 u2 (M.getD y2 []) := Dm.reads_of_owns (owns_below s2 hb0)
  have g0 := cell_below hb0 g0
  have g1 := cell_below hb0 g1
  have g2 := cell_below hb0 g2
  obtain ⟨pu0, _, cu0, rfl, _, _⟩ := Dm.ints_shape s0
  obtain ⟨pu1, _, cu1, rfl, _, _⟩ := Dm.ints_shape s1
  obtain ⟨pu2, _, cu2, rfl, _, _⟩ := Dm.ints_shape s2
  have HRD := Lib.hid (And.intro r0 (And.intro r1 r2))
  have HO := Lib.hid (And.intro hO0 (And.intro hO1 hO2))
  have HR := Lib.hid hR2
  have HS := Lib.hid (And.intro SA (And.intro SB SC))
  obtain ⟨N0, hN0⟩ : ∃ N, N = M.getD y0 [] := ⟨_, rfl⟩
  obtain ⟨N1, hN1⟩ : ∃ N, N = M.getD y1 [] := ⟨_, rfl⟩
  obtain ⟨N2, hN2⟩ : ∃ N, N = M.getD y2 [] := ⟨_, rfl⟩
  rw [← hN0, ← hN1, ← hN2] at HRD HO
  rw [← hN0] at g0
  rw [← hN1] at g1
  rw [← hN2] at g2
  have d0 : (y0 : Int) < (M.length : Int) := by omega
  have d1 : (y1 : Int) < (M.length : Int) := by omega
  have d2 : (y2 : Int) < (M.length : Int) := by omega
  have q1 := HQ0.out
  have lg := Dm.cell_lt g0
  have lb := Dm.cell_lt k0
  have lw := Dm.cell_lt q1
  clear h1 hM hv hms hx hR hR2 hW0 hb0 v0 v1 v2 hy0 hy1 hy2 hO0 hO1 hO2 sm so SA SB SC hA hB hC s0 s1 s2 r0 r1 r2 hN0 hN1 hN2 h3
  go_enter Tryd.func29, Tryd.ntmps29
  go_wp2_with fail
  rw [← HW.out]
  obtain ⟨l0, hl0⟩ : ∃ l, l = N0.length := ⟨_, rfl⟩
  obtain ⟨l1, hl1⟩ : ∃ l, l = N1.length := ⟨_, rfl⟩
  obtain ⟨l2, hl2⟩ : ∃ l, l = N2.length := ⟨_, rfl⟩
  rw [← hl0] at g0
  rw [← hl1] at g1
  rw [← hl2] at g2
  rw [← hl0, ← hl1, ← hl2] at HRD
  clear hl0 hl1 hl2
  have HQ := HQ0
  have HK0 := Lib.hid k0
  have HK1 := Lib.hid k1
  have HK2 := Lib.hid k2
  have HU0 := Lib.hid g0
  have HU1 := Lib.hid g1
  have HU2 := Lib.hid g2
  clear k0 k1 k2 g0 g1 g2 q1
  go_upto_region 1 with fail
  have HBZ := Lib.hid (show Below W0.heap.size W0 W0.drew from (Below.refl _ _).drew)
  go_cut [9] (fun p wx => ∃ b, p = .pointer (some ⟨b, 0, none⟩) ∧ Arr wx b (.slice pu0 l0 cu0) (.slice pu1 l1 cu1) (.slice pu2 l2 cu2) ∧ W0.heap.size ≤ b ∧ Below W0.heap.size W0 wx)
  case first =>
    refine wp_region_at (γ := GS1) (JS1 W0 b1 o1 c1 g M.length cap w.heap.size y0 y1 y2 (.slice pu0 l0 cu0) (.slice pu1 l1 cu1) (.slice pu2 l2 cu2)) putS1 ⟨0, undef, undef, undef, undef, undef, undef, undef, undef, undef, undef, undef, undef, undef, undef, undef, undef, undef, undef, undef, undef, undef, undef, undef⟩ ?hm ?ho ?hput ?h0 ?hs ?hd
    case hm => kernel_rfl
    case ho => kernel_rfl
    case hput => (simp only [putS1, List.setIfInBounds_toArray, List.set_cons_zero, List.set_cons_succ])
    case h0 => exact ⟨HBZ.out, nofun, nofun, nofun, nofun, nofun, nofun, nofun, nofun, nofun, nofun, nofun, nofun, nofun, nofun, nofun, nofun, nofun, nofun, nofun, nofun, nofun, nofun, nofun, nofun, nofun⟩
    case hs =>
      as_aux_lemma =>
      refine ⟨?s0, ?s1, ?s2, ?s3, ?s4, ?s5, ?s6, ?s7, ?s8, ?s9, ?s10, ?s11, ?s12, ?s13, ?s14, ?s15, ?s16, ?s17, ?s18, ?s19, ?s20, ?s21, ?s22, ?s23, trivial⟩
      case s0 =>
        rintro l ⟨b9, v13, v14, v15, v16, v17, v18, v19, v20, v21, v22, v23, v24, v25, v26, v27, v28, v29, v30, v31, v32, v33, v34, v9⟩ u hl haf S K hK
        simp only [JS1] at S
        refine ⟨?_⟩
        simp only [putS1, List.setIfInBounds_toArray, List.set_cons_zero, List.set_cons_succ]
        go_simp
        have nx := hK.out ⟨b9, (.slice (some ⟨g, 0, none⟩) M.length cap), v14, v15, v16, v17, v18, v19, v20, v21, v22, v23, v24, v25, v26, v27, v28, v29, v30, v31, v32, v33, v34, v9⟩ u (S.s0 hl)
        clear hK
        simp only [putS1, List.setIfInBounds_toArray, List.set_cons_zero, List.set_cons_succ] at nx
        exact nx
      case s1 =>
        rintro l ⟨b9, v13, v14, v15, v16, v17, v18, v19, v20, v21, v22, v23, v24, v25, v26, v27, v28, v29, v30, v31, v32, v33, v34, v9⟩ u hl haf S K hK
        simp only [JS1] at S
        refine ⟨?_⟩
        simp only [putS1, List.setIfInBounds_toArray, List.set_cons_zero, List.set_cons_succ]
        go_simp
        have nx := hK.out ⟨b9, v13, (.pointer (some ⟨w.heap.size, 1, none⟩)), v15, v16, v17, v18, v19, v20, v21, v22, v23, v24, v25, v26, v27, v28, v29, v30, v31, v32, v33, v34, v9⟩ u (S.s1 hl)
        clear hK
        simp only [putS1, List.setIfInBounds_toArray, List.set_cons_zero, List.set_cons_succ] at nx
        exact nx
      case s2 =>
        rintro l ⟨b9, v13, v14, v15, v16, v17, v18, v19, v20, v21, v22, v23, v24, v25, v26, v27, v28, v29, v30, v31, v32, v33, v34, v9⟩ u hl haf S K hK
        simp only [JS1] at S
        have c0 := cell_below S.base HQ.out
        obtain rfl := S.f1 (haf 1 (by kernel_rfl))
        refine ⟨?_⟩
        simp only [putS1, List.setIfInBounds_toArray, List.set_cons_zero, List.set_cons_succ]
        go_simp
        have nx := hK.out ⟨b9, v13, _, (.slice (some ⟨b1, o1, none⟩) 3 c1), v16, v17, v18, v19, v20, v21, v22, v23, v24, v25, v26, v27, v28, v29, v30, v31, v32, v33, v34, v9⟩ u (S.s2 hl)
        clear hK
        simp only [putS1, List.setIfInBounds_toArray, List.set_cons_zero, List.set_cons_succ] at nx
        exact nx
      case s3 =>
        rintro l ⟨b9, v13, v14, v15, v16, v17, v18, v19, v20, v21, v22, v23, v24, v25, v26, v27, v28, v29, v30, v31, v32, v33, v34, v9⟩ u hl haf S K hK
        simp only [JS1] at S
        obtain rfl := S.f2 (haf 2 (by kernel_rfl))
        refine ⟨?_⟩
        simp only [putS1, List.setIfInBounds_toArray, List.set_cons_zero, List.set_cons_succ]
        go_simp
        have nx := hK.out ⟨b9, v13, v14, _, (.pointer (some ⟨b1, o1, none⟩)), v17, v18, v19, v20, v21, v22, v23, v24, v25, v26, v27, v28, v29, v30, v31, v32, v33, v34, v9⟩ u (S.s3 hl)
        clear hK
        simp only [putS1, List.setIfInBounds_toArray, List.set_cons_zero, List.set_cons_succ] at nx
        exact nx
      case s4 =>
        rintro l ⟨b9, v13, v14, v15, v16, v17, v18, v19, v20, v21, v22, v23, v24, v25, v26, v27, v28, v29, v30, v31, v32, v33, v34, v9⟩ u hl haf S K hK
        simp only [JS1] at S
        have c0 := cell_below S.base HK0.out
        obtain rfl := S.f3 (haf 3 (by kernel_rfl))
        refine ⟨?_⟩
        simp only [putS1, List.setIfInBounds_toArray, List.set_cons_zero, List.set_cons_succ]
        go_simp
        have nx := hK.out ⟨b9, v13, v14, v15, _, (.int .i64 (y0 : Nat)), v18, v19, v20, v21, v22, v23, v24, v25, v26, v27, v28, v29, v30, v31, v32, v33, v34, v9⟩ u (S.s4 hl)
        clear hK
        simp only [putS1, List.setIfInBounds_toArray, List.set_cons_zero, List.set_cons_succ] at nx
        exact nx
      case s5 =>
        rintro l ⟨b9, v13, v14, v15, v16, v17, v18, v19, v20, v21, v22, v23, v24, v25, v26, v27, v28, v29, v30, v31, v32, v33, v34, v9⟩ u hl haf S K hK
        simp only [JS1] at S
        obtain rfl := S.f0 (haf 0 (by kernel_rfl))
        obtain rfl := S.f4 (haf 4 (by kernel_rfl))
        refine ⟨?_⟩
        simp only [putS1, List.setIfInBounds_toArray, List.set_cons_zero, List.set_cons_succ]
        go_simp
        have nx := hK.out ⟨b9, _, v14, v15, v16, _, (.pointer (some ⟨g, y0, none⟩)), v19, v20, v21, v22, v23, v24, v25, v26, v27, v28, v29, v30, v31, v32, v33, v34, v9⟩ u (S.s5 hl)
        clear hK
        simp only [putS1, List.setIfInBounds_toArray, List.set_cons_zero, List.set_cons_succ] at nx
        exact nx
      case s6 =>
        rintro l ⟨b9, v13, v14, v15, v16, v17, v18, v19, v20, v21, v22, v23, v24, v25, v26, v27, v28, v29, v30, v31, v32, v33, v34, v9⟩ u hl haf S K hK
        simp only [JS1] at S
        have c0 := cell_below S.base HU0.out
        obtain rfl := S.f5 (haf 5 (by kernel_rfl))
        refine ⟨?_⟩
        simp only [putS1, List.setIfInBounds_toArray, List.set_cons_zero, List.set_cons_succ]
        go_simp
        have nx := hK.out ⟨b9, v13, v14, v15, v16, v17, _, (.slice pu0 l0 cu0), v20, v21, v22, v23, v24, v25, v26, v27, v28, v29, v30, v31, v32, v33, v34, v9⟩ u (S.s6 hl)
        clear hK
        simp only [putS1, List.setIfInBounds_toArray, List.set_cons_zero, List.set_cons_succ] at nx
        exact nx
      case s7 =>
        rintro l ⟨b9, v13, v14, v15, v16, v17, v18, v19, v20, v21, v22, v23, v24, v25, v26, v27, v28, v29, v30, v31, v32, v33, v34, v9⟩ u hl haf S K hK
        simp only [JS1] at S
        refine ⟨?_⟩
        simp only [putS1, List.setIfInBounds_toArray, List.set_cons_zero, List.set_cons_succ]
        go_simp
        have nx := hK.out ⟨b9, v13, v14, v15, v16, v17, v18, v19, (.slice (some ⟨g, 0, none⟩) M.length cap), v21, v22, v23, v24, v25, v26, v27, v28, v29, v30, v31, v32, v33, v34, v9⟩ u (S.s7 hl)
        clear hK
        simp only [putS1, List.setIfInBounds_toArray, List.set_cons_zero, List.set_cons_succ] at nx
        exact nx
      case s8 =>
        rintro l ⟨b9, v13, v14, v15, v16, v17, v18, v19, v20, v21, v22, v23, v24, v25, v26, v27, v28, v29, v30, v31, v32, v33, v34, v9⟩ u hl haf S K hK
        simp only [JS1] at S
        refine ⟨?_⟩
        simp only [putS1, List.setIfInBounds_toArray, List.set_cons_zero, List.set_cons_succ]
        go_simp
        have nx := hK.out ⟨b9, v13, v14, v15, v16, v17, v18, v19, v20, (.pointer (some ⟨w.heap.size, 1, none⟩)), v22, v23, v24, v25, v26, v27, v28, v29, v30, v31, v32, v33, v34, v9⟩ u (S.s8 hl)
        clear hK
        simp only [putS1, List.setIfInBounds_toArray, List.set_cons_zero, List.set_cons_succ] at nx
        exact nx
      case s9 =>
        rintro l ⟨b9, v13, v14, v15, v16, v17, v18, v19, v20, v21, v22, v23, v24, v25, v26, v27, v28, v29, v30, v31, v32, v33, v34, v9⟩ u hl haf S K hK
        simp only [JS1] at S
        have c0 := cell_below S.base HQ.out
        obtain rfl := S.f8 (haf 8 (by kernel_rfl))
        refine ⟨?_⟩
        simp only [putS1, List.setIfInBounds_toArray, List.set_cons_zero, List.set_cons_succ]
        go_simp
        have nx := hK.out ⟨b9, v13, v14, v15, v16, v17, v18, v19, v20, _, (.slice (some ⟨b1, o1, none⟩) 3 c1), v23, v24, v25, v26, v27, v28, v29, v30, v31, v32, v33, v34, v9⟩ u (S.s9 hl)
        clear hK
        simp only [putS1, List.setIfInBounds_toArray, List.set_cons_zero, List.set_cons_succ] at nx
        exact nx
      case s10 =>
        rintro l ⟨b9, v13, v14, v15, v16, v17, v18, v19, v20, v21, v22, v23, v24, v25, v26, v27, v28, v29, v30, v31, v32, v33, v34, v9⟩ u hl haf S K hK
        simp only [JS1] at S
        obtain rfl := S.f9 (haf 9 (by kernel_rfl))
        refine ⟨?_⟩
        simp only [putS1, List.setIfInBounds_toArray, List.set_cons_zero, List.set_cons_succ]
        go_simp
        have nx := hK.out ⟨b9, v13, v14, v15, v16, v17, v18, v19, v20, v21, _, (.pointer (some ⟨b1, o1 + 1, none⟩)), v24, v25, v26, v27, v28, v29, v30, v31, v32, v33, v34, v9⟩ u (S.s10 hl)
        clear hK
        simp only [putS1, List.setIfInBounds_toArray, List.set_cons_zero, List.set_cons_succ] at nx
        exact nx
      case s11 =>
        rintro l ⟨b9, v13, v14, v15, v16, v17, v18, v19, v20, v21, v22, v23, v24, v25, v26, v27, v28, v29, v30, v31, v32, v33, v34, v9⟩ u hl haf S K hK
        simp only [JS1] at S
        have c0 := cell_below S.base HK1.out
        obtain rfl := S.f10 (haf 10 (by kernel_rfl))
        refine ⟨?_⟩
        simp only [putS1, List.setIfInBounds_toArray, List.set_cons_zero, List.set_cons_succ]
        go_simp
        have nx := hK.out ⟨b9, v13, v14, v15, v16, v17, v18, v19, v20, v21, v22, _, (.int .i64 (y1 : Nat)), v25, v26, v27, v28, v29, v30, v31, v32, v33, v34, v9⟩ u (S.s11 hl)
        clear hK
        simp only [putS1, List.setIfInBounds_toArray, List.set_cons_zero, List.set_cons_succ] at nx
        exact nx
      case s12 =>
        rintro l ⟨b9, v13, v14, v15, v16, v17, v18, v19, v20, v21, v22, v23, v24, v25, v26, v27, v28, v29, v30, v31, v32, v33, v34, v9⟩ u hl haf S K hK
        simp only [JS1] at S
        obtain rfl := S.f7 (haf 7 (by kernel_rfl))
        obtain rfl := S.f11 (haf 11 (by kernel_rfl))
        refine ⟨?_⟩
        simp only [putS1, List.setIfInBounds_toArray, List.set_cons_zero, List.set_cons_succ]
        go_simp
        have nx := hK.out ⟨b9, v13, v14, v15, v16, v17, v18, v19, _, v21, v22, v23, _, (.pointer (some ⟨g, y1, none⟩)), v26, v27, v28, v29, v30, v31, v32, v33, v34, v9⟩ u (S.s12 hl)
        clear hK
        simp only [putS1, List.setIfInBounds_toArray, List.set_cons_zero, List.set_cons_succ] at nx
        exact nx
      case s13 =>
        rintro l ⟨b9, v13, v14, v15, v16, v17, v18, v19, v20, v21, v22, v23, v24, v25, v26, v27, v28, v29, v30, v31, v32, v33, v34, v9⟩ u hl haf S K hK
        simp only [JS1] at S
        have c0 := cell_below S.base HU1.out
        obtain rfl := S.f12 (haf 12 (by kernel_rfl))
        refine ⟨?_⟩
        simp only [putS1, List.setIfInBounds_toArray, List.set_cons_zero, List.set_cons_succ]
        go_simp
        have nx := hK.out ⟨b9, v13, v14, v15, v16, v17, v18, v19, v20, v21, v22, v23, v24, _, (.slice pu1 l1 cu1), v27, v28, v29, v30, v31, v32, v33, v34, v9⟩ u (S.s13 hl)
        clear hK
        simp only [putS1, List.setIfInBounds_toArray, List.set_cons_zero, List.set_cons_succ] at nx
        exact nx
      case s14 =>
        rintro l ⟨b9, v13, v14, v15, v16, v17, v18, v19, v20, v21, v22, v23, v24, v25, v26, v27, v28, v29, v30, v31, v32, v33, v34, v9⟩ u hl haf S K hK
        simp only [JS1] at S
        refine ⟨?_⟩
        simp only [putS1, List.setIfInBounds_toArray, List.set_cons_zero, List.set_cons_succ]
        go_simp
        have nx := hK.out ⟨b9, v13, v14, v15, v16, v17, v18, v19, v20, v21, v22, v23, v24, v25, v26, (.slice (some ⟨g, 0, none⟩) M.length cap), v28, v29, v30, v31, v32, v33, v34, v9⟩ u (S.s14 hl)
        clear hK
        simp only [putS1, List.setIfInBounds_toArray, List.set_cons_zero, List.set_cons_succ] at nx
        exact nx
      case s15 =>
        rintro l ⟨b9, v13, v14, v15, v16, v17, v18, v19, v20, v21, v22, v23, v24, v25, v26, v27, v28, v29, v30, v31, v32, v33, v34, v9⟩ u hl haf S K hK
        simp only [JS1] at S
        refine ⟨?_⟩
        simp only [putS1, List.setIfInBounds_toArray, List.set_cons_zero, List.set_cons_succ]
        go_simp
        have nx := hK.out ⟨b9, v13, v14, v15, v16, v17, v18, v19, v20, v21, v22, v23, v24, v25, v26, v27, (.pointer (some ⟨w.heap.size, 1, none⟩)), v29, v30, v31, v32, v33, v34, v9⟩ u (S.s15 hl)
        clear hK
        simp only [putS1, List.setIfInBounds_toArray, List.set_cons_zero, List.set_cons_succ] at nx
        exact nx
      case s16 =>
        rintro l ⟨b9, v13, v14, v15, v16, v17, v18, v19, v20, v21, v22, v23, v24, v25, v26, v27, v28, v29, v30, v31, v32, v33, v34, v9⟩ u hl haf S K hK
        simp only [JS1] at S
        have c0 := cell_below S.base HQ.out
        obtain rfl := S.f15 (haf 15 (by kernel_rfl))
        refine ⟨?_⟩
        simp only [putS1, List.setIfInBounds_toArray, List.set_cons_zero, List.set_cons_succ]
        go_simp
        have nx := hK.out ⟨b9, v13, v14, v15, v16, v17, v18, v19, v20, v21, v22, v23, v24, v25, v26, v27, _, (.slice (some ⟨b1, o1, none⟩) 3 c1), v30, v31, v32, v33, v34, v9⟩ u (S.s16 hl)
        clear hK
        simp only [putS1, List.setIfInBounds_toArray, List.set_cons_zero, List.set_cons_succ] at nx
        exact nx
      case s17 =>
        rintro l ⟨b9, v13, v14, v15, v16, v17, v18, v19, v20, v21, v22, v23, v24, v25, v26, v27, v28, v29, v30, v31, v32, v33, v34, v9⟩ u hl haf S K hK
        simp only [JS1] at S
        obtain rfl := S.f16 (haf 16 (by kernel_rfl))
        refine ⟨?_⟩
        simp only [putS1, List.setIfInBounds_toArray, List.set_cons_zero, List.set_cons_succ]
        go_simp
        have nx := hK.out ⟨b9, v13, v14, v15, v16, v17, v18, v19, v20, v21, v22, v23, v24, v25, v26, v27, v28, _, (.pointer (some ⟨b1, o1 + 2, none⟩)), v31, v32, v33, v34, v9⟩ u (S.s17 hl)
        clear hK
        simp only [putS1, List.setIfInBounds_toArray, List.set_cons_zero, List.set_cons_succ] at nx
        exact nx
      case s18 =>
        rintro l ⟨b9, v13, v14, v15, v16, v17, v18, v19, v20, v21, v22, v23, v24, v25, v26, v27, v28, v29, v30, v31, v32, v33, v34, v9⟩ u hl haf S K hK
        simp only [JS1] at S
        have c0 := cell_below S.base HK2.out
        obtain rfl := S.f17 (haf 17 (by kernel_rfl))
        refine ⟨?_⟩
        simp only [putS1, List.setIfInBounds_toArray, List.set_cons_zero, List.set_cons_succ]
        go_simp
        have nx := hK.out ⟨b9, v13, v14, v15, v16, v17, v18, v19, v20, v21, v22, v23, v24, v25, v26, v27, v28, v29, _, (.int .i64 (y2 : Nat)), v32, v33, v34, v9⟩ u (S.s18 hl)
        clear hK
        simp only [putS1, List.setIfInBounds_toArray, List.set_cons_zero, List.set_cons_succ] at nx
        exact nx
      case s19 =>
        rintro l ⟨b9, v13, v14, v15, v16, v17, v18, v19, v20, v21, v22, v23, v24, v25, v26, v27, v28, v29, v30, v31, v32, v33, v34, v9⟩ u hl haf S K hK
        simp only [JS1] at S
        obtain rfl := S.f14 (haf 14 (by kernel_rfl))
        obtain rfl := S.f18 (haf 18 (by kernel_rfl))
        refine ⟨?_⟩
        simp only [putS1, List.setIfInBounds_toArray, List.set_cons_zero, List.set_cons_succ]
        go_simp
        have nx := hK.out ⟨b9, v13, v14, v15, v16, v17, v18, v19, v20, v21, v22, v23, v24, v25, v26, _, v28, v29, v30, _, (.pointer (some ⟨g, y2, none⟩)), v33, v34, v9⟩ u (S.s19 hl)
        clear hK
        simp only [putS1, List.setIfInBounds_toArray, List.set_cons_zero, List.set_cons_succ] at nx
        exact nx
      case s20 =>
        rintro l ⟨b9, v13, v14, v15, v16, v17, v18, v19, v20, v21, v22, v23, v24, v25, v26, v27, v28, v29, v30, v31, v32, v33, v34, v9⟩ u hl haf S K hK
        simp only [JS1] at S
        have c0 := cell_below S.base HU2.out
        obtain rfl := S.f19 (haf 19 (by kernel_rfl))
        refine ⟨?_⟩
        simp only [putS1, List.setIfInBounds_toArray, List.set_cons_zero, List.set_cons_succ]
        go_simp
        have nx := hK.out ⟨b9, v13, v14, v15, v16, v17, v18, v19, v20, v21, v22, v23, v24, v25, v26, v27, v28, v29, v30, v31, _, (.slice pu2 l2 cu2), v34, v9⟩ u (S.s20 hl)
        clear hK
        simp only [putS1, List.setIfInBounds_toArray, List.set_cons_zero, List.set_cons_succ] at nx
        exact nx
      case s21 =>
        rintro l ⟨b9, v13, v14, v15, v16, v17, v18, v19, v20, v21, v22, v23, v24, v25, v26, v27, v28, v29, v30, v31, v32, v33, v34, v9⟩ u hl haf S K hK
        simp only [JS1] at S
        obtain rfl := S.f6 (haf 6 (by kernel_rfl))
        obtain rfl := S.f13 (haf 13 (by kernel_rfl))
        obtain rfl := S.f20 (haf 20 (by kernel_rfl))
        refine ⟨?_⟩
        simp only [putS1, List.setIfInBounds_toArray, List.set_cons_zero, List.set_cons_succ]
        go_simp
        have nx := hK.out ⟨b9, v13, v14, v15, v16, v17, v18, _, v20, v21, v22, v23, v24, v25, _, v27, v28, v29, v30, v31, v32, _, (.agg #[(.slice pu0 l0 cu0), (.slice pu1 l1 cu1), (.slice pu2 l2 cu2)]), v9⟩ u (S.s21 hl)
        clear hK
        simp only [putS1, List.setIfInBounds_toArray, List.set_cons_zero, List.set_cons_succ] at nx
        exact nx
      case s22 =>
        rintro l ⟨b9, v13, v14, v15, v16, v17, v18, v19, v20, v21, v22, v23, v24, v25, v26, v27, v28, v29, v30, v31, v32, v33, v34, v9⟩ u hl haf S K hK
        simp only [JS1] at S
        refine ⟨?_⟩
        simp only [putS1, List.setIfInBounds_toArray, List.set_cons_zero, List.set_cons_succ]
        go_simp
        have nx := hK.out ⟨u.heap.size, v13, v14, v15, v16, v17, v18, v19, v20, v21, v22, v23, v24, v25, v26, v27, v28, v29, v30, v31, v32, v33, v34, (.pointer (some ⟨u.heap.size, 0, none⟩))⟩ _ (S.s22 hl _ rfl)
        clear hK
        simp only [putS1, List.setIfInBounds_toArray, List.set_cons_zero, List.set_cons_succ] at nx
        exact nx
      case s23 =>
        rintro l ⟨b9, v13, v14, v15, v16, v17, v18, v19, v20, v21, v22, v23, v24, v25, v26, v27, v28, v29, v30, v31, v32, v33, v34, v9⟩ u hl haf S K hK
        simp only [JS1] at S
        have hb := haf 22 (by kernel_rfl)
        have hc := haf 21 (by kernel_rfl)
        have hv := S.f21 hc
        obtain ⟨hp, hlo, z0, z1, z2, ho, ⟨⟨z01, z02, z03, rfl⟩, ⟨z11, z12, z13, rfl⟩, ⟨z21, z22, z23, rfl⟩⟩, hz⟩ := S.f22 hb
        obtain ⟨c0, c1, c2⟩ := ho.at
        have f0 := ho.frozen 0
        have f1 := ho.frozen 1
        have f2 := ho.frozen 2
        refine ⟨?_⟩
        simp only [hv, hp, putS1, List.setIfInBounds_toArray, List.set_cons_zero, List.set_cons_succ]
        go_simp
        have nx := hK.out ⟨b9, v13, v14, v15, v16, v17, v18, v19, v20, v21, v22, v23, v24, v25, v26, v27, v28, v29, v30, v31, v32, v33, v34, v9⟩ _ (S.s23 hl hb hc ⟨⟨_, _, _, rfl⟩, ⟨_, _, _, rfl⟩, ⟨_, _, _, rfl⟩⟩)
        clear hK
        simp only [hv, hp, putS1, List.setIfInBounds_toArray, List.set_cons_zero, List.set_cons_succ] at nx
        exact nx
    case hd =>
      rintro ⟨b9, v13, v14, v15, v16, v17, v18, v19, v20, v21, v22, v23, v24, v25, v26, v27, v28, v29, v30, v31, v32, v33, v34, v9⟩ u l hall S
      simp only [JS1] at S
      obtain ⟨hp9, hl9, _, _, _, ho9, -, hz9⟩ := S.f22 (hall 22 (by decide))
      obtain ⟨rfl, rfl, rfl⟩ := hz9 (hall 23 (by decide))
      refine ⟨?_⟩
      simp only [hp9, putS1, List.setIfInBounds_toArray, List.set_cons_zero, List.set_cons_succ]
      have HBB := Lib.hid S.base
      have HAR := Lib.hid ho9
      clear S ho9 hall
      go_wp2_with fail
      go_meet
      exact ⟨_, rfl, HAR.out, hl9, HBB.out⟩
  case rest =>
    obtain ⟨b9, rfl, hAr, hge, hB⟩ := hcut
    have HGE := Lib.hid hge
    obtain ⟨wx, rfl⟩ : ∃ z, z = wc := ⟨_, rfl⟩
    have HAr := Lib.hid hAr
    have HBX := Lib.hid hB
    clear HQ HK0 HK1 HK2 HU0 HU1 HU2 HBZ d0 d1 d2 lg lb lw hB hAr
    have HNE := Lib.hid (show b9 < wx.heap.size from (Array.getElem?_eq_some_iff.1 HAr.out).1)
    obtain ⟨c0, c1', c2'⟩ := HAr.out.at
    have f0 := HAr.out.frozen 0
    have f1 := HAr.out.frozen 1
    have f2 := HAr.out.frozen 2
    have b9l := HNE.out
    go_upto_region 2 with fail
    go_cut [] (fun wy => Arr3 wy b9 A B C ∧ Below W0.heap.size W0 wy)
    case first =>
      have HS9 := Lib.hid (fun (j : Nat) (z : Value) => new_below (wx.setCell ⟨b9, j, none⟩ z) (.cells #[.int .i64 x] 3))
      have HX9 := Lib.hid (show ∀ (j : Nat) (z : Value), Dm.Reads ((wx.setCell ⟨b9, j, none⟩ z).alloc (.cells #[.int .i64 x] 3)) (.slice (some ⟨wx.heap.size, 0, none⟩) 1 1) [x] from fun j z => by
        have h := Dm.reads_of_readsN (St.one_reads (wx.setCell ⟨b9, j, none⟩ z) x)
        rw [World.size_setCell] at h
        exact h)
      have RR := Lib.hid (show ∀ (v : Value) (N : List Int) (j : Nat) (z : Value), Dm.Reads W0 v N → Dm.Reads ((wx.setCell ⟨b9, j, none⟩ z).alloc (.cells #[.int .i64 x] 3)) v N from fun v N j z h => Dm.reads_below (Dm.reads_below h (HBX.out.setCell (p := ⟨b9, j, none⟩) HGE.out z)) (HS9.out j z))
      have HBQ := Lib.hid (fun (j : Nat) (z : Value) => below_two (HBX.out.setCell (p := ⟨b9, j, none⟩) HGE.out z) (HS9.out j z))
      have h3 : a = 0 ∨ a = 1 ∨ a = 2 := by omega
      rcases h3 with rfl | rfl | rfl
      · go_wp2_with fail
        go_meet
        have e0 : A = [x] := by simpa using HO.out.1
        have e1 : B = N1 := by simpa using HO.out.2.1
        have e2 : C = N2 := by simpa using HO.out.2.2
        obtain ⟨x0, x1, x2⟩ := ((HAr.out.set0 (.slice (some ⟨wx.heap.size, 0, none⟩) 1 1)).below (HS9.out 0 _)).at
        rw [e0, e1, e2]
        exact ⟨.of x0 x1 x2 (HX9.out _ _) (RR.out _ _ _ _ HRD.out.2.1) (RR.out _ _ _ _ HRD.out.2.2), HBQ.out _ _⟩
      · go_wp2_with fail
        go_meet
        have e0 : A = N0 := by simpa using HO.out.1
        have e1 : B = [x] := by simpa using HO.out.2.1
        have e2 : C = N2 := by simpa using HO.out.2.2
        obtain ⟨x0, x1, x2⟩ := ((HAr.out.set1 (.slice (some ⟨wx.heap.size, 0, none⟩) 1 1)).below (HS9.out 1 _)).at
        rw [e0, e1, e2]
        exact ⟨.of x0 x1 x2 (RR.out _ _ _ _ HRD.out.1) (HX9.out _ _) (RR.out _ _ _ _ HRD.out.2.2), HBQ.out _ _⟩
      · go_wp2_with fail
        go_meet
        have e0 : A = N0 := by simpa using HO.out.1
        have e1 : B = N1 := by simpa using HO.out.2.1
        have e2 : C = [x] := by simpa using HO.out.2.2
        obtain ⟨x0, x1, x2⟩ := ((HAr.out.set2 (.slice (some ⟨wx.heap.size, 0, none⟩) 1 1)).below (HS9.out 2 _)).at
        rw [e0, e1, e2]
        exact ⟨.of x0 x1 x2 (RR.out _ _ _ _ HRD.out.1) (RR.out _ _ _ _ HRD.out.2.1) (HX9.out _ _), HBQ.out _ _⟩
    case rest =>
      obtain ⟨hA3, hB⟩ := hcut
      obtain ⟨wy, rfl⟩ : ∃ z, z = wc := ⟨_, rfl⟩
      obtain ⟨pa, ba, oa, ca, pb, bb, ob, cb, pc, bc, oc, cc, ⟨x0, ha1, ha2⟩, ⟨x1, hb1, hb2⟩, ⟨x2, hc1, hc2⟩⟩ := hA3
      have HBY := Lib.hid (below_two HB0.out hB)
      have HXC := Lib.hid (And.intro x0 (And.intro x1 x2))
      have HVA := Lib.hid ha2
      have HVB := Lib.hid hb2
      have HVC := Lib.hid hc2
      obtain ⟨nA, hnA⟩ : ∃ n, n = A.length := ⟨_, rfl⟩
      obtain ⟨nB, hnB⟩ : ∃ n, n = B.length := ⟨_, rfl⟩
      obtain ⟨nC, hnC⟩ : ∃ n, n = C.length := ⟨_, rfl⟩
      rw [← hnA] at x0 ha1 HXC
      rw [← hnB] at x1 hb1 HXC
      rw [← hnC] at x2 hc1 HXC
      have HN := Lib.hid (And.intro hnA (And.intro hnB hnC))
      have bA : nA ≤ 1000 := by rw [hnA]; exact HS.out.1.1
      have bB : nB ≤ 1000 := by rw [hnB]; exact HS.out.2.1.1
      have bC : nC ≤ 1000 := by rw [hnC]; exact HS.out.2.2.1
      clear hB ha2 hb2 hc2 hnA hnB hnC HAr HBX HNE HGE c0 c1' c2' f0 f1 f2 b9l HRD HO HQ0 HW hge
      go_wp2_with fail
      go_loopw [10] (fun i wr => ∃ k : Nat, k ≤ nA ∧ i = .int .i64 k ∧ (A.take k).any (fun u => B.any fun v => C.any fun z => decide (u * v = z)) = false ∧ Below wy.heap.size wy wr) (fun i _ => nA - (intOf i).toNat)
      case atStart => exact ⟨0, by omega, rfl, rfl, Below.refl _ _⟩
      case round =>
        rename_i wr
        obtain ⟨i, hi, rfl, hno, hB⟩ := hrel
        have HB := Lib.hid hB
        have HNO := Lib.hid hno
        have y0' := cell_below hB HXC.out.1
        have y1' := cell_below hB HXC.out.2.1
        have y2' := cell_below hB HXC.out.2.2
        clear hB hno x0 x1 x2
        by_cases hlt : i < nA
        · obtain rfl := ha1 (by omega)
          have hiA : i < A.length := by have := HN.out.1; omega
          have HCA := Lib.hid (HVA.out i hiA)
          have SU := Lib.hid (HS.out.1.2 (A.getD i 0) (St.getD_memS hiA))
          have MU := Lib.hid (St.getD_memS hiA)
          have HNX := Lib.hid (fun q => short_take (p := fun u => B.any fun v => C.any fun z => decide (u * v = z)) hiA HNO.out q)
          obtain ⟨u, hu⟩ : ∃ u, u = A.getD i 0 := ⟨_, rfl⟩
          rw [← hu] at HCA SU MU HNX
          have d5 : (i : Int) < (nA : Int) := by omega
          clear hu hiA HNO
          go_wp2_with fail
          go_loopw [11] (fun f wx => ∃ j : Nat, j ≤ nB ∧ f = .int .i64 j ∧ (B.take j).any (fun v => C.any fun z => decide (u * v = z)) = false ∧ Below wy.heap.size wy wx) (fun f _ => nB - (intOf f).toNat)
          case atStart => exact ⟨0, by omega, rfl, rfl, HB.out⟩
          case round =>
            rename_i wq
            obtain ⟨j, hj, rfl, hno, hB⟩ := hrel
            have HBq := Lib.hid hB
            have HNO := Lib.hid hno
            clear y0' y1' y2'
            have y0' := cell_below hB HXC.out.1
            have y1' := cell_below hB HXC.out.2.1
            have y2' := cell_below hB HXC.out.2.2
            clear hB hno
            by_cases hlt2 : j < nB
            · obtain rfl := hb1 (by omega)
              have hjB : j < B.length := by have := HN.out.2.1; omega
              have HCB := Lib.hid (HVB.out j hjB)
              have SV := Lib.hid (HS.out.2.1.2 (B.getD j 0) (St.getD_memS hjB))
              have MV := Lib.hid (St.getD_memS hjB)
              have HNY := Lib.hid (fun q => short_take (p := fun v => C.any fun z => decide (u * v = z)) hjB HNO.out q)
              obtain ⟨v, hv⟩ : ∃ v, v = B.getD j 0 := ⟨_, rfl⟩
              rw [← hv] at HCB SV MV HNY
              have d6 : (j : Int) < (nB : Int) := by omega
              have hw : IntKind.i64.wrap (u * v) = u * v := IntWalk.i64_in _ (by have := mul_le SU.out SV.out; omega)
              clear hv hjB HNO
              go_wp2_with fail
              go_loopw [12] (fun f wx => ∃ m : Nat, m ≤ nC ∧ f = .int .i64 m ∧ (C.take m).any (fun z => decide (u * v = z)) = false ∧ Below wy.heap.size wy wx) (fun f _ => nC - (intOf f).toNat)
              case atStart => exact ⟨0, by omega, rfl, rfl, HBq.out⟩
              case round =>
                rename_i wt
                obtain ⟨m, hm, rfl, hno, hB⟩ := hrel
                have HBt := Lib.hid hB
                have HNO := Lib.hid hno
                clear y0' y1' y2'
                have y0' := cell_below hB HXC.out.1
                have y1' := cell_below hB HXC.out.2.1
                have y2' := cell_below hB HXC.out.2.2
                clear hno
                by_cases hlt3 : m < nC
                · obtain rfl := hc1 (by omega)
                  have hmC : m < C.length := by have := HN.out.2.2; omega
                  have xa := cell_below hB HCA.out
                  have xb := cell_below hB HCB.out
                  have xc := cell_below hB (HVC.out m hmC)
                  have MZ := Lib.hid (St.getD_memS hmC)
                  have HNZ := Lib.hid (fun q => short_take (p := fun z => decide (u * v = z)) hmC HNO.out q)
                  obtain ⟨z, hz⟩ : ∃ z, z = C.getD m 0 := ⟨_, rfl⟩
                  rw [← hz] at xc MZ HNZ
                  have d7 : (m : Int) < (nC : Int) := by omega
                  clear hz hmC HNO hB
                  by_cases he : u * v = z
                  · have de : (u * v == z) = true := by simpa using he
                    have HRT := Lib.hid (show R = true by rw [HR.out]; exact trip_iff.2 ⟨u, v, z, MU.out, MV.out, MZ.out, he⟩)
                    clear he
                    go_wp2
                    go_quiet (fail)
                    go_wp2_with fail
                    go_ret
                    exact ⟨by rw [HRT.out]; rfl, below_two HBY.out (below_two HBt.out (below_drewN (Below.refl _ _)))⟩
                  · have de : (u * v == z) = false := by simpa using he
                    have HZN := Lib.hid (HNZ.out (decide_eq_false he))
                    clear he
                    go_wp2
                    go_quiet (fail)
                    go_wp2_with fail
                    go_roundw
                    case rel => exact ⟨m + 1, by omega, by go_num, HZN.out, below_two HBt.out (below_drewN (Below.refl _ _))⟩
                    case measure => simp [intOf]; omega
                · have d7 : ¬ ((m : Int) < (nC : Int)) := by omega
                  have HYN := Lib.hid (HNY.out (by rw [← HNO.out, List.take_of_length_le (by have := HN.out.2.2; omega)]))
                  clear hB
                  go_wp2_with fail
                  go_roundw
                  case rel => exact ⟨j + 1, by omega, by go_num, HYN.out, HBt.out⟩
                  case measure => simp [intOf]; omega
            · have d6 : ¬ ((j : Int) < (nB : Int)) := by omega
              have HXN := Lib.hid (HNX.out (by show (B.any fun v => C.any fun z => decide (u * v = z)) = false; rw [← HNO.out, List.take_of_length_le (by have := HN.out.2.1; omega)]))
              go_wp2_with fail
              go_roundw
              case rel => exact ⟨i + 1, by omega, by go_num, HXN.out, HBq.out⟩
              case measure => simp [intOf]; omega
        · have d5 : ¬ ((i : Int) < (nA : Int)) := by omega
          have HRF := Lib.hid (show R = false by rw [HR.out, ← HNO.out, List.take_of_length_le (by have := HN.out.1; omega)]; rfl)
          go_wp2_with fail
          go_ret
          exact ⟨by rw [HRF.out]; rfl, below_two HBY.out HB.out⟩
end Go.Proofs.YtccgoigmchcggaaDoor.Ge
