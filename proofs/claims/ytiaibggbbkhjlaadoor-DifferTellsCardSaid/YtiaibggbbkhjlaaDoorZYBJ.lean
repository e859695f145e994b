/-
  The region of keeperOf of package linear that asks twice whether a rel may hold: what has come up, and its steps (tools13/genreg.py).
  What keeperOf of package linear answers: a function that tells what a step keeps.
  What right of package linear answers, and Step's own closure.
  What Step of package linear answers.
-/
import Derived.Test.YtiaibggbbkhjlaaDoorZYBI
namespace Go.Proofs.YtiaibggbbkhjlaaDoor.St
open Go.RowKit
set_option maxRecDepth 100000

theorem run_store_func (g : Nat) (env : Array Value) (a : Addr) (w : World) : (store a (.func (.func g) #[] env)).run Tryd.prog w = stored Tryd.prog w a (.func (.func g) #[] env) .plain := run_store Tryd.prog w a _ .plain rfl
/-- block b holds one cell -/
def Own1 (w : World) (b : Nat) (t : TypeId) (x : Value) : Prop := w.heap[b]? = some (.cells #[x] t (0, 0))
section
variable {w w' : World} {b b' : Nat} {t : TypeId} {x : Value}
theorem Own1.cell (h : Own1 w b t x) : w.cell? ⟨b, 0, none⟩ = some x := by unfold Own1 at h; simp [World.cell?, h]
theorem Own1.frozen (h : Own1 w b t x) (off : Nat) : w.frozen? ⟨b, off, none⟩ = false := by unfold Own1 at h; simp [World.frozen?, h]
theorem Own1.lt (h : Own1 w b t x) : b < w.heap.size := (Array.getElem?_eq_some_iff.1 h).1
theorem Own1.set (h : Own1 w b t x) (z : Value) : Own1 (w.setCell ⟨b, 0, none⟩ z) b t z := by unfold Own1 at h ⊢; simp [World.setCell, Array.getElem?_modify, h]
theorem Own1.other (h : Own1 w b t x) (hne : b ≠ b') (z : Value) : Own1 (w.setCell ⟨b', 0, none⟩ z) b t x := by unfold Own1 at h ⊢; simp [World.setCell, Array.getElem?_modify, h, Ne.symm hne]
theorem Own1.below (h : Own1 w b t x) (hB : Below w.heap.size w w') : Own1 w' b t x := (hB.block b h.lt).trans h
theorem Own1.new (w : World) (t : TypeId) (x : Value) : Own1 (w.alloc (.cells #[x] t)) w.heap.size t x := by unfold Own1 World.alloc; simp
end
structure S6 (W : World) (cb : Nat) (t1 t2 r r2 t : Int) (A B : Bool) (b6 b7 : Nat) (v25 v26 v27 v28 v29 v30 v31 v32 v33 v34 v35 v36 v37 v6 v7 : Value) (l : Nat → Bool) (u : World) : Prop where
  base : Below W.heap.size W u
  f0 : l 0 = true → v25 = (.agg #[.int .i64 t1, .int .i64 t2])
  f1 : l 1 = true → v26 = (.pointer (some ⟨cb, 3, none⟩))
  f2 : l 2 = true → v27 = (.int .i64 r)
  f3 : l 3 = true → v28 = (.pointer (some ⟨cb, 4, none⟩))
  f4 : l 4 = true → v29 = (.int .i64 t)
  f5 : l 5 = true → v30 = (.bool A)
  f6 : l 6 = true → v31 = (.agg #[.int .i64 t1, .int .i64 t2])
  f7 : l 7 = true → v32 = (.pointer (some ⟨cb, 3, none⟩))
  f8 : l 8 = true → v33 = (.int .i64 r)
  f9 : l 9 = true → v34 = (.int .i64 r2)
  f10 : l 10 = true → v35 = (.pointer (some ⟨cb, 4, none⟩))
  f11 : l 11 = true → v36 = (.int .i64 t)
  f12 : l 12 = true → v37 = (.bool B)
  f13 : l 13 = true → v6 = .pointer (some ⟨b6, 0, none⟩) ∧ W.heap.size ≤ b6 ∧ ∃ z, Own1 u b6 4 z ∧ (∃ q, z = .bool q) ∧ (l 15 = true → z = (.bool A))
  f14 : l 14 = true → v7 = .pointer (some ⟨b7, 0, none⟩) ∧ W.heap.size ≤ b7 ∧ ∃ z, Own1 u b7 4 z ∧ (∃ q, z = .bool q) ∧ (l 16 = true → z = (.bool B))
  n13_14 : l 13 = true → l 14 = true → b6 ≠ b7
  w15 : l 15 = true → l 13 = true
  w16 : l 16 = true → l 14 = true
structure GS6 where
  (b6 b7 : Nat)
  (v25 v26 v27 v28 v29 v30 v31 v32 v33 v34 v35 v36 v37 v6 v7 : Value)
def putS6 (g : GS6) (tm : Array Value) : Array Value := ((((((((((((((((((((((((((((((tm).setIfInBounds 25 g.v25)).setIfInBounds 26 g.v26)).setIfInBounds 27 g.v27)).setIfInBounds 28 g.v28)).setIfInBounds 29 g.v29)).setIfInBounds 30 g.v30)).setIfInBounds 31 g.v31)).setIfInBounds 32 g.v32)).setIfInBounds 33 g.v33)).setIfInBounds 34 g.v34)).setIfInBounds 35 g.v35)).setIfInBounds 36 g.v36)).setIfInBounds 37 g.v37)).setIfInBounds 6 g.v6)).setIfInBounds 7 g.v7)
def JS6 (W : World) (cb : Nat) (t1 t2 r r2 t : Int) (A B : Bool) (g : GS6) (l : Nat → Bool) (u : World) : Prop := S6 W cb t1 t2 r r2 t A B g.b6 g.b7 g.v25 g.v26 g.v27 g.v28 g.v29 g.v30 g.v31 g.v32 g.v33 g.v34 g.v35 g.v36 g.v37 g.v6 g.v7 l u
theorem S6.s0 {W : World} {cb : Nat} {t1 t2 r r2 t : Int} {A B : Bool} {b6 b7 : Nat} {v25 v26 v27 v28 v29 v30 v31 v32 v33 v34 v35 v36 v37 v6 v7 : Value} {l : Nat → Bool} {u : World} (S : S6 W cb t1 t2 r r2 t A B b6 b7 v25 v26 v27 v28 v29 v30 v31 v32 v33 v34 v35 v36 v37 v6 v7 l u) (hn : l 0 = false) : S6 W cb t1 t2 r r2 t A B b6 b7 (.agg #[.int .i64 t1, .int .i64 t2]) v26 v27 v28 v29 v30 v31 v32 v33 v34 v35 v36 v37 v6 v7 (upd l 0) u := by
  have _ := hn
  exact { S with f0 := fun _ => rfl, f13 := (fun h => by
    obtain ⟨e1, e2, z, e3, e4, e5⟩ := S.f13 (upd_old (by decide) h)
    exact ⟨e1, e2, z, e3, e4, fun q => e5 (upd_old (by decide) q)⟩), f14 := (fun h => by
    obtain ⟨e1, e2, z, e3, e4, e5⟩ := S.f14 (upd_old (by decide) h)
    exact ⟨e1, e2, z, e3, e4, fun q => e5 (upd_old (by decide) q)⟩), w15 := fun h => by rw [upd_ne (by decide)]; exact S.w15 (upd_old (by decide) h), w16 := fun h => by rw [upd_ne (by decide)]; exact S.w16 (upd_old (by decide) h) }
theorem S6.s1 {W : World} {cb : Nat} {t1 t2 r r2 t : Int} {A B : Bool} {b6 b7 : Nat} {v25 v26 v27 v28 v29 v30 v31 v32 v33 v34 v35 v36 v37 v6 v7 : Value} {l : Nat → Bool} {u : World} (S : S6 W cb t1 t2 r r2 t A B b6 b7 v25 v26 v27 v28 v29 v30 v31 v32 v33 v34 v35 v36 v37 v6 v7 l u) (hn : l 1 = false) : S6 W cb t1 t2 r r2 t A B b6 b7 v25 (.pointer (some ⟨cb, 3, none⟩)) v27 v28 v29 v30 v31 v32 v33 v34 v35 v36 v37 v6 v7 (upd l 1) u := by
  have _ := hn
  exact { S with f1 := fun _ => rfl, f13 := (fun h => by
    obtain ⟨e1, e2, z, e3, e4, e5⟩ := S.f13 (upd_old (by decide) h)
    exact ⟨e1, e2, z, e3, e4, fun q => e5 (upd_old (by decide) q)⟩), f14 := (fun h => by
    obtain ⟨e1, e2, z, e3, e4, e5⟩ := S.f14 (upd_old (by decide) h)
    exact ⟨e1, e2, z, e3, e4, fun q => e5 (upd_old (by decide) q)⟩), w15 := fun h => by rw [upd_ne (by decide)]; exact S.w15 (upd_old (by decide) h), w16 := fun h => by rw [upd_ne (by decide)]; exact S.w16 (upd_old (by decide) h) }
theorem S6.s2 {W : World} {cb : Nat} {t1 t2 r r2 t : Int} {A B : Bool} {b6 b7 : Nat} {v25 v26 v27 v28 v29 v30 v31 v32 v33 v34 v35 v36 v37 v6 v7 : Value} {l : Nat → Bool} {u : World} (S : S6 W cb t1 t2 r r2 t A B b6 b7 v25 v26 v27 v28 v29 v30 v31 v32 v33 v34 v35 v36 v37 v6 v7 l u) (hn : l 2 = false) : S6 W cb t1 t2 r r2 t A B b6 b7 v25 v26 (.int .i64 r) v28 v29 v30 v31 v32 v33 v34 v35 v36 v37 v6 v7 (upd l 2) u := by
  have _ := hn
  exact { S with f2 := fun _ => rfl, f13 := (fun h => by
    obtain ⟨e1, e2, z, e3, e4, e5⟩ := S.f13 (upd_old (by decide) h)
    exact ⟨e1, e2, z, e3, e4, fun q => e5 (upd_old (by decide) q)⟩), f14 := (fun h => by
    obtain ⟨e1, e2, z, e3, e4, e5⟩ := S.f14 (upd_old (by decide) h)
    exact ⟨e1, e2, z, e3, e4, fun q => e5 (upd_old (by decide) q)⟩), w15 := fun h => by rw [upd_ne (by decide)]; exact S.w15 (upd_old (by decide) h), w16 := fun h => by rw [upd_ne (by decide)]; exact S.w16 (upd_old (by decide) h) }
theorem S6.s3 {W : World} {cb : Nat} {t1 t2 r r2 t : Int} {A B : Bool} {b6 b7 : Nat} {v25 v26 v27 v28 v29 v30 v31 v32 v33 v34 v35 v36 v37 v6 v7 : Value} {l : Nat → Bool} {u : World} (S : S6 W cb t1 t2 r r2 t A B b6 b7 v25 v26 v27 v28 v29 v30 v31 v32 v33 v34 v35 v36 v37 v6 v7 l u) (hn : l 3 = false) : S6 W cb t1 t2 r r2 t A B b6 b7 v25 v26 v27 (.pointer (some ⟨cb, 4, none⟩)) v29 v30 v31 v32 v33 v34 v35 v36 v37 v6 v7 (upd l 3) u := by
  have _ := hn
  exact { S with f3 := fun _ => rfl, f13 := (fun h => by
    obtain ⟨e1, e2, z, e3, e4, e5⟩ := S.f13 (upd_old (by decide) h)
    exact ⟨e1, e2, z, e3, e4, fun q => e5 (upd_old (by decide) q)⟩), f14 := (fun h => by
    obtain ⟨e1, e2, z, e3, e4, e5⟩ := S.f14 (upd_old (by decide) h)
    exact ⟨e1, e2, z, e3, e4, fun q => e5 (upd_old (by decide) q)⟩), w15 := fun h => by rw [upd_ne (by decide)]; exact S.w15 (upd_old (by decide) h), w16 := fun h => by rw [upd_ne (by decide)]; exact S.w16 (upd_old (by decide) h) }
theorem S6.s4 {W : World} {cb : Nat} {t1 t2 r r2 t : Int} {A B : Bool} {b6 b7 : Nat} {v25 v26 v27 v28 v29 v30 v31 v32 v33 v34 v35 v36 v37 v6 v7 : Value} {l : Nat → Bool} {u : World} (S : S6 W cb t1 t2 r r2 t A B b6 b7 v25 v26 v27 v28 v29 v30 v31 v32 v33 v34 v35 v36 v37 v6 v7 l u) (hn : l 4 = false) : S6 W cb t1 t2 r r2 t A B b6 b7 v25 v26 v27 v28 (.int .i64 t) v30 v31 v32 v33 v34 v35 v36 v37 v6 v7 (upd l 4) u := by
  have _ := hn
  exact { S with f4 := fun _ => rfl, f13 := (fun h => by
    obtain ⟨e1, e2, z, e3, e4, e5⟩ := S.f13 (upd_old (by decide) h)
    exact ⟨e1, e2, z, e3, e4, fun q => e5 (upd_old (by decide) q)⟩), f14 := (fun h => by
    obtain ⟨e1, e2, z, e3, e4, e5⟩ := S.f14 (upd_old (by decide) h)
    exact ⟨e1, e2, z, e3, e4, fun q => e5 (upd_old (by decide) q)⟩), w15 := fun h => by rw [upd_ne (by decide)]; exact S.w15 (upd_old (by decide) h), w16 := fun h => by rw [upd_ne (by decide)]; exact S.w16 (upd_old (by decide) h) }
theorem S6.s5 {W : World} {cb : Nat} {t1 t2 r r2 t : Int} {A B : Bool} {b6 b7 : Nat} {v25 v26 v27 v28 v29 v30 v31 v32 v33 v34 v35 v36 v37 v6 v7 : Value} {l : Nat → Bool} {u : World} (S : S6 W cb t1 t2 r r2 t A B b6 b7 v25 v26 v27 v28 v29 v30 v31 v32 v33 v34 v35 v36 v37 v6 v7 l u) (hn : l 5 = false) {u2 : World} (hB : Below u.heap.size u u2) : S6 W cb t1 t2 r r2 t A B b6 b7 v25 v26 v27 v28 v29 (.bool A) v31 v32 v33 v34 v35 v36 v37 v6 v7 (upd l 5) u2 := by
  have _ := hn
  exact { S with base := S.base.trans (hB.mono S.base.size), f5 := fun _ => rfl, f13 := (fun h => by
    obtain ⟨e1, e2, z, e3, e4, e5⟩ := S.f13 (upd_old (by decide) h)
    exact ⟨e1, e2, z, e3.below hB, e4, fun q => e5 (upd_old (by decide) q)⟩), f14 := (fun h => by
    obtain ⟨e1, e2, z, e3, e4, e5⟩ := S.f14 (upd_old (by decide) h)
    exact ⟨e1, e2, z, e3.below hB, e4, fun q => e5 (upd_old (by decide) q)⟩), w15 := fun h => by rw [upd_ne (by decide)]; exact S.w15 (upd_old (by decide) h), w16 := fun h => by rw [upd_ne (by decide)]; exact S.w16 (upd_old (by decide) h) }
theorem S6.s6 {W : World} {cb : Nat} {t1 t2 r r2 t : Int} {A B : Bool} {b6 b7 : Nat} {v25 v26 v27 v28 v29 v30 v31 v32 v33 v34 v35 v36 v37 v6 v7 : Value} {l : Nat → Bool} {u : World} (S : S6 W cb t1 t2 r r2 t A B b6 b7 v25 v26 v27 v28 v29 v30 v31 v32 v33 v34 v35 v36 v37 v6 v7 l u) (hn : l 6 = false) : S6 W cb t1 t2 r r2 t A B b6 b7 v25 v26 v27 v28 v29 v30 (.agg #[.int .i64 t1, .int .i64 t2]) v32 v33 v34 v35 v36 v37 v6 v7 (upd l 6) u := by
  have _ := hn
  exact { S with f6 := fun _ => rfl, f13 := (fun h => by
    obtain ⟨e1, e2, z, e3, e4, e5⟩ := S.f13 (upd_old (by decide) h)
    exact ⟨e1, e2, z, e3, e4, fun q => e5 (upd_old (by decide) q)⟩), f14 := (fun h => by
    obtain ⟨e1, e2, z, e3, e4, e5⟩ := S.f14 (upd_old (by decide) h)
    exact ⟨e1, e2, z, e3, e4, fun q => e5 (upd_old (by decide) q)⟩), w15 := fun h => by rw [upd_ne (by decide)]; exact S.w15 (upd_old (by decide) h), w16 := fun h => by rw [upd_ne (by decide)]; exact S.w16 (upd_old (by decide) h) }
theorem S6.s7 {W : World} {cb : Nat} {t1 t2 r r2 t : Int} {A B : Bool} {b6 b7 : Nat} {v25 v26 v27 v28 v29 v30 v31 v32 v33 v34 v35 v36 v37 v6 v7 : Value} {l : Nat → Bool} {u : World} (S : S6 W cb t1 t2 r r2 t A B b6 b7 v25 v26 v27 v28 v29 v30 v31 v32 v33 v34 v35 v36 v37 v6 v7 l u) (hn : l 7 = false) : S6 W cb t1 t2 r r2 t A B b6 b7 v25 v26 v27 v28 v29 v30 v31 (.pointer (some ⟨cb, 3, none⟩)) v33 v34 v35 v36 v37 v6 v7 (upd l 7) u := by
  have _ := hn
  exact { S with f7 := fun _ => rfl, f13 := (fun h => by
    obtain ⟨e1, e2, z, e3, e4, e5⟩ := S.f13 (upd_old (by decide) h)
    exact ⟨e1, e2, z, e3, e4, fun q => e5 (upd_old (by decide) q)⟩), f14 := (fun h => by
    obtain ⟨e1, e2, z, e3, e4, e5⟩ := S.f14 (upd_old (by decide) h)
    exact ⟨e1, e2, z, e3, e4, fun q => e5 (upd_old (by decide) q)⟩), w15 := fun h => by rw [upd_ne (by decide)]; exact S.w15 (upd_old (by decide) h), w16 := fun h => by rw [upd_ne (by decide)]; exact S.w16 (upd_old (by decide) h) }
theorem S6.s8 {W : World} {cb : Nat} {t1 t2 r r2 t : Int} {A B : Bool} {b6 b7 : Nat} {v25 v26 v27 v28 v29 v30 v31 v32 v33 v34 v35 v36 v37 v6 v7 : Value} {l : Nat → Bool} {u : World} (S : S6 W cb t1 t2 r r2 t A B b6 b7 v25 v26 v27 v28 v29 v30 v31 v32 v33 v34 v35 v36 v37 v6 v7 l u) (hn : l 8 = false) : S6 W cb t1 t2 r r2 t A B b6 b7 v25 v26 v27 v28 v29 v30 v31 v32 (.int .i64 r) v34 v35 v36 v37 v6 v7 (upd l 8) u := by
  have _ := hn
  exact { S with f8 := fun _ => rfl, f13 := (fun h => by
    obtain ⟨e1, e2, z, e3, e4, e5⟩ := S.f13 (upd_old (by decide) h)
    exact ⟨e1, e2, z, e3, e4, fun q => e5 (upd_old (by decide) q)⟩), f14 := (fun h => by
    obtain ⟨e1, e2, z, e3, e4, e5⟩ := S.f14 (upd_old (by decide) h)
    exact ⟨e1, e2, z, e3, e4, fun q => e5 (upd_old (by decide) q)⟩), w15 := fun h => by rw [upd_ne (by decide)]; exact S.w15 (upd_old (by decide) h), w16 := fun h => by rw [upd_ne (by decide)]; exact S.w16 (upd_old (by decide) h) }
theorem S6.s9 {W : World} {cb : Nat} {t1 t2 r r2 t : Int} {A B : Bool} {b6 b7 : Nat} {v25 v26 v27 v28 v29 v30 v31 v32 v33 v34 v35 v36 v37 v6 v7 : Value} {l : Nat → Bool} {u : World} (S : S6 W cb t1 t2 r r2 t A B b6 b7 v25 v26 v27 v28 v29 v30 v31 v32 v33 v34 v35 v36 v37 v6 v7 l u) (hn : l 9 = false) {u2 : World} (hB : Below u.heap.size u u2) : S6 W cb t1 t2 r r2 t A B b6 b7 v25 v26 v27 v28 v29 v30 v31 v32 v33 (.int .i64 r2) v35 v36 v37 v6 v7 (upd l 9) u2 := by
  have _ := hn
  exact { S with base := S.base.trans (hB.mono S.base.size), f9 := fun _ => rfl, f13 := (fun h => by
    obtain ⟨e1, e2, z, e3, e4, e5⟩ := S.f13 (upd_old (by decide) h)
    exact ⟨e1, e2, z, e3.below hB, e4, fun q => e5 (upd_old (by decide) q)⟩), f14 := (fun h => by
    obtain ⟨e1, e2, z, e3, e4, e5⟩ := S.f14 (upd_old (by decide) h)
    exact ⟨e1, e2, z, e3.below hB, e4, fun q => e5 (upd_old (by decide) q)⟩), w15 := fun h => by rw [upd_ne (by decide)]; exact S.w15 (upd_old (by decide) h), w16 := fun h => by rw [upd_ne (by decide)]; exact S.w16 (upd_old (by decide) h) }
theorem S6.s10 {W : World} {cb : Nat} {t1 t2 r r2 t : Int} {A B : Bool} {b6 b7 : Nat} {v25 v26 v27 v28 v29 v30 v31 v32 v33 v34 v35 v36 v37 v6 v7 : Value} {l : Nat → Bool} {u : World} (S : S6 W cb t1 t2 r r2 t A B b6 b7 v25 v26 v27 v28 v29 v30 v31 v32 v33 v34 v35 v36 v37 v6 v7 l u) (hn : l 10 = false) : S6 W cb t1 t2 r r2 t A B b6 b7 v25 v26 v27 v28 v29 v30 v31 v32 v33 v34 (.pointer (some ⟨cb, 4, none⟩)) v36 v37 v6 v7 (upd l 10) u := by
  have _ := hn
  exact { S with f10 := fun _ => rfl, f13 := (fun h => by
    obtain ⟨e1, e2, z, e3, e4, e5⟩ := S.f13 (upd_old (by decide) h)
    exact ⟨e1, e2, z, e3, e4, fun q => e5 (upd_old (by decide) q)⟩), f14 := (fun h => by
    obtain ⟨e1, e2, z, e3, e4, e5⟩ := S.f14 (upd_old (by decide) h)
    exact ⟨e1, e2, z, e3, e4, fun q => e5 (upd_old (by decide) q)⟩), w15 := fun h => by rw [upd_ne (by decide)]; exact S.w15 (upd_old (by decide) h), w16 := fun h => by rw [upd_ne (by decide)]; exact S.w16 (upd_old (by decide) h) }
theorem S6.s11 {W : World} {cb : Nat} {t1 t2 r r2 t : Int} {A B : Bool} {b6 b7 : Nat} {v25 v26 v27 v28 v29 v30 v31 v32 v33 v34 v35 v36 v37 v6 v7 : Value} {l : Nat → Bool} {u : World} (S : S6 W cb t1 t2 r r2 t A B b6 b7 v25 v26 v27 v28 v29 v30 v31 v32 v33 v34 v35 v36 v37 v6 v7 l u) (hn : l 11 = false) : S6 W cb t1 t2 r r2 t A B b6 b7 v25 v26 v27 v28 v29 v30 v31 v32 v33 v34 v35 (.int .i64 t) v37 v6 v7 (upd l 11) u := by
  have _ := hn
  exact { S with f11 := fun _ => rfl, f13 := (fun h => by
    obtain ⟨e1, e2, z, e3, e4, e5⟩ := S.f13 (upd_old (by decide) h)
    exact ⟨e1, e2, z, e3, e4, fun q => e5 (upd_old (by decide) q)⟩), f14 := (fun h => by
    obtain ⟨e1, e2, z, e3, e4, e5⟩ := S.f14 (upd_old (by decide) h)
    exact ⟨e1, e2, z, e3, e4, fun q => e5 (upd_old (by decide) q)⟩), w15 := fun h => by rw [upd_ne (by decide)]; exact S.w15 (upd_old (by decide) h), w16 := fun h => by rw [upd_ne (by decide)]; exact S.w16 (upd_old (by decide) h) }
theorem S6.s12 {W : World} {cb : Nat} {t1 t2 r r2 t : Int} {A B : Bool} {b6 b7 : Nat} {v25 v26 v27 v28 v29 v30 v31 v32 v33 v34 v35 v36 v37 v6 v7 : Value} {l : Nat → Bool} {u : World} (S : S6 W cb t1 t2 r r2 t A B b6 b7 v25 v26 v27 v28 v29 v30 v31 v32 v33 v34 v35 v36 v37 v6 v7 l u) (hn : l 12 = false) {u2 : World} (hB : Below u.heap.size u u2) : S6 W cb t1 t2 r r2 t A B b6 b7 v25 v26 v27 v28 v29 v30 v31 v32 v33 v34 v35 v36 (.bool B) v6 v7 (upd l 12) u2 := by
  have _ := hn
  exact { S with base := S.base.trans (hB.mono S.base.size), f12 := fun _ => rfl, f13 := (fun h => by
    obtain ⟨e1, e2, z, e3, e4, e5⟩ := S.f13 (upd_old (by decide) h)
    exact ⟨e1, e2, z, e3.below hB, e4, fun q => e5 (upd_old (by decide) q)⟩), f14 := (fun h => by
    obtain ⟨e1, e2, z, e3, e4, e5⟩ := S.f14 (upd_old (by decide) h)
    exact ⟨e1, e2, z, e3.below hB, e4, fun q => e5 (upd_old (by decide) q)⟩), w15 := fun h => by rw [upd_ne (by decide)]; exact S.w15 (upd_old (by decide) h), w16 := fun h => by rw [upd_ne (by decide)]; exact S.w16 (upd_old (by decide) h) }
theorem S6.s13 {W : World} {cb : Nat} {t1 t2 r r2 t : Int} {A B : Bool} {b6 b7 : Nat} {v25 v26 v27 v28 v29 v30 v31 v32 v33 v34 v35 v36 v37 v6 v7 : Value} {l : Nat → Bool} {u : World} (S : S6 W cb t1 t2 r r2 t A B b6 b7 v25 v26 v27 v28 v29 v30 v31 v32 v33 v34 v35 v36 v37 v6 v7 l u) (hn : l 13 = false) (ob : Obj) (ho : ob = .cells #[.bool false] 4) : S6 W cb t1 t2 r r2 t A B u.heap.size b7 v25 v26 v27 v28 v29 v30 v31 v32 v33 v34 v35 v36 v37 (.pointer (some ⟨u.heap.size, 0, none⟩)) v7 (upd l 13) (u.alloc ob) := by
  subst ho
  have hB := new_below u (.cells #[.bool false] 4)
  exact { S with base := S.base.trans (hB.mono S.base.size), f13 := fun _ => ⟨rfl, S.base.size, _, Own1.new _ _ _, ⟨_, rfl⟩, fun h => absurd (S.w15 (upd_old (by decide) h)) (by rw [hn]; decide)⟩, f14 := (fun h => by
    obtain ⟨e1, e2, z, e3, e4, e5⟩ := S.f14 (upd_old (by decide) h)
    exact ⟨e1, e2, z, e3.below hB, e4, fun q => e5 (upd_old (by decide) q)⟩), n13_14 := (fun _ h => by
    obtain ⟨_, _, _, k3, _⟩ := S.f14 (upd_old (by decide) h)
    exact Nat.ne_of_gt k3.lt), w15 := fun _ => upd_same _ _, w16 := fun h => by rw [upd_ne (by decide)]; exact S.w16 (upd_old (by decide) h) }
theorem S6.s14 {W : World} {cb : Nat} {t1 t2 r r2 t : Int} {A B : Bool} {b6 b7 : Nat} {v25 v26 v27 v28 v29 v30 v31 v32 v33 v34 v35 v36 v37 v6 v7 : Value} {l : Nat → Bool} {u : World} (S : S6 W cb t1 t2 r r2 t A B b6 b7 v25 v26 v27 v28 v29 v30 v31 v32 v33 v34 v35 v36 v37 v6 v7 l u) (hn : l 14 = false) (ob : Obj) (ho : ob = .cells #[.bool false] 4) : S6 W cb t1 t2 r r2 t A B b6 u.heap.size v25 v26 v27 v28 v29 v30 v31 v32 v33 v34 v35 v36 v37 v6 (.pointer (some ⟨u.heap.size, 0, none⟩)) (upd l 14) (u.alloc ob) := by
  subst ho
  have hB := new_below u (.cells #[.bool false] 4)
  exact { S with base := S.base.trans (hB.mono S.base.size), f13 := (fun h => by
    obtain ⟨e1, e2, z, e3, e4, e5⟩ := S.f13 (upd_old (by decide) h)
    exact ⟨e1, e2, z, e3.below hB, e4, fun q => e5 (upd_old (by decide) q)⟩), f14 := fun _ => ⟨rfl, S.base.size, _, Own1.new _ _ _, ⟨_, rfl⟩, fun h => absurd (S.w16 (upd_old (by decide) h)) (by rw [hn]; decide)⟩, n13_14 := (fun h _ => by
    obtain ⟨_, _, _, k3, _⟩ := S.f13 (upd_old (by decide) h)
    exact Nat.ne_of_lt k3.lt), w15 := fun h => by rw [upd_ne (by decide)]; exact S.w15 (upd_old (by decide) h), w16 := fun _ => upd_same _ _ }
theorem S6.s15 {W : World} {cb : Nat} {t1 t2 r r2 t : Int} {A B : Bool} {b6 b7 : Nat} {v25 v26 v27 v28 v29 v30 v31 v32 v33 v34 v35 v36 v37 v6 v7 : Value} {l : Nat → Bool} {u : World} (S : S6 W cb t1 t2 r r2 t A B b6 b7 v25 v26 v27 v28 v29 v30 v31 v32 v33 v34 v35 v36 v37 v6 v7 l u) (hn : l 15 = false) (hb : l 13 = true) : S6 W cb t1 t2 r r2 t A B b6 b7 v25 v26 v27 v28 v29 v30 v31 v32 v33 v34 v35 v36 v37 v6 v7 (upd l 15) (u.setCell ⟨b6, 0, none⟩ (.bool A)) := by
  have _ := hn
  obtain ⟨e1, e2, z0, e3, e4, e5⟩ := S.f13 hb
  exact { S with base := S.base.setCell e2 _, f13 := fun _ => ⟨e1, e2, _, e3.set _, ⟨_, rfl⟩, fun _ => rfl⟩, f14 := (fun h => by
    have h2 := upd_old (by decide) h
    obtain ⟨k1, k2, z, k3, k4, k5⟩ := S.f14 h2
    exact ⟨k1, k2, z, k3.other (Ne.symm (S.n13_14 hb h2)) _, k4, fun q => k5 (upd_old (by decide) q)⟩), w15 := fun _ => by rw [upd_ne (by decide)]; exact hb, w16 := fun h => by rw [upd_ne (by decide)]; exact S.w16 (upd_old (by decide) h) }
theorem S6.s16 {W : World} {cb : Nat} {t1 t2 r r2 t : Int} {A B : Bool} {b6 b7 : Nat} {v25 v26 v27 v28 v29 v30 v31 v32 v33 v34 v35 v36 v37 v6 v7 : Value} {l : Nat → Bool} {u : World} (S : S6 W cb t1 t2 r r2 t A B b6 b7 v25 v26 v27 v28 v29 v30 v31 v32 v33 v34 v35 v36 v37 v6 v7 l u) (hn : l 16 = false) (hb : l 14 = true) : S6 W cb t1 t2 r r2 t A B b6 b7 v25 v26 v27 v28 v29 v30 v31 v32 v33 v34 v35 v36 v37 v6 v7 (upd l 16) (u.setCell ⟨b7, 0, none⟩ (.bool B)) := by
  have _ := hn
  obtain ⟨e1, e2, z0, e3, e4, e5⟩ := S.f14 hb
  exact { S with base := S.base.setCell e2 _, f13 := (fun h => by
    have h2 := upd_old (by decide) h
    obtain ⟨k1, k2, z, k3, k4, k5⟩ := S.f13 h2
    exact ⟨k1, k2, z, k3.other (S.n13_14 h2 hb) _, k4, fun q => k5 (upd_old (by decide) q)⟩), f14 := fun _ => ⟨e1, e2, _, e3.set _, ⟨_, rfl⟩, fun _ => rfl⟩, w15 := fun h => by rw [upd_ne (by decide)]; exact S.w15 (upd_old (by decide) h), w16 := fun _ => by rw [upd_ne (by decide)]; exact hb }
end Go.Proofs.YtiaibggbbkhjlaaDoor.St
namespace Go.Proofs.YtiaibggbbkhjlaaDoor.St
open Go.RowKit
set_option maxRecDepth 100000

/-- what a step keeps of the domains of a constraint's own variables -/
def keepK (k : Int) (ks : List Int) (D : List (List Int × Nat)) (rel ag : Int) : Nat → Int → Bool :=
  if (D.any fun d => decide ((leftOf d).length = 0)) = true then fun _ _ => false
  else if k = 1 then sumK ks (endP ks D) D.length rel ag
  else iffK (mayG (totTo (endP ks (D.drop 1)) (D.length - 1)).1 (totTo (endP ks (D.drop 1)) (D.length - 1)).2 rel ag) (mayG (totTo (endP ks (D.drop 1)) (D.length - 1)).1 (totTo (endP ks (D.drop 1)) (D.length - 1)).2 (contrary rel) ag)
    (othK (decide ((1 : Int) ∈ leftOf (D.getD 0 ([], 0)))) (decide ((0 : Int) ∈ leftOf (D.getD 0 ([], 0)))) ks (endP ks (D.drop 1)) (D.length - 1) rel ag)
theorem keep_none {k : Int} {ks : List Int} {D : List (List Int × Nat)} {rel ag : Int} (h : true = D.any fun d => decide ((leftOf d).length = 0)) : keepK k ks D rel ag = fun _ _ => false := by unfold keepK; rw [← h]; rfl
theorem keep_one {k : Int} {ks : List Int} {D : List (List Int × Nat)} {rel ag : Int} (h : false = D.any fun d => decide ((leftOf d).length = 0)) (hk : k = 1) : keepK k ks D rel ag = sumK ks (endP ks D) D.length rel ag := by unfold keepK; rw [← h, if_neg (by simp), if_pos hk]
theorem keep_three {k : Int} {ks : List Int} {D : List (List Int × Nat)} {rel ag : Int} (h : false = D.any fun d => decide ((leftOf d).length = 0)) (hk : k ≠ 1) : keepK k ks D rel ag = iffK (mayG (totTo (endP ks (D.drop 1)) (D.length - 1)).1 (totTo (endP ks (D.drop 1)) (D.length - 1)).2 rel ag) (mayG (totTo (endP ks (D.drop 1)) (D.length - 1)).1 (totTo (endP ks (D.drop 1)) (D.length - 1)).2 (contrary rel) ag)
    (othK (decide ((1 : Int) ∈ leftOf (D.getD 0 ([], 0)))) (decide ((0 : Int) ∈ leftOf (D.getD 0 ([], 0)))) ks (endP ks (D.drop 1)) (D.length - 1) rel ag) := by unfold keepK; rw [← h, if_neg (by simp), if_neg hk]
theorem doms_drop {w : World} {b off l : Nat} {D : List (List Int × Nat)} (h : SliceOf rDom 2 w (some ⟨b, off, none⟩) b off (l + 1) D) : SliceOf rDom 2 w (some ⟨b, off + 2, none⟩) b (off + 2) l (D.drop 1) := by
  have hl := h.long
  refine ⟨by rw [List.length_drop]; omega, fun _ => rfl, fun k a ha => ?_⟩
  rw [List.getElem?_drop, Nat.add_comm] at ha
  obtain ⟨cs, c1, c2, c3⟩ := h.cell (k + 1) a ha
  exact ⟨cs, c1, fun j hj => by have := c2 j hj; rw [show off + 2 + k * 2 + j = off + (k + 1) * 2 + j by omega]; exact this, c3⟩

end Go.Proofs.YtiaibggbbkhjlaaDoor.St
namespace Go.Proofs.YtiaibggbbkhjlaaDoor.St
open Go.RowKit
set_option maxRecDepth 100000

theorem rightP_S (c : PCon) (L : List (List Int × Nat)) : rightP c L = rightS c L [1, 3] := by
  unfold rightP rightS mayTo
  rw [inK_all, List.take_length]
  have e : (!L.any fun d => !Dm.mayL d.1 d.2) = L.all fun d => Dm.mayL d.1 d.2 := by
    rw [List.any_eq_not_all_not, Bool.not_not]
    simp
  have e2 : decide (c.kind ∈ ([1, 3] : List Int)) = decide (c.kind = 1 ∨ c.kind = 3) := by simp
  rw [e, e2]
  cases decide (c.kind = 1 ∨ c.kind = 3) <;> cases rightC c L.length <;> cases (L.all fun d => Dm.mayL d.1 d.2) <;> rfl

end Go.Proofs.YtiaibggbbkhjlaaDoor.St
namespace Go.Proofs.YtiaibggbbkhjlaaDoor.St
open Go.RowKit
set_option maxRecDepth 100000

/-- domains, some of which are set anew, place by place -/
def stepTo (L : List (List Int × Nat)) (vars : List Int) (K : Nat → Int → Bool) (j : Nat) : List (List Int × Nat) :=
  (List.range j).foldl (fun A k => A.set (vars.getD k 0).toNat ((L.getD (vars.getD k 0).toNat ([], 0)).1, Dm.keepN (L.getD (vars.getD k 0).toNat ([], 0)).1 (L.getD (vars.getD k 0).toNat ([], 0)).2 (K k))) L
theorem stepTo_succ (L : List (List Int × Nat)) (vars : List Int) (K : Nat → Int → Bool) (j : Nat) : stepTo L vars K (j + 1) = (stepTo L vars K j).set (vars.getD j 0).toNat ((L.getD (vars.getD j 0).toNat ([], 0)).1, Dm.keepN (L.getD (vars.getD j 0).toNat ([], 0)).1 (L.getD (vars.getD j 0).toNat ([], 0)).2 (K j)) := by
  unfold stepTo
  rw [List.range_succ, List.foldl_append]
  rfl
theorem stepTo_length (L : List (List Int × Nat)) (vars : List Int) (K : Nat → Int → Bool) : ∀ j, (stepTo L vars K j).length = L.length
  | 0 => rfl
  | j + 1 => by rw [stepTo_succ, List.length_set, stepTo_length L vars K j]
theorem getD_set (M : List (List Int × Nat)) (y : Nat) (d : List Int × Nat) (i : Nat) : (M.set y d).getD i ([], 0) = if y = i ∧ y < M.length then d else M.getD i ([], 0) := by
  rw [List.getD_eq_getElem?_getD, List.getElem?_set]
  by_cases e : y = i
  · subst e
    by_cases hl : y < M.length
    · simp [hl]
    · simp [hl]
  · simp [e]
theorem stepTo_first (L : List (List Int × Nat)) (vars : List Int) (K : Nat → Int → Bool) (i : Nat) : ∀ j, ((stepTo L vars K j).getD i ([], 0)).1 = (L.getD i ([], 0)).1
  | 0 => rfl
  | j + 1 => by
    rw [stepTo_succ, getD_set]
    split
    · rename_i h
      rw [h.1]
    · exact stepTo_first L vars K i j
/-- what a step of the program leaves -/
noncomputable def stepP (c : PCon) (L : List (List Int × Nat)) : List (List Int × Nat) × Int :=
  if rightP c L = true then (stepTo L c.vars (keepK c.kind c.coefs (domsOf L c.vars) c.rel c.const) c.vars.length, 0) else ([], 1)
theorem may_all {L : List (List Int × Nat)} (h : mayTo L L.length = true) {i : Nat} (hi : i < L.length) : Dm.mayL (L.getD i ([], 0)).1 (L.getD i ([], 0)).2 = true := by
  unfold mayTo at h
  rw [List.take_length] at h
  refine List.all_eq_true.1 h _ ?_
  rw [List.getD_eq_getElem?_getD, List.getElem?_eq_getElem hi]
  exact List.getElem_mem hi

theorem stepTo_lt {L : List (List Int × Nat)} (h : ∀ i, (L.getD i ([], 0)).2 < 18446744073709551616) (vars : List Int) (K : Nat → Int → Bool) (i : Nat) : ∀ j, ((stepTo L vars K j).getD i ([], 0)).2 < 18446744073709551616
  | 0 => h i
  | j + 1 => by
    rw [stepTo_succ, getD_set]
    split
    · exact Dm.keep_lt _ _ _
    · exact stepTo_lt h vars K i j
theorem doms_lt {w : World} {p : Option Addr} {b off len : Nat} {L : List (List Int × Nat)} (h : SliceOf rDom 2 w p b off len L) (i : Nat) : (L.getD i ([], 0)).2 < 18446744073709551616 := by
  rw [List.getD_eq_getElem?_getD]
  by_cases hi : i < len
  · obtain ⟨x, u, ex, _, hx⟩ := dom_at2 h hi
    rw [ex]
    exact (rDom_parts hx).2.1
  · rw [List.getElem?_eq_none (by have := h.long; omega)]
    decide
theorem own_set {s t b off : Nat} {w : World} {F : Nat → Value × Value} {v z : Value} {xs : List Int} (hr : Row2 s t w b F) (ht : t ≠ 3) (o : Dm.OwnsI w 0 v xs) : Dm.OwnsI (w.setCell ⟨b, off, none⟩ z) 0 v xs :=
  ints_same o fun i hi => Below.heap_setCell w ⟨b, off, none⟩ z i (kinds_apart (ints_kind o hi).2.2 hr.kind (Ne.symm ht))
theorem row_set {s t b off b' : Nat} {w : World} {F : Nat → Value × Value} {z : Value} (hr : Row2 s t w b F) (hne : b ≠ b') : Row2 s t (w.setCell ⟨b', off, none⟩ z) b F := by
  obtain ⟨cc, h1, h2⟩ := hr
  exact ⟨cc, (Below.heap_setCell w ⟨b', off, none⟩ z b hne).trans h1, h2⟩
theorem own_set2 {s b o1 o2 : Nat} {t : TypeId} {w : World} {F : Nat → Value × Value} {v z1 z2 : Value} {xs : List Int} (hr : Row2 s t w b F) (ht : t ≠ 3) (o : Dm.OwnsI w 0 v xs) : Dm.OwnsI ((w.setCell ⟨b, o1, none⟩ z1).setCell ⟨b, o2, none⟩ z2) 0 v xs := by
  have h1 := own_set (off := o1) (z := z1) hr ht o
  refine ints_same h1 fun i hi => Below.heap_setCell _ ⟨b, o2, none⟩ z2 i (kinds_apart (ints_kind h1 hi).2.2 (f := t) ?_ (Ne.symm ht))
  obtain ⟨cs, hcs⟩ := hr.kind
  exact ⟨cs.setIfInBounds o1 z1, by simp [World.setCell, Array.getElem?_modify, hcs]⟩
/-- numbers that came in stay, whatever becomes of one block that came later -/
theorem _root_.Go.Proofs.YtiaibggbbkhjlaaDoor.Nums.frame2 {w z y : World} {p : Option Addr} {b o l bb : Nat} {xs : List Int} (h : Nums w p b o l xs) (hz : Below w.heap.size w z) (g1 : w.heap.size ≤ bb) (hy : Fr (fun i => i = bb) z y) : Nums y p b o l xs := by
  refine ⟨h.long, h.at_, fun k hk => ?_, h.fit⟩
  have c := h.cell k hk
  have hlt := Dm.cell_lt c
  exact hy.cell (by show ¬ b = bb; have : b < w.heap.size := hlt; omega) (cell_below hz c)

end Go.Proofs.YtiaibggbbkhjlaaDoor.St
