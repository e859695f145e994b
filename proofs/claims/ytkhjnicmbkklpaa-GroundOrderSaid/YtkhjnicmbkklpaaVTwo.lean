/-
  Two constraints of one's own in memory, side by side: stores, new blocks and lists that grow leave them as they lie. And a list of numbers behind another one.
-/
import Derived.Test.YtkhjnicmbkklpaaVTells
import Derived.Laws.AppendOwnNone
import Derived.Deep.AppendLies
namespace Go.Proofs.Ytkhjnicmbkklpaa.Gr
open Go.RowKit
set_option maxRecDepth 100000

theorem gholds_at (pr : Option Addr) (br orr lr cr : Nat) (row : List Int) (w : World) {kd rl ct : Int} {c : PCon} {v1 v2 v3 : Value} (h : rCon w [.int .i64 kd, v1, v2, .int .i64 rl, .int .i64 ct, v3] c) (hs : Short 1000 c) (hr : Nums w pr br orr lr row) (hlr : lr ≤ 1000) :
    Calls Try.prog 8 #[.agg #[.int .i64 kd, v1, v2, .int .i64 rl, .int .i64 ct, v3], .slice pr lr cr] w fun e w' => e = .returned (.bool (allG [c] row)) ∧ Below w.heap.size w w' := by
  have h0 := h
  obtain ⟨u1, u2, u3, e, _⟩ := h0
  simp only [List.cons.injEq, and_true, Value.int.injEq, true_and] at e
  obtain ⟨rfl, _, _, rfl, rfl, _⟩ := e
  exact gholds_any pr br orr lr cr row w h hs hr hlr
theorem rcon_at {w : World} {c : PCon} {kd rl ct : Int} {v1 v2 v3 : Value} (hk : kd = c.kind) (hr : rl = c.rel) (hc : ct = c.const) (hf : Fit kd ∧ Fit rl ∧ Fit ct) (h1 : Slc rNum 1 w v1 c.vars) (h2 : Slc rNum 1 w v2 c.coefs) (h3 : Slc rNum 1 w v3 c.nums) : rCon w [.int .i64 kd, v1, v2, .int .i64 rl, .int .i64 ct, v3] c := by
  subst hk hr hc
  exact rcon_mk hf h1 h2 h3
/-- two blocks of cells beyond W, all else of W as it lay -/
structure TwoAt (W u : World) (x y : Nat) (cc dd : Array Value) : Prop where
  ne : x ≠ y
  hx : W.heap.size ≤ x
  hy : W.heap.size ≤ y
  bx : u.heap[x]? = some (.cells cc 27)
  by_ : u.heap[y]? = some (.cells dd 27)
  low : Below W.heap.size W u
section
variable {W u u' : World} {x y : Nat} {cc dd : Array Value}
theorem two_new (W : World) (cc dd : Array Value) (n : Nat) : TwoAt W (((W.alloc (.cells cc 27)).alloc (.cells dd 27)).drewN n) W.heap.size (W.heap.size + 1) cc dd :=
  ⟨by omega, Nat.le_refl _, by omega, heap_old _ (heap_new _ _), (by
    have := heap_new (W.alloc (.cells cc 27)) (.cells dd 27)
    rw [World.size_alloc] at this
    exact this), below_drewN ((below_new _ _).alloc (by simp) _)⟩
theorem two_new1 (W : World) (cc dd : Array Value) : TwoAt W ((W.alloc (.cells cc 27)).alloc (.cells dd 27)).drew W.heap.size (W.heap.size + 1) cc dd := two_new W cc dd 1
theorem TwoAt.swap (h : TwoAt W u x y cc dd) : TwoAt W u y x dd cc := ⟨fun e => h.ne e.symm, h.hy, h.hx, h.by_, h.bx, h.low⟩
theorem TwoAt.ltx (h : TwoAt W u x y cc dd) : x < u.heap.size := (Array.getElem?_eq_some_iff.1 h.bx).1
theorem TwoAt.lty (h : TwoAt W u x y cc dd) : y < u.heap.size := (Array.getElem?_eq_some_iff.1 h.by_).1
theorem TwoAt.below (h : TwoAt W u x y cc dd) (hB : Below u.heap.size u u') : TwoAt W u' x y cc dd :=
  ⟨h.ne, h.hx, h.hy, heap_below h.bx hB, heap_below h.by_ hB, h.low.trans (hB.mono h.low.size)⟩
theorem set_same {w : World} {b off : Nat} {cs : Array Value} {t : TypeId} {fz : Nat × Nat} (h : w.heap[b]? = some (.cells cs t fz)) (v : Value) : (w.setCell ⟨b, off, none⟩ v).heap[b]? = some (.cells (cs.setIfInBounds off v) t fz) := by
  simp [World.setCell, Array.getElem?_modify, h]
theorem set_other {w : World} {b k off : Nat} {o : Obj} (h : w.heap[k]? = some o) (hne : k ≠ b) (v : Value) : (w.setCell ⟨b, off, none⟩ v).heap[k]? = some o := by
  simp [World.setCell, Array.getElem?_modify, h, Ne.symm hne]
theorem TwoAt.setx (h : TwoAt W u x y cc dd) (j : Nat) (v : Value) : TwoAt W (u.setCell ⟨x, j, none⟩ v) x y (cc.setIfInBounds j v) dd :=
  ⟨h.ne, h.hx, h.hy, set_same h.bx v, set_other h.by_ (Ne.symm h.ne) v, h.low.setCell (p := ⟨x, j, none⟩) h.hx v⟩
theorem TwoAt.sety (h : TwoAt W u x y cc dd) (j : Nat) (v : Value) : TwoAt W (u.setCell ⟨y, j, none⟩ v) x y cc (dd.setIfInBounds j v) := (h.swap.setx j v).swap
theorem TwoAt.drew (h : TwoAt W u x y cc dd) (n : Nat) : TwoAt W (u.drewN n) x y cc dd := ⟨h.ne, h.hx, h.hy, h.bx, h.by_, below_drewN h.low⟩
theorem TwoAt.grown {r : Option Nat} (h : TwoAt W u x y cc dd) (hg : u.grownBy u' r) (hr : ∀ k, r = some k → W.heap.size ≤ k ∧ k ≠ x ∧ k ≠ y) : TwoAt W u' x y cc dd :=
  ⟨h.ne, h.hx, h.hy, (hg.block x h.ltx (fun e => (hr x e.symm).2.1 rfl)).trans h.bx, (hg.block y h.lty (fun e => (hr y e.symm).2.2 rfl)).trans h.by_, h.low.grown hg h.low.size (fun k e => (hr k e).1)⟩
theorem TwoAt.cellx (h : TwoAt W u x y cc dd) (j : Nat) : u.cell? ⟨x, j, none⟩ = cc[j]? := cell_in h.bx j
theorem TwoAt.celly (h : TwoAt W u x y cc dd) (j : Nat) : u.cell? ⟨y, j, none⟩ = dd[j]? := cell_in h.by_ j
theorem TwoAt.frozx (h : TwoAt W u x y cc dd) (j : Nat) : u.frozen? ⟨x, j, none⟩ = false := by simp [World.frozen?, h.bx]
theorem TwoAt.frozy (h : TwoAt W u x y cc dd) (j : Nat) : u.frozen? ⟨y, j, none⟩ = false := by simp [World.frozen?, h.by_]
end

theorem grown_self (w : World) (r : Option Nat) : w.grownBy w r := ⟨rfl, rfl, rfl, Nat.le_refl _, fun _ _ _ => rfl⟩
theorem addr_at (b off j : Nat) : (⟨b, off, none⟩ : Addr).add j = ⟨b, off + j, none⟩ := by
  unfold Addr.add
  split <;> simp_all
theorem wpList_put {w : World} {ops : Array Oper} {rest : List Oper} {o : Oper} {a : Act} {Q : Exit → Act → World → Prop} (hgd : o.guard = none) (s x : Operand)
    (ho : o.op = .call { callee := .builtin .append, args := #[s, x], argTypes := #[23, 23] }) (base : Nat) (v : Value) (xs ys : List Int) (p : Option Addr) (b off len c : Nat) (hs : a.eval s = v) (hx : a.eval x = .slice p len c)
    (hown : OwnsI w base v xs) (hp : p = none → c = 0) (hu : Nums w p b off len ys) (hlen : xs.length + ys.length ≤ 100000) (hbase : base ≤ w.heap.size)
    (h : ∀ v' w', OwnsI w' base v' (xs ++ ys) → w.grownBy w' v.ownBlock → wpList Try.prog ops Q rest (a.put o.dst v') w') : wpList Try.prog ops Q (o :: rest) a w := by
  obtain ⟨i0, hi, hz0, hz1, hz2⟩ := info_parts info3
  cases p with
  | none =>
    obtain rfl : len = 0 := Nat.eq_zero_of_not_pos fun h0 => by have := hu.at_ h0; cases this
    obtain rfl : ys = [] := List.eq_nil_of_length_eq_zero hu.long.symm
    obtain rfl := hp rfl
    refine wpList_append_own_none hgd s x 23 ho base 3 i0 1 Try.underlying23 hi v xs.length _ hs hown hx ?_
    exact h v w (by rw [List.append_nil]; exact hown) (grown_self w _)
  | some ad =>
    refine wpList_append_own w hgd s x 23 ho base 3 i0 (.int .i64 0) 1 8 Try.underlying23 hi hz0 hz1 hz2 rfl (by decide) v xs.length _ hs hown ad len c (ys.map (Value.int .i64)) hx (by rw [List.length_map, Nat.mul_one]; exact hu.long.symm) ?_ ?_ ?_ (by have := hu.long; omega) hbase ?_
    · intro j z hj
      rw [List.getElem?_map] at hj
      by_cases hlt : j < ys.length
      · have h0 := hu.at_ (by have := hu.long; omega)
        simp only [Option.some.injEq] at h0
        subst h0
        have := hu.cell j (by rw [hu.long]; exact hlt)
        rw [List.getElem?_eq_getElem hlt] at hj
        simp only [Option.map_some, Option.some.injEq] at hj
        rw [addr_at, this, ← hj]
        simp [hlt]
      · rw [List.getElem?_eq_none (by omega)] at hj
        simp at hj
    · intro z hz
      obtain ⟨y, _, rfl⟩ := List.mem_map.1 hz
      rfl
    · have := hu.long
      unfold maxLen
      omega
    · intro v' w' h1 h2 _
      refine h v' w' ?_ h2
      unfold OwnsI
      rw [List.length_append, List.map_append, ← hu.long]
      exact h1
theorem step_put {w : World} {ops : Array Oper} {o : Oper} {a : Act} {K : Act → World → Prop} {Q : Exit → Act → World → Prop} {E : Prop} (hgd : o.guard = none) (s x : Operand)
    (ho : o.op = .call { callee := .builtin .append, args := #[s, x], argTypes := #[23, 23] }) (base : Nat) (v : Value) (xs ys : List Int) (b off len c : Nat) (hs : a.eval s = v) (hx : a.eval x = .slice (some ⟨b, off, none⟩) len c)
    (hown : OwnsI w base v xs) (hu : Nums w (some ⟨b, off, none⟩) b off len ys) (hpos : 0 < len) (hlen : xs.length + ys.length ≤ 100000) (hbase : base ≤ w.heap.size)
    (h : ∀ g cap w', OwnsI w' base (.slice (some ⟨g, 0, none⟩) (xs.length + len) cap) (xs ++ ys) → w.grownBy w' v.ownBlock → (v.ownBlock = some g ∨ g = w.heap.size) → g < w'.heap.size → K (a.put o.dst (.slice (some ⟨g, 0, none⟩) (xs.length + len) cap)) w') :
    if Region.wanted o (yielded ops a.tmps) = true then Oper.wp Try.prog o a w K Q else E := by
  obtain ⟨i0, hi, hz0, hz1, hz2⟩ := info_parts info3
  have hl := hu.long
  refine step_append_lies w hgd s x 23 ho base 3 i0 (.int .i64 0) 1 8 Try.underlying23 hi hz0 hz1 hz2 rfl (by decide) v xs.length _ hs hown ⟨b, off, none⟩ len c (ys.map (Value.int .i64)) hx (by rw [List.length_map, Nat.mul_one]; exact hl.symm) ?_ ?_ hpos (by unfold maxLen; omega) (by omega) hbase _ rfl (fun g cap w' g1 g2 g3 g4 => h g cap w' ?_ g2 g3 g4)
  · intro j z hj
    rw [List.getElem?_map] at hj
    by_cases hlt : j < ys.length
    · have := hu.cell j (by rw [hl]; exact hlt)
      rw [List.getElem?_eq_getElem hlt] at hj
      simp only [Option.map_some, Option.some.injEq] at hj
      rw [addr_at, this, ← hj]
      simp [hlt]
    · rw [List.getElem?_eq_none (by omega)] at hj
      simp at hj
  · intro z hz
    obtain ⟨y, _, rfl⟩ := List.mem_map.1 hz
    rfl
  · unfold OwnsI
    rw [List.length_append, List.map_append, ← hl]
    exact g1
theorem owns_set {w : World} {base b off : Nat} {v : Value} {xs : List Int} (h : OwnsI w base v xs) (hb : b < base) (u : Value) : OwnsI (w.setCell ⟨b, off, none⟩ u) base v xs := by
  refine ⟨h.1, ?_⟩
  rcases h.2 with h1 | ⟨g, cap, cur, h1, h2, h3, h4⟩
  · exact .inl h1
  · exact .inr ⟨g, cap, cur, h1, h2, set_other h3 (by omega) u, h4⟩
theorem owns_up {w wr : World} {base : Nat} {v : Value} {xs : List Int} (h : OwnsI w base v xs) (hb : Below w.heap.size w wr) : OwnsI wr base v xs := by
  refine ⟨h.1, ?_⟩
  rcases h.2 with h1 | ⟨g, cap, cur, h1, h2, h3, h4⟩
  · exact .inl h1
  · exact .inr ⟨g, cap, cur, h1, h2, heap_below h3 hb, h4⟩
theorem owns_block {w : World} {base : Nat} {v : Value} {xs : List Int} (h : OwnsI w base v xs) {k : Nat} (e : v.ownBlock = some k) : base ≤ k := by
  rcases h.2 with ⟨rfl, _⟩ | ⟨g, cap, cur, rfl, h2, _⟩
  · cases e
  · simp [Value.ownBlock] at e
    omega
theorem own_lit {base : Nat} (w : World) (z : Int) (hb : base ≤ w.heap.size) : OwnsI (w.alloc (.cells #[.int .i64 z] 3)) base (.slice (some ⟨w.heap.size, 0, none⟩) 1 1) [z] :=
  World.ownsRow_lit w #[.int .i64 z] 1 hb (by decide) rfl
theorem own_lit1 {base : Nat} (w : World) (o : Obj) (z : Int) (hb : base ≤ w.heap.size) : OwnsI ((w.alloc o).alloc (.cells #[.int .i64 z] 3)) base (.slice (some ⟨w.heap.size + 1, 0, none⟩) 1 1) [z] := by
  have := own_lit (base := base) (w.alloc o) z (by simp; omega)
  rwa [World.size_alloc] at this
theorem held6n {W0 u u' : World} {b : Nat} {a0 a1 a2 a3 a4 a5 : Value} (hlt : b < W0.heap.size) (h : u.cell? ⟨b, 0, none⟩ = some a0 ∧ u.cell? ⟨b, 1, none⟩ = some a1 ∧ u.cell? ⟨b, 2, none⟩ = some a2 ∧ u.cell? ⟨b, 3, none⟩ = some a3 ∧ u.cell? ⟨b, 4, none⟩ = some a4 ∧ u.cell? ⟨b, 5, none⟩ = some a5 ∧ Below W0.heap.size W0 u) (hb : Below W0.heap.size u u') :
    u'.cell? ⟨b, 0, none⟩ = some a0 ∧ u'.cell? ⟨b, 1, none⟩ = some a1 ∧ u'.cell? ⟨b, 2, none⟩ = some a2 ∧ u'.cell? ⟨b, 3, none⟩ = some a3 ∧ u'.cell? ⟨b, 4, none⟩ = some a4 ∧ u'.cell? ⟨b, 5, none⟩ = some a5 ∧ Below W0.heap.size W0 u' :=
  ⟨(hb.cell (p := ⟨b, 0, none⟩) hlt).trans h.1, (hb.cell (p := ⟨b, 1, none⟩) hlt).trans h.2.1, (hb.cell (p := ⟨b, 2, none⟩) hlt).trans h.2.2.1, (hb.cell (p := ⟨b, 3, none⟩) hlt).trans h.2.2.2.1, (hb.cell (p := ⟨b, 4, none⟩) hlt).trans h.2.2.2.2.1, (hb.cell (p := ⟨b, 5, none⟩) hlt).trans h.2.2.2.2.2.1, h.2.2.2.2.2.2.trans hb⟩
theorem frozen_in {w : World} {b : Nat} {cc : Array Value} {t : TypeId} (h : w.heap[b]? = some (.cells cc t)) (off : Nat) : w.frozen? ⟨b, off, none⟩ = false := by
  simp [World.frozen?, h]
theorem zero_first {a w2 : World} {o l : Obj} (hg : ((a.alloc o).alloc l).drew.grownBy w2 (some (a.heap.size + 1))) : w2.heap[a.heap.size]? = some o :=
  (hg.block a.heap.size (by show a.heap.size < ((a.alloc o).alloc l).heap.size; simp only [World.size_alloc]; omega) (fun e => by have e' := Option.some.inj e; omega)).trans (heap_old _ (heap_new _ _))
theorem zero_second {a w2 : World} {o l : Obj} (hg : ((a.alloc l).alloc o).drew.grownBy w2 (some a.heap.size)) : w2.heap[a.heap.size + 1]? = some o := by
  have := heap_new (a.alloc l) o
  rw [World.size_alloc] at this
  exact (hg.block (a.heap.size + 1) (by show a.heap.size + 1 < ((a.alloc l).alloc o).heap.size; simp only [World.size_alloc]; omega) (fun e => by have e' := Option.some.inj e; omega)).trans this
theorem first_ne {a : World} {o l : Obj} {g : Nat} (h : some (a.heap.size + 1) = some g ∨ g = ((a.alloc o).alloc l).drew.heap.size) : g ≠ a.heap.size := by
  have e9 : ((a.alloc o).alloc l).drew.heap.size = a.heap.size + 1 + 1 := by show ((a.alloc o).alloc l).heap.size = _; simp only [World.size_alloc]
  rcases h with e | e
  · have := Option.some.inj e; omega
  · omega
theorem second_ne {a : World} {o l : Obj} {g : Nat} (h : some a.heap.size = some g ∨ g = ((a.alloc l).alloc o).drew.heap.size) : g ≠ a.heap.size + 1 := by
  have e9 : ((a.alloc l).alloc o).drew.heap.size = a.heap.size + 1 + 1 := by show ((a.alloc l).alloc o).heap.size = _; simp only [World.size_alloc]
  rcases h with e | e
  · have := Option.some.inj e; omega
  · omega
theorem set6_heap {w2 : World} {z : Nat} {t : TypeId} {b0 b1 b2 b3 b4 b5 : Value} (h : w2.heap[z]? = some (.cells #[b0, b1, b2, b3, b4, b5] t)) (a0 a1 a2 a3 a4 a5 : Value) :
    ((((((w2.setCell ⟨z, 0, none⟩ a0).setCell ⟨z, 1, none⟩ a1).setCell ⟨z, 2, none⟩ a2).setCell ⟨z, 3, none⟩ a3).setCell ⟨z, 4, none⟩ a4).setCell ⟨z, 5, none⟩ a5).heap[z]? = some (.cells #[a0, a1, a2, a3, a4, a5] t) := by
  have := set_same (off := 5) (set_same (off := 4) (set_same (off := 3) (set_same (off := 2) (set_same (off := 1) (set_same (off := 0) h a0) a1) a2) a3) a4) a5
  exact this
theorem set6_owns {w2 : World} {z base g l c : Nat} {xs : List Int} (h : OwnsI w2 base (.slice (some ⟨g, 0, none⟩) l c) xs) (hz : g ≠ z) (a0 a1 a2 a3 a4 a5 : Value) :
    OwnsI ((((((w2.setCell ⟨z, 0, none⟩ a0).setCell ⟨z, 1, none⟩ a1).setCell ⟨z, 2, none⟩ a2).setCell ⟨z, 3, none⟩ a3).setCell ⟨z, 4, none⟩ a4).setCell ⟨z, 5, none⟩ a5) base (.slice (some ⟨g, 0, none⟩) l c) xs := by
  have hb : (Value.slice (some ⟨g, 0, none⟩) l c).ownBlock ≠ some z := fun e => hz (by simpa [Value.ownBlock] using e)
  unfold OwnsI at h ⊢
  exact ownsRow_setCell_other (ownsRow_setCell_other (ownsRow_setCell_other (ownsRow_setCell_other (ownsRow_setCell_other (ownsRow_setCell_other h hb a0) hb a1) hb a2) hb a3) hb a4) hb a5
theorem six_in {w : World} {b : Nat} {t : TypeId} {a0 a1 a2 a3 a4 a5 : Value} (h : w.heap[b]? = some (.cells #[a0, a1, a2, a3, a4, a5] t)) :
    (w.cell? ⟨b, 0, none⟩ = some a0 ∧ w.cell? ⟨b, 1, none⟩ = some a1 ∧ w.cell? ⟨b, 2, none⟩ = some a2 ∧ w.cell? ⟨b, 3, none⟩ = some a3 ∧ w.cell? ⟨b, 4, none⟩ = some a4 ∧ w.cell? ⟨b, 5, none⟩ = some a5) ∧
    (w.frozen? ⟨b, 0, none⟩ = false ∧ w.frozen? ⟨b, 1, none⟩ = false ∧ w.frozen? ⟨b, 2, none⟩ = false ∧ w.frozen? ⟨b, 3, none⟩ = false ∧ w.frozen? ⟨b, 4, none⟩ = false ∧ w.frozen? ⟨b, 5, none⟩ = false) :=
  ⟨⟨cell_in h 0, cell_in h 1, cell_in h 2, cell_in h 3, cell_in h 4, cell_in h 5⟩, frozen_in h 0, frozen_in h 1, frozen_in h 2, frozen_in h 3, frozen_in h 4, frozen_in h 5⟩
theorem set6_low {n z : Nat} {W w2 : World} (h : Below n W w2) (hz : n ≤ z) (a0 a1 a2 a3 a4 a5 : Value) : Below n W ((((((w2.setCell ⟨z, 0, none⟩ a0).setCell ⟨z, 1, none⟩ a1).setCell ⟨z, 2, none⟩ a2).setCell ⟨z, 3, none⟩ a3).setCell ⟨z, 4, none⟩ a4).setCell ⟨z, 5, none⟩ a5) :=
  (((((h.setCell (p := ⟨z, 0, none⟩) hz _).setCell (p := ⟨z, 1, none⟩) hz _).setCell (p := ⟨z, 2, none⟩) hz _).setCell (p := ⟨z, 3, none⟩) hz _).setCell (p := ⟨z, 4, none⟩) hz _).setCell (p := ⟨z, 5, none⟩) hz _
theorem owns_shape {w : World} {base : Nat} {v : Value} {xs : List Int} (h : OwnsI w base v xs) (hn : 0 < xs.length) : ∃ g cap, v = .slice (some ⟨g, 0, none⟩) xs.length cap := by
  rcases h.2 with ⟨_, h1⟩ | ⟨g, cap, cur, rfl, _⟩
  · omega
  · exact ⟨g, cap, rfl⟩
theorem nums_new (w : World) (z : Int) (t : TypeId) (h : Fit z) : Nums (w.alloc (.cells #[.int .i64 z] t)) (some ⟨w.heap.size, 0, none⟩) w.heap.size 0 1 [z] :=
  ⟨rfl, fun _ => rfl, fun k hk => by
    obtain rfl : k = 0 := by omega
    rw [cell_in (heap_new w _)]
    rfl, fun k hk => by
    obtain rfl : k = 0 := by omega
    exact h⟩
/-- a list of one's own beside two constraints of one's own, all of it ahead of a place -/
structure Ts (W u : World) (x y lim base : Nat) (cc dd : Array Value) (v : Value) (ns : List Int) : Prop where
  tw : TwoAt W u x y cc dd
  co : OwnsI u base v ns
  lx : x < lim
  ly : y < lim
  lv : ∀ k, v.ownBlock = some k → k < lim
  lw : W.heap.size ≤ lim
  lu : lim ≤ u.heap.size
section
variable {W u u' : World} {x y lim base : Nat} {cc dd : Array Value} {v : Value} {ns : List Int}
theorem Ts.up (h : Ts W u x y lim base cc dd v ns) (hB : Below lim u u') : Ts W u' x y lim base cc dd v ns :=
  ⟨⟨h.tw.ne, h.tw.hx, h.tw.hy, (hB.block x h.lx).trans h.tw.bx, (hB.block y h.ly).trans h.tw.by_, h.tw.low.trans (hB.mono h.lw)⟩, by
    refine ⟨h.co.1, ?_⟩
    rcases h.co.2 with h1 | ⟨g, cap, cur, h1, h2, h3, h4⟩
    · exact .inl h1
    · exact .inr ⟨g, cap, cur, h1, h2, (hB.block g (h.lv g (by rw [h1]; rfl))).trans h3, h4⟩, h.lx, h.ly, h.lv, h.lw, Nat.le_trans h.lu hB.size⟩
end
/-- beside them one more constraint of one's own, its list of variables, and a longer row -/
structure Fin (w W u : World) (x y lim base : Nat) (cc dd : Array Value) (v : Value) (ns : List Int) (z lim2 : Nat) (ee : Array Value) (vi : Value) (is : List Int) (gm cm : Nat) (row : List Int) (e : Int) : Prop where
  ts : Ts W u x y lim base cc dd v ns
  bz : u.heap[z]? = some (.cells ee 27)
  vi_ : OwnsI u lim2 vi is
  mo : OwnsI u lim (.slice (some ⟨gm, 0, none⟩) (row.length + 1) cm) (row ++ [e])
  gz : gm < lim2
  lz : lim2 ≤ z
  low : Below w.heap.size w u
section
variable {w W u u' : World} {x y lim base : Nat} {cc dd : Array Value} {v : Value} {ns : List Int} {z lim2 : Nat} {ee : Array Value} {vi : Value} {is : List Int} {gm cm : Nat} {row : List Int} {e : Int}
theorem Fin.below (h : Fin w W u x y lim base cc dd v ns z lim2 ee vi is gm cm row e) (hB : Below u.heap.size u u') : Fin w W u' x y lim base cc dd v ns z lim2 ee vi is gm cm row e :=
  ⟨h.ts.up (hB.mono h.ts.lu), heap_below h.bz hB, owns_up h.vi_ hB, owns_up h.mo hB, h.gz, h.lz, h.low.trans (hB.mono h.low.size)⟩
theorem list_last (row : List Int) (a b : Int) : ((row ++ [a]).map (Value.int .i64)).set row.length (.int .i64 b) = (row ++ [b]).map (Value.int .i64) := by
  rw [List.map_append, List.map_append, List.set_append, if_neg (by simp)]
  simp
theorem Fin.store (h : Fin w W u x y lim base cc dd v ns z lim2 ee vi is gm cm row e) (hw : w.heap.size ≤ lim) (e' : Int) : Fin w W (u.setCell ⟨gm, row.length, none⟩ (.int .i64 e')) x y lim base cc dd v ns z lim2 ee vi is gm cm row e' := by
  have hl := h.mo.lt gm rfl
  refine ⟨h.ts.up ((Below.refl lim u).setCell (p := ⟨gm, row.length, none⟩) hl.1 _), set_other h.bz (by have := h.gz; have := h.lz; omega) _, owns_set h.vi_ h.gz _, ?_, h.gz, h.lz, h.low.setCell (p := ⟨gm, row.length, none⟩) (by show w.heap.size ≤ gm; have := hl.1; omega) _⟩
  have h9 : u.ownsRow lim 3 1 (.slice (some ⟨gm, 0, none⟩) (row.length + 1) cm) (row.length + 1) ((row ++ [e]).map (Value.int .i64)) := by
    have := h.mo
    unfold OwnsI at this
    rw [List.length_append] at this
    exact this
  have := (h9.stored row.length (.int .i64 e')).1
  rw [list_last] at this
  unfold OwnsI
  rw [List.length_append]
  exact this
theorem Fin.cell (h : Fin w W u x y lim base cc dd v ns z lim2 ee vi is gm cm row e) : u.cell? ⟨gm, row.length, none⟩ = some (.int .i64 e) := by
  have h9 : u.ownsRow lim 3 1 (.slice (some ⟨gm, 0, none⟩) (row.length + 1) cm) (row.length + 1) ((row ++ [e]).map (Value.int .i64)) := by
    have := h.mo
    unfold OwnsI at this
    rw [List.length_append] at this
    exact this
  rw [h9.cellAt row.length (by omega)]
  simp
theorem Fin.froz (h : Fin w W u x y lim base cc dd v ns z lim2 ee vi is gm cm row e) (j : Nat) : u.frozen? ⟨gm, j, none⟩ = false := by
  have h9 : u.ownsRow lim 3 1 (.slice (some ⟨gm, 0, none⟩) (row.length + 1) cm) (row.length + 1) ((row ++ [e]).map (Value.int .i64)) := by
    have := h.mo
    unfold OwnsI at this
    rw [List.length_append] at this
    exact this
  exact h9.frozenAt j
/-- the longer row reads as it must -/
theorem Fin.rows (h : Fin w W u x y lim base cc dd v ns z lim2 ee vi is gm cm row e) (hf : ∀ n ∈ row ++ [e], Fit n) : Nums u (some ⟨gm, 0, none⟩) gm 0 (row.length + 1) (row ++ [e]) := by
  have h9 : u.ownsRow lim 3 1 (.slice (some ⟨gm, 0, none⟩) (row.length + 1) cm) (row.length + 1) ((row ++ [e]).map (Value.int .i64)) := by
    have := h.mo
    unfold OwnsI at this
    rw [List.length_append] at this
    exact this
  refine ⟨by simp, fun _ => rfl, fun k hk => ?_, fun k hk => hf _ (List.mem_of_getElem? (getD_at (by simpa using hk)))⟩
  rw [Nat.zero_add, h9.cellAt k (by omega), List.getElem?_map, getD_at (by simpa using hk)]
  rfl
end
end Go.Proofs.Ytkhjnicmbkklpaa.Gr
