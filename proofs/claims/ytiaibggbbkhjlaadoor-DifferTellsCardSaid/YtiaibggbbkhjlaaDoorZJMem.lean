/-
  Rows of rows that a call makes: lists of lists of numbers, lists of domains; an element behind a row, an element stored, as one operation. What each step of the document's answers shares.
-/
import Derived.Test.YtiaibggbbkhjlaaDoorZYAC
import Derived.Test.YtiaibggbbkhjlaaDoorZYAA
import Derived.Test.YtiaibggbbkhjlaaDoorZDRkeep
import Derived.Deep.AppendLies
namespace Go.Proofs.YtiaibggbbkhjlaaDoor.St
open Go.RowKit
set_option maxRecDepth 100000

theorem kinds_apart {w : World} {b g : Nat} {e f : TypeId} (h : ∃ cs, w.heap[b]? = some (.cells cs e)) (k : ∃ cs, w.heap[g]? = some (.cells cs f)) (hne : e ≠ f) : b ≠ g := by
  rintro rfl
  obtain ⟨cs, h⟩ := h
  obtain ⟨ds, k⟩ := k
  rw [h] at k
  simp only [Option.some.injEq, Obj.cells.injEq] at k
  exact hne k.2.1
theorem ownsP_snoc {α : Type} {R : List Value → α → Prop} {n : Nat} {e : TypeId} {base : Nat} {w' : World} {v' : Value} {L : List α} {y : α} {os cs : List Value} (o2 : os.length = L.length * n)
    (o3 : ∀ (k : Nat) (a : α), L[k]? = some a → ∃ c : List Value, c.length = n ∧ (∀ j, j < n → os[k * n + j]? = c[j]?) ∧ R c a) (hlen : cs.length = n) (hR : R cs y) (g1 : w'.ownsRow base e n v' (L.length + 1) (os ++ cs)) : OwnsP R n e base w' v' (L ++ [y]) := by
  refine ⟨os ++ cs, ?_, ?_, fun k b' hk => ?_⟩
  · rw [List.length_append]
    exact g1
  · rw [List.length_append, List.length_append, o2, hlen, Nat.add_mul]
    simp
  · by_cases hlt : k < L.length
    · rw [List.getElem?_append_left hlt] at hk
      obtain ⟨d, d1, d2, d3⟩ := o3 k b' hk
      refine ⟨d, d1, fun j hj => ?_, d3⟩
      have hl : k * n + j < os.length := by
        rw [o2]
        have := Nat.mul_le_mul_right n (Nat.succ_le_of_lt hlt)
        rw [Nat.succ_mul] at this
        omega
      rw [List.getElem?_append_left hl, d2 j hj]
    · rw [List.getElem?_append_right (by omega)] at hk
      have hk1 := (List.getElem?_eq_some_iff.1 hk).1
      obtain rfl : k = L.length := by simp at hk1; omega
      rw [Nat.sub_self] at hk
      obtain rfl : y = b' := by simpa using hk
      refine ⟨cs, hlen, fun j hj => ?_, hR⟩
      rw [List.getElem?_append_right (by rw [o2]; omega), o2, Nat.add_sub_cancel_left]
section
variable {α : Type} {R : List Value → α → Prop} {w : World} {ops : Array Oper} {rest : List Oper} {o : Oper} {a : Act} {Q : Exit → Act → World → Prop} {base b c k by_ e t : Nat} {v z : Value} {L : List α} {y : α} {cs : List Value}
theorem put_row (hi : (Tryd.prog.info? e).map (fun i => (i.zero, i.size, i.bytes)) = some (some z, k, by_)) (hzc : z.cells.size = k) (hpos : 0 < k) (hby : by_ ≤ 128) (ht : Tryd.prog.underlying t = some (.slice e)) (hgd : o.guard = none) (s x : Operand) (ho : o.op = .call { callee := .builtin .append, args := #[s, x], argTypes := #[t, t] }) (hs : a.eval s = v) (hx : a.eval x = .slice (some ⟨b, 0, none⟩) 1 c)
    (hown : OwnsP R k e base w v L) (hlen : cs.length = k) (hcell : ∀ j u, cs[j]? = some u → w.cell? ⟨b, j, none⟩ = some u) (h1 : ∀ u ∈ cs, u.oneCell' = true) (hR : R cs y) (hsm : L.length ≤ 100000) (hbase : base ≤ w.heap.size)
    (h : ∀ p cap w', OwnsP R k e base w' (.slice p (L.length + 1) cap) (L ++ [y]) → w.grownBy w' v.ownBlock → ((Value.slice p (L.length + 1) cap).ownBlock = v.ownBlock ∨ (Value.slice p (L.length + 1) cap).ownBlock = some w.heap.size) → wpList Tryd.prog ops Q rest (a.put o.dst (.slice p (L.length + 1) cap)) w') : wpList Tryd.prog ops Q (o :: rest) a w := by
  obtain ⟨i0, hi, hz0, hz1, hz2⟩ := info_parts hi
  obtain ⟨os, o1, o2, o3⟩ := hown
  refine wpList_append_lies w hgd s x t ho base e i0 z k by_ ht hi hz0 hz1 hz2 hzc hpos v L.length os hs o1 ⟨b, 0, none⟩ 1 c cs hx (by rw [hlen, Nat.one_mul]) (fun j u hj => by rw [add_plain', Nat.zero_add]; exact hcell j u hj) h1 (by decide) (by unfold maxLen; omega) ?_ hbase w.heap.size rfl (fun g cap w' g1 g2 g3 _ => h _ cap w' (ownsP_snoc o2 o3 hlen hR g1) g2 ?_)
  · have : (L.length + 1) * by_ ≤ 100001 * 128 := Nat.mul_le_mul (by omega) hby
    omega
  · rcases g3 with q | q
    · exact .inl q.symm
    · exact .inr (by rw [← q]; rfl)
theorem put_row_step {K : Act → World → Prop} {E : Prop} (hi : (Tryd.prog.info? e).map (fun i => (i.zero, i.size, i.bytes)) = some (some z, k, by_)) (hzc : z.cells.size = k) (hpos : 0 < k) (hby : by_ ≤ 128) (ht : Tryd.prog.underlying t = some (.slice e)) (hgd : o.guard = none) (s x : Operand) (ho : o.op = .call { callee := .builtin .append, args := #[s, x], argTypes := #[t, t] }) (hs : a.eval s = v) (hx : a.eval x = .slice (some ⟨b, 0, none⟩) 1 c)
    (hown : OwnsP R k e base w v L) (hlen : cs.length = k) (hcell : ∀ j u, cs[j]? = some u → w.cell? ⟨b, j, none⟩ = some u) (h1 : ∀ u ∈ cs, u.oneCell' = true) (hR : R cs y) (hsm : L.length ≤ 100000) (hbase : base ≤ w.heap.size)
    (h : ∀ p cap w', OwnsP R k e base w' (.slice p (L.length + 1) cap) (L ++ [y]) → w.grownBy w' v.ownBlock → ((Value.slice p (L.length + 1) cap).ownBlock = v.ownBlock ∨ (Value.slice p (L.length + 1) cap).ownBlock = some w.heap.size) → K (a.put o.dst (.slice p (L.length + 1) cap)) w') : if Region.wanted o (yielded ops a.tmps) = true then Oper.wp Tryd.prog o a w K Q else E := by
  obtain ⟨i0, hi, hz0, hz1, hz2⟩ := info_parts hi
  obtain ⟨os, o1, o2, o3⟩ := hown
  refine step_append_lies w hgd s x t ho base e i0 z k by_ ht hi hz0 hz1 hz2 hzc hpos v L.length os hs o1 ⟨b, 0, none⟩ 1 c cs hx (by rw [hlen, Nat.one_mul]) (fun j u hj => by rw [add_plain', Nat.zero_add]; exact hcell j u hj) h1 (by decide) (by unfold maxLen; omega) ?_ hbase w.heap.size rfl (fun g cap w' g1 g2 g3 _ => h _ cap w' (ownsP_snoc o2 o3 hlen hR g1) g2 ?_)
  · have : (L.length + 1) * by_ ≤ 100001 * 128 := Nat.mul_le_mul (by omega) hby
    omega
  · rcases g3 with q | q
    · exact .inl q.symm
    · exact .inr (by rw [← q]; rfl)
end
section
variable {α : Type} {R : List Value → α → Prop} {k e f base : Nat} {w w' : World} {v u : Value} {L : List α}
theorem OwnsP.set {b j : Nat} {x : Value} (h : OwnsP R k e base w v L) (hb : ∃ cs, w.heap[b]? = some (.cells cs f)) (he : e ≠ f) : OwnsP R k e base (w.setCell ⟨b, j, none⟩ x) v L :=
  h.same fun i hi => Below.heap_setCell w ⟨b, j, none⟩ x i (kinds_apart (h.kind hi) hb he)
theorem OwnsP.grown (h : OwnsP R k e base w v L) (hu : ∀ i, u.ownBlock = some i → ∃ cs, w.heap[i]? = some (.cells cs f)) (hg : w.grownBy w' u.ownBlock) (he : e ≠ f) : OwnsP R k e base w' v L :=
  h.same fun i hi => hg.block i (h.lt i hi).2 (fun e' => kinds_apart (h.kind hi) (hu i e'.symm) he rfl)
end
/-- an own row of numbers stays where blocks of another kind are written -/
theorem ints_same {base : Nat} {w w' : World} {v : Value} {l : List Int} (h : Dm.OwnsI w base v l) (hk : ∀ k, v.ownBlock = some k → w'.heap[k]? = w.heap[k]?) : Dm.OwnsI w' base v l := by
  refine ⟨h.1, ?_⟩
  rcases h.2 with q | ⟨g, cap, cur, rfl, hb, hg, r⟩
  · exact .inl q
  · exact .inr ⟨g, cap, cur, rfl, hb, (hk g rfl).trans hg, r⟩
theorem ints_kind {base : Nat} {w : World} {v : Value} {l : List Int} (h : Dm.OwnsI w base v l) {k : Nat} (hk : v.ownBlock = some k) : base ≤ k ∧ k < w.heap.size ∧ ∃ cs, w.heap[k]? = some (.cells cs 3) := by
  rcases h.2 with ⟨rfl, _⟩ | ⟨g, cap, cur, rfl, hb, hg, r⟩
  · simp [Value.ownBlock] at hk
  · simp only [Value.ownBlock, Option.some.injEq] at hk
    subst hk
    exact ⟨hb, (Array.getElem?_eq_some_iff.1 hg).1, cur, hg⟩
theorem ints_nil (w : World) (base : Nat) : Dm.OwnsI w base (.slice none 0 0) [] := ⟨by simp, .inl ⟨rfl, rfl⟩⟩

/-- a row of numbers of one's own, as an element -/
def listP (w : World) (cs : List Value) (l : List Int) : Prop := ∃ u, cs = [u] ∧ Dm.OwnsI w 0 u l
/-- rows of numbers -/
def ListsAt (w : World) (base : Nat) (v : Value) (L : List (List Int)) : Prop := OwnsP (listP w) 1 22 base w v L
/-- a domain of one's own, as an element -/
def domP (w : World) (cs : List Value) (d : List Int × Nat) : Prop := ∃ u, cs = [u, .int .u64 d.2] ∧ Dm.OwnsI w 0 u d.1 ∧ d.2 < 18446744073709551616
/-- a row of domains -/
def DomsAt (w : World) (base : Nat) (v : Value) (L : List (List Int × Nat)) : Prop := OwnsP (domP w) 2 66 base w v L
/-- a domain that came in -/
def rDom : Reader (List Int × Nat) := fun w cs d => ∃ u, cs = [u, .int .u64 d.2] ∧ Dm.ReadsN w u d.1 ∧ d.2 < 18446744073709551616 ∧ d.1.length ≤ maxLen
theorem rDom_stays : rDom.Stays := fun _ _ _ _ hB ⟨u, h1, h2, h3⟩ => ⟨u, h1, Dm.readsN_below h2 hB, h3⟩
theorem info22 : (Tryd.prog.info? 22).map (fun i => (i.zero, i.size, i.bytes)) = some (some (.slice none 0 0), 1, 24) := by kernel_rfl
theorem infoDom : (Tryd.prog.info? 66).map (fun i => (i.zero, i.size, i.bytes)) = some (some (.agg #[.slice none 0 0, .int .u64 0]), 2, 32) := by kernel_rfl

section
variable {w w' : World} {base : Nat} {v u x : Value} {L : List (List Int)} {D : List (List Int × Nat)} {b f j : Nat}
theorem lists_nil (w : World) (base : Nat) : ListsAt w base (.slice none 0 0) [] := ownsP_nil _ _ _ _ _
theorem ListsAt.below (h : ListsAt w base v L) (hB : Below w.heap.size w w') : ListsAt w' base v L :=
  OwnsP.below (OwnsP.imp h (fun _ _ _ ⟨u, e, o⟩ => ⟨u, e, owns_below o hB⟩)) hB
theorem ListsAt.low {low : Nat} (h : ListsAt w base v L) (hl : low ≤ base) : ListsAt w low v L := OwnsP.low h hl
/-- rows of numbers stay where another row of rows grows, in a block of its own -/
theorem ListsAt.grown (h : ListsAt w base v L) (hu : ∀ i, u.ownBlock = some i → ∃ cs, w.heap[i]? = some (.cells cs f)) (hg : w.grownBy w' u.ownBlock) (h1 : 22 ≠ f) (h2 : 3 ≠ f) : ListsAt w' base v L :=
  OwnsP.grown (OwnsP.imp h (fun _ _ _ ⟨_, e, o⟩ => ⟨_, e, ints_same o fun k hk => hg.block k (ints_kind o hk).2.1 (fun e' => kinds_apart (ints_kind o hk).2.2 (hu k e'.symm) h2 rfl)⟩)) hu hg h1
/-- what is known of the rows' elements behind an append to them -/
theorem listP_grown {l : List Int} {cs : List Value} (h : listP w cs l) (hu : ∀ i, u.ownBlock = some i → ∃ cs, w.heap[i]? = some (.cells cs f)) (hg : w.grownBy w' u.ownBlock) (h2 : 3 ≠ f) : listP w' cs l := by
  obtain ⟨_, e, o⟩ := h
  exact ⟨_, e, ints_same o fun k hk => hg.block k (ints_kind o hk).2.1 (fun e' => kinds_apart (ints_kind o hk).2.2 (hu k e'.symm) h2 rfl)⟩
theorem domP_grown {d : List Int × Nat} {cs : List Value} (h : domP w cs d) (hu : ∀ i, u.ownBlock = some i → ∃ cs, w.heap[i]? = some (.cells cs f)) (hg : w.grownBy w' u.ownBlock) (h2 : 3 ≠ f) : domP w' cs d := by
  obtain ⟨_, e, o, l⟩ := h
  exact ⟨_, e, ints_same o fun k hk => hg.block k (ints_kind o hk).2.1 (fun e' => kinds_apart (ints_kind o hk).2.2 (hu k e'.symm) h2 rfl), l⟩
theorem listP_below {l : List Int} {cs : List Value} (h : listP w cs l) (hB : Below w.heap.size w w') : listP w' cs l := by
  obtain ⟨_, e, o⟩ := h
  exact ⟨_, e, owns_below o hB⟩
theorem domP_below {d : List Int × Nat} {cs : List Value} (h : domP w cs d) (hB : Below w.heap.size w w') : domP w' cs d := by
  obtain ⟨_, e, o, l⟩ := h
  exact ⟨_, e, owns_below o hB, l⟩
theorem doms_nil (w : World) (base : Nat) : DomsAt w base (.slice none 0 0) [] := ownsP_nil _ _ _ _ _
theorem DomsAt.below (h : DomsAt w base v D) (hB : Below w.heap.size w w') : DomsAt w' base v D :=
  OwnsP.below (OwnsP.imp h (fun _ _ _ ⟨u, e, o, l⟩ => ⟨u, e, owns_below o hB, l⟩)) hB
theorem DomsAt.low {low : Nat} (h : DomsAt w base v D) (hl : low ≤ base) : DomsAt w low v D := OwnsP.low h hl
theorem ListsAt.shape (h : ListsAt w base v L) : ∃ p cap, v = .slice p L.length cap := OwnsP.shape h
theorem DomsAt.shape (h : DomsAt w base v D) : ∃ p cap, v = .slice p D.length cap := OwnsP.shape h
/-- one of the rows -/
theorem ListsAt.row (h : ListsAt w base v L) {k : Nat} (hk : k < L.length) : ∃ g cap u, v = .slice (some ⟨g, 0, none⟩) L.length cap ∧ base ≤ g ∧ g < w.heap.size ∧ (∃ cs, w.heap[g]? = some (.cells cs 22)) ∧ w.cell? ⟨g, k, none⟩ = some u ∧ w.frozen? ⟨g, k, none⟩ = false ∧ Dm.OwnsI w 0 u (L.getD k []) := by
  obtain ⟨cs, h1, h2, h3⟩ := h
  have h0 := h1
  rcases h1.2 with ⟨rfl, hl⟩ | ⟨g, cap, cur, rfl, hb, hg, hn, hc, hs, ht⟩
  · omega
  · obtain ⟨c, c1, c2, u, rfl, hu⟩ := h3 k _ (List.getElem?_eq_getElem hk)
    have h5 := h0.cellAt (k * 1 + 0) (by omega)
    rw [c2 0 (by omega)] at h5
    rw [show (k * 1 + 0) = k by omega] at h5
    refine ⟨g, cap, u, rfl, hb, (Array.getElem?_eq_some_iff.1 hg).1, ⟨cur, hg⟩, by simpa using h5, by have := h0.frozenAt (k * 1 + 0); rwa [show (k * 1 + 0) = k by omega] at this, ?_⟩
    simpa [List.getD, List.getElem?_eq_getElem hk] using hu
/-- a row stored in place of another -/
theorem ListsAt.stored {g n cap : Nat} (h : ListsAt w base (.slice (some ⟨g, 0, none⟩) n cap) L) {k : Nat} (hk : k < L.length) {l : List Int} (hx : Dm.OwnsI w 0 x l) : ListsAt (w.setCell ⟨g, k, none⟩ x) base (.slice (some ⟨g, 0, none⟩) n cap) (L.set k l) := by
  have hkind : ∃ cs, w.heap[g]? = some (.cells cs 22) := OwnsP.kind h rfl
  have keep : ∀ {y : Value} {m : List Int}, Dm.OwnsI w 0 y m → Dm.OwnsI (w.setCell ⟨g, k, none⟩ x) 0 y m := fun o => ints_same o fun i hi => Below.heap_setCell w ⟨g, k, none⟩ x i (kinds_apart (ints_kind o hi).2.2 hkind (by decide))
  obtain ⟨cs, h1, h2, h3⟩ := h
  refine ⟨cs.set k x, ?_, by simp [h2], fun i m hi => ?_⟩
  · have h4 := h1
    rcases h1.2 with ⟨e, hl⟩ | ⟨g', cap', cur, e, hb, hg, hn, hc, hs, ht⟩
    · cases e
    · simp only [Value.slice.injEq, Option.some.injEq, Addr.mk.injEq, and_true] at e
      obtain ⟨rfl, rfl, rfl⟩ := e
      have := (h4.stored (k * 1 + 0) x).1
      rw [show (k * 1 + 0) = k by omega] at this
      rw [List.length_set]
      exact this
  · rw [List.getElem?_set] at hi
    by_cases e : k = i
    · subst e
      rw [if_pos rfl, if_pos hk] at hi
      obtain rfl := Option.some.inj hi
      refine ⟨[x], rfl, fun j hj => ?_, x, rfl, keep hx⟩
      obtain rfl : j = 0 := by omega
      rw [show (k * 1 + 0) = k by omega, List.getElem?_set, if_pos rfl, if_pos (by omega)]
      rfl
    · rw [if_neg e] at hi
      obtain ⟨c, c1, c2, y, rfl, hy⟩ := h3 i m hi
      refine ⟨[y], rfl, fun j hj => ?_, y, rfl, keep hy⟩
      obtain rfl : j = 0 := by omega
      have := c2 0 (by omega)
      rw [show (i * 1 + 0) = i by omega] at this ⊢
      rw [List.getElem?_set, if_neg e]
      exact this
end
/-- a row one longer, of what it was made at -/
theorem lists_put {w wA w8 : World} {base : Nat} {u v' : Value} {L : List (List Int)} {y : List Int} (hA : ListsAt wA base u L) (hp1 : OwnsP (listP wA) 1 22 base w8 v' (L ++ [y])) (hg : wA.grownBy w8 u.ownBlock) (hB : Below base w wA) (hb : base ≤ wA.heap.size) : ListsAt w8 base v' (L ++ [y]) ∧ Below base w w8 :=
  ⟨OwnsP.imp hp1 fun _ _ _ o => listP_grown o (fun i hi => OwnsP.kind hA hi) hg (by decide), hB.grown hg hb fun j e => (OwnsP.lt hA j e).1⟩
theorem lists_all {w wA w8 : World} {base : Nat} {u v' : Value} {L L' : List (List Int)} (hA : ListsAt wA base u L) (hp1 : OwnsP (listP wA) 1 22 base w8 v' L') (hg : wA.grownBy w8 u.ownBlock) (hB : Below base w wA) (hb : base ≤ wA.heap.size) : ListsAt w8 base v' L' ∧ Below base w w8 :=
  ⟨OwnsP.imp hp1 fun _ _ _ o => listP_grown o (fun i hi => OwnsP.kind hA hi) hg (by decide), hB.grown hg hb fun j e => (OwnsP.lt hA j e).1⟩
theorem doms_put {w wA w8 : World} {base : Nat} {u v' : Value} {L : List (List Int × Nat)} {y : List Int × Nat} (hA : DomsAt wA base u L) (hp1 : OwnsP (domP wA) 2 66 base w8 v' (L ++ [y])) (hg : wA.grownBy w8 u.ownBlock) (hB : Below base w wA) (hb : base ≤ wA.heap.size) : DomsAt w8 base v' (L ++ [y]) ∧ Below base w w8 :=
  ⟨OwnsP.imp hp1 fun _ _ _ o => domP_grown o (fun i hi => OwnsP.kind hA hi) hg (by decide), hB.grown hg hb fun j e => (OwnsP.lt hA j e).1⟩
theorem one_cell (u : World) (x : Value) (t : TypeId) : ∀ (j : Nat) (v : Value), [x][j]? = some v → (u.alloc (.cells #[x] t)).cell? ⟨u.heap.size, j, none⟩ = some v := fun j v hj => by
  have hj0 : j = 0 := by
    have := (List.getElem?_eq_some_iff.1 hj).1
    simp at this
    omega
  subst hj0
  simp at hj
  subst hj
  simp
theorem two_cells (u : World) (x y : Value) (t : TypeId) : ∀ (j : Nat) (v : Value), [x, y][j]? = some v → (u.alloc (.cells #[x, y] t)).cell? ⟨u.heap.size, j, none⟩ = some v := fun j v hj => by
  match j, hj with
  | 0, hj =>
    simp at hj
    subst hj
    simp
  | 1, hj =>
    simp at hj
    subst hj
    simp
theorem new_below (u : World) (o : Obj) : Below u.heap.size u (u.alloc o) := (Below.refl _ u).alloc (Nat.le_refl _) o
/-- all of some rows behind others -/
theorem put_all {w : World} {ops : Array Oper} {rest : List Oper} {o : Oper} {a : Act} {Q : Exit → Act → World → Prop} {base : Nat} {v u : Value} {L M : List (List Int)} (hgd : o.guard = none) (s x : Operand) (ho : o.op = .call { callee := .builtin .append, args := #[s, x], argTypes := #[58, 58] }) (hs : a.eval s = v) (hx : a.eval x = u)
    (hown : OwnsP (listP w) 1 22 base w v L) (hu : ListsAt w 0 u M) (hsm : L.length + M.length ≤ 100000) (hbase : base ≤ w.heap.size)
    (h : ∀ p cap w', OwnsP (listP w) 1 22 base w' (.slice p (L.length + M.length) cap) (L ++ M) → w.grownBy w' v.ownBlock → wpList Tryd.prog ops Q rest (a.put o.dst (.slice p (L.length + M.length) cap)) w') : wpList Tryd.prog ops Q (o :: rest) a w := by
  obtain ⟨i0, hi, hz0, hz1, hz2⟩ := info_parts info22
  have hv := hown
  obtain ⟨os, o1, o2, o3⟩ := hown
  obtain ⟨us, u1, u2, u3⟩ := hu
  have u0 := u1
  have snoc : ∀ v' w', w'.ownsRow base 22 1 v' (L.length + M.length) (os ++ us) → OwnsP (listP w) 1 22 base w' v' (L ++ M) := fun v' w' g1 => by
    refine ⟨os ++ us, by rw [List.length_append]; exact g1, by rw [List.length_append, List.length_append, o2, u2, Nat.add_mul], fun k b hk => ?_⟩
    by_cases hlt : k < L.length
    · rw [List.getElem?_append_left hlt] at hk
      obtain ⟨d, d1, d2, d3⟩ := o3 k b hk
      exact ⟨d, d1, fun j hj => by rw [List.getElem?_append_left (by omega), d2 j hj], d3⟩
    · rw [List.getElem?_append_right (by omega)] at hk
      obtain ⟨d, d1, d2, d3⟩ := u3 (k - L.length) b hk
      exact ⟨d, d1, fun j hj => by rw [List.getElem?_append_right (by omega), ← d2 j hj]; congr 1; omega, d3⟩
  rcases u1.2 with ⟨rfl, hl⟩ | ⟨g, cap, cur, rfl, hb, hg, hn, hc, hs2, ht⟩
  · obtain rfl : M = [] := List.eq_nil_of_length_eq_zero hl
    obtain ⟨p, cap, rfl⟩ := OwnsP.shape hv
    refine wpList_append_own_none hgd s x 58 ho base 22 i0 1 Tryd.underlying58 hi _ L.length _ hs o1 hx ?_
    exact h p cap w (by rw [List.append_nil]; exact hv) ⟨rfl, rfl, rfl, Nat.le_refl _, fun _ _ _ => rfl⟩
  · rcases Nat.eq_zero_or_pos M.length with hz | hpos
    · obtain rfl : M = [] := List.eq_nil_of_length_eq_zero hz
      refine wpList_append_own w hgd s x 58 ho base 22 i0 (.slice none 0 0) 1 24 Tryd.underlying58 hi hz0 hz1 hz2 rfl (by decide) v L.length os hs o1 ⟨g, 0, none⟩ 0 cap [] hx (by simp) (fun j u hj => by simp at hj) (fun u hu => by simp at hu) (by unfold maxLen; omega) (by omega) hbase ?_
      intro v' w' h1 h2 _
      obtain rfl : us = [] := List.eq_nil_of_length_eq_zero (by simpa using u2)
      have hs3 := snoc v' w' h1
      obtain ⟨p, cap', e⟩ := OwnsP.shape hs3
      rw [List.length_append] at e
      subst e
      exact h p cap' w' hs3 h2
    refine wpList_append_lies w hgd s x 58 ho base 22 i0 (.slice none 0 0) 1 24 Tryd.underlying58 hi hz0 hz1 hz2 rfl (by decide) v L.length os hs o1 ⟨g, 0, none⟩ M.length cap us hx (by omega) (fun j y hj => ?_) (fun y hy => ?_) hpos (by unfold maxLen; omega) (by omega) hbase w.heap.size rfl (fun g' cap' w' g1 g2 g3 _ => h _ cap' w' (snoc _ _ g1) g2)
    · have hjl := (List.getElem?_eq_some_iff.1 hj).1
      rw [add_plain', Nat.zero_add, u0.cellAt j (by omega), hj]
    · obtain ⟨j, hj⟩ := List.getElem?_of_mem hy
      have hjl := (List.getElem?_eq_some_iff.1 hj).1
      obtain ⟨d, d1, d2, z, rfl, hz⟩ := u3 j _ (List.getElem?_eq_getElem (by omega : j < M.length))
      have := d2 0 (by omega)
      rw [show j * 1 + 0 = j by omega, hj] at this
      obtain rfl : y = z := by simpa using this
      obtain ⟨_, _, _, rfl, _, _⟩ := Dm.ints_shape hz
      rfl
/-- a number in a list that may be nil or of another's -/
theorem owns_reads {w : World} {base : Nat} {v : Value} {l : List Int} (h : Dm.OwnsI w base v l) : Dm.Reads w v l := Dm.reads_of_owns h
/-- one of the domains that came in -/
theorem dom_at {w : World} {b off len : Nat} {L : List (List Int × Nat)} {p : Option Addr} (h : SliceOf rDom 2 w p b off len L) {k : Nat} (hk : k < len) : ∃ u, w.cell? ⟨b, off + k * 2, none⟩ = some u ∧ w.cell? ⟨b, off + k * 2 + 1, none⟩ = some (.int .u64 (L.getD k ([], 0)).2) ∧ Dm.ReadsN w u (L.getD k ([], 0)).1 ∧ (L.getD k ([], 0)).2 < 18446744073709551616 ∧ (L.getD k ([], 0)).1.length ≤ maxLen := by
  have hk' : k < L.length := by have := h.long; omega
  obtain ⟨cs, h1, h2, u, rfl, h3, h4, h5⟩ := h.cell k _ (List.getElem?_eq_getElem hk')
  have e : L.getD k ([], 0) = L[k] := by simp [List.getD, List.getElem?_eq_getElem hk']
  rw [e]
  exact ⟨u, by have := h2 0 (by omega); simpa using this, by have := h2 1 (by omega); simpa using this, h3, h4, h5⟩
end Go.Proofs.YtiaibggbbkhjlaaDoor.St
