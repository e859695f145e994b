/-
  Lists of blocks and of variables that the law makes itself; models with another name, or without some of their goal's constraints. Nothing of the program.
-/
import Derived.Test.YthoakeekfajhaaaNNum
namespace Go.Proofs.Ythoakeekfajhaaa
open Go.RowKit

/-- v is a slice in memory from base on (elements of type e, of n cells each); what R says of each element's cells holds of L's -/
def OwnsP {α : Type} (R : List Value → α → Prop) (n : Nat) (e : TypeId) (base : Nat) (w : World) (v : Value) (L : List α) : Prop :=
  ∃ cs : List Value, w.ownsRow base e n v L.length cs ∧ cs.length = L.length * n ∧ ∀ (k : Nat) (a : α), L[k]? = some a → ∃ c : List Value, c.length = n ∧ (∀ j, j < n → cs[k * n + j]? = c[j]?) ∧ R c a
theorem ownsP_nil {α : Type} (R : List Value → α → Prop) (n : Nat) (e : TypeId) (base : Nat) (w : World) : OwnsP R n e base w (.slice none 0 0) ([] : List α) := ⟨[], World.ownsRow_nil _ _ _ _, by simp, fun k a h => by simp at h⟩
theorem ownsP_made {α : Type} (R : List Value → α → Prop) (n : Nat) (e : TypeId) {base : Nat} (w : World) (h : base ≤ w.heap.size) : OwnsP R n e base (w.alloc (.cells #[] e)) (.slice (some ⟨w.heap.size, 0, none⟩) 0 0) ([] : List α) :=
  ⟨[], World.ownsRow_made w #[] 0 h (by unfold maxLen; omega) (by simp), by simp, fun k a h => by simp at h⟩
section
variable {α : Type} {R : List Value → α → Prop} {n : Nat} {e : TypeId} {base : Nat} {w w' : World} {v : Value} {L : List α}
theorem OwnsP.shape (h : OwnsP R n e base w v L) : ∃ (p : Option Addr) (cap : Nat), v = .slice p L.length cap := by
  obtain ⟨cs, h1, _⟩ := h
  rcases h1.2 with ⟨rfl, hl⟩ | ⟨g, cap, cur, rfl, hb, hg, hn, hc, hs, ht⟩
  · exact ⟨none, 0, by rw [hl]⟩
  · exact ⟨_, cap, rfl⟩
theorem OwnsP.below (h : OwnsP R n e base w v L) (hB : Below w.heap.size w w') : OwnsP R n e base w' v L := by
  obtain ⟨cs, h1, h2⟩ := h
  exact ⟨cs, owns_below h1 hB, h2⟩
theorem OwnsP.lt (h : OwnsP R n e base w v L) : ∀ k, v.ownBlock = some k → base ≤ k ∧ k < w.heap.size := by
  obtain ⟨cs, h1, _⟩ := h
  exact h1.lt
theorem OwnsP.imp {R' : List Value → α → Prop} (h : OwnsP R n e base w v L) (f : ∀ c a, a ∈ L → R c a → R' c a) : OwnsP R' n e base w v L := by
  obtain ⟨cs, h1, h2, h3⟩ := h
  refine ⟨cs, h1, h2, fun k a ha => ?_⟩
  obtain ⟨c, c1, c2, c3⟩ := h3 k a ha
  exact ⟨c, c1, c2, f c a (List.mem_of_getElem? ha) c3⟩
theorem OwnsP.low {low : Nat} (h : OwnsP R n e base w v L) (hl : low ≤ base) : OwnsP R n e low w v L := by
  obtain ⟨cs, h1, h2⟩ := h
  exact ⟨cs, owns_low h1 hl, h2⟩
theorem OwnsP.kept {row : Option Nat} (h : OwnsP R n e base w v L) (hg : w.grownBy w' row) (hne : v.ownBlock = none ∨ v.ownBlock ≠ row) : OwnsP R n e base w' v L := by
  obtain ⟨cs, h1, h2⟩ := h
  exact ⟨cs, h1.kept hg hne, h2⟩
/-- such a list reads as it is -/
theorem OwnsP.slc {R' : Reader α} (h : OwnsP R n e base w v L) (f : ∀ c a, a ∈ L → R c a → R' w c a) : Slc R' n w v L := by
  obtain ⟨cs, h1, h2, h3⟩ := h
  have h0 := h1
  rcases h1.2 with ⟨rfl, hl⟩ | ⟨g, cap, cur, rfl, hb, hg, hn, hc, hs, ht⟩
  · exact ⟨none, 0, 0, 0, 0, rfl, ⟨fun _ => rfl, Nat.le_refl _⟩, hl.symm, fun h => by omega, fun k a ha => by
      have := (List.getElem?_eq_some_iff.1 ha).1
      omega⟩
  · refine ⟨_, g, 0, cap, L.length, rfl, ⟨(fun h => by cases h), hn⟩, rfl, fun _ => rfl, fun k a ha => ?_⟩
    have hk := (List.getElem?_eq_some_iff.1 ha).1
    obtain ⟨c, c1, c2, c3⟩ := h3 k a ha
    refine ⟨c, c1, fun j hj => ?_, f c a (List.mem_of_getElem? ha) c3⟩
    have hlt : k * n + j < L.length * n := by
      have := Nat.mul_le_mul_right n (Nat.succ_le_of_lt hk)
      rw [Nat.succ_mul] at this
      omega
    rw [Nat.zero_add, h0.cellAt (k * n + j) hlt, c2 j hj]
end
/-- lists of elements of unlike types lie in unlike blocks -/
theorem OwnsP.apart {α β : Type} {R : List Value → α → Prop} {S : List Value → β → Prop} {n m : Nat} {e f : TypeId} {b c : Nat} {w : World} {u v : Value} {L : List α} {M : List β} (h : OwnsP R n e b w u L) (k : OwnsP S m f c w v M) (hne : e ≠ f) : u.ownBlock = none ∨ u.ownBlock ≠ v.ownBlock := by
  obtain ⟨_, h1, _⟩ := h
  obtain ⟨_, k1, _⟩ := k
  rcases h1.2 with ⟨rfl, _⟩ | ⟨g, cap, cur, rfl, hb, hg, _⟩
  · exact .inl rfl
  · rcases k1.2 with ⟨rfl, _⟩ | ⟨g', cap', cur', rfl, hb', hg', _⟩
    · exact .inr (by simp [Value.ownBlock])
    · refine .inr fun he => hne ?_
      simp only [Value.ownBlock, Option.some.injEq] at he
      subst he
      rw [hg] at hg'
      simp only [Option.some.injEq, Obj.cells.injEq] at hg'
      exact hg'.2.1

/-- one element, laid out in cells of its own, behind a list -/
theorem append_one {α : Type} {R : List Value → α → Prop} {w : World} {ops : Array Oper} {rest : List Oper} {o : Oper} {a : Act} {Q : Exit → Act → World → Prop} (hgd : o.guard = none) (s x : Operand) (t e : TypeId) (n by_ : Nat) (i0 : TypeInfo) (z : Value)
    (ht : Try.prog.underlying t = some (.slice e)) (hi : Try.prog.info? e = some i0) (hz0 : i0.zero = some z) (hz1 : i0.size = n) (hz2 : i0.bytes = by_) (hzc : z.cells.size = n) (hpos : 0 < n) (hby2 : by_ ≤ 128)
    (ho : o.op = .call { callee := .builtin .append, args := #[s, x], argTypes := #[t, t] }) (base : Nat) (v : Value) (b c : Nat) (L : List α) (y : α) (cs : List Value) (hs : a.eval s = v) (hx : a.eval x = .slice (some ⟨b, 0, none⟩) 1 c)
    (hown : OwnsP R n e base w v L) (hlen : cs.length = n) (hcell : ∀ i u, cs[i]? = some u → w.cell? ⟨b, i, none⟩ = some u) (h1 : ∀ u ∈ cs, u.oneCell' = true) (hR : R cs y) (hsm : L.length ≤ 100000) (hbase : base ≤ w.heap.size)
    (h : ∀ v' w', OwnsP R n e base w' v' (L ++ [y]) → w.grownBy w' v.ownBlock → wpList Try.prog ops Q rest (a.put o.dst v') w') : wpList Try.prog ops Q (o :: rest) a w := by
  obtain ⟨os, o1, o2, o3⟩ := hown
  refine wpList_append_own w hgd s x t ho base e i0 z n by_ ht hi hz0 hz1 hz2 hzc hpos v L.length os hs o1 ⟨b, 0, none⟩ 1 c cs hx (by rw [hlen, Nat.one_mul]) (fun j u hj => by rw [add_plain', Nat.zero_add]; exact hcell j u hj) h1 (by unfold maxLen; omega) ?_ hbase ?_
  · have : (L.length + 1) * by_ ≤ 100001 * 128 := Nat.mul_le_mul (by omega) hby2
    omega
  · intro v' w' g1 g2 _
    refine h v' w' ⟨os ++ cs, ?_, ?_, fun k b' hk => ?_⟩ g2
    · rw [List.length_append]
      exact g1
    · rw [List.length_append, List.length_append, o2, hlen, Nat.add_mul]
      simp
    · by_cases hlt : k < L.length
      · rw [List.getElem?_append_left hlt] at hk
        obtain ⟨d, d1, d2, d3⟩ := o3 k b' hk
        refine ⟨d, d1, fun j hj => ?_, d3⟩
        have hl : k * n + j < os.length := by
          rw [o2]
          have := Nat.mul_le_mul_right n (Nat.succ_le_of_lt hlt)
          rw [Nat.succ_mul] at this
          omega
        rw [List.getElem?_append_left hl, d2 j hj]
      · rw [List.getElem?_append_right (by omega)] at hk
        have hk1 := (List.getElem?_eq_some_iff.1 hk).1
        obtain rfl : k = L.length := by simp at hk1; omega
        rw [Nat.sub_self] at hk
        obtain rfl : y = b' := by simpa using hk
        refine ⟨cs, hlen, fun j hj => ?_, hR⟩
        rw [List.getElem?_append_right (by rw [o2]; omega), o2, Nat.add_sub_cancel_left]

/-- what the cells of a block of the law's own are: its variables are a list of its own, of which names and spans read as in W0 -/
def blkO (W0 w : World) (cs : List Value) (b : PBlock) : Prop := ∃ v1 v2 : Value, cs = [.bool b.all, v1, v2] ∧ OwnsP (rDecl W0) 2 48 W0.heap.size w v1 b.vars ∧ Slc rCon 6 W0 v2 b.cons
theorem blkO_below {W0 w w' : World} {cs : List Value} {b : PBlock} (h : blkO W0 w cs b) (hB : Below w.heap.size w w') : blkO W0 w' cs b := by
  obtain ⟨v1, v2, h1, h2, h3⟩ := h
  exact ⟨v1, v2, h1, h2.below hB, h3⟩
theorem blocks_kept {α : Type} {R : List Value → α → Prop} {n base : Nat} {W0 w w' : World} {cs : List Value} {b : PBlock} {v : Value} {L : List α} (h : blkO W0 w cs b) (ho : OwnsP R n 45 base w v L) (hg : w.grownBy w' v.ownBlock) : blkO W0 w' cs b := by
  obtain ⟨v1, v2, h1, h2, h3⟩ := h
  exact ⟨v1, v2, h1, h2.kept hg (h2.apart ho (by decide)), h3⟩
theorem blocks_slc {base : Nat} {W0 w : World} {v : Value} {L : List PBlock} (h : OwnsP (blkO W0 w) 3 45 base w v L) (hB : Below W0.heap.size W0 w) : Slc rBlock 3 w v L :=
  h.slc fun _ _ _ ⟨v1, v2, h1, h2, h3⟩ => ⟨v1, v2, h1, h2.slc fun c d _ q => rDecl_stays W0 w c d hB q, h3.below rCon_stays hB⟩

/-- block g is a variable of three cells -/
def Box3 (w : World) (g : Nat) (e : TypeId) (v0 v1 v2 : Value) : Prop := w.heap[g]? = some (.cells #[v0, v1, v2] e)
theorem box3_new (w : World) (v0 v1 v2 : Value) (e : TypeId) : Box3 (w.alloc (.cells #[v0, v1, v2] e)) w.heap.size e v0 v1 v2 := heap_alloc_new w _
section
variable {w w' : World} {g : Nat} {e : TypeId} {v0 v1 v2 : Value}
theorem Box3.lt (h : Box3 w g e v0 v1 v2) : g < w.heap.size := (Array.getElem?_eq_some_iff.1 h).1
theorem Box3.c0 (h : Box3 w g e v0 v1 v2) : w.cell? ⟨g, 0, none⟩ = some v0 := cell_in h 0 rfl
theorem Box3.c1 (h : Box3 w g e v0 v1 v2) : w.cell? ⟨g, 1, none⟩ = some v1 := cell_in h 1 rfl
theorem Box3.c2 (h : Box3 w g e v0 v1 v2) : w.cell? ⟨g, 2, none⟩ = some v2 := cell_in h 2 rfl
theorem Box3.f1 (h : Box3 w g e v0 v1 v2) : w.frozen? ⟨g, 1, none⟩ = false := frozen_in h 1
theorem Box3.below (h : Box3 w g e v0 v1 v2) (hB : Below w.heap.size w w') : Box3 w' g e v0 v1 v2 := (hB.block g h.lt).trans h
theorem Box3.grown {row : Option Nat} (h : Box3 w g e v0 v1 v2) (hg : w.grownBy w' row) (hne : some g ≠ row) : Box3 w' g e v0 v1 v2 := (hg.block g h.lt hne).trans h
theorem Box3.apart {α : Type} {R : List Value → α → Prop} {n base : Nat} {f : TypeId} {v : Value} {L : List α} (h : Box3 w g e v0 v1 v2) (ho : OwnsP R n f base w v L) (hne : e ≠ f) : some g ≠ v.ownBlock := by
  intro he
  obtain ⟨_, k1, _⟩ := ho
  rcases k1.2 with ⟨rfl, _⟩ | ⟨g', cap', cur', rfl, hb', hg', _⟩
  · simp [Value.ownBlock] at he
  · simp only [Value.ownBlock, Option.some.injEq] at he
    subst he
    unfold Box3 at h
    rw [h] at hg'
    simp only [Option.some.injEq, Obj.cells.injEq] at hg'
    exact hne hg'.2.1
theorem Box3.set1 (h : Box3 w g e v0 v1 v2) (v : Value) : Box3 (w.setCell ⟨g, 1, none⟩ v) g e v0 v v2 := by
  unfold Box3 at h ⊢
  simp only [World.setCell, Array.getElem?_modify, h]
  rfl
end
theorem set_grown (w : World) (p : Addr) (v : Value) : w.grownBy (w.setCell p v) (some p.block) :=
  ⟨rfl, rfl, rfl, by simp [World.setCell], fun k _ hne => Below.heap_setCell _ _ _ _ (fun e => hne (by rw [e]))⟩

-- names
def renV (n a : Nat) (nm : List UInt8) : List PDecl → List PDecl
  | [] => []
  | d :: r => (if n = a then ⟨nm, d.dom⟩ else d) :: renV (n + 1) a nm r
def renB (n a : Nat) (nm : List UInt8) : List PBlock → List PBlock
  | [] => []
  | x :: r => ⟨x.all, renV n a nm x.vars, x.cons⟩ :: renB (n + x.vars.length) a nm r
theorem renV_length {n a : Nat} {nm : List UInt8} (L : List PDecl) : (renV n a nm L).length = L.length := by
  induction L generalizing n with
  | nil => rfl
  | cons d r ih => rw [renV, List.length_cons, ih, List.length_cons]
theorem renB_length {n a : Nat} {nm : List UInt8} (L : List PBlock) : (renB n a nm L).length = L.length := by
  induction L generalizing n with
  | nil => rfl
  | cons d r ih => rw [renB, List.length_cons, ih, List.length_cons]
theorem renV_append {n a : Nat} {nm : List UInt8} (xs ys : List PDecl) : renV n a nm (xs ++ ys) = renV n a nm xs ++ renV (n + xs.length) a nm ys := by
  induction xs generalizing n with
  | nil => simp [renV]
  | cons d r ih =>
    rw [List.cons_append, renV, renV, ih, List.cons_append, List.length_cons]
    congr 3
    omega
theorem varsL_cons (x : PBlock) (r : List PBlock) : varsL (x :: r) = x.vars ++ varsL r := by simp [varsL]
theorem varsL_append (xs ys : List PBlock) : varsL (xs ++ ys) = varsL xs ++ varsL ys := by simp [varsL]
theorem renB_append {n a : Nat} {nm : List UInt8} (xs ys : List PBlock) : renB n a nm (xs ++ ys) = renB n a nm xs ++ renB (n + (varsL xs).length) a nm ys := by
  induction xs generalizing n with
  | nil => simp [renB, varsL]
  | cons d r ih =>
    rw [List.cons_append, renB, renB, ih, List.cons_append, varsL_cons, List.length_append]
    congr 3
    omega
theorem renV_next {n a : Nat} {nm : List UInt8} {L : List PDecl} {j : Nat} {d : PDecl} (h : L[j]? = some d) : renV n a nm (L.take (j + 1)) = renV n a nm (L.take j) ++ [if n + j = a then ⟨nm, d.dom⟩ else d] := by
  have hj := (List.getElem?_eq_some_iff.1 h).1
  rw [take_next h, renV_append, List.length_take, Nat.min_eq_left (by omega)]
  rfl
theorem renB_next {a : Nat} {nm : List UInt8} {bs : List PBlock} {k : Nat} {x : PBlock} (h : bs[k]? = some x) : renB 0 a nm (bs.take (k + 1)) = renB 0 a nm (bs.take k) ++ [⟨x.all, renV (varsL (bs.take k)).length a nm x.vars, x.cons⟩] := by
  rw [take_next h, renB_append, Nat.zero_add]
  rfl
theorem vars_renB {n a : Nat} {nm : List UInt8} (bs : List PBlock) : varsL (renB n a nm bs) = renV n a nm (varsL bs) := by
  induction bs generalizing n with
  | nil => rfl
  | cons x r ih => rw [renB, varsL_cons, ih, varsL_cons, renV_append]
theorem renV_get {n a : Nat} {nm : List UInt8} (L : List PDecl) (k : Nat) : (renV n a nm L)[k]? = (L[k]?).map (fun d => if n + k = a then ⟨nm, d.dom⟩ else d) := by
  induction L generalizing n k with
  | nil => simp [renV]
  | cons d r ih =>
    cases k with
    | zero => simp [renV]
    | succ k =>
      rw [renV, List.getElem?_cons_succ, ih, List.getElem?_cons_succ]
      congr 1
      funext d
      rw [show n + 1 + k = n + (k + 1) from by omega]
theorem renV_mem {n a : Nat} {nm : List UInt8} {L : List PDecl} {d : PDecl} (h : d ∈ renV n a nm L) : ∃ d' ∈ L, d.dom = d'.dom ∧ (d.name = d'.name ∨ d.name = nm) := by
  obtain ⟨k, hk⟩ := List.mem_iff_getElem?.1 h
  rw [renV_get] at hk
  obtain ⟨d', h1, h2⟩ := Option.map_eq_some_iff.1 hk
  refine ⟨d', List.mem_of_getElem? h1, ?_⟩
  subst h2
  split
  · exact ⟨rfl, .inr rfl⟩
  · exact ⟨rfl, .inl rfl⟩
theorem renB_mem {n a : Nat} {nm : List UInt8} {bs : List PBlock} {b : PBlock} (h : b ∈ renB n a nm bs) : ∃ x ∈ bs, ∃ k, b = ⟨x.all, renV k a nm x.vars, x.cons⟩ := by
  induction bs generalizing n with
  | nil => simp [renB] at h
  | cons x r ih =>
    rw [renB, List.mem_cons] at h
    rcases h with rfl | h
    · exact ⟨x, by simp, n, rfl⟩
    · obtain ⟨y, hy, k, e⟩ := ih h
      exact ⟨y, by simp [hy], k, e⟩
theorem renB_any {a : Nat} {nm : List UInt8} (f : PBlock → Bool) (hf : ∀ k x, f ⟨x.all, renV k a nm x.vars, x.cons⟩ = f x) (n : Nat) (bs : List PBlock) : (renB n a nm bs).any f = bs.any f := by
  induction bs generalizing n with
  | nil => rfl
  | cons x r ih => rw [renB, List.any_cons, List.any_cons, hf, ih]
theorem check_ren {m : PModel} {a b : Nat} {d : PDecl} (h : checkM m = 0) (ha : a < (varsL m.blocks).length) (hb : (varsL m.blocks)[b]? = some d) (hab : a ≠ b) : checkM ⟨renB 0 a d.name m.blocks, m.goal⟩ = 8 := by
  obtain ⟨h1, h2, h3, h4, h5, h6⟩ := check_ok h
  have hbl := (List.getElem?_eq_some_iff.1 hb).1
  have g1 : bigM ⟨renB 0 a d.name m.blocks, m.goal⟩ = false := by
    rw [← h1]
    simp only [bigM]
    rw [renB_length, vars_renB, renV_length, renB_any (fun b => decide (16 < b.cons.length)) (fun _ _ => rfl)]
  have g2 : formM ⟨renB 0 a d.name m.blocks, m.goal⟩ = false := by
    rw [← h2]
    simp only [formM]
    rw [renB_length, renB_any (fun b => decide (b.vars.length = 0)) (fun _ _ => by simp only [renV_length])]
  have g3 : nameM ⟨renB 0 a d.name m.blocks, m.goal⟩ = false := by
    unfold nameM at h3 ⊢
    rw [vars_renB, List.any_eq_false]
    intro x hx
    obtain ⟨y, hy, _, hn⟩ := renV_mem hx
    have hy2 := List.any_eq_false.1 h3 y hy
    have hd2 := List.any_eq_false.1 h3 d (List.mem_of_getElem? hb)
    rcases hn with e | e
    · rw [e]; exact hy2
    · rw [e]; exact hd2
  have hga : (names (renV 0 a d.name (varsL m.blocks))).getD a [] = d.name := by
    have : (varsL m.blocks)[a]? = some ((varsL m.blocks)[a]) := List.getElem?_eq_getElem ha
    exact names_get (d := ⟨d.name, ((varsL m.blocks)[a]).dom⟩) (by rw [renV_get, this]; simp)
  have hgb : (names (renV 0 a d.name (varsL m.blocks))).getD b [] = d.name :=
    names_get (d := d) (by rw [renV_get, hb]; simp [Ne.symm hab])
  have hlen : (names (renV 0 a d.name (varsL m.blocks))).length = (varsL m.blocks).length := by rw [names_len, renV_length]
  have g4 : twiceM ⟨renB 0 a d.name m.blocks, m.goal⟩ = true := by
    refine twice_true (L := renV 0 a d.name (varsL m.blocks)) (vars_renB _).symm ?_
    rw [hlen]
    rcases Nat.lt_or_gt_of_ne hab with q | q
    · exact twice_yes q hbl (by rw [hga, hgb])
    · exact twice_yes q ha (by rw [hga, hgb])
  simp [checkM, faultsM, firstF, g1, g2, g3, g4]
theorem Few.ren {m : PModel} {nm : List UInt8} (h : Few m) (a : Nat) (hn : nm.length ≤ 100) : Few ⟨renB 0 a nm m.blocks, m.goal⟩ := by
  refine ⟨by rw [renB_length]; exact h.blocks, fun b hb => ?_, fun b hb => ?_, h.goal, fun b hb d hd => ?_⟩
  · obtain ⟨x, hx, k, rfl⟩ := renB_mem hb
    rw [renV_length]
    exact h.vars x hx
  · obtain ⟨x, hx, k, rfl⟩ := renB_mem hb
    exact h.wheres x hx
  · obtain ⟨x, hx, k, rfl⟩ := renB_mem hb
    obtain ⟨d', hd', e1, e2⟩ := renV_mem hd
    have := h.decls x hx d' hd'
    rw [e1]
    rcases e2 with e2 | e2
    · rw [e2]; exact this
    · rw [e2]; exact ⟨hn, this.2⟩

theorem check_less {m : PModel} (h : checkM m = 0) (q : Nat) : checkM ⟨m.blocks, m.goal.take q⟩ = 0 := by
  obtain ⟨h1, h2, h3, h4, h5, h6⟩ := check_ok h
  obtain ⟨k1, k2, k3, k4⟩ := big_ok h1
  have g1 : bigM ⟨m.blocks, m.goal.take q⟩ = false := by
    have hb : m.blocks.any (fun b => decide (16 < b.cons.length)) = false := List.any_eq_false.2 fun b hb => by
      have := k3 b hb
      simp; omega
    have hl : (m.goal.take q).length ≤ m.goal.length := List.length_take_le' _ _
    unfold bigM
    show (decide (8 < m.blocks.length) || (decide (16 < (m.goal.take q).length) || (m.blocks.any (fun b => decide (16 < b.cons.length)) || decide (16 < (varsL m.blocks).length)))) = false
    rw [decide_eq_false (show ¬ 8 < m.blocks.length by omega), decide_eq_false (show ¬ 16 < (m.goal.take q).length by omega), hb, decide_eq_false (show ¬ 16 < (varsL m.blocks).length by omega)]
    rfl
  have g6 : conM ⟨m.blocks, m.goal.take q⟩ = false := by
    unfold conM at h6 ⊢
    rw [Bool.or_eq_false_iff] at h6 ⊢
    refine ⟨h6.1, List.any_eq_false.2 fun c hc => List.any_eq_false.1 h6.2 c (List.mem_of_mem_take hc)⟩
  have g2 : formM ⟨m.blocks, m.goal.take q⟩ = false := h2
  have g3 : nameM ⟨m.blocks, m.goal.take q⟩ = false := h3
  have g4 : twiceM ⟨m.blocks, m.goal.take q⟩ = false := h4
  have g5 : domM ⟨m.blocks, m.goal.take q⟩ = false := h5
  simp [checkM, faultsM, firstF, g1, g2, g3, g4, g5, g6]
theorem Few.less {m : PModel} (h : Few m) (q : Nat) : Few ⟨m.blocks, m.goal.take q⟩ :=
  ⟨h.blocks, h.vars, h.wheres, ⟨Nat.le_trans (List.length_take_le' _ _) h.goal.1, fun c hc => h.goal.2 c (List.mem_of_mem_take hc)⟩, h.decls⟩
theorem right_goal {m : PModel} {d : PCon} (h : checkM m = 0) (hd : d ∈ m.goal) : rightC d (((varsL m.blocks).length : Nat) : Int) = true := by
  obtain ⟨_, _, _, _, _, h6⟩ := check_ok h
  unfold conM at h6
  rw [Bool.or_eq_false_iff] at h6
  have := List.any_eq_false.1 h6.2 d hd
  simpa using this
theorem right_up {c : PCon} {n k : Int} (h : rightC c n = true) (hk : n ≤ k) : rightC c k = true := by
  have hv : VarsTo c.vars n c.vars.length := Classical.byContradiction fun hv => by rw [right_bad hv] at h; cases h
  have hv2 : VarsTo c.vars k c.vars.length := fun i hi => ⟨⟨(hv i hi).1.1, by have := (hv i hi).1.2; omega⟩, (hv i hi).2⟩
  rw [right_on hv] at h
  rw [right_on hv2]
  exact h
theorem vars_some {m : PModel} (h : checkM m = 0) : 1 ≤ (varsL m.blocks).length := by
  obtain ⟨_, h2, _⟩ := check_ok h
  simp only [formM, Bool.or_eq_false_iff, decide_eq_false_iff_not, List.any_eq_false] at h2
  cases hb : m.blocks with
  | nil => rw [hb] at h2; simp at h2
  | cons x r =>
    have := h2.2 x (by rw [hb]; simp)
    rw [varsL_cons, List.length_append]
    simp at this
    have : x.vars.length ≠ 0 := fun e => this (List.eq_nil_of_length_eq_zero e)
    omega
end Go.Proofs.Ythoakeekfajhaaa
