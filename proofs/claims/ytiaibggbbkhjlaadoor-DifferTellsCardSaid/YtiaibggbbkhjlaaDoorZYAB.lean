/-
  What Ends and Vars of the document's answers answer, at every model that can be read.
  Lists of data that a call makes, element by element; a list behind another one. Nothing of the program.
-/
import Derived.Test.YtiaibggbbkhjlaaDoorZYAA
import Derived.Laws.AppendOwnNone
namespace Go.Proofs.YtiaibggbbkhjlaaDoor
open Go.RowKit
set_option maxRecDepth 100000

/-- the model value is that of m, its lists no longer than some -/
structure Mod (w : World) (pb : Option Addr) (bb ob cb lb : Nat) (gv : Value) (m : PModel) : Prop where
  blocks : SliceOf rBlock 3 w pb bb ob lb m.blocks
  goal : Slc rCon 6 w gv m.goal
theorem mod_of {w : World} {bv gv : Value} {m : PModel} (h : rModel w [bv, gv] m) : ∃ (pb : Option Addr) (bb ob cb lb : Nat), bv = .slice pb lb cb ∧ Mod w pb bb ob cb lb gv m := by
  obtain ⟨v1, v2, h1, ⟨p, b, off, c, len, h2, _, h3⟩, h4⟩ := h
  simp only [List.cons.injEq, and_true] at h1
  obtain ⟨rfl, rfl⟩ := h1
  exact ⟨p, b, off, c, len, h2, h3, h4⟩
theorem Mod.below {w w' : World} {pb : Option Addr} {bb ob cb lb : Nat} {gv : Value} {m : PModel} (h : Mod w pb bb ob cb lb gv m) (hB : Below w.heap.size w w') : Mod w' pb bb ob cb lb gv m :=
  ⟨h.blocks.below rBlock_stays hB, h.goal.below rCon_stays hB⟩

/-- block number k of a model in memory -/
theorem block_at {w : World} {p : Option Addr} {b off len : Nat} {L : List PBlock} (h : SliceOf rBlock 3 w p b off len L) {k : Nat} (hk : k < len) :
    ∃ (x : PBlock) (v1 v2 : Value), L[k]? = some x ∧ L.drop k = x :: L.drop (k + 1) ∧ w.cell? ⟨b, off + k * 3, none⟩ = some (.bool x.all) ∧ w.cell? ⟨b, off + k * 3 + 1, none⟩ = some v1 ∧ w.cell? ⟨b, off + k * 3 + 2, none⟩ = some v2 ∧ Slc rDecl 2 w v1 x.vars ∧ Slc rCon 6 w v2 x.cons := by
  have hx : k < L.length := by rw [← h.long]; exact hk
  have e : L[k]? = some L[k] := List.getElem?_eq_getElem hx
  obtain ⟨cs, h1, h2, v1, v2, h3, h4, h5⟩ := h.cell k _ e
  subst h3
  exact ⟨L[k], v1, v2, e, List.drop_eq_getElem_cons hx, h2 0 (by omega), h2 1 (by omega), h2 2 (by omega), h4, h5⟩

/-- the numbers own memory from base on -/
def OwnsI (w : World) (base : Nat) (v : Value) (xs : List Int) : Prop := w.ownsRow base 3 1 v xs.length (xs.map (Value.int .i64))
theorem ints_shape {w : World} {base : Nat} {v : Value} {xs : List Int} (h : OwnsI w base v xs) : ∃ (p : Option Addr) (cap : Nat), v = .slice p xs.length cap := by
  rcases h.2 with ⟨rfl, h1⟩ | ⟨g, cap, cur, rfl, hb, hg, hn, hc, hs, ht⟩
  · exact ⟨none, 0, by rw [h1]⟩
  · exact ⟨_, cap, rfl⟩
theorem owns_low {w : World} {base low : Nat} {e : TypeId} {size n : Nat} {v : Value} {xs : List Value} (h : w.ownsRow base e size v n xs) (hl : low ≤ base) : w.ownsRow low e size v n xs := by
  refine ⟨h.1, ?_⟩
  rcases h.2 with h1 | ⟨g, cap, cur, h1, h2, h3⟩
  · exact .inl h1
  · exact .inr ⟨g, cap, cur, h1, by omega, h3⟩
theorem owns_below {w wr : World} {base : Nat} {e : TypeId} {size n : Nat} {v : Value} {xs : List Value} (h : w.ownsRow base e size v n xs) (hb : Below w.heap.size w wr) : wr.ownsRow base e size v n xs := by
  refine ⟨h.1, ?_⟩
  rcases h.2 with h1 | ⟨g, cap, cur, h1, h2, h3, h4⟩
  · exact .inl h1
  · exact .inr ⟨g, cap, cur, h1, h2, (hb.block g (Array.getElem?_eq_some_iff.1 h3).1).trans h3, h4⟩
theorem info3 : (Tryd.prog.info? 3).map (fun i => (i.zero, i.size, i.bytes)) = some (some (.int .i64 0), 1, 8) := by kernel_rfl
theorem cells_one (w : World) (u : Value) (t : TypeId) : ∀ j v, [u][j]? = some v → (w.alloc (.cells #[u] t)).cell? ((⟨w.heap.size, 0, none⟩ : Addr).add j) = some v := cell_one_new w u t

/-- of each block, how many variables stand up to its end -/
def endsF (n : Nat) : List PBlock → List Int
  | [] => []
  | x :: r => ((n + x.vars.length : Nat) : Int) :: endsF (n + x.vars.length) r
def varsL (bs : List PBlock) : List PDecl := bs.flatMap (·.vars)
theorem ends_length : ∀ (bs : List PBlock) (n : Nat), (endsF n bs).length = bs.length
  | [], _ => rfl
  | x :: r, n => by rw [endsF, List.length_cons, ends_length r, List.length_cons]
/-- how far Ends has come -/
def EndsRel (bs : List PBlock) (k n : Nat) (xs : List Int) : Prop := endsF 0 bs = xs ++ endsF n (bs.drop k) ∧ xs.length = k ∧ n ≤ k * 1000
theorem ends_start (bs : List PBlock) : EndsRel bs 0 0 [] := ⟨by simp, rfl, by omega⟩
theorem ends_next {bs : List PBlock} {k n : Nat} {xs : List Int} {x : PBlock} (h : EndsRel bs k n xs) (e : bs.drop k = x :: bs.drop (k + 1)) (hx : x.vars.length ≤ 1000) : EndsRel bs (k + 1) (n + x.vars.length) (xs ++ [((n + x.vars.length : Nat) : Int)]) := by
  obtain ⟨h1, h2, h3⟩ := h
  refine ⟨?_, by simp [h2], by omega⟩
  rw [h1, e, endsF]
  simp

end Go.Proofs.YtiaibggbbkhjlaaDoor
namespace Go.Proofs.YtiaibggbbkhjlaaDoor
open Go.RowKit
set_option maxRecDepth 100000

/-- v is a slice in memory behind W0 (elements of type e, of n cells), whose elements read as L in W0 -/
def OwnsOf {α : Type} (R : Reader α) (n : Nat) (e : TypeId) (W0 w : World) (v : Value) (L : List α) : Prop :=
  ∃ cs : List Value, w.ownsRow W0.heap.size e n v L.length cs ∧ cs.length = L.length * n ∧ ∀ (k : Nat) (a : α), L[k]? = some a → ∃ c : List Value, c.length = n ∧ (∀ j, j < n → cs[k * n + j]? = c[j]?) ∧ R W0 c a
theorem ownsOf_nil {α : Type} (R : Reader α) (n : Nat) (e : TypeId) (W0 w : World) : OwnsOf R n e W0 w (.slice none 0 0) ([] : List α) := ⟨[], World.ownsRow_nil _ _ _ _, by simp, fun k a h => by simp at h⟩
theorem ownsOf_made {α : Type} (R : Reader α) (n : Nat) (e : TypeId) (W0 w : World) (h : W0.heap.size ≤ w.heap.size) : OwnsOf R n e W0 (w.alloc (.cells #[] e)) (.slice (some ⟨w.heap.size, 0, none⟩) 0 0) ([] : List α) :=
  ⟨[], World.ownsRow_made w #[] 0 h (by unfold maxLen; omega) (by simp), by simp, fun k a h => by simp at h⟩
theorem OwnsOf.shape {α : Type} {R : Reader α} {n : Nat} {e : TypeId} {W0 w : World} {v : Value} {L : List α} (h : OwnsOf R n e W0 w v L) : ∃ (p : Option Addr) (cap : Nat), v = .slice p L.length cap := by
  obtain ⟨cs, h1, _⟩ := h
  rcases h1.2 with ⟨rfl, hl⟩ | ⟨g, cap, cur, rfl, hb, hg, hn, hc, hs, ht⟩
  · exact ⟨none, 0, by rw [hl]⟩
  · exact ⟨_, cap, rfl⟩
theorem OwnsOf.below {α : Type} {R : Reader α} {n : Nat} {e : TypeId} {W0 w w' : World} {v : Value} {L : List α} (h : OwnsOf R n e W0 w v L) (hB : Below w.heap.size w w') : OwnsOf R n e W0 w' v L := by
  obtain ⟨cs, h1, h2⟩ := h
  exact ⟨cs, owns_below h1 hB, h2⟩
theorem OwnsOf.lt {α : Type} {R : Reader α} {n : Nat} {e : TypeId} {W0 w : World} {v : Value} {L : List α} (h : OwnsOf R n e W0 w v L) : ∀ k, v.ownBlock = some k → W0.heap.size ≤ k ∧ k < w.heap.size := by
  obtain ⟨cs, h1, _⟩ := h
  exact h1.lt
/-- such a list reads as it is -/
theorem OwnsOf.slc {α : Type} {R : Reader α} (hR : R.Stays) {n : Nat} {e : TypeId} {W0 w : World} {v : Value} {L : List α} (h : OwnsOf R n e W0 w v L) (hB : Below W0.heap.size W0 w) : Slc R n w v L := by
  obtain ⟨cs, h1, h2, h3⟩ := h
  have h0 := h1
  rcases h1.2 with ⟨rfl, hl⟩ | ⟨g, cap, cur, rfl, hb, hg, hn, hc, hs, ht⟩
  · exact ⟨none, 0, 0, 0, 0, rfl, ⟨fun _ => rfl, Nat.le_refl _⟩, hl.symm, fun h => by omega, fun k a ha => by
      have := (List.getElem?_eq_some_iff.1 ha).1
      omega⟩
  · refine ⟨_, g, 0, cap, L.length, rfl, ⟨(fun h => by cases h), hn⟩, rfl, fun _ => rfl, fun k a ha => ?_⟩
    have hk := (List.getElem?_eq_some_iff.1 ha).1
    obtain ⟨c, c1, c2, c3⟩ := h3 k a ha
    refine ⟨c, c1, fun j hj => ?_, hR W0 w c a hB c3⟩
    have hlt : k * n + j < L.length * n := by
      have := Nat.mul_le_mul_right n (Nat.succ_le_of_lt hk)
      rw [Nat.succ_mul] at this
      omega
    rw [Nat.zero_add, h0.cellAt (k * n + j) hlt, c2 j hj]

/-- an element's cells are one cell each -/
def Reader.One {α : Type} (R : Reader α) : Prop := ∀ (w : World) (cs : List Value) (a : α), R w cs a → ∀ u ∈ cs, u.oneCell' = true

/-- the cells of a slice that can be read, as a list -/
theorem cells_list {α : Type} {R : Reader α} {n : Nat} {w : World} {p : Option Addr} {b off len : Nat} {M : List α} (h : SliceOf R n w p b off len M) (h1 : R.One) :
    ∃ cs : List Value, cs.length = len * n ∧ (∀ j u, cs[j]? = some u → w.cell? ⟨b, off + j, none⟩ = some u) ∧ (∀ u ∈ cs, u.oneCell' = true) ∧
      ∀ (k : Nat) (a : α), M[k]? = some a → ∃ c : List Value, c.length = n ∧ (∀ j, j < n → cs[k * n + j]? = c[j]?) ∧ R w c a := by
  have hall : ∀ j, j < len * n → ∃ u, w.cell? ⟨b, off + j, none⟩ = some u ∧ u.oneCell' = true := fun j hj => by
    have hn : 0 < n := Nat.pos_of_ne_zero fun e => by subst e; simp at hj
    have hk : j / n < len := Nat.div_lt_of_lt_mul (by rw [Nat.mul_comm]; exact hj)
    have hkM : j / n < M.length := by rw [← h.long]; exact hk
    obtain ⟨c, c1, c2, c3⟩ := h.cell (j / n) _ (List.getElem?_eq_getElem hkM)
    have hm := Nat.mod_lt j hn
    have e := c2 (j % n) hm
    have e2 : off + j / n * n + j % n = off + j := by
      have := Nat.div_add_mod j n
      rw [Nat.mul_comm] at this
      omega
    rw [e2, List.getElem?_eq_getElem (by omega)] at e
    exact ⟨_, e, h1 _ _ _ c3 _ (List.getElem_mem _)⟩
  refine ⟨(List.range (len * n)).map fun j => (w.cell? ⟨b, off + j, none⟩).getD (.int .i64 0), by simp, fun j u hj => ?_, fun u hu => ?_, fun k a ha => ?_⟩
  · have hl : j < len * n := by simpa using (List.getElem?_eq_some_iff.1 hj).1
    obtain ⟨v, hv, _⟩ := hall j hl
    simp [hl, hv] at hj
    rw [hv, hj]
  · obtain ⟨j, hj, rfl⟩ := List.mem_map.1 hu
    obtain ⟨v, hv, ho⟩ := hall j (List.mem_range.1 hj)
    rw [hv]
    exact ho
  · obtain ⟨c, c1, c2, c3⟩ := h.cell k a ha
    refine ⟨c, c1, fun j hj => ?_, c3⟩
    have hk : k < len := by
      have := (List.getElem?_eq_some_iff.1 ha).1
      rw [h.long]; exact this
    have hlt : k * n + j < len * n := by
      have := Nat.mul_le_mul_right n (Nat.succ_le_of_lt hk)
      rw [Nat.succ_mul] at this
      omega
    have e := c2 j hj
    have hc : c[j]? = some c[j] := List.getElem?_eq_getElem (by omega)
    rw [hc, Nat.add_assoc] at e
    rw [hc]
    simp [hlt, e]
theorem add_plain' (b off j : Nat) : (⟨b, off, none⟩ : Addr).add j = ⟨b, off + j, none⟩ := by
  unfold Addr.add
  split <;> simp_all

/-- the cells of two lists, one behind the other, read as both -/
def OwnsRowNews {α : Type} (cs ms : List Value) (L M : List α) (n : Nat) (R : Reader α) (W0 : World) : Prop :=
  ∀ (k : Nat) (a : α), (L ++ M)[k]? = some a → ∃ c : List Value, c.length = n ∧ (∀ j, j < n → (cs ++ ms)[k * n + j]? = c[j]?) ∧ R W0 c a

/-- a list that came in, behind one that the call makes -/
theorem append_of {α : Type} {R : Reader α} (hR : R.One) {w W0 : World} {ops : Array Oper} {rest : List Oper} {o : Oper} {a : Act} {Q : Exit → Act → World → Prop} (hgd : o.guard = none) (s x : Operand) (t e : TypeId) (n by_ : Nat) (i0 : TypeInfo) (z : Value)
    (ht : Tryd.prog.underlying t = some (.slice e)) (hi : Tryd.prog.info? e = some i0) (hz0 : i0.zero = some z) (hz1 : i0.size = n) (hz2 : i0.bytes = by_) (hzc : z.cells.size = n) (hpos : 0 < n) (hby2 : by_ ≤ 128)
    (ho : o.op = .call { callee := .builtin .append, args := #[s, x], argTypes := #[t, t] }) (v : Value) (p : Option Addr) (b off c len : Nat) (L M : List α) (hs : a.eval s = v) (hx : a.eval x = .slice p len c)
    (hown : OwnsOf R n e W0 w v L) (hM : SliceOf R n W0 p b off len M) (hp : p = none → c = 0) (hB : Below W0.heap.size W0 w) (hlen : L.length + len ≤ 1000000) (hbase : W0.heap.size ≤ w.heap.size)
    (h : ∀ v' w', OwnsOf R n e W0 w' v' (L ++ M) → w.grownBy w' v.ownBlock → wpList Tryd.prog ops Q rest (a.put o.dst v') w') : wpList Tryd.prog ops Q (o :: rest) a w := by
  have hML : M.length = len := hM.long.symm
  obtain ⟨cs, h1, h2, h3⟩ := hown
  obtain ⟨ms, m1, m2, m3, m4⟩ := cells_list hM hR
  have hnew : OwnsRowNews cs ms L M n R W0 := fun k a ha => by
    by_cases hk : k < L.length
    · rw [List.getElem?_append_left hk] at ha
      obtain ⟨c, c1, c2, c3⟩ := h3 k a ha
      refine ⟨c, c1, fun j hj => ?_, c3⟩
      have hlt : k * n + j < cs.length := by
        rw [h2]
        have := Nat.mul_le_mul_right n (Nat.succ_le_of_lt hk)
        rw [Nat.succ_mul] at this
        omega
      rw [List.getElem?_append_left hlt, c2 j hj]
    · rw [List.getElem?_append_right (by omega)] at ha
      obtain ⟨c, c1, c2, c3⟩ := m4 _ a ha
      refine ⟨c, c1, fun j hj => ?_, c3⟩
      have hge : L.length * n ≤ k * n := Nat.mul_le_mul_right n (by omega)
      rw [List.getElem?_append_right (by rw [h2]; omega), ← c2 j hj]
      congr 1
      rw [h2, Nat.sub_mul]
      omega
  by_cases h0 : len = 0
  · have hM0 : M = [] := List.eq_nil_of_length_eq_zero (by omega)
    have hms0 : ms = [] := List.eq_nil_of_length_eq_zero (by rw [m1, h0]; simp)
    subst hM0
    cases p with
    | none =>
      obtain rfl := hp rfl
      subst h0
      refine wpList_append_own_none hgd s x t ho W0.heap.size e i0 n ht hi v L.length cs hs h1 hx ?_
      exact h v w ⟨cs, by rw [List.append_nil]; exact h1, by rw [List.append_nil]; exact h2, by rw [List.append_nil]; exact h3⟩ ⟨rfl, rfl, rfl, Nat.le_refl _, fun _ _ _ => rfl⟩
    | some ad =>
      subst h0
      refine wpList_append_own w hgd s x t ho W0.heap.size e i0 z n by_ ht hi hz0 hz1 hz2 hzc hpos v L.length cs hs h1 ad 0 c [] hx (by simp) (fun j u hj => by simp at hj) (fun u hu => by simp at hu) (by unfold maxLen; omega) ?_ hbase ?_
      · have : (L.length + 0) * by_ ≤ 1000000 * 128 := Nat.mul_le_mul (by omega) hby2
        omega
      · intro v' w' g1 g2 _
        refine h v' w' ⟨cs, ?_, by rw [List.append_nil]; exact h2, by rw [List.append_nil]; exact h3⟩ g2
        rw [List.append_nil]
        simpa using g1
  · obtain rfl := hM.at_ (by omega)
    refine wpList_append_own w hgd s x t ho W0.heap.size e i0 z n by_ ht hi hz0 hz1 hz2 hzc hpos v L.length cs hs h1 ⟨b, off, none⟩ len c ms hx m1 (fun j u hj => by rw [add_plain']; exact cell_stays hB (m2 j u hj)) m3 (by unfold maxLen; omega) ?_ hbase ?_
    · have : (L.length + len) * by_ ≤ 1000000 * 128 := Nat.mul_le_mul (by omega) hby2
      omega
    · intro v' w' g1 g2 _
      refine h v' w' ⟨cs ++ ms, ?_, ?_, hnew⟩ g2
      · rw [List.length_append, hML]
        exact g1
      · rw [List.length_append, List.length_append, h2, m1, hML, Nat.add_mul]
end Go.Proofs.YtiaibggbbkhjlaaDoor
