/-
  Lists that a call makes: of spans, and of numbers; a copy of a list, and sorting it.
-/
import Derived.Test.YtnabkhmonmcmfaaDoorSSame
import Derived.Test.YtnabkhmonmcmfaaDoorSSort
import Derived.OwnWalk
import Derived.Maps.AppendAt
import Derived.Great.BuildSlice
import Derived.Laws.OwnMore
import Derived.Lib.OwnBridge
import Derived.Sort.Grow
namespace Go.Proofs.YtnabkhmonmcmfaaDoor
open Go.RowKit

def cellsOf : List (Int × Int) → List Value
  | [] => []
  | s :: r => .int .i64 s.1 :: .int .i64 s.2 :: cellsOf r
/-- v is a slice in memory from base on, of the spans L -/
def OwnsS (w : World) (base : Nat) (v : Value) (L : List (Int × Int)) : Prop := w.ownsRow base 58 2 v L.length (cellsOf L)
/-- v is a slice in memory from base on, of the numbers xs -/
def OwnsI (w : World) (base : Nat) (v : Value) (xs : List Int) : Prop := w.ownsRow base 3 1 v xs.length (xs.map (Value.int .i64))
/-- the slice value v reads as the numbers xs -/
def Reads (w : World) (v : Value) (xs : List Int) : Prop :=
  (∃ (p : Option Addr) (c : Nat), v = .slice p 0 c ∧ xs = []) ∨ ∃ (b off cap : Nat), v = .slice (some ⟨b, off, none⟩) xs.length cap ∧ ∀ k, k < xs.length → w.cell? ⟨b, off + k, none⟩ = some (.int .i64 (xs.getD k 0))

theorem cellsOf_snoc : ∀ (A : List (Int × Int)) (s : Int × Int), cellsOf (A ++ [s]) = cellsOf A ++ [.int .i64 s.1, .int .i64 s.2]
  | [], _ => rfl
  | t :: r, s => by rw [List.cons_append, cellsOf, cellsOf_snoc r s]; rfl
theorem cellsOf_length : ∀ (A : List (Int × Int)), (cellsOf A).length = A.length * 2
  | [] => rfl
  | t :: r => by rw [cellsOf, List.length_cons, List.length_cons, cellsOf_length r, List.length_cons]; omega
theorem cellsOf_get : ∀ (A : List (Int × Int)) (k : Nat), k < A.length → (cellsOf A)[k * 2]? = some (.int .i64 (A.getD k (0, 0)).1) ∧ (cellsOf A)[k * 2 + 1]? = some (.int .i64 (A.getD k (0, 0)).2)
  | [], k, h => by simp at h
  | t :: r, 0, h => by simp [cellsOf]
  | t :: r, k + 1, h => by
    have e1 : (k + 1) * 2 = k * 2 + 1 + 1 := by omega
    rw [e1, cellsOf]
    simpa using cellsOf_get r k (by simpa using h)
theorem cellsOf_set (B : List (Int × Int)) (s : Int × Int) (v : Int) : (cellsOf (B ++ [s])).set (B.length * 2 + 1) (.int .i64 v) = cellsOf (B ++ [(s.1, v)]) := by
  rw [cellsOf_snoc, cellsOf_snoc, List.set_append, cellsOf_length, if_neg (by omega)]
  have e : B.length * 2 + 1 - B.length * 2 = 1 := by omega
  rw [e]
  rfl

theorem sees_of_owns {w : World} {base : Nat} {v : Value} {L : List (Int × Int)} (h : OwnsS w base v L) : Sees w v L := by
  have h0 := h
  rcases h.2 with ⟨rfl, h1⟩ | ⟨g, cap, cur, rfl, hb, hg, hn, hc, hs, ht⟩
  · refine ⟨none, 0, 0, 0, by rw [h1], fun h => by omega, fun k hk => by omega⟩
  · refine ⟨_, g, 0, cap, rfl, fun _ => rfl, fun k hk => ?_⟩
    have c0 := h0.cellAt (k * 2) (by omega)
    have c1 := h0.cellAt (k * 2 + 1) (by omega)
    rw [(cellsOf_get L k hk).1] at c0
    rw [(cellsOf_get L k hk).2] at c1
    simpa using ⟨c0, c1⟩
theorem reads_of_owns {w : World} {base : Nat} {v : Value} {xs : List Int} (h : OwnsI w base v xs) : Reads w v xs := by
  have h0 := h
  rcases h.2 with ⟨rfl, h1⟩ | ⟨g, cap, cur, rfl, hb, hg, hn, hc, hs, ht⟩
  · exact .inl ⟨none, 0, rfl, List.eq_nil_of_length_eq_zero h1⟩
  · refine .inr ⟨g, 0, cap, rfl, fun k hk => ?_⟩
    have c0 := h0.cellAt k (by omega)
    rw [Nat.zero_add, c0]
    simp [hk]
theorem reads_below {A B : World} {v : Value} {xs : List Int} (h : Reads A v xs) (hb : Below A.heap.size A B) : Reads B v xs := by
  rcases h with h | ⟨b, off, c, rfl, hx⟩
  · exact .inl h
  · exact .inr ⟨b, off, c, rfl, fun k hk => cell_below hb (hx k hk)⟩
theorem owns_low {w : World} {base low : Nat} {e : TypeId} {size n : Nat} {v : Value} {xs : List Value} (h : w.ownsRow base e size v n xs) (hl : low ≤ base) : w.ownsRow low e size v n xs := by
  refine ⟨h.1, ?_⟩
  rcases h.2 with h1 | ⟨g, cap, cur, h1, h2, h3⟩
  · exact .inl h1
  · exact .inr ⟨g, cap, cur, h1, by omega, h3⟩
theorem owns_below {w wr : World} {base : Nat} {e : TypeId} {size n : Nat} {v : Value} {xs : List Value} (h : w.ownsRow base e size v n xs) (hb : Below w.heap.size w wr) : wr.ownsRow base e size v n xs := by
  refine ⟨h.1, ?_⟩
  rcases h.2 with h1 | ⟨g, cap, cur, h1, h2, h3, h4⟩
  · exact .inl h1
  · exact .inr ⟨g, cap, cur, h1, h2, (hb.block g (Array.getElem?_eq_some_iff.1 h3).1).trans h3, h4⟩

theorem info3 : (Tryd.prog.info? 3).map (fun i => (i.zero, i.size, i.bytes)) = some (some (.int .i64 0), 1, 8) := by kernel_rfl
theorem info41 : (Tryd.prog.info? 58).map (fun i => (i.zero, i.size, i.bytes)) = some (some (.agg #[.int .i64 0, .int .i64 0]), 2, 16) := by kernel_rfl
theorem cells_one (w : World) (u : Value) (t : TypeId) : ∀ j v, [u][j]? = some v → (w.alloc (.cells #[u] t)).cell? ((⟨w.heap.size, 0, none⟩ : Addr).add j) = some v := cell_one_new w u t
theorem cells_two (w : World) (u v : Value) (t : TypeId) : ∀ j x, [u, v][j]? = some x → (w.alloc (.cells #[u, v] t)).cell? ((⟨w.heap.size, 0, none⟩ : Addr).add j) = some x := by
  intro j x hj
  match j, hj with
  | 0, hj =>
    simp at hj
    subst hj
    simp [Addr.add]
  | 1, hj =>
    simp at hj
    subst hj
    simp [Addr.add]

/- a copy, and sorting it -/
theorem clone_any {w : World} {v : Value} {xs : List Int} (h : Reads w v xs) (hm : xs.length ≤ 100000) :
    Calls Tryd.prog 66 #[v] w fun e w' => ∃ v', e = .returned v' ∧ OwnsI w' w.heap.size v' xs ∧ Below w.heap.size w w' := by
  rcases h with ⟨p, c, rfl, rfl⟩ | ⟨b, off, c, rfl, hx⟩
  · cases p with
    | none =>
      refine (Tryd.slices_Clone_int_nil 0 c w).mono ?_
      rintro e w' ⟨rfl, rfl⟩
      exact ⟨_, rfl, World.ownsRow_nil _ _ _ _, Below.refl _ _⟩
    | some a =>
      refine (Tryd.slices_Clone_int_zero a c w).mono ?_
      rintro e w' ⟨v', rfl, h1, _, h2⟩
      exact ⟨_, rfl, h1, h2⟩
  · refine (Tryd.slices_Clone_int b off xs.length c xs w (Nat.le_refl _) (by omega) hx).mono ?_
    rintro e w' ⟨v', rfl, h1, _, h2⟩
    rw [List.take_length] at h1
    exact ⟨_, rfl, h1, h2⟩

def sorted (xs : List Int) : List Int := xs.mergeSort fun x y => decide (x ≤ y)
theorem sorted_length (xs : List Int) : (sorted xs).length = xs.length := List.length_mergeSort xs
theorem sorted_mem (xs : List Int) (v : Int) : v ∈ sorted xs ↔ v ∈ xs := List.mem_mergeSort
theorem sorted_up (xs : List Int) : (sorted xs).Pairwise (· ≤ ·) := by
  have := List.pairwise_mergeSort (le := fun x y : Int => decide (x ≤ y)) (by simp; omega) (by simp; omega) xs
  exact this.imp (by simp)

theorem grownBy_grow (w : World) (os : Array Obj) : w.grownBy (Go.Sort.grow w os) none :=
  ⟨rfl, rfl, rfl, by simp [Go.Sort.grow], fun k hk _ => Go.Sort.heap_grow_old w os hk⟩

theorem sort_any {w0 w : World} {base : Nat} {v : Value} {xs : List Int} (h : OwnsI w base v xs) (hB : Below base w0 w) (hb : base ≤ w.heap.size) (hm : xs.length ≤ 100000) :
    Calls Tryd.prog 67 #[v] w fun e w' => e = .returned (.tuple #[]) ∧ OwnsI w' base v (sorted xs) ∧ Below base w0 w' := by
  by_cases h0 : v = .slice none 0 0
  · subst h0
    have e0 : xs = [] := by
      rcases h.2 with ⟨_, h1⟩ | ⟨g, cap, cur, h1, _⟩
      · exact List.eq_nil_of_length_eq_zero h1
      · simp at h1
    subst e0
    refine (Tryd.slices_Sort_int_none none 0 w).mono ?_
    rintro e w' ⟨rfl, rfl⟩
    have e1 : sorted [] = [] := List.eq_nil_of_length_eq_zero (sorted_length [])
    rw [e1]
    exact ⟨rfl, h, hB⟩
  · obtain ⟨g, cap, rfl, hbg, hgl, hnc, hcm, hlen, hH⟩ := Lib.holds_of_ownsRow h h0
    have hc := Tryd.slices_Sort_int g 0 cap xs w hH hgl (by omega)
    refine hc.mono ?_
    rintro e w' ⟨rfl, q, os, rfl⟩
    refine ⟨rfl, ?_, ?_⟩
    · have h1 := Lib.ownsRow_putRow (q := q) (ys := sorted xs) h (sorted_length xs) (Nat.le_refl _)
      rw [← sorted_length xs, List.take_length] at h1
      unfold OwnsI
      rw [sorted_length] at h1 ⊢
      exact h1.kept (grownBy_grow _ os) (.inr (by simp [Value.ownBlock]))
    · have h2 := Lib.below_putRow (enc := Value.int .i64) (q := q) (d := (sorted xs).toArray) hB hbg
      exact h2.grown (grownBy_grow _ os) (by simpa [Go.Sort.putRow, Go.Sort.mapBlock, Go.Sort.ahead] using hb) (by simp)
end Go.Proofs.YtnabkhmonmcmfaaDoor
