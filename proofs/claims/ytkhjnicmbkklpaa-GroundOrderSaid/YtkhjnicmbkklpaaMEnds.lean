/-
  What Ends and Vars of the document's answers answer, at every model that can be read.
-/
import Derived.Test.YtkhjnicmbkklpaaMLeaf
namespace Go.Proofs.Ytkhjnicmbkklpaa
open Go.RowKit
set_option maxRecDepth 100000

/-- the model value is that of m, its lists no longer than some -/
structure Mod (w : World) (pb : Option Addr) (bb ob cb lb : Nat) (gv : Value) (m : PModel) : Prop where
  blocks : SliceOf rBlock 3 w pb bb ob lb m.blocks
  goal : Slc rCon 6 w gv m.goal
theorem mod_of {w : World} {bv gv : Value} {m : PModel} (h : rModel w [bv, gv] m) : ∃ (pb : Option Addr) (bb ob cb lb : Nat), bv = .slice pb lb cb ∧ Mod w pb bb ob cb lb gv m := by
  obtain ⟨v1, v2, h1, ⟨p, b, off, c, len, h2, _, h3⟩, h4⟩ := h
  simp only [List.cons.injEq, and_true] at h1
  obtain ⟨rfl, rfl⟩ := h1
  exact ⟨p, b, off, c, len, h2, h3, h4⟩
theorem Mod.below {w w' : World} {pb : Option Addr} {bb ob cb lb : Nat} {gv : Value} {m : PModel} (h : Mod w pb bb ob cb lb gv m) (hB : Below w.heap.size w w') : Mod w' pb bb ob cb lb gv m :=
  ⟨h.blocks.below rBlock_stays hB, h.goal.below rCon_stays hB⟩

/-- block number k of a model in memory -/
theorem block_at {w : World} {p : Option Addr} {b off len : Nat} {L : List PBlock} (h : SliceOf rBlock 3 w p b off len L) {k : Nat} (hk : k < len) :
    ∃ (x : PBlock) (v1 v2 : Value), L[k]? = some x ∧ L.drop k = x :: L.drop (k + 1) ∧ w.cell? ⟨b, off + k * 3, none⟩ = some (.bool x.all) ∧ w.cell? ⟨b, off + k * 3 + 1, none⟩ = some v1 ∧ w.cell? ⟨b, off + k * 3 + 2, none⟩ = some v2 ∧ Slc rDecl 2 w v1 x.vars ∧ Slc rCon 6 w v2 x.cons := by
  have hx : k < L.length := by rw [← h.long]; exact hk
  have e : L[k]? = some L[k] := List.getElem?_eq_getElem hx
  obtain ⟨cs, h1, h2, v1, v2, h3, h4, h5⟩ := h.cell k _ e
  subst h3
  exact ⟨L[k], v1, v2, e, List.drop_eq_getElem_cons hx, h2 0 (by omega), h2 1 (by omega), h2 2 (by omega), h4, h5⟩

/-- the numbers own memory from base on -/
def OwnsI (w : World) (base : Nat) (v : Value) (xs : List Int) : Prop := w.ownsRow base 3 1 v xs.length (xs.map (Value.int .i64))
theorem ints_shape {w : World} {base : Nat} {v : Value} {xs : List Int} (h : OwnsI w base v xs) : ∃ (p : Option Addr) (cap : Nat), v = .slice p xs.length cap := by
  rcases h.2 with ⟨rfl, h1⟩ | ⟨g, cap, cur, rfl, hb, hg, hn, hc, hs, ht⟩
  · exact ⟨none, 0, by rw [h1]⟩
  · exact ⟨_, cap, rfl⟩
theorem owns_low {w : World} {base low : Nat} {e : TypeId} {size n : Nat} {v : Value} {xs : List Value} (h : w.ownsRow base e size v n xs) (hl : low ≤ base) : w.ownsRow low e size v n xs := by
  refine ⟨h.1, ?_⟩
  rcases h.2 with h1 | ⟨g, cap, cur, h1, h2, h3⟩
  · exact .inl h1
  · exact .inr ⟨g, cap, cur, h1, by omega, h3⟩
theorem owns_below {w wr : World} {base : Nat} {e : TypeId} {size n : Nat} {v : Value} {xs : List Value} (h : w.ownsRow base e size v n xs) (hb : Below w.heap.size w wr) : wr.ownsRow base e size v n xs := by
  refine ⟨h.1, ?_⟩
  rcases h.2 with h1 | ⟨g, cap, cur, h1, h2, h3, h4⟩
  · exact .inl h1
  · exact .inr ⟨g, cap, cur, h1, h2, (hb.block g (Array.getElem?_eq_some_iff.1 h3).1).trans h3, h4⟩
theorem info3 : (Try.prog.info? 3).map (fun i => (i.zero, i.size, i.bytes)) = some (some (.int .i64 0), 1, 8) := by kernel_rfl
theorem cells_one (w : World) (u : Value) (t : TypeId) : ∀ j v, [u][j]? = some v → (w.alloc (.cells #[u] t)).cell? ((⟨w.heap.size, 0, none⟩ : Addr).add j) = some v := cell_one_new w u t

/-- of each block, how many variables stand up to its end -/
def endsF (n : Nat) : List PBlock → List Int
  | [] => []
  | x :: r => ((n + x.vars.length : Nat) : Int) :: endsF (n + x.vars.length) r
def varsL (bs : List PBlock) : List PDecl := bs.flatMap (·.vars)
theorem ends_length : ∀ (bs : List PBlock) (n : Nat), (endsF n bs).length = bs.length
  | [], _ => rfl
  | x :: r, n => by rw [endsF, List.length_cons, ends_length r, List.length_cons]
/-- how far Ends has come -/
def EndsRel (bs : List PBlock) (k n : Nat) (xs : List Int) : Prop := endsF 0 bs = xs ++ endsF n (bs.drop k) ∧ xs.length = k ∧ n ≤ k * 1000
theorem ends_start (bs : List PBlock) : EndsRel bs 0 0 [] := ⟨by simp, rfl, by omega⟩
theorem ends_next {bs : List PBlock} {k n : Nat} {xs : List Int} {x : PBlock} (h : EndsRel bs k n xs) (e : bs.drop k = x :: bs.drop (k + 1)) (hx : x.vars.length ≤ 1000) : EndsRel bs (k + 1) (n + x.vars.length) (xs ++ [((n + x.vars.length : Nat) : Int)]) := by
  obtain ⟨h1, h2, h3⟩ := h
  refine ⟨?_, by simp [h2], by omega⟩
  rw [h1, e, endsF]
  simp

end Go.Proofs.Ytkhjnicmbkklpaa
