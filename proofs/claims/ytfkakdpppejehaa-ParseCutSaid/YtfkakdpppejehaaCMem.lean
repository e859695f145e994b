/-
  Tokens in memory: lists that a call makes.
-/
import Derived.Test.YtfkakdpppejehaaCFirst
import Derived.Laws.AppendOwnNone
namespace Go.Proofs.Ytfkakdpppejehaa.Sc
open Go.RowKit

def str (l : List UInt8) : Value := .string ⟨l.toArray⟩
theorem str_txt (s : ByteArray) : Value.string s = str (txt s) := by unfold str; rw [Lib.mk_data]
theorem str_cut (s : ByteArray) (a b : Nat) : Value.string (s.extract a b) = str (((txt s).drop a).take (b - a)) := by unfold str; rw [Lib.extract_eq]
def cells4 (t : Tok) : List Value := [.int .i64 t.kind, str t.text, .int .i64 t.value, .int .i64 t.at_]
def cellsOf : List Tok → List Value
  | [] => []
  | t :: r => cells4 t ++ cellsOf r
def noTok : Tok := ⟨0, [], 0, 0⟩
/-- v is a slice of tokens (their type's number is e) in memory from base on -/
def OwnsT (e : TypeId) (w : World) (base : Nat) (v : Value) (L : List Tok) : Prop := w.ownsRow base e 4 v L.length (cellsOf L)
/-- from an address on lie the tokens L -/
def Cells (w : World) (b off : Nat) (L : List Tok) : Prop :=
  ∀ k, k < L.length → w.cell? ⟨b, off + k * 4, none⟩ = some (.int .i64 (L.getD k noTok).kind) ∧ w.cell? ⟨b, off + k * 4 + 1, none⟩ = some (str (L.getD k noTok).text) ∧
    w.cell? ⟨b, off + k * 4 + 2, none⟩ = some (.int .i64 (L.getD k noTok).value) ∧ w.cell? ⟨b, off + k * 4 + 3, none⟩ = some (.int .i64 (L.getD k noTok).at_)
/-- the slice value v reads as the tokens L -/
def Sees (w : World) (v : Value) (L : List Tok) : Prop :=
  ∃ (p : Option Addr) (b off c : Nat), v = .slice p L.length c ∧ (0 < L.length → p = some ⟨b, off, none⟩) ∧ Cells w b off L

theorem cellsOf_snoc : ∀ (A : List Tok) (t : Tok), cellsOf (A ++ [t]) = cellsOf A ++ cells4 t
  | [], t => by simp [cellsOf]
  | u :: r, t => by rw [List.cons_append, cellsOf, cellsOf_snoc r t, cellsOf, List.append_assoc]
theorem cellsOf_length : ∀ (A : List Tok), (cellsOf A).length = A.length * 4
  | [] => rfl
  | u :: r => by rw [cellsOf, List.length_append, cellsOf_length r, List.length_cons]; simp [cells4]; omega
theorem cellsOf_get : ∀ (A : List Tok) (k j : Nat), k < A.length → j < 4 → (cellsOf A)[k * 4 + j]? = (cells4 (A.getD k noTok))[j]?
  | [], k, j, h, _ => by simp at h
  | t :: r, 0, j, h, hj => by
    rw [cellsOf, List.getElem?_append_left (by simp [cells4]; omega)]
    simp
  | t :: r, k + 1, j, h, hj => by
    rw [cellsOf, List.getElem?_append_right (by simp [cells4]; omega)]
    have e : (k + 1) * 4 + j - (cells4 t).length = k * 4 + j := by simp [cells4]; omega
    rw [e, cellsOf_get r k j (by simpa using h) hj]
    simp
theorem cells_below {w wr : World} {b off : Nat} {L : List Tok} (h : Cells w b off L) (hB : Below w.heap.size w wr) : Cells wr b off L :=
  fun k hk => ⟨cell_below hB (h k hk).1, cell_below hB (h k hk).2.1, cell_below hB (h k hk).2.2.1, cell_below hB (h k hk).2.2.2⟩
theorem sees_below {w wr : World} {v : Value} {L : List Tok} (h : Sees w v L) (hB : Below w.heap.size w wr) : Sees wr v L := by
  obtain ⟨p, b, off, c, h1, h2, h3⟩ := h
  exact ⟨p, b, off, c, h1, h2, cells_below h3 hB⟩
theorem sees_of_owns {e : TypeId} {w : World} {base : Nat} {v : Value} {L : List Tok} (h : OwnsT e w base v L) : Sees w v L := by
  have h0 := h
  rcases h.2 with ⟨rfl, h1⟩ | ⟨g, cap, cur, rfl, hb, hg, hn, hc, hs, ht⟩
  · exact ⟨none, 0, 0, 0, by rw [h1], fun h => by omega, fun k hk => by omega⟩
  · refine ⟨_, g, 0, cap, rfl, fun _ => rfl, fun k hk => ?_⟩
    have hc : ∀ j, j < 4 → w.cell? ⟨g, 0 + k * 4 + j, none⟩ = (cells4 (L.getD k noTok))[j]? := fun j hj => by
      rw [Nat.zero_add, h0.cellAt (k * 4 + j) (by omega), cellsOf_get L k j hk hj]
    exact ⟨hc 0 (by omega), hc 1 (by omega), hc 2 (by omega), hc 3 (by omega)⟩
theorem owns_low {w : World} {base low : Nat} {e : TypeId} {size n : Nat} {v : Value} {xs : List Value} (h : w.ownsRow base e size v n xs) (hl : low ≤ base) : w.ownsRow low e size v n xs := by
  refine ⟨h.1, ?_⟩
  rcases h.2 with h1 | ⟨g, cap, cur, h1, h2, h3⟩
  · exact .inl h1
  · exact .inr ⟨g, cap, cur, h1, by omega, h3⟩
theorem owns_below {w wr : World} {base : Nat} {e : TypeId} {size n : Nat} {v : Value} {xs : List Value} (h : w.ownsRow base e size v n xs) (hb : Below w.heap.size w wr) : wr.ownsRow base e size v n xs := by
  refine ⟨h.1, ?_⟩
  rcases h.2 with h1 | ⟨g, cap, cur, h1, h2, h3, h4⟩
  · exact .inl h1
  · exact .inr ⟨g, cap, cur, h1, h2, (hb.block g (Array.getElem?_eq_some_iff.1 h3).1).trans h3, h4⟩
theorem shape {e : TypeId} {w : World} {base : Nat} {v : Value} {A : List Tok} (h : OwnsT e w base v A) : ∃ (p : Option Addr) (cap : Nat), v = .slice p A.length cap := by
  rcases h.2 with ⟨rfl, h1⟩ | ⟨g, cap, cur, rfl, hb, hg, hn, hc, hs, ht⟩
  · exact ⟨none, 0, by rw [h1]⟩
  · exact ⟨_, cap, rfl⟩
theorem info34 : (Try.prog.info? 54).map (fun i => (i.zero, i.size, i.bytes)) = some (some (.agg #[.int .i64 0, .string ⟨#[]⟩, .int .i64 0, .int .i64 0]), 4, 40) := by kernel_rfl
theorem info36 : (Try.prog.info? 37).map (fun i => (i.zero, i.size, i.bytes)) = some (some (.agg #[.int .i64 0, .string ⟨#[]⟩, .int .i64 0, .int .i64 0]), 4, 40) := by kernel_rfl
theorem cells_four (w : World) (u v x y : Value) (t : TypeId) : ∀ j z, [u, v, x, y][j]? = some z → (w.alloc (.cells #[u, v, x, y] t)).cell? ((⟨w.heap.size, 0, none⟩ : Addr).add j) = some z := by
  intro j x hj
  match j, hj with
  | 0, hj => simp at hj; subst hj; simp [Addr.add]
  | 1, hj => simp at hj; subst hj; simp [Addr.add]
  | 2, hj => simp at hj; subst hj; simp [Addr.add]
  | 3, hj => simp at hj; subst hj; simp [Addr.add]
theorem cell_grown {w w' : World} {r : Option Nat} {p : Addr} {v : Value} (hg : w.grownBy w' r) (hr : r ≠ some p.block) (h : w.cell? p = some v) : w'.cell? p = some v := by
  have hlt : p.block < w.heap.size := by
    unfold World.cell? at h
    cases hh : w.heap[p.block]? with
    | none => simp [hh] at h
    | some q => exact (Array.getElem?_eq_some_iff.1 hh).1
  exact (World.cell?_of_block (hg.block p.block hlt (fun e => hr e.symm))).trans h

/-- a token behind others, of the program's type -/
theorem append_tok {w : World} {ops : Array Oper} {rest : List Oper} {o : Oper} {a : Act} {Q : Exit → Act → World → Prop} (hgd : o.guard = none) (s x : Operand) (ts e : TypeId) (i0 : TypeInfo)
    (hts : Try.prog.underlying ts = some (.slice e)) (hi : Try.prog.info? e = some i0) (hz0 : i0.zero = some (.agg #[.int .i64 0, .string ⟨#[]⟩, .int .i64 0, .int .i64 0])) (hz1 : i0.size = 4) (hz2 : i0.bytes = 40)
    (ho : o.op = .call { callee := .builtin .append, args := #[s, x], argTypes := #[ts, ts] }) (base : Nat) (v : Value) (g : Nat) (A : List Tok) (t : Tok) (hs : a.eval s = v) (hx : a.eval x = .slice (some ⟨g, 0, none⟩) 1 1)
    (hown : OwnsT e w base v A) (hc : ∀ j z, (cells4 t)[j]? = some z → w.cell? ((⟨g, 0, none⟩ : Addr).add j) = some z) (hlen : A.length ≤ 100000) (hbase : base ≤ w.heap.size)
    (h : ∀ v' w', OwnsT e w' base v' (A ++ [t]) → w.grownBy w' v.ownBlock → wpList Try.prog ops Q rest (a.put o.dst v') w') : wpList Try.prog ops Q (o :: rest) a w := by
  refine wpList_append_own w hgd s x ts ho base e i0 _ 4 40 hts hi hz0 hz1 hz2 rfl (by decide) v A.length _ hs hown ⟨g, 0, none⟩ 1 1 (cells4 t) hx rfl hc (by simp [cells4, Value.oneCell', str]) ?_ (by omega) hbase ?_
  · unfold maxLen
    omega
  · intro v' w' h1 h2 _
    refine h v' w' ?_ h2
    unfold OwnsT
    rw [cellsOf_snoc, List.length_append, List.length_singleton]
    exact h1
end Go.Proofs.Ytfkakdpppejehaa.Sc
