/-
  A list of numbers behind another one, in new memory.
-/
import Derived.Test.YtnabkhmonmcmfaaDoorSOwn
import Derived.Laws.AppendOwnNone
namespace Go.Proofs.YtnabkhmonmcmfaaDoor
open Go.RowKit

/-- the slice value v is nil and there is none, or it reads as the numbers xs -/
def ReadsN (w : World) (v : Value) (xs : List Int) : Prop :=
  (v = .slice none 0 0 ∧ xs = []) ∨ (∃ ad c, v = .slice (some ad) 0 c ∧ xs = []) ∨ ∃ (b off cap : Nat), v = .slice (some ⟨b, off, none⟩) xs.length cap ∧ ∀ k, k < xs.length → w.cell? ⟨b, off + k, none⟩ = some (.int .i64 (xs.getD k 0))
theorem readsN_of_owns {w : World} {base : Nat} {v : Value} {xs : List Int} (h : OwnsI w base v xs) : ReadsN w v xs := by
  have h0 := h
  rcases h.2 with ⟨rfl, h1⟩ | ⟨g, cap, cur, rfl, hb, hg, hn, hc, hs, ht⟩
  · exact .inl ⟨rfl, List.eq_nil_of_length_eq_zero h1⟩
  · refine .inr (.inr ⟨g, 0, cap, rfl, fun k hk => ?_⟩)
    have c0 := h0.cellAt k (by omega)
    rw [Nat.zero_add, c0]
    simp [hk]
theorem readsN_below {A B : World} {v : Value} {xs : List Int} (h : ReadsN A v xs) (hb : Below A.heap.size A B) : ReadsN B v xs := by
  rcases h with h | h | ⟨b, off, c, rfl, hx⟩
  · exact .inl h
  · exact .inr (.inl h)
  · exact .inr (.inr ⟨b, off, c, rfl, fun k hk => cell_below hb (hx k hk)⟩)
theorem reads_of_readsN {w : World} {v : Value} {xs : List Int} (h : ReadsN w v xs) : Reads w v xs := by
  rcases h with ⟨rfl, rfl⟩ | ⟨ad, c, rfl, rfl⟩ | h
  · exact .inl ⟨_, _, rfl, rfl⟩
  · exact .inl ⟨_, _, rfl, rfl⟩
  · exact .inr h
theorem addr_add (b off j : Nat) : (⟨b, off, none⟩ : Addr).add j = ⟨b, off + j, none⟩ := by
  unfold Addr.add
  split <;> simp_all

theorem grown_refl (w : World) (r : Option Nat) : w.grownBy w r := ⟨rfl, rfl, rfl, Nat.le_refl _, fun _ _ _ => rfl⟩

theorem wpList_append_ints {w : World} {ops : Array Oper} {rest : List Oper} {o : Oper} {a : Act} {Q : Exit → Act → World → Prop} (hgd : o.guard = none) (s x : Operand)
    (ho : o.op = .call { callee := .builtin .append, args := #[s, x], argTypes := #[23, 23] }) (base : Nat) (v u : Value) (xs ys : List Int) (hs : a.eval s = v) (hx : a.eval x = u)
    (hown : OwnsI w base v xs) (hu : ReadsN w u ys) (hlen : xs.length + ys.length ≤ 100000) (hbase : base ≤ w.heap.size)
    (h : ∀ v' w', OwnsI w' base v' (xs ++ ys) → w.grownBy w' v.ownBlock → wpList Tryd.prog ops Q rest (a.put o.dst v') w') : wpList Tryd.prog ops Q (o :: rest) a w := by
  obtain ⟨i0, hi, hz0, hz1, hz2⟩ := info_parts info3
  rcases hu with ⟨rfl, rfl⟩ | ⟨ad, c, rfl, rfl⟩ | ⟨b, off, c, rfl, hcell⟩
  · refine wpList_append_own_none hgd s x 23 ho base 3 i0 1 Tryd.underlying23 hi v xs.length _ hs hown hx ?_
    exact h v w (by rw [List.append_nil]; exact hown) (grown_refl w _)
  · refine wpList_append_own w hgd s x 23 ho base 3 i0 (.int .i64 0) 1 8 Tryd.underlying23 hi hz0 hz1 hz2 rfl (by decide) v xs.length _ hs hown ad 0 c [] hx (by simp) (fun j z hj => by simp at hj) (fun z hz => by simp at hz) ?_ (by omega) hbase ?_
    · unfold maxLen
      omega
    · intro v' w' h1 h2 _
      refine h v' w' ?_ h2
      rw [List.append_nil]
      simpa [OwnsI] using h1
  · refine wpList_append_own w hgd s x 23 ho base 3 i0 (.int .i64 0) 1 8 Tryd.underlying23 hi hz0 hz1 hz2 rfl (by decide) v xs.length _ hs hown ⟨b, off, none⟩ ys.length c (ys.map (Value.int .i64)) hx (by simp) ?_ ?_ ?_ (by omega) hbase ?_
    · intro j z hj
      rw [List.getElem?_map] at hj
      by_cases hlt : j < ys.length
      · have := hcell j hlt
        rw [List.getElem?_eq_getElem hlt] at hj
        simp only [Option.map_some, Option.some.injEq] at hj
        rw [addr_add, this, ← hj]
        simp [hlt]
      · rw [List.getElem?_eq_none (by omega)] at hj
        simp at hj
    · intro z hz
      obtain ⟨y, _, rfl⟩ := List.mem_map.1 hz
      rfl
    · unfold maxLen
      omega
    · intro v' w' h1 h2 _
      refine h v' w' ?_ h2
      unfold OwnsI
      rw [List.length_append, List.map_append]
      exact h1
end Go.Proofs.YtnabkhmonmcmfaaDoor
