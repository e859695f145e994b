/-
  What Set, Between and Of of the document's answers answer: the set of those for which there is a yes.
  A list of numbers behind another one, in new memory.
-/
import Derived.Test.YtiaibggbbkhjlaaDoorZYAE
import Derived.Laws.Tables
import Derived.Laws.Rows
import Derived.Great.BuildSlice
import Derived.Test.YtiaibggbbkhjlaaDoorZYAH
import Derived.Laws.AppendOwnNone
namespace Go.Proofs.YtiaibggbbkhjlaaDoor.B
open Go.RowKit

/-- an array of 64 yes and no -/
def Yn (C : Array Value) (p : Nat → Bool) : Prop := C.size = 64 ∧ ∀ k, k < 64 → C[k]? = some (.bool (p k))

theorem set_row_new (w : World) (Z : Array Value) (t : TypeId) : (w.alloc (.cells Z t)).setRow w.heap.size Z = w.alloc (.cells Z t) := by
  unfold World.setRow World.alloc
  simp only
  congr 1
  apply Array.ext
  · simp
  · intro i h1 h2
    rw [Array.getElem_modify]
    split
    · rename_i h
      subst h
      simp
    · rfl

theorem new_block (w : World) (o : Obj) : (w.alloc o).heap[w.heap.size]? = some o := by
  unfold World.alloc
  simp

theorem zero_ops : ∃ Z : Array Value, Yn Z (fun _ => false) ∧ ∀ {id : Nat} {o1 o2 o3 : Oper} {a : Act} {w : World} {Q : Exit → Act → World → Prop} {x y : Operand},
    o1.guard = none → o2.guard = none → o3.guard = none → o1.op = .build 84 #[] → o2.op = .alloc 84 → o3.op = .store 84 x y →
    ((a.put o1.dst (.agg Z)).put o2.dst (.pointer (some ⟨w.heap.size, 0, none⟩))).eval x = .pointer (some ⟨w.heap.size, 0, none⟩) →
    ((a.put o1.dst (.agg Z)).put o2.dst (.pointer (some ⟨w.heap.size, 0, none⟩))).eval y = .agg Z →
    Q .normal (((a.put o1.dst (.agg Z)).put o2.dst (.pointer (some ⟨w.heap.size, 0, none⟩))).put o3.dst undef) (w.alloc (.cells Z 84)) →
    (Code.region id #[o1, o2, o3] false).wp Tryd.prog Q a w := by
  refine ⟨Array.replicate 64 (.bool false), ⟨by simp, fun k hk => by simp [hk]⟩, ?_⟩
  intro id o1 o2 o3 a w Q x y g1 g2 g3 e1 e2 e3 hx hy h
  refine wp_region_lit (l := [o1, o2, o3]) ?_
  refine wpList_buildTo g1 84 #[] e1 _ rfl (Array.replicate 64 (.bool false)) (by kernel_rfl) ?_
  refine wpList_plain g2 fun K hK => ?_
  have r : ∀ w : World, (Instr.alloc 84 true (.tuple #[])).run Tryd.prog w = .ok (.pointer (some ⟨w.heap.size, 0, none⟩)) (w.alloc (.cells (Array.replicate 64 (.bool false)) 84)) := fun w => by kernel_rfl
  unfold Oper.wp execOp
  simp only [e2, Sem.run_bind, r, Result.andThen_ok]
  refine hK _ _ ?_
  refine wpList_store_row g3 84 x y e3 w.heap.size (Array.replicate 64 (.bool false)) hx hy 84 (Array.replicate 64 (.bool false)) (new_block w _) (by kernel_rfl) rfl (by kernel_rfl) ?_
  rw [set_row_new]
  exact h

theorem yn_on {C : Array Value} {p : Nat → Bool} (h : Yn C p) (k : Nat) (hk : k < 64) (v : Bool) : Yn (C.setIfInBounds k (.bool v)) (fun j => if j = k then v else p j) := by
  refine ⟨by simp [h.1], fun j hj => ?_⟩
  by_cases e : j = k
  · subst e
    simp [h.1, hj]
  · rw [Array.getElem?_setIfInBounds_ne (by omega), h.2 j hj]
    simp [e]

theorem yn_congr {C : Array Value} {p q : Nat → Bool} (h : Yn C p) (e : ∀ k, k < 64 → p k = q k) : Yn C q :=
  ⟨h.1, fun k hk => by rw [← e k hk]; exact h.2 k hk⟩

theorem mk_on (p : Nat → Bool) (n j : Nat) : mk (n + 1) (fun i => p (i + j)) = 2 * mk n (fun i => p (i + (j + 1))) + (p j).toNat := by
  rw [mk]
  simp only [Nat.zero_add]
  congr 3
  funext k
  congr 1
  omega

set_option maxHeartbeats 1000000 in
theorem set_any (A : Array Value) (p : Nat → Bool) (hA : Yn A p) (w : World) :
    Calls Tryd.prog 59 #[.agg A] w fun e w' => e = .returned (.int .u64 (mk 64 p : Nat)) ∧ w' = w.alloc (.cells A 84) := by
  have HA := Lib.hid hA
  clear hA
  go_enter Tryd.func59, Tryd.ntmps59
  go_wp2
  go_loopw [3, 4] (fun b i wr => (∃ j : Nat, j ≤ 64 ∧ i = .int .i64 ((j : Int) - 1) ∧ b = .int .u64 (mk (64 - j) (fun i => p (i + j)) : Nat)) ∧ wr = w.alloc (.cells A 84)) (fun _ i _ => (intOf i + 1).toNat)
  case atStart => exact ⟨⟨64, by omega, rfl, rfl⟩, rfl⟩
  case round =>
    obtain ⟨⟨j, hj, rfl, rfl⟩, rfl⟩ := hrel
    by_cases h0 : j = 0
    · subst h0
      go_wp2_with fail
      go_ret
      exact ⟨rfl, rfl⟩
    · obtain ⟨m, rfl⟩ : ∃ m, j = m + 1 := ⟨j - 1, by omega⟩
      have R := Lib.hid (mk_on p (64 - (m + 1)) m)
      have e1 : ((m + 1 : Nat) : Int) - 1 = (m : Int) := by omega
      rw [e1]
      have hc := HA.out.2 m (by omega)
      have hlt : mk (64 - (m + 1)) (fun i => p (i + (m + 1))) < 9223372036854775808 := by
        have a := mk_lt (64 - (m + 1)) (fun i => p (i + (m + 1)))
        have b : 2 ^ (64 - (m + 1)) ≤ 2 ^ 63 := Nat.pow_le_pow_right (by decide) (by omega)
        omega
      obtain ⟨y, hy⟩ : ∃ y, mk (64 - (m + 1)) (fun i => p (i + (m + 1))) = y := ⟨_, rfl⟩
      rw [hy] at R hlt ⊢
      clear hy h0 e1
      have e2 : 64 - (m + 1) + 1 = 64 - m := by omega
      rw [e2] at R
      clear e2
      cases hp : p m
      · rw [hp] at hc R
        clear hp
        go_wp2_with fail
        go_roundw
        case rel => exact ⟨⟨m, by omega, rfl, by rw [R.out]; simp⟩, trivial⟩
        case measure => simp [intOf]
      · rw [hp] at hc R
        clear hp
        go_wp2_with fail
        go_roundw
        case rel => exact ⟨⟨m, by omega, rfl, by rw [R.out]; simp⟩, trivial⟩
        case measure => simp [intOf]

theorem info37 : (Tryd.prog.info? 84).map (·.size) = some 64 := by kernel_rfl

end Go.Proofs.YtiaibggbbkhjlaaDoor.B
namespace Go.Proofs.YtiaibggbbkhjlaaDoor.Dm
open Go.RowKit

/-- the slice value v is nil and there is none, or it reads as the numbers xs -/
def ReadsN (w : World) (v : Value) (xs : List Int) : Prop :=
  (v = .slice none 0 0 ∧ xs = []) ∨ (∃ ad c, v = .slice (some ad) 0 c ∧ xs = []) ∨ ∃ (b off cap : Nat), v = .slice (some ⟨b, off, none⟩) xs.length cap ∧ ∀ k, k < xs.length → w.cell? ⟨b, off + k, none⟩ = some (.int .i64 (xs.getD k 0))
theorem readsN_of_owns {w : World} {base : Nat} {v : Value} {xs : List Int} (h : OwnsI w base v xs) : ReadsN w v xs := by
  have h0 := h
  rcases h.2 with ⟨rfl, h1⟩ | ⟨g, cap, cur, rfl, hb, hg, hn, hc, hs, ht⟩
  · exact .inl ⟨rfl, List.eq_nil_of_length_eq_zero h1⟩
  · refine .inr (.inr ⟨g, 0, cap, rfl, fun k hk => ?_⟩)
    have c0 := h0.cellAt k (by omega)
    rw [Nat.zero_add, c0]
    simp [hk]
theorem readsN_below {A B : World} {v : Value} {xs : List Int} (h : ReadsN A v xs) (hb : Below A.heap.size A B) : ReadsN B v xs := by
  rcases h with h | h | ⟨b, off, c, rfl, hx⟩
  · exact .inl h
  · exact .inr (.inl h)
  · exact .inr (.inr ⟨b, off, c, rfl, fun k hk => cell_below hb (hx k hk)⟩)
theorem reads_of_readsN {w : World} {v : Value} {xs : List Int} (h : ReadsN w v xs) : Reads w v xs := by
  rcases h with ⟨rfl, rfl⟩ | ⟨ad, c, rfl, rfl⟩ | h
  · exact .inl ⟨_, _, rfl, rfl⟩
  · exact .inl ⟨_, _, rfl, rfl⟩
  · exact .inr h
theorem addr_add (b off j : Nat) : (⟨b, off, none⟩ : Addr).add j = ⟨b, off + j, none⟩ := by
  unfold Addr.add
  split <;> simp_all

theorem grown_refl (w : World) (r : Option Nat) : w.grownBy w r := ⟨rfl, rfl, rfl, Nat.le_refl _, fun _ _ _ => rfl⟩

theorem wpList_append_ints {w : World} {ops : Array Oper} {rest : List Oper} {o : Oper} {a : Act} {Q : Exit → Act → World → Prop} (hgd : o.guard = none) (s x : Operand)
    (ho : o.op = .call { callee := .builtin .append, args := #[s, x], argTypes := #[22, 22] }) (base : Nat) (v u : Value) (xs ys : List Int) (hs : a.eval s = v) (hx : a.eval x = u)
    (hown : OwnsI w base v xs) (hu : ReadsN w u ys) (hlen : xs.length + ys.length ≤ 100000) (hbase : base ≤ w.heap.size)
    (h : ∀ v' w', OwnsI w' base v' (xs ++ ys) → w.grownBy w' v.ownBlock → wpList Tryd.prog ops Q rest (a.put o.dst v') w') : wpList Tryd.prog ops Q (o :: rest) a w := by
  obtain ⟨i0, hi, hz0, hz1, hz2⟩ := info_parts info3
  rcases hu with ⟨rfl, rfl⟩ | ⟨ad, c, rfl, rfl⟩ | ⟨b, off, c, rfl, hcell⟩
  · refine wpList_append_own_none hgd s x 22 ho base 3 i0 1 Tryd.underlying22 hi v xs.length _ hs hown hx ?_
    exact h v w (by rw [List.append_nil]; exact hown) (grown_refl w _)
  · refine wpList_append_own w hgd s x 22 ho base 3 i0 (.int .i64 0) 1 8 Tryd.underlying22 hi hz0 hz1 hz2 rfl (by decide) v xs.length _ hs hown ad 0 c [] hx (by simp) (fun j z hj => by simp at hj) (fun z hz => by simp at hz) ?_ (by omega) hbase ?_
    · unfold maxLen
      omega
    · intro v' w' h1 h2 _
      refine h v' w' ?_ h2
      rw [List.append_nil]
      simpa [OwnsI] using h1
  · refine wpList_append_own w hgd s x 22 ho base 3 i0 (.int .i64 0) 1 8 Tryd.underlying22 hi hz0 hz1 hz2 rfl (by decide) v xs.length _ hs hown ⟨b, off, none⟩ ys.length c (ys.map (Value.int .i64)) hx (by simp) ?_ ?_ ?_ (by omega) hbase ?_
    · intro j z hj
      rw [List.getElem?_map] at hj
      by_cases hlt : j < ys.length
      · have := hcell j hlt
        rw [List.getElem?_eq_getElem hlt] at hj
        simp only [Option.map_some, Option.some.injEq] at hj
        rw [addr_add, this, ← hj]
        simp [hlt]
      · rw [List.getElem?_eq_none (by omega)] at hj
        simp at hj
    · intro z hz
      obtain ⟨y, _, rfl⟩ := List.mem_map.1 hz
      rfl
    · unfold maxLen
      omega
    · intro v' w' h1 h2 _
      refine h v' w' ?_ h2
      unfold OwnsI
      rw [List.length_append, List.map_append]
      exact h1
end Go.Proofs.YtiaibggbbkhjlaaDoor.Dm
