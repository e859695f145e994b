/-
  Lists of elements that a call makes, in memory: what each element's cells are. Nothing of the program.
  Sets of numbers as lists and as numbers of 64 bits: what counting, the least one, the greatest one, taking the least away, and putting together come to. Nothing of the program.
-/
import Derived.Test.YtiaibggbbkhjlaaDoorZYAB
import Derived.Maps.AppendAt
import Derived.Lib.BitFns
import Derived.Lib.TrailingZeros
namespace Go.Proofs.YtiaibggbbkhjlaaDoor
open Go.RowKit
set_option maxRecDepth 100000

/-- v is a slice in memory from base on (elements of type e, of n cells each); what R says of each element's cells holds of L's -/
def OwnsP {α : Type} (R : List Value → α → Prop) (n : Nat) (e : TypeId) (base : Nat) (w : World) (v : Value) (L : List α) : Prop :=
  ∃ cs : List Value, w.ownsRow base e n v L.length cs ∧ cs.length = L.length * n ∧ ∀ (k : Nat) (a : α), L[k]? = some a → ∃ c : List Value, c.length = n ∧ (∀ j, j < n → cs[k * n + j]? = c[j]?) ∧ R c a
theorem ownsP_nil {α : Type} (R : List Value → α → Prop) (n : Nat) (e : TypeId) (base : Nat) (w : World) : OwnsP R n e base w (.slice none 0 0) ([] : List α) := ⟨[], World.ownsRow_nil _ _ _ _, by simp, fun k a h => by simp at h⟩
theorem ownsP_made {α : Type} (R : List Value → α → Prop) (n : Nat) (e : TypeId) {base : Nat} (w : World) (h : base ≤ w.heap.size) : OwnsP R n e base (w.alloc (.cells #[] e)) (.slice (some ⟨w.heap.size, 0, none⟩) 0 0) ([] : List α) :=
  ⟨[], World.ownsRow_made w #[] 0 h (by unfold maxLen; omega) (by simp), by simp, fun k a h => by simp at h⟩
section
variable {α : Type} {R : List Value → α → Prop} {n : Nat} {e : TypeId} {base : Nat} {w w' : World} {v : Value} {L : List α}
theorem OwnsP.shape (h : OwnsP R n e base w v L) : ∃ (p : Option Addr) (cap : Nat), v = .slice p L.length cap := by
  obtain ⟨cs, h1, _⟩ := h
  rcases h1.2 with ⟨rfl, hl⟩ | ⟨g, cap, cur, rfl, hb, hg, hn, hc, hs, ht⟩
  · exact ⟨none, 0, by rw [hl]⟩
  · exact ⟨_, cap, rfl⟩
theorem OwnsP.below (h : OwnsP R n e base w v L) (hB : Below w.heap.size w w') : OwnsP R n e base w' v L := by
  obtain ⟨cs, h1, h2⟩ := h
  exact ⟨cs, owns_below h1 hB, h2⟩
theorem OwnsP.lt (h : OwnsP R n e base w v L) : ∀ k, v.ownBlock = some k → base ≤ k ∧ k < w.heap.size := by
  obtain ⟨cs, h1, _⟩ := h
  exact h1.lt
theorem OwnsP.imp {R' : List Value → α → Prop} (h : OwnsP R n e base w v L) (f : ∀ c a, a ∈ L → R c a → R' c a) : OwnsP R' n e base w v L := by
  obtain ⟨cs, h1, h2, h3⟩ := h
  refine ⟨cs, h1, h2, fun k a ha => ?_⟩
  obtain ⟨c, c1, c2, c3⟩ := h3 k a ha
  exact ⟨c, c1, c2, f c a (List.mem_of_getElem? ha) c3⟩
theorem OwnsP.low {low : Nat} (h : OwnsP R n e base w v L) (hl : low ≤ base) : OwnsP R n e low w v L := by
  obtain ⟨cs, h1, h2⟩ := h
  exact ⟨cs, owns_low h1 hl, h2⟩
theorem OwnsP.kept {row : Option Nat} (h : OwnsP R n e base w v L) (hg : w.grownBy w' row) (hne : v.ownBlock = none ∨ v.ownBlock ≠ row) : OwnsP R n e base w' v L := by
  obtain ⟨cs, h1, h2⟩ := h
  exact ⟨cs, h1.kept hg hne, h2⟩
/-- such a list reads as it is -/
theorem OwnsP.slc {R' : Reader α} (h : OwnsP R n e base w v L) (f : ∀ c a, a ∈ L → R c a → R' w c a) : Slc R' n w v L := by
  obtain ⟨cs, h1, h2, h3⟩ := h
  have h0 := h1
  rcases h1.2 with ⟨rfl, hl⟩ | ⟨g, cap, cur, rfl, hb, hg, hn, hc, hs, ht⟩
  · exact ⟨none, 0, 0, 0, 0, rfl, ⟨fun _ => rfl, Nat.le_refl _⟩, hl.symm, fun h => by omega, fun k a ha => by
      have := (List.getElem?_eq_some_iff.1 ha).1
      omega⟩
  · refine ⟨_, g, 0, cap, L.length, rfl, ⟨(fun h => by cases h), hn⟩, rfl, fun _ => rfl, fun k a ha => ?_⟩
    have hk := (List.getElem?_eq_some_iff.1 ha).1
    obtain ⟨c, c1, c2, c3⟩ := h3 k a ha
    refine ⟨c, c1, fun j hj => ?_, f c a (List.mem_of_getElem? ha) c3⟩
    have hlt : k * n + j < L.length * n := by
      have := Nat.mul_le_mul_right n (Nat.succ_le_of_lt hk)
      rw [Nat.succ_mul] at this
      omega
    rw [Nat.zero_add, h0.cellAt (k * n + j) hlt, c2 j hj]
end
/-- lists of elements of unlike types lie in unlike blocks -/
theorem OwnsP.apart {α β : Type} {R : List Value → α → Prop} {S : List Value → β → Prop} {n m : Nat} {e f : TypeId} {b c : Nat} {w : World} {u v : Value} {L : List α} {M : List β} (h : OwnsP R n e b w u L) (k : OwnsP S m f c w v M) (hne : e ≠ f) : u.ownBlock = none ∨ u.ownBlock ≠ v.ownBlock := by
  obtain ⟨_, h1, _⟩ := h
  obtain ⟨_, k1, _⟩ := k
  rcases h1.2 with ⟨rfl, _⟩ | ⟨g, cap, cur, rfl, hb, hg, _⟩
  · exact .inl rfl
  · rcases k1.2 with ⟨rfl, _⟩ | ⟨g', cap', cur', rfl, hb', hg', _⟩
    · exact .inr (by simp [Value.ownBlock])
    · refine .inr fun he => hne ?_
      simp only [Value.ownBlock, Option.some.injEq] at he
      subst he
      rw [hg] at hg'
      simp only [Option.some.injEq, Obj.cells.injEq] at hg'
      exact hg'.2.1

/-- the block of its own is what it was -/
theorem OwnsP.same {α : Type} {R : List Value → α → Prop} {n : Nat} {e : TypeId} {base : Nat} {w w' : World} {v : Value} {L : List α} (h : OwnsP R n e base w v L) (hk : ∀ k, v.ownBlock = some k → w'.heap[k]? = w.heap[k]?) : OwnsP R n e base w' v L := by
  obtain ⟨cs, h1, h2⟩ := h
  refine ⟨cs, ⟨h1.1, ?_⟩, h2⟩
  rcases h1.2 with q | ⟨g, cap, cur, rfl, hb, hg, r⟩
  · exact .inl q
  · exact .inr ⟨g, cap, cur, rfl, hb, (hk g rfl).trans hg, r⟩
/-- its block holds elements of its type -/
theorem OwnsP.kind {α : Type} {R : List Value → α → Prop} {n : Nat} {e : TypeId} {base : Nat} {w : World} {v : Value} {L : List α} (h : OwnsP R n e base w v L) {k : Nat} (hk : v.ownBlock = some k) : ∃ cs, w.heap[k]? = some (.cells cs e) := by
  obtain ⟨cs, h1, _⟩ := h
  rcases h1.2 with ⟨rfl, _⟩ | ⟨g, cap, cur, rfl, hb, hg, r⟩
  · simp [Value.ownBlock] at hk
  · simp only [Value.ownBlock, Option.some.injEq] at hk
    subst hk
    exact ⟨cur, hg⟩

/-- one element, laid out in cells of its own, behind a list -/
theorem append_put {α : Type} {R : List Value → α → Prop} {w : World} {ops : Array Oper} {rest : List Oper} {o : Oper} {a : Act} {Q : Exit → Act → World → Prop} (hgd : o.guard = none) (s x : Operand) (t e : TypeId) (n by_ : Nat) (i0 : TypeInfo) (z : Value)
    (ht : Tryd.prog.underlying t = some (.slice e)) (hi : Tryd.prog.info? e = some i0) (hz0 : i0.zero = some z) (hz1 : i0.size = n) (hz2 : i0.bytes = by_) (hzc : z.cells.size = n) (hpos : 0 < n) (hby2 : by_ ≤ 128)
    (ho : o.op = .call { callee := .builtin .append, args := #[s, x], argTypes := #[t, t] }) (base : Nat) (v : Value) (b c : Nat) (L : List α) (y : α) (cs : List Value) (hs : a.eval s = v) (hx : a.eval x = .slice (some ⟨b, 0, none⟩) 1 c)
    (hown : OwnsP R n e base w v L) (hlen : cs.length = n) (hcell : ∀ i u, cs[i]? = some u → w.cell? ⟨b, i, none⟩ = some u) (h1 : ∀ u ∈ cs, u.oneCell' = true) (hR : R cs y) (hsm : L.length ≤ 100000) (hbase : base ≤ w.heap.size)
    (h : ∀ v' w', OwnsP R n e base w' v' (L ++ [y]) → w.grownBy w' v.ownBlock → (v'.ownBlock = v.ownBlock ∨ v'.ownBlock = some w.heap.size) → wpList Tryd.prog ops Q rest (a.put o.dst v') w') : wpList Tryd.prog ops Q (o :: rest) a w := by
  obtain ⟨os, o1, o2, o3⟩ := hown
  refine wpList_append_own_at w hgd s x t ho base e i0 z n by_ ht hi hz0 hz1 hz2 hzc hpos v L.length os hs o1 ⟨b, 0, none⟩ 1 c cs hx (by rw [hlen, Nat.one_mul]) (fun j u hj => by rw [add_plain', Nat.zero_add]; exact hcell j u hj) h1 (by unfold maxLen; omega) ?_ hbase ?_
  · have : (L.length + 1) * by_ ≤ 100001 * 128 := Nat.mul_le_mul (by omega) hby2
    omega
  · intro v' w' g1 g2 _ g4
    refine h v' w' ⟨os ++ cs, ?_, ?_, fun k b' hk => ?_⟩ g2 g4
    · rw [List.length_append]
      exact g1
    · rw [List.length_append, List.length_append, o2, hlen, Nat.add_mul]
      simp
    · by_cases hlt : k < L.length
      · rw [List.getElem?_append_left hlt] at hk
        obtain ⟨d, d1, d2, d3⟩ := o3 k b' hk
        refine ⟨d, d1, fun j hj => ?_, d3⟩
        have hl : k * n + j < os.length := by
          rw [o2]
          have := Nat.mul_le_mul_right n (Nat.succ_le_of_lt hlt)
          rw [Nat.succ_mul] at this
          omega
        rw [List.getElem?_append_left hl, d2 j hj]
      · rw [List.getElem?_append_right (by omega)] at hk
        have hk1 := (List.getElem?_eq_some_iff.1 hk).1
        obtain rfl : k = L.length := by simp at hk1; omega
        rw [Nat.sub_self] at hk
        obtain rfl : y = b' := by simpa using hk
        refine ⟨cs, hlen, fun j hj => ?_, hR⟩
        rw [List.getElem?_append_right (by rw [o2]; omega), o2, Nat.add_sub_cancel_left]

end Go.Proofs.YtiaibggbbkhjlaaDoor
namespace Go.Proofs.YtiaibggbbkhjlaaDoor.B

/-- the numbers below n that are in the set x, rising -/
def mem (n x : Nat) : List Nat := (List.range n).filter (fun k => x.testBit k)

theorem mem_succ (n x : Nat) : mem (n + 1) x = (if x % 2 = 1 then [0] else []) ++ (mem n (x / 2)).map (· + 1) := by
  unfold mem
  rw [List.range_succ_eq_map, List.filter_cons, List.filter_map]
  have h : ((fun k => x.testBit k) ∘ Nat.succ) = fun k => (x / 2).testBit k := by
    funext k
    simp [Nat.testBit_succ]
  rw [h]
  simp only [Nat.testBit_zero]
  by_cases h1 : x % 2 = 1 <;> simp [h1]

theorem mem_none (n : Nat) : mem n 0 = [] := by
  unfold mem
  simp

theorem mem_length : ∀ (n x : Nat), (mem n x).length = Lib.popAux n x
  | 0, x => by simp [mem, Lib.popAux]
  | n + 1, x => by
    rw [mem_succ, List.length_append, List.length_map, mem_length n (x / 2), Lib.popAux]
    by_cases h1 : x % 2 = 1
    · simp [h1]
    · have : x % 2 = 0 := by omega
      simp [this]

theorem mem_cons : ∀ (n x : Nat), x ≠ 0 → x < 2 ^ n → mem n x = Lib.ctzFrom n x :: mem n (x &&& (x - 1))
  | 0, x, h0, h => by simp at h; omega
  | n + 1, x, h0, h => by
    rw [mem_succ, mem_succ, Lib.ctzFrom]
    have hd : (x &&& (x - 1)) / 2 = x / 2 &&& (x - 1) / 2 := Nat.and_div_two_pow (n := 1)
    have hm : (x &&& (x - 1)) % 2 = (x % 2) &&& ((x - 1) % 2) := Nat.and_mod_two_pow (n := 1)
    by_cases h1 : x % 2 = 1
    · have h2 : (x - 1) % 2 = 0 := by omega
      have h3 : (x - 1) / 2 = x / 2 := by omega
      rw [hd, hm, h1, h2, h3]
      simp
    · have h2 : x % 2 = 0 := by omega
      have h3 : (x - 1) / 2 = x / 2 - 1 := by omega
      rw [hd, hm, h2, h3, mem_cons n (x / 2) (by omega) (by rw [Nat.pow_succ] at h; omega)]
      simp [Nat.add_comm]

theorem mem_last : ∀ (n x : Nat), x ≠ 0 → x < 2 ^ n → ∃ l, mem n x = l ++ [Lib.bitLenAux n x - 1] ∧ 0 < Lib.bitLenAux n x
  | 0, x, h0, h => by simp at h; omega
  | n + 1, x, h0, h => by
    rw [mem_succ, Lib.bitLenAux, if_neg h0]
    by_cases h2 : x / 2 = 0
    · have h1 : x % 2 = 1 := by omega
      have hb : Lib.bitLenAux n 0 = 0 := by cases n <;> simp [Lib.bitLenAux]
      rw [h2, hb, mem_none]
      exact ⟨[], by simp [h1], by omega⟩
    · obtain ⟨l, hl, hp⟩ := mem_last n (x / 2) h2 (by rw [Nat.pow_succ] at h; omega)
      rw [hl]
      refine ⟨(if x % 2 = 1 then [0] else []) ++ l.map (· + 1), ?_, by omega⟩
      rw [List.map_append, List.append_assoc]
      simp
      omega

theorem mem_lt {n x k : Nat} (h : k ∈ mem n x) : k < n := by
  unfold mem at h
  simp at h
  exact h.1
theorem mem_iff {n x k : Nat} : k ∈ mem n x ↔ k < n ∧ x.testBit k = true := by
  unfold mem
  simp
theorem mem_length_le (n x : Nat) : (mem n x).length ≤ n := by
  unfold mem
  have := List.length_filter_le (fun k => x.testBit k) (List.range n)
  simpa using this

/-- the number of n bits of those of which p is true -/
def mk : Nat → (Nat → Bool) → Nat
  | 0, _ => 0
  | n + 1, p => 2 * mk n (fun k => p (k + 1)) + (p 0).toNat

theorem mk_lt : ∀ (n : Nat) (p : Nat → Bool), mk n p < 2 ^ n
  | 0, p => by simp [mk]
  | n + 1, p => by
    have := mk_lt n (fun k => p (k + 1))
    have h : (p 0).toNat ≤ 1 := by cases p 0 <;> simp
    rw [mk, Nat.pow_succ]
    omega

theorem mk_bit : ∀ (n : Nat) (p : Nat → Bool) (k : Nat), (mk n p).testBit k = (decide (k < n) && p k)
  | 0, p, k => by simp [mk]
  | n + 1, p, 0 => by
    rw [mk, Nat.testBit_zero]
    cases p 0 <;> simp <;> omega
  | n + 1, p, k + 1 => by
    rw [mk, Nat.testBit_succ]
    have h : (2 * mk n (fun k => p (k + 1)) + (p 0).toNat) / 2 = mk n (fun k => p (k + 1)) := by
      cases p 0 <;> simp <;> omega
    rw [h, mk_bit n _ k]
    simp

/-- two numbers of 64 bits with the same bits -/
theorem same_bits {x y : Nat} (hx : x < 18446744073709551616) (hy : y < 18446744073709551616) (h : ∀ k, k < 64 → x.testBit k = y.testBit k) : x = y := by
  apply Nat.eq_of_testBit_eq
  intro k
  by_cases hk : k < 64
  · exact h k hk
  · rw [Nat.testBit_lt_two_pow (Nat.lt_of_lt_of_le hx (Nat.pow_le_pow_right (n := 2) (by decide) (by omega : 64 ≤ k))), Nat.testBit_lt_two_pow (Nat.lt_of_lt_of_le hy (Nat.pow_le_pow_right (n := 2) (by decide) (by omega : 64 ≤ k)))]

theorem mk_congr {p q : Nat → Bool} (h : ∀ k, k < 64 → p k = q k) : mk 64 p = mk 64 q := by
  refine same_bits (mk_lt 64 p) (mk_lt 64 q) fun k hk => ?_
  rw [mk_bit, mk_bit, h k hk]

theorem mem_congr {x y : Nat} (h : ∀ k, k < 64 → x.testBit k = y.testBit k) : mem 64 x = mem 64 y := by
  unfold mem
  apply List.filter_congr
  intro k hk
  exact h k (by simpa using hk)
end Go.Proofs.YtiaibggbbkhjlaaDoor.B
