/-
  Sets of numbers as lists and as numbers of 64 bits: what counting, the least one, the greatest one, taking the least away, and putting together come to. Nothing of the program.
-/
import Derived.Lib.BitFns
import Derived.Lib.TrailingZeros
namespace Go.Proofs.YtnabkhmonmcmfaaDoor.B

/-- the numbers below n that are in the set x, rising -/
def mem (n x : Nat) : List Nat := (List.range n).filter (fun k => x.testBit k)

theorem mem_succ (n x : Nat) : mem (n + 1) x = (if x % 2 = 1 then [0] else []) ++ (mem n (x / 2)).map (· + 1) := by
  unfold mem
  rw [List.range_succ_eq_map, List.filter_cons, List.filter_map]
  have h : ((fun k => x.testBit k) ∘ Nat.succ) = fun k => (x / 2).testBit k := by
    funext k
    simp [Nat.testBit_succ]
  rw [h]
  simp only [Nat.testBit_zero]
  by_cases h1 : x % 2 = 1 <;> simp [h1]

theorem mem_none (n : Nat) : mem n 0 = [] := by
  unfold mem
  simp

theorem mem_length : ∀ (n x : Nat), (mem n x).length = Lib.popAux n x
  | 0, x => by simp [mem, Lib.popAux]
  | n + 1, x => by
    rw [mem_succ, List.length_append, List.length_map, mem_length n (x / 2), Lib.popAux]
    by_cases h1 : x % 2 = 1
    · simp [h1]
    · have : x % 2 = 0 := by omega
      simp [this]

theorem mem_cons : ∀ (n x : Nat), x ≠ 0 → x < 2 ^ n → mem n x = Lib.ctzFrom n x :: mem n (x &&& (x - 1))
  | 0, x, h0, h => by simp at h; omega
  | n + 1, x, h0, h => by
    rw [mem_succ, mem_succ, Lib.ctzFrom]
    have hd : (x &&& (x - 1)) / 2 = x / 2 &&& (x - 1) / 2 := Nat.and_div_two_pow (n := 1)
    have hm : (x &&& (x - 1)) % 2 = (x % 2) &&& ((x - 1) % 2) := Nat.and_mod_two_pow (n := 1)
    by_cases h1 : x % 2 = 1
    · have h2 : (x - 1) % 2 = 0 := by omega
      have h3 : (x - 1) / 2 = x / 2 := by omega
      rw [hd, hm, h1, h2, h3]
      simp
    · have h2 : x % 2 = 0 := by omega
      have h3 : (x - 1) / 2 = x / 2 - 1 := by omega
      rw [hd, hm, h2, h3, mem_cons n (x / 2) (by omega) (by rw [Nat.pow_succ] at h; omega)]
      simp [Nat.add_comm]

theorem mem_last : ∀ (n x : Nat), x ≠ 0 → x < 2 ^ n → ∃ l, mem n x = l ++ [Lib.bitLenAux n x - 1] ∧ 0 < Lib.bitLenAux n x
  | 0, x, h0, h => by simp at h; omega
  | n + 1, x, h0, h => by
    rw [mem_succ, Lib.bitLenAux, if_neg h0]
    by_cases h2 : x / 2 = 0
    · have h1 : x % 2 = 1 := by omega
      have hb : Lib.bitLenAux n 0 = 0 := by cases n <;> simp [Lib.bitLenAux]
      rw [h2, hb, mem_none]
      exact ⟨[], by simp [h1], by omega⟩
    · obtain ⟨l, hl, hp⟩ := mem_last n (x / 2) h2 (by rw [Nat.pow_succ] at h; omega)
      rw [hl]
      refine ⟨(if x % 2 = 1 then [0] else []) ++ l.map (· + 1), ?_, by omega⟩
      rw [List.map_append, List.append_assoc]
      simp
      omega

theorem mem_lt {n x k : Nat} (h : k ∈ mem n x) : k < n := by
  unfold mem at h
  simp at h
  exact h.1
theorem mem_iff {n x k : Nat} : k ∈ mem n x ↔ k < n ∧ x.testBit k = true := by
  unfold mem
  simp
theorem mem_length_le (n x : Nat) : (mem n x).length ≤ n := by
  unfold mem
  have := List.length_filter_le (fun k => x.testBit k) (List.range n)
  simpa using this

/-- the number of n bits of those of which p is true -/
def mk : Nat → (Nat → Bool) → Nat
  | 0, _ => 0
  | n + 1, p => 2 * mk n (fun k => p (k + 1)) + (p 0).toNat

theorem mk_lt : ∀ (n : Nat) (p : Nat → Bool), mk n p < 2 ^ n
  | 0, p => by simp [mk]
  | n + 1, p => by
    have := mk_lt n (fun k => p (k + 1))
    have h : (p 0).toNat ≤ 1 := by cases p 0 <;> simp
    rw [mk, Nat.pow_succ]
    omega

theorem mk_bit : ∀ (n : Nat) (p : Nat → Bool) (k : Nat), (mk n p).testBit k = (decide (k < n) && p k)
  | 0, p, k => by simp [mk]
  | n + 1, p, 0 => by
    rw [mk, Nat.testBit_zero]
    cases p 0 <;> simp <;> omega
  | n + 1, p, k + 1 => by
    rw [mk, Nat.testBit_succ]
    have h : (2 * mk n (fun k => p (k + 1)) + (p 0).toNat) / 2 = mk n (fun k => p (k + 1)) := by
      cases p 0 <;> simp <;> omega
    rw [h, mk_bit n _ k]
    simp

/-- two numbers of 64 bits with the same bits -/
theorem same_bits {x y : Nat} (hx : x < 18446744073709551616) (hy : y < 18446744073709551616) (h : ∀ k, k < 64 → x.testBit k = y.testBit k) : x = y := by
  apply Nat.eq_of_testBit_eq
  intro k
  by_cases hk : k < 64
  · exact h k hk
  · rw [Nat.testBit_lt_two_pow (Nat.lt_of_lt_of_le hx (Nat.pow_le_pow_right (n := 2) (by decide) (by omega : 64 ≤ k))), Nat.testBit_lt_two_pow (Nat.lt_of_lt_of_le hy (Nat.pow_le_pow_right (n := 2) (by decide) (by omega : 64 ≤ k)))]

theorem mk_congr {p q : Nat → Bool} (h : ∀ k, k < 64 → p k = q k) : mk 64 p = mk 64 q := by
  refine same_bits (mk_lt 64 p) (mk_lt 64 q) fun k hk => ?_
  rw [mk_bit, mk_bit, h k hk]

theorem mem_congr {x y : Nat} (h : ∀ k, k < 64 → x.testBit k = y.testBit k) : mem 64 x = mem 64 y := by
  unfold mem
  apply List.filter_congr
  intro k hk
  exact h k (by simpa using hk)
end Go.Proofs.YtnabkhmonmcmfaaDoor.B
