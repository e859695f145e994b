/-
  What falls to two parts of a domain: the numbers behind DomFalls. Nothing of the program.
-/
import Derived.Test.YtnabkhmonmcmfaaDoorDTell
namespace Go.Proofs.YtnabkhmonmcmfaaDoor
open Go.RowKit

section
variable {xs : List Int} {x : Nat} (h : mayL xs x = true)
include h
theorem fn_or (y : Int) : keepN xs x (pOnly y) ||| keepN xs x (pLess y) = x := by
  refine B.same_bits (Nat.or_lt_two_pow (n := 64) (keep_lt _ _ _) (keep_lt _ _ _)) (may_lt h) fun k hk => ?_
  rw [Nat.testBit_or, keep_bit _ _ _ _ hk, keep_bit _ _ _ _ hk]
  have := bit_len (k := k) (may_iff.1 h).2.1
  unfold pLess pOnly
  cases hb : x.testBit k
  · simp
  · simp only [this hb, decide_true, Bool.true_and]
    cases (decide (y ≤ xs.getD k 0) && decide (xs.getD k 0 ≤ y)) <;> rfl
omit h in
theorem fn_and (y : Int) : keepN xs x (pOnly y) &&& keepN xs x (pLess y) = 0 := by
  refine B.same_bits (Nat.lt_of_le_of_lt Nat.and_le_left (keep_lt _ _ _)) (by omega) fun k hk => ?_
  rw [Nat.testBit_and, keep_bit _ _ _ _ hk, keep_bit _ _ _ _ hk, Nat.zero_testBit]
  unfold pLess pOnly
  cases x.testBit k <;> cases decide (k < xs.length) <;> cases (decide (y ≤ xs.getD k 0) && decide (xs.getD k 0 ≤ y)) <;> rfl
theorem fn_not (p : Int → Bool) : keepN xs x p &&& (18446744073709551615 - x) = 0 := by
  refine B.same_bits (Nat.lt_of_le_of_lt Nat.and_le_left (keep_lt _ _ _)) (by omega) fun k hk => ?_
  rw [Nat.testBit_and, keep_bit _ _ _ _ hk, B.not_bit hk (may_lt h), Nat.zero_testBit]
  cases x.testBit k <;> simp
theorem fn_kept (p : Int → Bool) : keepL xs x p = keepN xs x p := if_pos h
theorem fn_keptX : keepX xs x = xs := if_pos h
theorem fn_turn (p q : Int → Bool) : keepL xs (keepN xs x p) q = keepL xs (keepN xs x q) p := by
  rw [keepL, keepL, if_pos (keep_may h p), if_pos (keep_may h q), keep_keep, keep_keep]
  congr 1
  funext z
  exact Bool.and_comm _ _
theorem fn_again (p : Int → Bool) : keepL xs (keepN xs x p) p = keepN xs x p := by
  rw [keepL, if_pos (keep_may h p), keep_keep]
  congr 1
  funext z
  exact Bool.and_self _
theorem fn_keepX (p : Int → Bool) : keepX xs (keepN xs x p) = xs := if_pos (keep_may h p)
theorem fn_size (y : Int) : (leftM xs (keepN xs x (pOnly y))).length + (leftM xs (keepN xs x (pLess y))).length = (leftM xs x).length := by
  rw [leftM, leftM, leftM, if_pos h, if_pos (keep_may h _), if_pos (keep_may h _), left_length, left_length, left_length]
  have e : ∀ (p q : Nat → Bool) (l : List Nat), (∀ k ∈ l, (p k = true ↔ q k = false)) → ∀ t : Nat → Bool, (l.filter (fun k => t k && p k)).length + (l.filter (fun k => t k && q k)).length = (l.filter t).length := by
    intro p q l
    induction l with
    | nil => intros; rfl
    | cons a r ih =>
      intro hpq t
      have h1 := ih (fun k hk => hpq k (List.mem_cons_of_mem _ hk)) t
      have h2 := hpq a (List.mem_cons_self)
      simp only [List.filter_cons]
      cases t a <;> cases hp : p a <;> cases hq : q a <;> simp [hp, hq] at h2 ⊢ <;> omega
  have g : ∀ p : Int → Bool, B.mem 64 (keepN xs x p) = (List.range 64).filter (fun k => x.testBit k && p (xs.getD k 0)) := by
    intro p
    unfold B.mem
    refine List.filter_congr fun k hk => ?_
    rw [keep_bit _ _ _ _ (by simpa using hk)]
    cases hb : x.testBit k
    · simp
    · simp [bit_len (may_iff.1 h).2.1 hb]
  rw [g, g]
  refine e (fun k => pOnly y (xs.getD k 0)) (fun k => pLess y (xs.getD k 0)) _ (fun k _ => ?_) _
  unfold pOnly pLess
  cases (decide (y ≤ xs.getD k 0) && decide (xs.getD k 0 ≤ y)) <;> simp

variable {u : World} {s : Value} (hr : Reads u s xs) (hl : xs.length ≤ 100) (hx : x < 18446744073709551616)
include hr hl hx
theorem fa_only (y : Int) : Calls Tryd.prog 24 #[.agg #[s, .int .u64 x], .int .i64 y] u (MadeL u xs (keepN xs x (pOnly y))) := by
  have := te_only hr hl x hx y
  rw [fn_keptX h, fn_kept h] at this
  exact this
theorem fa_less (y : Int) : Calls Tryd.prog 26 #[.agg #[s, .int .u64 x], .int .i64 y] u (MadeL u xs (keepN xs x (pLess y))) := by
  have := te_less hr hl x hx y
  rw [fn_keptX h, fn_kept h] at this
  exact this
theorem fa_between (low high : Int) : Calls Tryd.prog 28 #[.agg #[s, .int .u64 x], .int .i64 low, .int .i64 high] u (MadeL u xs (keepN xs x (pBetween low high))) := by
  have := te_between hr hl x hx low high
  rw [fn_keptX h, fn_kept h] at this
  exact this
theorem fa_may : Calls Tryd.prog 14 #[.agg #[s, .int .u64 x]] u fun e w' => e = .returned (.bool true) ∧ Below u.heap.size u w' := by
  have := te_may hr hl x hx
  rw [h] at this
  exact this
end
theorem fa_same {u : World} {s t : Value} {xs : List Int} {Y : Nat} (h : Reads u s xs) (h' : Reads u t xs) (hl : xs.length ≤ 1000000) : Calls Tryd.prog 29 #[.agg #[s, .int .u64 Y], .agg #[t, .int .u64 Y]] u fun e w' => e = .returned (.bool true) ∧ Below u.heap.size u w' := by
  refine (dsame_any h h' hl hl Y Y).mono ?_
  rintro e w' ⟨rfl, hB⟩
  exact ⟨by simp, hB⟩
end Go.Proofs.YtnabkhmonmcmfaaDoor
