/-
  Domains as lists of numbers and sets of places: when one may be, what is left, and what is kept. Nothing of the program.
-/
import Derived.Test.YtnabkhmonmcmfaaDoorBLeaf
import Derived.Test.YtnabkhmonmcmfaaDoorBList
import Derived.Test.YtnabkhmonmcmfaaDoorSNum
namespace Go.Proofs.YtnabkhmonmcmfaaDoor

/-- rising from m on, none above 1048576 -/
def riseF : Int → List Int → Bool
  | _, [] => true
  | m, v :: r => decide (m ≤ v) && decide (v ≤ 1048576) && riseF (v + 1) r
/-- may a domain be? -/
def mayL (xs : List Int) (x : Nat) : Bool := decide (xs.length ≤ 64) && decide (x < 2 ^ xs.length) && riseF (-1048576) xs
/-- the values that are left -/
def left (xs : List Int) (x : Nat) : List Int := (B.mem 64 x).map (fun k => xs.getD k 0)
/-- the places of values of which p is true -/
def placesN (xs : List Int) (p : Int → Bool) : Nat := B.mk 64 (fun k => decide (k < xs.length) && p (xs.getD k 0))
/-- what is left of which p is true -/
def keepN (xs : List Int) (x : Nat) (p : Int → Bool) : Nat := B.mk 64 (fun k => x.testBit k && (decide (k < xs.length) && p (xs.getD k 0)))

theorem may_iff {xs : List Int} {x : Nat} : mayL xs x = true ↔ xs.length ≤ 64 ∧ x < 2 ^ xs.length ∧ riseF (-1048576) xs = true := by
  simp [mayL, and_assoc]
theorem rise_cons {m v : Int} {r : List Int} : riseF m (v :: r) = true ↔ m ≤ v ∧ v ≤ 1048576 ∧ riseF (v + 1) r = true := by
  simp [riseF, and_assoc]
theorem rise_low : ∀ {xs : List Int} {m v : Int}, riseF m xs = true → v ∈ xs → m ≤ v ∧ v ≤ 1048576
  | [], m, v, _, h => by simp at h
  | y :: r, m, v, hr, h => by
    rw [rise_cons] at hr
    rcases List.mem_cons.1 h with rfl | h
    · omega
    · have := rise_low hr.2.2 h
      omega
theorem cnt_zero {xs : List Int} {m t : Int} (hr : riseF m xs = true) (h : t ≤ m) : xs.countP (· < t) = 0 := by
  rw [List.countP_eq_zero]
  intro v hv
  have := rise_low hr hv
  simp
  omega
theorem cnt_at : ∀ {xs : List Int} {m t : Int} {k : Nat}, riseF m xs = true → k < xs.length → (xs.getD k 0 < t ↔ k < xs.countP (· < t))
  | [], m, t, k, _, h => by simp at h
  | v :: r, m, t, k, hr, h => by
    rw [rise_cons] at hr
    rw [List.countP_cons]
    by_cases hv : v < t
    · cases k with
      | zero => simp [hv]
      | succ k =>
        have := cnt_at (t := t) hr.2.2 (by simpa using h : k < r.length)
        simp [hv] at this ⊢
        exact this
    · have hz := cnt_zero (t := t) hr.2.2 (by omega)
      rw [hz]
      cases k with
      | zero => simp [hv]
      | succ k =>
        have hk : k < r.length := by simpa using h
        have hm : r.getD k 0 ∈ r := by
          rw [List.getD_eq_getElem?_getD, List.getElem?_eq_getElem hk]
          exact List.getElem_mem hk
        have := rise_low hr.2.2 hm
        simp [hv] at this ⊢
        omega
theorem cnt_next : ∀ {xs : List Int} {m t : Int}, riseF m xs = true → xs.countP (· < t + 1) = xs.countP (· < t) + (if xs.contains t then 1 else 0)
  | [], m, t, _ => by simp
  | v :: r, m, t, hr => by
    rw [rise_cons] at hr
    rw [List.countP_cons, List.countP_cons]
    by_cases h1 : v < t
    · have hn := cnt_next (t := t) hr.2.2
      rw [hn]
      have h2 : v < t + 1 := by omega
      have h3 : ¬ t = v := by omega
      simp [h1, h2, h3]
      omega
    · by_cases h2 : v = t
      · subst h2
        have hz := cnt_zero (t := v + 1) hr.2.2 (by omega)
        have hz2 := cnt_zero (t := v) hr.2.2 (by omega)
        rw [hz, hz2]
        have h3 : v < v + 1 := by omega
        simp [h3]
      · have hz := cnt_zero (t := t + 1) hr.2.2 (by omega)
        have hz2 := cnt_zero (t := t) hr.2.2 (by omega)
        rw [hz, hz2]
        have h3 : ¬ v < t + 1 := by omega
        have h4 : ¬ t = v := by omega
        have h5 : r.contains t = false := by
          cases e : r.contains t
          · rfl
          · have := rise_low hr.2.2 (by simpa using e : t ∈ r)
            omega
        simp only [List.contains_cons, h5]
        simp [h1, h3, h4]
theorem cnt_le (xs : List Int) (t : Int) : xs.countP (· < t) ≤ xs.length := List.countP_le_length

/-- where the values from low to high stand -/
theorem places_eq {xs : List Int} {m low high : Int} (hr : riseF m xs = true) :
    B.betweenN (xs.countP (· < low) : Nat) (((xs.countP (· < high) : Nat) : Int) - (if xs.contains high then 0 else 1)) = placesN xs (fun y => decide (low ≤ y) && decide (y ≤ high)) := by
  unfold B.betweenN placesN
  refine B.mk_congr fun k _ => ?_
  have h3 := cnt_le xs high
  have h4 := cnt_next (t := high) hr
  have h5 := cnt_le xs (high + 1)
  by_cases hk : k < xs.length
  · have h1 := cnt_at (t := low) hr hk
    have h2 := cnt_at (t := high + 1) hr hk
    rw [Bool.eq_iff_iff]
    simp only [hk, decide_true, Bool.true_and, Bool.and_eq_true, decide_eq_true_eq]
    split at h4 <;> simp_all <;> omega
  · rw [Bool.eq_iff_iff]
    simp only [hk, decide_false, Bool.false_and, Bool.and_eq_true, decide_eq_true_eq]
    split at h4 <;> simp_all <;> omega

theorem places_lt (xs : List Int) (p : Int → Bool) : placesN xs p < 18446744073709551616 := B.mk_lt 64 _
theorem keep_lt (xs : List Int) (x : Nat) (p : Int → Bool) : keepN xs x p < 18446744073709551616 := B.mk_lt 64 _
theorem keep_and {x : Nat} (hx : x < 18446744073709551616) (xs : List Int) (p : Int → Bool) : x &&& placesN xs p = keepN xs x p := by
  refine B.same_bits (Nat.lt_of_le_of_lt Nat.and_le_left hx) (keep_lt _ _ _) fun k hk => ?_
  rw [Nat.testBit_and, placesN, keepN, B.mk_bit, B.mk_bit]
  simp [hk]
theorem bit_len {x n k : Nat} (h : x < 2 ^ n) (hb : x.testBit k = true) : k < n := by
  rcases Nat.lt_or_ge k n with h1 | h1
  · exact h1
  · rw [Nat.testBit_lt_two_pow (Nat.lt_of_lt_of_le h (Nat.pow_le_pow_right (by decide) h1))] at hb
    simp at hb
/-- what the other places keep -/
theorem keep_not {xs : List Int} {x : Nat} (hx : x < 18446744073709551616) (hl : x < 2 ^ xs.length) (p : Int → Bool) : x &&& (18446744073709551615 - placesN xs p) = keepN xs x (fun y => !p y) := by
  refine B.same_bits (Nat.lt_of_le_of_lt Nat.and_le_left hx) (keep_lt _ _ _) fun k hk => ?_
  rw [Nat.testBit_and, B.not_bit hk (places_lt _ _), placesN, keepN, B.mk_bit, B.mk_bit]
  cases hb : x.testBit k
  · simp
  · have := bit_len hl hb
    simp [hk, this]
theorem keep_bit (xs : List Int) (x : Nat) (p : Int → Bool) (k : Nat) (hk : k < 64) : (keepN xs x p).testBit k = (x.testBit k && (decide (k < xs.length) && p (xs.getD k 0))) := by
  rw [keepN, B.mk_bit]
  simp [hk]
theorem may_lt {xs : List Int} {x : Nat} (h : mayL xs x = true) : x < 18446744073709551616 := by
  rw [may_iff] at h
  exact Nat.lt_of_lt_of_le h.2.1 (Nat.pow_le_pow_right (n := 2) (by decide) h.1)
theorem keep_may {xs : List Int} {x : Nat} (h : mayL xs x = true) (p : Int → Bool) : mayL xs (keepN xs x p) = true := by
  rw [may_iff] at h ⊢
  refine ⟨h.1, ?_, h.2.2⟩
  apply Nat.lt_pow_two_of_testBit
  intro k hk
  by_cases h6 : k < 64
  · rw [keep_bit _ _ _ _ h6]
    have : ¬ k < xs.length := by omega
    simp [this]
  · exact Nat.testBit_lt_two_pow (Nat.lt_of_lt_of_le (keep_lt _ _ _) (Nat.pow_le_pow_right (n := 2) (by decide) (by omega : 64 ≤ k)))
theorem keep_keep (xs : List Int) (x : Nat) (p q : Int → Bool) : keepN xs (keepN xs x p) q = keepN xs x (fun y => p y && q y) := by
  refine B.mk_congr fun k hk => ?_
  rw [keep_bit _ _ _ _ hk]
  cases x.testBit k <;> cases decide (k < xs.length) <;> simp
theorem keep_congr {xs : List Int} {x : Nat} {p q : Int → Bool} (h : ∀ k, k < xs.length → x.testBit k = true → p (xs.getD k 0) = q (xs.getD k 0)) : keepN xs x p = keepN xs x q := by
  refine B.mk_congr fun k hk => ?_
  cases hb : x.testBit k
  · simp
  · by_cases hl : k < xs.length
    · rw [h k hl hb]
    · simp [hl]
theorem keep_zero (xs : List Int) (p : Int → Bool) : keepN xs 0 p = 0 := by
  refine B.same_bits (keep_lt _ _ _) (by omega) fun k hk => ?_
  rw [keep_bit _ _ _ _ hk, Nat.zero_testBit]
  rfl

theorem len_lt : ∀ (f x : Nat), x < 2 ^ f → x < 2 ^ Lib.bitLenAux f x
  | 0, x, h => by simpa [Lib.bitLenAux] using h
  | f + 1, x, h => by
    rw [Lib.bitLenAux]
    split
    · subst x
      simp
    · have := len_lt f (x / 2) (by rw [Nat.pow_succ] at h; omega)
      rw [Nat.add_comm 1, Nat.pow_succ]
      omega
/-- the greatest place of a set is below n just if the set is below 2 ^ n -/
theorem greatest_lt {x n : Nat} (hx : x < 18446744073709551616) (hn : n ≤ 64) : B.lastZ (B.mem 64 x) < (n : Int) ↔ x < 2 ^ n := by
  rw [B.greatest_eq x hx]
  constructor
  · intro h
    exact Nat.lt_of_lt_of_le (len_lt 64 x hx) (Nat.pow_le_pow_right (by decide) (by unfold Lib.bitLen at h; omega))
  · intro h
    have := Lib.bitLen_le x n hn h
    omega

theorem mem_snoc (n x : Nat) : B.mem (n + 1) x = B.mem n x ++ (if x.testBit n then [n] else []) := by
  unfold B.mem
  rw [List.range_succ, List.filter_append]
  congr 1
  cases h : x.testBit n <;> simp [h]
theorem mem_same {n x : Nat} (h : x < 2 ^ n) : ∀ d, B.mem (n + d) x = B.mem n x
  | 0 => rfl
  | d + 1 => by
    rw [← Nat.add_assoc, mem_snoc, mem_same h d]
    cases hb : x.testBit (n + d)
    · simp
    · have := bit_len h hb
      omega
theorem left_len {xs : List Int} {x : Nat} (h : mayL xs x = true) : left xs x = (B.mem xs.length x).map (fun k => xs.getD k 0) := by
  rw [may_iff] at h
  have := mem_same h.2.1 (64 - xs.length)
  rw [show xs.length + (64 - xs.length) = 64 by omega] at this
  rw [left, this]
theorem left_mem {xs : List Int} {x : Nat} (h : mayL xs x = true) (v : Int) : v ∈ left xs x ↔ ∃ k, k < xs.length ∧ x.testBit k = true ∧ xs.getD k 0 = v := by
  rw [left_len h]
  simp [B.mem_iff, and_assoc]
theorem left_ok {xs : List Int} {x : Nat} (h : mayL xs x = true) (v : Int) (hv : v ∈ left xs x) : -1048576 ≤ v ∧ v ≤ 1048576 := by
  obtain ⟨k, hk, _, rfl⟩ := (left_mem h v).1 hv
  have hm : xs.getD k 0 ∈ xs := by
    rw [List.getD_eq_getElem?_getD, List.getElem?_eq_getElem hk]
    exact List.getElem_mem hk
  rw [may_iff] at h
  exact rise_low h.2.2 hm
theorem left_length (xs : List Int) (x : Nat) : (left xs x).length = (B.mem 64 x).length := by simp [left]
theorem left_le (xs : List Int) (x : Nat) : (left xs x).length ≤ 64 := by
  rw [left_length]
  exact B.mem_length_le 64 x
theorem left_none (xs : List Int) : left xs 0 = [] := by simp [left, B.mem_none]
/-- is a value left? -/
theorem left_has {xs : List Int} {x : Nat} (h : mayL xs x = true) (v : Int) : (keepN xs x (fun y => decide (v ≤ y) && decide (y ≤ v)) ≠ 0) ↔ v ∈ left xs x := by
  rw [left_mem h]
  have h0 := may_iff.1 h
  constructor
  · intro hne
    obtain ⟨k, hk⟩ := Nat.exists_testBit_of_ne_zero hne
    have hk64 : k < 64 := by
      rcases Nat.lt_or_ge k 64 with h1 | h1
      · exact h1
      · rw [Nat.testBit_lt_two_pow (Nat.lt_of_lt_of_le (keep_lt _ _ _) (Nat.pow_le_pow_right (n := 2) (by decide) h1))] at hk
        simp at hk
    rw [keep_bit _ _ _ _ hk64] at hk
    simp at hk
    exact ⟨k, hk.2.1, hk.1, by simp; omega⟩
  · rintro ⟨k, hk, hb, rfl⟩ h1
    have h2 := keep_bit xs x (fun y => decide (xs.getD k 0 ≤ y) && decide (y ≤ xs.getD k 0)) k (by omega)
    rw [h1, Nat.zero_testBit, hb] at h2
    simp [hk] at h2
/-- the zero domain, if one may not be -/
def keepX (xs : List Int) (x : Nat) : List Int := if mayL xs x = true then xs else []
def keepL (xs : List Int) (x : Nat) (p : Int → Bool) : Nat := if mayL xs x = true then keepN xs x p else 0
def leftM (xs : List Int) (x : Nat) : List Int := if mayL xs x = true then left xs x else []
theorem leftM_le (xs : List Int) (x : Nat) : (leftM xs x).length ≤ 64 := by
  unfold leftM
  split
  · exact left_le xs x
  · simp
end Go.Proofs.YtnabkhmonmcmfaaDoor
