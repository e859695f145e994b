/-
  Going through the ends of two right lists at once: what is kept so far.
-/
import Derived.Test.YtehflpgnbbafpaaNum
namespace Go.Proofs.Ytehflpgnbbafpaa

/-- behind all ends up to cur: i of the one and k of the other have been passed; l has what is kept, but for what is open from low on -/
structure Swept (A B : List (Int × Int)) (keep : Bool → Bool → Bool) (i k : Nat) (low : Int) (kept : Bool) (l : List (Int × Int)) (cur : Int) : Prop where
  ai : i = 0 ∨ ∃ j, i = j + 1 ∧ endL A j ≤ cur
  au : cur < endL A i
  bi : k = 0 ∨ ∃ j, k = j + 1 ∧ endL B j ≤ cur
  bu : cur < endL B k
  kp : kept = keep (odd i) (odd k)
  cov : ∀ v, v < cur → (inL l v || (kept && decide (low ≤ v))) = keep (inL A v) (inL B v)
  rt : rightL l = true
  op : kept = true → lst (-1048576) l ≤ low ∧ low ≤ cur
  sh : kept = false → lst (-1048576) l ≤ cur + 1
  len : l.length ≤ i + k
  il : i ≤ 2 * A.length
  kl : k ≤ 2 * B.length

variable {A B : List (Int × Int)} {keep : Bool → Bool → Bool} {i k : Nat} {low cur : Int} {kept : Bool} {l : List (Int × Int)}

theorem swept_start (ha : rightL A = true) (hb : rightL B = true) (h0 : keep false false = false) : Swept A B keep 0 0 0 false [] (-1048577) where
  ai := .inl rfl
  au := by have := end_low (i := 0) ha (by omega); omega
  bi := .inl rfl
  bu := by have := end_low (i := 0) hb (by omega); omega
  kp := h0.symm
  cov := fun v hv => by rw [in_out ha (by omega), in_out hb (by omega), h0]; rfl
  rt := rfl
  op := fun h => by simp at h
  sh := fun _ => by simp [lst]
  len := by simp
  il := by omega
  kl := by omega

/-- between the ends nothing turns -/
theorem swept_flat (h : Swept A B keep i k low kept l cur) (ha : rightL A = true) (hb : rightL B = true) {v : Int} (h1 : cur ≤ v) (h2 : v < endL A i) (h3 : v < endL B k) : keep (inL A v) (inL B v) = kept := by
  have hm := end_most (i := i) ha
  rw [end_in (i := i) ha (by
    rcases h.ai with e | ⟨j, e, hj⟩
    · exact .inl e
    · exact .inr ⟨j, e, by omega⟩) h2 (by omega), end_in (i := k) hb (by
    rcases h.bi with e | ⟨j, e, hj⟩
    · exact .inl e
    · exact .inr ⟨j, e, by omega⟩) h3 (by omega), ← h.kp]

theorem swept_cov (h : Swept A B keep i k low kept l cur) (ha : rightL A = true) (hb : rightL B = true) {v : Int} (h2 : v < endL A i) (h3 : v < endL B k) :
    (inL l v || (kept && decide (low ≤ v))) = keep (inL A v) (inL B v) := by
  by_cases hv : v < cur
  · exact h.cov v hv
  · rw [swept_flat h ha hb (by omega) h2 h3]
    have hs := h.sh
    have ho := h.op
    cases kept
    · cases e : inL l v
      · simp
      · have := in_lst h.rt e
        have := hs rfl
        omega
    · rw [decide_eq_true (by have := ho rfl; omega)]
      simp

/-- the next end of the one -/
def nextI (A : List (Int × Int)) (i : Nat) (t : Int) : Nat := if t = endL A i then i + 1 else i
theorem next_ok (ha : rightL A = true) {t : Int} (ai : i = 0 ∨ ∃ j, i = j + 1 ∧ endL A j ≤ cur) (hc : cur < t) (ht : t ≤ endL A i) (hb : t ≠ 9223372036854775807) (il : i ≤ 2 * A.length) :
    (nextI A i t = 0 ∨ ∃ j, nextI A i t = j + 1 ∧ endL A j ≤ t) ∧ t < endL A (nextI A i t) ∧ nextI A i t ≤ 2 * A.length ∧ i ≤ nextI A i t := by
  unfold nextI
  split
  · rename_i e
    have := end_up (i := i) ha (by omega)
    exact ⟨.inr ⟨i, rfl, by omega⟩, by omega, by omega, by omega⟩
  · refine ⟨?_, by omega, il, Nat.le_refl _⟩
    rcases ai with e | ⟨j, e, hj⟩
    · exact .inl e
    · exact .inr ⟨j, e, by omega⟩

variable {t : Int}
theorem sweep_bounds (ha : rightL A = true) (hb : rightL B = true) (e : t = endL A i ∨ t = endL B k) (ht : t ≠ 9223372036854775807) : t ≤ 1048577 ∧ -1048576 ≤ t := by
  rcases e with rfl | rfl
  · exact ⟨(end_up ha ht).2.1, end_low ha (by omega)⟩
  · exact ⟨(end_up hb ht).2.1, end_low hb (by omega)⟩
theorem sweep_same (h : Swept A B keep i k low kept l cur) (ha : rightL A = true) (hb : rightL B = true) (h1 : t ≤ endL A i) (h2 : t ≤ endL B k) (e : t = endL A i ∨ t = endL B k) (ht : t ≠ 9223372036854775807)
    (hk : keep (odd (nextI A i t)) (odd (nextI B k t)) = kept) : Swept A B keep (nextI A i t) (nextI B k t) low kept l t := by
  have hc : cur < t := by rcases e with rfl | rfl; exact h.au; exact h.bu
  obtain ⟨a1, a2, a3, a4⟩ := next_ok ha h.ai hc h1 ht h.il
  obtain ⟨b1, b2, b3, b4⟩ := next_ok hb h.bi hc h2 ht h.kl
  exact ⟨a1, a2, b1, b2, hk.symm, fun v hv => swept_cov h ha hb (by omega) (by omega), h.rt, fun hh => by have := h.op hh; omega, fun hh => by have := h.sh hh; omega, by have := h.len; omega, a3, b3⟩
theorem sweep_shut (h : Swept A B keep i k low true l cur) (ha : rightL A = true) (hb : rightL B = true) (h1 : t ≤ endL A i) (h2 : t ≤ endL B k) (e : t = endL A i ∨ t = endL B k) (ht : t ≠ 9223372036854775807)
    (hk : keep (odd (nextI A i t)) (odd (nextI B k t)) = false) : Swept A B keep (nextI A i t) (nextI B k t) low false (l ++ [(low, t - 1)]) t := by
  have hc : cur < t := by rcases e with rfl | rfl; exact h.au; exact h.bu
  have hbd := sweep_bounds ha hb e ht
  have ho := h.op rfl
  obtain ⟨a1, a2, a3, a4⟩ := next_ok ha h.ai hc h1 ht h.il
  obtain ⟨b1, b2, b3, b4⟩ := next_ok hb h.bi hc h2 ht h.kl
  have hone : i + k + 1 ≤ nextI A i t + nextI B k t := by
    unfold nextI
    rcases e with e | e
    · rw [if_pos e]
      split <;> omega
    · rw [if_pos e]
      split <;> omega
  refine ⟨a1, a2, b1, b2, hk.symm, fun v hv => ?_, ?_, fun hh => by simp at hh, fun _ => by rw [lst_snoc]; simp only []; omega, by have := h.len; simp; omega, a3, b3⟩
  · rw [← swept_cov h ha hb (by omega) (by omega), in_snoc]
    simp only [Bool.false_and, Bool.or_false, Bool.true_and]
    rw [decide_eq_true (p := v ≤ t - 1) (by omega)]
    simp
  · rw [rightL, right_snoc]
    exact ⟨h.rt, ho.1, by simp only []; omega, by simp only []; omega⟩
theorem sweep_open (h : Swept A B keep i k low false l cur) (ha : rightL A = true) (hb : rightL B = true) (h1 : t ≤ endL A i) (h2 : t ≤ endL B k) (e : t = endL A i ∨ t = endL B k) (ht : t ≠ 9223372036854775807)
    (hk : keep (odd (nextI A i t)) (odd (nextI B k t)) = true) : Swept A B keep (nextI A i t) (nextI B k t) t true l t := by
  have hc : cur < t := by rcases e with rfl | rfl; exact h.au; exact h.bu
  obtain ⟨a1, a2, a3, a4⟩ := next_ok ha h.ai hc h1 ht h.il
  obtain ⟨b1, b2, b3, b4⟩ := next_ok hb h.bi hc h2 ht h.kl
  refine ⟨a1, a2, b1, b2, hk.symm, fun v hv => ?_, h.rt, fun _ => by have := h.sh rfl; omega, fun hh => by simp at hh, by have := h.len; omega, a3, b3⟩
  have := swept_cov h ha hb (v := v) (by omega) (by omega)
  rw [← this, decide_eq_false (by omega)]
  simp
theorem sweep_end (h : Swept A B keep i k low kept l cur) (ha : rightL A = true) (hb : rightL B = true) (h0 : keep false false = false) (e1 : endL A i = 9223372036854775807) (e2 : endL B k = 9223372036854775807) : ∀ v, inL l v = keep (inL A v) (inL B v) := by
  have o1 : odd i = false := by
    rw [← end_in (v := 9223372036854775806) (i := i) ha (by
      rcases h.ai with e | ⟨j, e, hj⟩
      · exact .inl e
      · have := h.au
        refine .inr ⟨j, e, ?_⟩
        omega) (by omega) (by omega)]
    exact in_out ha (by omega)
  have o2 : odd k = false := by
    rw [← end_in (v := 9223372036854775806) (i := k) hb (by
      rcases h.bi with e | ⟨j, e, hj⟩
      · exact .inl e
      · have := h.bu
        refine .inr ⟨j, e, ?_⟩
        omega) (by omega) (by omega)]
    exact in_out hb (by omega)
  have hkp : kept = false := by rw [h.kp, o1, o2, h0]
  subst hkp
  intro v
  by_cases hv : v < 9223372036854775807
  · have := swept_cov h ha hb (v := v) (by omega) (by omega)
    simpa using this
  · rw [in_out ha (by omega), in_out hb (by omega), h0, in_out h.rt (by omega)]
end Go.Proofs.Ytehflpgnbbafpaa
