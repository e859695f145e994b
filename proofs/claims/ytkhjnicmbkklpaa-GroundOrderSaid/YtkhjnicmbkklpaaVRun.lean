/-
  How far a loop has come that looks whether a constraint holds. Plain data, nothing of the program.
-/
import Derived.Test.YtkhjnicmbkklpaaVOrd
namespace Go.Proofs.Ytkhjnicmbkklpaa.Gr
set_option maxRecDepth 100000

theorem getD_at {l : List Int} {k : Nat} (h : k < l.length) : l[k]? = some (l.getD k 0) := by
  rw [List.getD_eq_getElem?_getD, List.getElem?_eq_getElem h]; rfl
/- rows -/
theorem row_bad {row : List Int} {k : Nat} (hk : k < row.length) (h : row.getD k 0 < -1048576 ∨ 1048576 < row.getD k 0) : rowOk row = false := by
  cases q : rowOk row
  · rfl
  · have := List.all_eq_true.1 q (row.getD k 0) (List.mem_of_getElem? (getD_at hk))
    simp only [okN, decide_eq_true_eq] at this
    omega
theorem row_good {row : List Int} (h : ∀ k, k < row.length → -1048576 ≤ row.getD k 0 ∧ row.getD k 0 ≤ 1048576) : rowOk row = true := by
  refine List.all_eq_true.2 fun x hx => ?_
  obtain ⟨i, hi, e⟩ := List.getElem_of_mem hx
  have := h i hi
  rw [List.getD_eq_getElem?_getD, List.getElem?_eq_getElem hi] at this
  simp only [Option.getD_some, e] at this
  simp only [okN, decide_eq_true_eq]
  exact this
theorem cons_bad {l : List PCon} {c : PCon} {k : Nat} {f : PCon → Bool} (hk : l[k]? = some c) (h : f c = false) : l.all f = false := by
  cases q : l.all f
  · rfl
  · have := List.all_eq_true.1 q c (List.mem_of_getElem? hk)
    rw [h] at this
    cases this
theorem cons_good {l : List PCon} {f : PCon → Bool} (h : ∀ (k : Nat) (c : PCon), l[k]? = some c → f c = true) : l.all f = true := List.all_eq_true.2 fun x hx => by
  obtain ⟨i, hi, e⟩ := List.getElem_of_mem hx
  exact h i x (by rw [List.getElem?_eq_getElem hi, e])
/- sums -/
theorem zip_next {vs ks : List Int} {k : Nat} (hv : k < vs.length) (hk : k < ks.length) : (vs.zip ks).take (k + 1) = (vs.zip ks).take k ++ [(vs.getD k 0, ks.getD k 0)] := by
  have e : (vs.zip ks)[k]? = some (vs.getD k 0, ks.getD k 0) := by
    rw [List.getElem?_zip_eq_some]
    exact ⟨getD_at hv, getD_at hk⟩
  rw [List.take_add_one, e]
  rfl
theorem sum_next {row vs ks : List Int} {k : Nat} (hv : k < vs.length) (hk : k < ks.length) : sumG row 0 ((vs.zip ks).take (k + 1)) = sumG row 0 ((vs.zip ks).take k) + ks.getD k 0 * val row (vs.getD k 0) := by
  rw [zip_next hv hk, sum_step]
theorem sum_end {row vs ks : List Int} {k : Nat} (hv : vs.length ≤ k) : sumG row 0 ((vs.zip ks).take k) = sumG row 0 (vs.zip ks) := by
  rw [List.take_of_length_le (by rw [List.length_zip]; omega)]
theorem sum_fits {row vs ks : List Int} (h : rowOk row = true) (hk : allN ks 1048576 = true) {k : Nat} (hl : k ≤ 1000) : -1099511627776000 ≤ sumG row 0 ((vs.zip ks).take k) ∧ sumG row 0 ((vs.zip ks).take k) ≤ 1099511627776000 := by
  have := sum_small h ((vs.zip ks).take k) 0 fun x hx => by
    have := List.all_eq_true.1 hk x.2 (List.of_mem_zip (List.mem_of_mem_take hx)).2
    simpa [Bool.and_eq_true] using this
  have l2 : ((vs.zip ks).take k).length ≤ 1000 := by rw [List.length_take]; omega
  omega
/- unlike values -/
theorem nodup_on {v : List Int} (h : ∀ i, i < v.length → ∀ j, j < i → v.getD j 0 ≠ v.getD i 0) : v.Nodup := List.pairwise_iff_getElem.2 fun i j hi hj hij => by
  have := h j hj i hij
  rw [List.getD_eq_getElem?_getD, List.getD_eq_getElem?_getD, List.getElem?_eq_getElem hi, List.getElem?_eq_getElem hj] at this
  exact this
theorem nodup_off {v : List Int} {i j : Nat} (hi : i < v.length) (hj : j < i) (h : v.getD j 0 = v.getD i 0) : ¬ v.Nodup := fun q => by
  have := List.pairwise_iff_getElem.1 q j i (by omega) hi hj
  rw [List.getD_eq_getElem?_getD, List.getD_eq_getElem?_getD, List.getElem?_eq_getElem hi, List.getElem?_eq_getElem (by omega : j < v.length)] at h
  exact this h
/- tables -/
/-- is the row of a table from there on the values? -/
def rowIs (v nums : List Int) (at_ k : Nat) : Bool := decide (∀ j, j < k → nums.getD (at_ + j) 0 = v.getD j 0)
theorem rowIs_zero {v nums : List Int} {a : Nat} : rowIs v nums a 0 = true := decide_eq_true fun j hj => by omega
theorem rowIs_next {v nums : List Int} {a k : Nat} : rowIs v nums a (k + 1) = (rowIs v nums a k && decide (nums.getD (a + k) 0 = v.getD k 0)) := by
  unfold rowIs
  rw [Bool.eq_iff_iff]
  simp only [Bool.and_eq_true, decide_eq_true_eq]
  constructor
  · exact fun h => ⟨fun j hj => h j (by omega), h k (by omega)⟩
  · rintro ⟨h1, h2⟩ j hj
    by_cases e : j = k
    · rw [e]; exact h2
    · exact h1 j (by omega)
theorem rowIs_all {v nums : List Int} {a : Nat} (h : a + v.length ≤ nums.length) : rowIs v nums a v.length = decide ((nums.drop a).take v.length = v) := by
  unfold rowIs
  refine decide_eq_decide.2 ⟨fun q => ?_, fun q j hj => ?_⟩
  · refine List.ext_getElem? fun i => ?_
    by_cases hi : i < v.length
    · rw [List.getElem?_take_of_lt hi, List.getElem?_drop, getD_at (by omega : a + i < nums.length), getD_at hi, q i hi]
    · rw [List.getElem?_eq_none (by rw [List.length_take]; omega), List.getElem?_eq_none (by omega)]
  · have e : ((nums.drop a).take v.length)[j]? = v[j]? := by rw [q]
    rw [List.getElem?_take_of_lt hj, List.getElem?_drop, getD_at (by omega : a + j < nums.length), getD_at hj] at e
    exact Option.some.inj e
/-- the rest of a table, from a place on -/
def tableAt (v nums : List Int) (a : Nat) : Bool := tableG v nums.length (nums.drop a)
theorem tableAt_zero {v nums : List Int} : tableAt v nums 0 = tableG v nums.length nums := rfl
theorem tableAt_end {v nums : List Int} {a : Nat} (h : nums.length ≤ a) : tableAt v nums a = false := by
  unfold tableAt
  rw [List.drop_eq_nil_of_le h]
  exact table_nil _ _
theorem tableAt_next {v nums : List Int} {a : Nat} (hv : 1 ≤ v.length) (h : a < nums.length) (h2 : a + v.length ≤ nums.length) : tableAt v nums a = (rowIs v nums a v.length || tableAt v nums (a + v.length)) := by
  unfold tableAt
  rw [rowIs_all h2]
  obtain ⟨g, hg⟩ : ∃ g, nums.length = g + 1 := ⟨nums.length - 1, by omega⟩
  have hn : nums.drop a ≠ [] := fun e => by
    have := congrArg List.length e
    rw [List.length_drop, List.length_nil] at this
    omega
  have e1 : tableG v (g + 1) (nums.drop a) = (decide ((nums.drop a).take v.length = v) || tableG v g ((nums.drop a).drop v.length)) := by
    show (if nums.drop a = [] then false else _) = _
    rw [if_neg hn]
  rw [show tableG v nums.length (nums.drop a) = tableG v (g + 1) (nums.drop a) by rw [hg], e1, List.drop_drop]
  rw [table_fuel hv g nums.length (nums.drop (a + v.length)) (by rw [List.length_drop]; omega) (by rw [List.length_drop]; omega)]
/-- where rows are whole, a place that has not come to the end has a whole row left -/
theorem whole_row {n len a : Nat} (hd : n % len = 0) (ha : a % len = 0) (h : a < n) : a + len ≤ n ∧ (a + len) % len = 0 := by
  refine ⟨?_, by rw [Nat.add_mod_right]; exact ha⟩
  obtain ⟨x, rfl⟩ := Nat.dvd_of_mod_eq_zero hd
  obtain ⟨y, rfl⟩ := Nat.dvd_of_mod_eq_zero ha
  have : y < x := Nat.lt_of_mul_lt_mul_left h
  calc len * y + len = len * (y + 1) := by rw [Nat.mul_add, Nat.mul_one]
    _ ≤ len * x := Nat.mul_le_mul_left _ this
end Go.Proofs.Ytkhjnicmbkklpaa.Gr
