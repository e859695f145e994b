/-
  What holds, in whichever order variables, or rows of a table, stand; and that it hangs on nothing but the variables. Plain data, nothing of the program.
  How far a loop has come that looks whether a constraint holds. Plain data, nothing of the program.
-/
import Derived.Test.YtiaibggbbkhjlaaDoorZYBB
namespace Go.Proofs.YtiaibggbbkhjlaaDoor.Gr
set_option maxRecDepth 100000

theorem varsTo_iff {vs : List Int} {n : Int} : VarsTo vs n vs.length ↔ (∀ v ∈ vs, 0 ≤ v ∧ v < n) ∧ vs.Nodup := by
  constructor
  · intro h
    refine ⟨fun v hv => vars_in h hv, List.pairwise_iff_getElem.2 fun i j hi hj hij => ?_⟩
    have := (h j hj).2 i hij
    rw [List.getD_eq_getElem?_getD, List.getD_eq_getElem?_getD, List.getElem?_eq_getElem hi, List.getElem?_eq_getElem hj] at this
    exact this
  · rintro ⟨h1, h2⟩ i hi
    refine ⟨?_, fun j hj => ?_⟩
    · rw [List.getD_eq_getElem?_getD, List.getElem?_eq_getElem hi]
      exact h1 _ (List.getElem_mem hi)
    · have := List.pairwise_iff_getElem.1 h2 j i (by omega) hi hj
      rw [List.getD_eq_getElem?_getD, List.getD_eq_getElem?_getD, List.getElem?_eq_getElem hi, List.getElem?_eq_getElem (by omega : j < vs.length)]
      exact this
theorem varsTo_perm {vs us : List Int} {n : Int} (p : vs.Perm us) (h : VarsTo vs n vs.length) : VarsTo us n us.length := by
  obtain ⟨h1, h2⟩ := varsTo_iff.1 h
  exact varsTo_iff.2 ⟨fun v hv => h1 v (p.mem_iff.2 hv), p.nodup_iff.1 h2⟩
theorem rot_perm (l : List Int) (k : Nat) : l.Perm (l.drop k ++ l.take k) := by
  have h : (l.take k ++ l.drop k).Perm (l.drop k ++ l.take k) := List.perm_append_comm
  rwa [List.take_append_drop] at h

/- tables -/
theorem table_nil (v : List Int) : ∀ f, tableG v f [] = false
  | 0 => rfl
  | _ + 1 => by simp [tableG]
theorem table_fuel {v : List Int} (hv : 1 ≤ v.length) : ∀ (f g : Nat) (l : List Int), l.length ≤ f → l.length ≤ g → tableG v f l = tableG v g l
  | 0, g, l, h, _ => by
    obtain rfl : l = [] := List.eq_nil_of_length_eq_zero (by omega)
    rw [table_nil, table_nil]
  | f + 1, 0, l, _, h => by
    obtain rfl : l = [] := List.eq_nil_of_length_eq_zero (by omega)
    rw [table_nil, table_nil]
  | f + 1, g + 1, l, h1, h2 => by
    unfold tableG
    rw [table_fuel hv f g (l.drop v.length) (by simp; omega) (by simp; omega)]
theorem table_cat {v : List Int} (hv : 1 ≤ v.length) : ∀ (m f : Nat) (a b : List Int), a.length = m * v.length → (a ++ b).length ≤ f → tableG v f (a ++ b) = (tableG v f a || tableG v f b)
  | 0, f, a, b, ha, _ => by
    obtain rfl : a = [] := List.eq_nil_of_length_eq_zero (by omega)
    rw [table_nil, List.nil_append, Bool.false_or]
  | m + 1, f, a, b, ha, hf => by
    rw [Nat.add_mul, Nat.one_mul] at ha
    rw [List.length_append] at hf
    obtain ⟨g, rfl⟩ : ∃ g, f = g + 1 := ⟨f - 1, by omega⟩
    have n1 : a ++ b ≠ [] := fun e => by
      have := congrArg List.length e
      simp only [List.length_append, List.length_nil] at this
      omega
    have n2 : a ≠ [] := fun e => by
      have := congrArg List.length e
      simp only [List.length_nil] at this
      omega
    have e1 : (a ++ b).take v.length = a.take v.length := List.take_append_of_le_length (by omega)
    have e2 : (a ++ b).drop v.length = a.drop v.length ++ b := List.drop_append_of_le_length (by omega)
    have ih := table_cat hv m g (a.drop v.length) b (by rw [List.length_drop]; omega) (by rw [List.length_append, List.length_drop]; omega)
    rw [show tableG v (g + 1) b = tableG v g b from table_fuel hv _ _ _ (by omega) (by omega)]
    have t : ∀ l : List Int, l ≠ [] → tableG v (g + 1) l = (decide (l.take v.length = v) || tableG v g (l.drop v.length)) := fun l hl => by
      show (if l = [] then false else _) = _
      rw [if_neg hl]
    rw [t _ n1, t _ n2, e1, e2, ih, Bool.or_assoc]
theorem table_swap {v : List Int} (hv : 1 ≤ v.length) {l : List Int} {k rows : Nat} (hl : l.length = rows * v.length) (hk : k ≤ rows) :
    tableG v (l.drop (k * v.length) ++ l.take (k * v.length)).length (l.drop (k * v.length) ++ l.take (k * v.length)) = tableG v l.length l := by
  have hle : k * v.length ≤ l.length := by rw [hl]; exact Nat.mul_le_mul_right _ hk
  have e : (l.drop (k * v.length) ++ l.take (k * v.length)).length = l.length := by
    rw [List.length_append, List.length_drop, List.length_take]; omega
  rw [e]
  have h1 := table_cat hv k l.length (l.take (k * v.length)) (l.drop (k * v.length)) (by rw [List.length_take]; omega) (by rw [List.take_append_drop]; omega)
  rw [List.take_append_drop] at h1
  have h2 := table_cat hv (rows - k) l.length (l.drop (k * v.length)) (l.take (k * v.length)) (by rw [List.length_drop, hl, Nat.sub_mul]) (by rw [e]; omega)
  rw [h2, h1, Bool.or_comm]

def rotV (c : PCon) (k : Nat) : PCon := { c with vars := c.vars.drop k ++ c.vars.take k }
def rotN (c : PCon) (k : Nat) : PCon := { c with nums := c.nums.drop k ++ c.nums.take k }
def swapC (c : PCon) : PCon := { c with vars := [c.vars.getD 1 0, c.vars.getD 0 0, c.vars.getD 2 0] }

open Classical in
/-- a constraint without a sum that may be -/
theorem rest_on {c : PCon} {n : Int} (h1 : c.kind ≠ 1) (h3 : c.kind ≠ 3) : rightC c n = true ↔ VarsTo c.vars n c.vars.length ∧ restR c = true ∧ kindR c = true := by
  by_cases h : VarsTo c.vars n c.vars.length
  · rw [right_on h, if_neg h1, if_neg h3]; simp [h]
  · rw [right_bad h]; simp [h]
theorem vars_on {c : PCon} {n : Int} (h : rightC c n = true) : VarsTo c.vars n c.vars.length := Classical.byContradiction fun hv => by rw [right_bad hv] at h; cases h

theorem three {α : Type} {l : List α} (h : l.length = 3) : ∃ a b c, l = [a, b, c] := by
  match l, h with
  | [a, b, c], _ => exact ⟨a, b, c, rfl⟩

section
variable {c : PCon} {row : List Int} (hr : rightG [c] row = true)
include hr
theorem right_have : rowOk row = true ∧ rightC c row.length = true := by
  rw [rightG_one] at hr
  simpa only [Bool.and_eq_true] using hr
theorem rest_have (h1 : c.kind ≠ 1) (h3 : c.kind ≠ 3) : rowOk row = true ∧ VarsTo c.vars row.length c.vars.length ∧ restR c = true ∧ kindR c = true := by
  obtain ⟨a, b⟩ := right_have hr
  exact ⟨a, (rest_on h1 h3).1 b⟩

/- different -/
theorem differ_right (hk : c.kind = 5) (k : Nat) : rightG [rotV c k] row = true := by
  obtain ⟨h1, h2, h3, h4⟩ := rest_have hr (by omega) (by omega)
  rw [rightG_one, h1, Bool.true_and]
  have el : (rotV c k).vars.length = c.vars.length := (rot_perm c.vars k).length_eq.symm
  refine (rest_on (c := rotV c k) (show c.kind ≠ 1 by omega) (show c.kind ≠ 3 by omega)).2 ⟨varsTo_perm (rot_perm c.vars k) h2, h3, ?_⟩
  unfold kindR at h4 ⊢
  rw [el]
  exact h4
theorem differ_law (hk : c.kind = 5) (k : Nat) : allG [rotV c k] row = allG [c] row := by
  rw [allG_is hr, allG_is (differ_right hr hk k)]
  have hk' : (rotV c k).kind = 5 := hk
  unfold holdsG
  rw [hk, hk']
  simp only [Int.reduceEq, if_false, if_true]
  exact decide_eq_decide.2 ((rot_perm c.vars k).symm.map (val row)).nodup_iff

/- table -/
theorem table_have (hk : c.kind = 6) : 1 ≤ c.vars.length ∧ c.nums.length % c.vars.length = 0 := by
  obtain ⟨h1, h2, h3, h4⟩ := rest_have hr (by omega) (by omega)
  unfold kindR at h4
  rw [hk] at h4
  simp only [Int.reduceEq, if_false, if_true, Bool.and_eq_true, decide_eq_true_eq] at h4
  exact ⟨h4.1, h4.2.2⟩
theorem table_right (hk : c.kind = 6) (k : Nat) : rightG [rotN c k] row = true := by
  obtain ⟨h1, h2, h3, h4⟩ := rest_have hr (by omega) (by omega)
  rw [rightG_one, h1, Bool.true_and]
  have el : (rotN c k).nums.length = c.nums.length := (rot_perm c.nums k).length_eq.symm
  refine (rest_on (c := rotN c k) (show c.kind ≠ 1 by omega) (show c.kind ≠ 3 by omega)).2 ⟨h2, ?_, ?_⟩
  · unfold restR at h3 ⊢
    have en : allN (rotN c k).nums 1048576 = allN c.nums 1048576 := by
      unfold allN
      exact ((rot_perm c.nums k).all_eq).symm
    rw [el, en]
    exact h3
  · unfold kindR at h4 ⊢
    rw [el]
    exact h4
theorem table_law (hk : c.kind = 6) {k : Nat} (hb : k * c.vars.length ≤ c.nums.length) : allG [rotN c (k * c.vars.length)] row = allG [c] row := by
  obtain ⟨h1, h2⟩ := table_have hr hk
  rw [allG_is hr, allG_is (table_right hr hk _)]
  have hk' : (rotN c (k * c.vars.length)).kind = 6 := hk
  unfold holdsG
  rw [hk, hk']
  simp only [Int.reduceEq, if_false]
  have e := table_swap (v := c.vars.map (val row)) (by simpa using h1) (l := c.nums) (k := k) (rows := c.nums.length / c.vars.length)
    (by rw [List.length_map, Nat.div_mul_cancel (Nat.dvd_of_mod_eq_zero h2)]) ((Nat.le_div_iff_mul_le (by omega)).2 hb)
  rw [List.length_map] at e
  exact e

/- product -/
theorem product_have (hk : c.kind = 2) : c.vars.length = 3 := by
  obtain ⟨h1, h2, h3, h4⟩ := rest_have hr (by omega) (by omega)
  unfold kindR at h4
  rw [hk] at h4
  simp only [if_true, Bool.and_eq_true, decide_eq_true_eq] at h4
  exact h4.1
theorem product_perm (hk : c.kind = 2) : c.vars.Perm (swapC c).vars := by
  obtain ⟨x, y, z, e⟩ := three (product_have hr hk)
  unfold swapC
  rw [e]
  exact List.Perm.swap y x [z]
theorem product_right (hk : c.kind = 2) : rightG [swapC c] row = true := by
  obtain ⟨h1, h2, h3, h4⟩ := rest_have hr (by omega) (by omega)
  rw [rightG_one, h1, Bool.true_and]
  have el : (swapC c).vars.length = c.vars.length := (product_perm hr hk).length_eq.symm
  refine (rest_on (c := swapC c) (show c.kind ≠ 1 by omega) (show c.kind ≠ 3 by omega)).2 ⟨varsTo_perm (product_perm hr hk) h2, h3, ?_⟩
  unfold kindR at h4 ⊢
  rw [el]
  exact h4
theorem product_law (hk : c.kind = 2) : allG [swapC c] row = allG [c] row := by
  rw [allG_is hr, allG_is (product_right hr hk)]
  obtain ⟨x, y, z, e⟩ := three (product_have hr hk)
  have hk' : (swapC c).kind = 2 := hk
  unfold holdsG
  rw [hk, hk']
  simp only [Int.reduceEq, if_false, if_true]
  have e2 : (swapC c).vars = [y, x, z] := by unfold swapC; rw [e]; rfl
  rw [e2, e]
  refine decide_eq_decide.2 ?_
  simp only [List.map_cons, List.map_nil, List.getD_cons_zero, List.getD_cons_succ]
  rw [Int.mul_comm]

/- nothing but the variables -/
theorem kind3_have (hk : c.kind = 3) : 2 ≤ c.vars.length := by
  obtain ⟨h1, h2⟩ := right_have hr
  rw [right_on (vars_on h2), if_neg (by omega), if_pos hk] at h2
  simp only [Bool.and_eq_true] at h2
  have := (lin_parts.1 h2.2).1
  omega
theorem like_law {T : List Int} (h : ∀ v ∈ c.vars, val T v = val row v) : holdsG c T = holdsG c row := by
  have e : c.vars.map (val T) = c.vars.map (val row) := List.map_congr_left h
  unfold holdsG
  rw [e]
  by_cases k3 : c.kind = 3
  · have hl := kind3_have hr k3
    have e0 : val T (c.vars.getD 0 0) = val row (c.vars.getD 0 0) := h _ (by
      rw [List.getD_eq_getElem?_getD, List.getElem?_eq_getElem (by omega : 0 < c.vars.length)]
      exact List.getElem_mem _)
    rw [e0, sumH_like (vs := c.vars.drop 1) fun v hv => h v (List.mem_of_mem_drop hv), sumH_like (vs := c.vars) h]
  · rw [if_neg k3, if_neg k3, sumH_like (vs := c.vars) h]
/-- where it is cut, another value -/
theorem others_law {T : List Int} {o : Int} (ho : okN o = true) (hl : T.length = row.length) (hT : ∀ i, i < row.length → T.getD i 0 = if (i : Int) ∈ c.vars then row.getD i 0 else o) : allG [c] T = allG [c] row := by
  obtain ⟨h1, h2⟩ := right_have hr
  have r2 : rightG [c] T = true := by
    rw [rightG_one, hl, h2, Bool.and_true]
    refine List.all_eq_true.2 fun x hx => ?_
    obtain ⟨i, hi, e⟩ := List.getElem_of_mem hx
    have := hT i (by omega)
    rw [List.getD_eq_getElem?_getD, List.getElem?_eq_getElem hi] at this
    simp only [Option.getD_some, e] at this
    rw [this]
    split
    · rw [List.getD_eq_getElem?_getD, List.getElem?_eq_getElem (by omega : i < row.length)]
      exact List.all_eq_true.1 h1 _ (List.getElem_mem _)
    · exact ho
  rw [allG_is hr, allG_is r2]
  refine like_law hr fun v hv => ?_
  have hin := vars_in (vars_on h2) hv
  have := hT v.toNat (by omega)
  rw [if_pos (by rw [Int.toNat_of_nonneg hin.1]; exact hv)] at this
  exact this
end
end Go.Proofs.YtiaibggbbkhjlaaDoor.Gr
namespace Go.Proofs.YtiaibggbbkhjlaaDoor.Gr
set_option maxRecDepth 100000

theorem getD_at {l : List Int} {k : Nat} (h : k < l.length) : l[k]? = some (l.getD k 0) := by
  rw [List.getD_eq_getElem?_getD, List.getElem?_eq_getElem h]; rfl
/- rows -/
theorem row_bad {row : List Int} {k : Nat} (hk : k < row.length) (h : row.getD k 0 < -1048576 ∨ 1048576 < row.getD k 0) : rowOk row = false := by
  cases q : rowOk row
  · rfl
  · have := List.all_eq_true.1 q (row.getD k 0) (List.mem_of_getElem? (getD_at hk))
    simp only [okN, decide_eq_true_eq] at this
    omega
theorem row_good {row : List Int} (h : ∀ k, k < row.length → -1048576 ≤ row.getD k 0 ∧ row.getD k 0 ≤ 1048576) : rowOk row = true := by
  refine List.all_eq_true.2 fun x hx => ?_
  obtain ⟨i, hi, e⟩ := List.getElem_of_mem hx
  have := h i hi
  rw [List.getD_eq_getElem?_getD, List.getElem?_eq_getElem hi] at this
  simp only [Option.getD_some, e] at this
  simp only [okN, decide_eq_true_eq]
  exact this
theorem cons_bad {l : List PCon} {c : PCon} {k : Nat} {f : PCon → Bool} (hk : l[k]? = some c) (h : f c = false) : l.all f = false := by
  cases q : l.all f
  · rfl
  · have := List.all_eq_true.1 q c (List.mem_of_getElem? hk)
    rw [h] at this
    cases this
theorem cons_good {l : List PCon} {f : PCon → Bool} (h : ∀ (k : Nat) (c : PCon), l[k]? = some c → f c = true) : l.all f = true := List.all_eq_true.2 fun x hx => by
  obtain ⟨i, hi, e⟩ := List.getElem_of_mem hx
  exact h i x (by rw [List.getElem?_eq_getElem hi, e])
/- sums -/
theorem zip_next {vs ks : List Int} {k : Nat} (hv : k < vs.length) (hk : k < ks.length) : (vs.zip ks).take (k + 1) = (vs.zip ks).take k ++ [(vs.getD k 0, ks.getD k 0)] := by
  have e : (vs.zip ks)[k]? = some (vs.getD k 0, ks.getD k 0) := by
    rw [List.getElem?_zip_eq_some]
    exact ⟨getD_at hv, getD_at hk⟩
  rw [List.take_add_one, e]
  rfl
theorem sum_next {row vs ks : List Int} {k : Nat} (hv : k < vs.length) (hk : k < ks.length) : sumG row 0 ((vs.zip ks).take (k + 1)) = sumG row 0 ((vs.zip ks).take k) + ks.getD k 0 * val row (vs.getD k 0) := by
  rw [zip_next hv hk, sum_step]
theorem sum_end {row vs ks : List Int} {k : Nat} (hv : vs.length ≤ k) : sumG row 0 ((vs.zip ks).take k) = sumG row 0 (vs.zip ks) := by
  rw [List.take_of_length_le (by rw [List.length_zip]; omega)]
theorem sum_fits {row vs ks : List Int} (h : rowOk row = true) (hk : allN ks 1048576 = true) {k : Nat} (hl : k ≤ 1000) : -1099511627776000 ≤ sumG row 0 ((vs.zip ks).take k) ∧ sumG row 0 ((vs.zip ks).take k) ≤ 1099511627776000 := by
  have := sum_small h ((vs.zip ks).take k) 0 fun x hx => by
    have := List.all_eq_true.1 hk x.2 (List.of_mem_zip (List.mem_of_mem_take hx)).2
    simpa [Bool.and_eq_true] using this
  have l2 : ((vs.zip ks).take k).length ≤ 1000 := by rw [List.length_take]; omega
  omega
/- unlike values -/
theorem nodup_on {v : List Int} (h : ∀ i, i < v.length → ∀ j, j < i → v.getD j 0 ≠ v.getD i 0) : v.Nodup := List.pairwise_iff_getElem.2 fun i j hi hj hij => by
  have := h j hj i hij
  rw [List.getD_eq_getElem?_getD, List.getD_eq_getElem?_getD, List.getElem?_eq_getElem hi, List.getElem?_eq_getElem hj] at this
  exact this
theorem nodup_off {v : List Int} {i j : Nat} (hi : i < v.length) (hj : j < i) (h : v.getD j 0 = v.getD i 0) : ¬ v.Nodup := fun q => by
  have := List.pairwise_iff_getElem.1 q j i (by omega) hi hj
  rw [List.getD_eq_getElem?_getD, List.getD_eq_getElem?_getD, List.getElem?_eq_getElem hi, List.getElem?_eq_getElem (by omega : j < v.length)] at h
  exact this h
/- tables -/
/-- is the row of a table from there on the values? -/
def rowIs (v nums : List Int) (at_ k : Nat) : Bool := decide (∀ j, j < k → nums.getD (at_ + j) 0 = v.getD j 0)
theorem rowIs_zero {v nums : List Int} {a : Nat} : rowIs v nums a 0 = true := decide_eq_true fun j hj => by omega
theorem rowIs_next {v nums : List Int} {a k : Nat} : rowIs v nums a (k + 1) = (rowIs v nums a k && decide (nums.getD (a + k) 0 = v.getD k 0)) := by
  unfold rowIs
  rw [Bool.eq_iff_iff]
  simp only [Bool.and_eq_true, decide_eq_true_eq]
  constructor
  · exact fun h => ⟨fun j hj => h j (by omega), h k (by omega)⟩
  · rintro ⟨h1, h2⟩ j hj
    by_cases e : j = k
    · rw [e]; exact h2
    · exact h1 j (by omega)
theorem rowIs_all {v nums : List Int} {a : Nat} (h : a + v.length ≤ nums.length) : rowIs v nums a v.length = decide ((nums.drop a).take v.length = v) := by
  unfold rowIs
  refine decide_eq_decide.2 ⟨fun q => ?_, fun q j hj => ?_⟩
  · refine List.ext_getElem? fun i => ?_
    by_cases hi : i < v.length
    · rw [List.getElem?_take_of_lt hi, List.getElem?_drop, getD_at (by omega : a + i < nums.length), getD_at hi, q i hi]
    · rw [List.getElem?_eq_none (by rw [List.length_take]; omega), List.getElem?_eq_none (by omega)]
  · have e : ((nums.drop a).take v.length)[j]? = v[j]? := by rw [q]
    rw [List.getElem?_take_of_lt hj, List.getElem?_drop, getD_at (by omega : a + j < nums.length), getD_at hj] at e
    exact Option.some.inj e
/-- the rest of a table, from a place on -/
def tableAt (v nums : List Int) (a : Nat) : Bool := tableG v nums.length (nums.drop a)
theorem tableAt_zero {v nums : List Int} : tableAt v nums 0 = tableG v nums.length nums := rfl
theorem tableAt_end {v nums : List Int} {a : Nat} (h : nums.length ≤ a) : tableAt v nums a = false := by
  unfold tableAt
  rw [List.drop_eq_nil_of_le h]
  exact table_nil _ _
theorem tableAt_next {v nums : List Int} {a : Nat} (hv : 1 ≤ v.length) (h : a < nums.length) (h2 : a + v.length ≤ nums.length) : tableAt v nums a = (rowIs v nums a v.length || tableAt v nums (a + v.length)) := by
  unfold tableAt
  rw [rowIs_all h2]
  obtain ⟨g, hg⟩ : ∃ g, nums.length = g + 1 := ⟨nums.length - 1, by omega⟩
  have hn : nums.drop a ≠ [] := fun e => by
    have := congrArg List.length e
    rw [List.length_drop, List.length_nil] at this
    omega
  have e1 : tableG v (g + 1) (nums.drop a) = (decide ((nums.drop a).take v.length = v) || tableG v g ((nums.drop a).drop v.length)) := by
    show (if nums.drop a = [] then false else _) = _
    rw [if_neg hn]
  rw [show tableG v nums.length (nums.drop a) = tableG v (g + 1) (nums.drop a) by rw [hg], e1, List.drop_drop]
  rw [table_fuel hv g nums.length (nums.drop (a + v.length)) (by rw [List.length_drop]; omega) (by rw [List.length_drop]; omega)]
/-- where rows are whole, a place that has not come to the end has a whole row left -/
theorem whole_row {n len a : Nat} (hd : n % len = 0) (ha : a % len = 0) (h : a < n) : a + len ≤ n ∧ (a + len) % len = 0 := by
  refine ⟨?_, by rw [Nat.add_mod_right]; exact ha⟩
  obtain ⟨x, rfl⟩ := Nat.dvd_of_mod_eq_zero hd
  obtain ⟨y, rfl⟩ := Nat.dvd_of_mod_eq_zero ha
  have : y < x := Nat.lt_of_mul_lt_mul_left h
  calc len * y + len = len * (y + 1) := by rw [Nat.mul_add, Nat.mul_one]
    _ ≤ len * x := Nat.mul_le_mul_left _ this
end Go.Proofs.YtiaibggbbkhjlaaDoor.Gr
