/-
  What holds, in whichever order variables, or rows of a table, stand; and that it hangs on nothing but the variables. Plain data, nothing of the program.
-/
import Derived.Test.YtkhjnicmbkklpaaVTurn
namespace Go.Proofs.Ytkhjnicmbkklpaa.Gr
set_option maxRecDepth 100000

theorem varsTo_iff {vs : List Int} {n : Int} : VarsTo vs n vs.length ↔ (∀ v ∈ vs, 0 ≤ v ∧ v < n) ∧ vs.Nodup := by
  constructor
  · intro h
    refine ⟨fun v hv => vars_in h hv, List.pairwise_iff_getElem.2 fun i j hi hj hij => ?_⟩
    have := (h j hj).2 i hij
    rw [List.getD_eq_getElem?_getD, List.getD_eq_getElem?_getD, List.getElem?_eq_getElem hi, List.getElem?_eq_getElem hj] at this
    exact this
  · rintro ⟨h1, h2⟩ i hi
    refine ⟨?_, fun j hj => ?_⟩
    · rw [List.getD_eq_getElem?_getD, List.getElem?_eq_getElem hi]
      exact h1 _ (List.getElem_mem hi)
    · have := List.pairwise_iff_getElem.1 h2 j i (by omega) hi hj
      rw [List.getD_eq_getElem?_getD, List.getD_eq_getElem?_getD, List.getElem?_eq_getElem hi, List.getElem?_eq_getElem (by omega : j < vs.length)]
      exact this
theorem varsTo_perm {vs us : List Int} {n : Int} (p : vs.Perm us) (h : VarsTo vs n vs.length) : VarsTo us n us.length := by
  obtain ⟨h1, h2⟩ := varsTo_iff.1 h
  exact varsTo_iff.2 ⟨fun v hv => h1 v (p.mem_iff.2 hv), p.nodup_iff.1 h2⟩
theorem rot_perm (l : List Int) (k : Nat) : l.Perm (l.drop k ++ l.take k) := by
  have h : (l.take k ++ l.drop k).Perm (l.drop k ++ l.take k) := List.perm_append_comm
  rwa [List.take_append_drop] at h

/- tables -/
theorem table_nil (v : List Int) : ∀ f, tableG v f [] = false
  | 0 => rfl
  | _ + 1 => by simp [tableG]
theorem table_fuel {v : List Int} (hv : 1 ≤ v.length) : ∀ (f g : Nat) (l : List Int), l.length ≤ f → l.length ≤ g → tableG v f l = tableG v g l
  | 0, g, l, h, _ => by
    obtain rfl : l = [] := List.eq_nil_of_length_eq_zero (by omega)
    rw [table_nil, table_nil]
  | f + 1, 0, l, _, h => by
    obtain rfl : l = [] := List.eq_nil_of_length_eq_zero (by omega)
    rw [table_nil, table_nil]
  | f + 1, g + 1, l, h1, h2 => by
    unfold tableG
    rw [table_fuel hv f g (l.drop v.length) (by simp; omega) (by simp; omega)]
theorem table_cat {v : List Int} (hv : 1 ≤ v.length) : ∀ (m f : Nat) (a b : List Int), a.length = m * v.length → (a ++ b).length ≤ f → tableG v f (a ++ b) = (tableG v f a || tableG v f b)
  | 0, f, a, b, ha, _ => by
    obtain rfl : a = [] := List.eq_nil_of_length_eq_zero (by omega)
    rw [table_nil, List.nil_append, Bool.false_or]
  | m + 1, f, a, b, ha, hf => by
    rw [Nat.add_mul, Nat.one_mul] at ha
    rw [List.length_append] at hf
    obtain ⟨g, rfl⟩ : ∃ g, f = g + 1 := ⟨f - 1, by omega⟩
    have n1 : a ++ b ≠ [] := fun e => by
      have := congrArg List.length e
      simp only [List.length_append, List.length_nil] at this
      omega
    have n2 : a ≠ [] := fun e => by
      have := congrArg List.length e
      simp only [List.length_nil] at this
      omega
    have e1 : (a ++ b).take v.length = a.take v.length := List.take_append_of_le_length (by omega)
    have e2 : (a ++ b).drop v.length = a.drop v.length ++ b := List.drop_append_of_le_length (by omega)
    have ih := table_cat hv m g (a.drop v.length) b (by rw [List.length_drop]; omega) (by rw [List.length_append, List.length_drop]; omega)
    rw [show tableG v (g + 1) b = tableG v g b from table_fuel hv _ _ _ (by omega) (by omega)]
    have t : ∀ l : List Int, l ≠ [] → tableG v (g + 1) l = (decide (l.take v.length = v) || tableG v g (l.drop v.length)) := fun l hl => by
      show (if l = [] then false else _) = _
      rw [if_neg hl]
    rw [t _ n1, t _ n2, e1, e2, ih, Bool.or_assoc]
theorem table_swap {v : List Int} (hv : 1 ≤ v.length) {l : List Int} {k rows : Nat} (hl : l.length = rows * v.length) (hk : k ≤ rows) :
    tableG v (l.drop (k * v.length) ++ l.take (k * v.length)).length (l.drop (k * v.length) ++ l.take (k * v.length)) = tableG v l.length l := by
  have hle : k * v.length ≤ l.length := by rw [hl]; exact Nat.mul_le_mul_right _ hk
  have e : (l.drop (k * v.length) ++ l.take (k * v.length)).length = l.length := by
    rw [List.length_append, List.length_drop, List.length_take]; omega
  rw [e]
  have h1 := table_cat hv k l.length (l.take (k * v.length)) (l.drop (k * v.length)) (by rw [List.length_take]; omega) (by rw [List.take_append_drop]; omega)
  rw [List.take_append_drop] at h1
  have h2 := table_cat hv (rows - k) l.length (l.drop (k * v.length)) (l.take (k * v.length)) (by rw [List.length_drop, hl, Nat.sub_mul]) (by rw [e]; omega)
  rw [h2, h1, Bool.or_comm]

def rotV (c : PCon) (k : Nat) : PCon := { c with vars := c.vars.drop k ++ c.vars.take k }
def rotN (c : PCon) (k : Nat) : PCon := { c with nums := c.nums.drop k ++ c.nums.take k }
def swapC (c : PCon) : PCon := { c with vars := [c.vars.getD 1 0, c.vars.getD 0 0, c.vars.getD 2 0] }

open Classical in
/-- a constraint without a sum that may be -/
theorem rest_on {c : PCon} {n : Int} (h1 : c.kind ≠ 1) (h3 : c.kind ≠ 3) : rightC c n = true ↔ VarsTo c.vars n c.vars.length ∧ restR c = true ∧ kindR c = true := by
  by_cases h : VarsTo c.vars n c.vars.length
  · rw [right_on h, if_neg h1, if_neg h3]; simp [h]
  · rw [right_bad h]; simp [h]
theorem vars_on {c : PCon} {n : Int} (h : rightC c n = true) : VarsTo c.vars n c.vars.length := Classical.byContradiction fun hv => by rw [right_bad hv] at h; cases h

theorem three {α : Type} {l : List α} (h : l.length = 3) : ∃ a b c, l = [a, b, c] := by
  match l, h with
  | [a, b, c], _ => exact ⟨a, b, c, rfl⟩

section
variable {c : PCon} {row : List Int} (hr : rightG [c] row = true)
include hr
theorem right_have : rowOk row = true ∧ rightC c row.length = true := by
  rw [rightG_one] at hr
  simpa only [Bool.and_eq_true] using hr
theorem rest_have (h1 : c.kind ≠ 1) (h3 : c.kind ≠ 3) : rowOk row = true ∧ VarsTo c.vars row.length c.vars.length ∧ restR c = true ∧ kindR c = true := by
  obtain ⟨a, b⟩ := right_have hr
  exact ⟨a, (rest_on h1 h3).1 b⟩

/- different -/
theorem differ_right (hk : c.kind = 5) (k : Nat) : rightG [rotV c k] row = true := by
  obtain ⟨h1, h2, h3, h4⟩ := rest_have hr (by omega) (by omega)
  rw [rightG_one, h1, Bool.true_and]
  have el : (rotV c k).vars.length = c.vars.length := (rot_perm c.vars k).length_eq.symm
  refine (rest_on (c := rotV c k) (show c.kind ≠ 1 by omega) (show c.kind ≠ 3 by omega)).2 ⟨varsTo_perm (rot_perm c.vars k) h2, h3, ?_⟩
  unfold kindR at h4 ⊢
  rw [el]
  exact h4
theorem differ_law (hk : c.kind = 5) (k : Nat) : allG [rotV c k] row = allG [c] row := by
  rw [allG_is hr, allG_is (differ_right hr hk k)]
  have hk' : (rotV c k).kind = 5 := hk
  unfold holdsG
  rw [hk, hk']
  simp only [Int.reduceEq, if_false, if_true]
  exact decide_eq_decide.2 ((rot_perm c.vars k).symm.map (val row)).nodup_iff

/- table -/
theorem table_have (hk : c.kind = 6) : 1 ≤ c.vars.length ∧ c.nums.length % c.vars.length = 0 := by
  obtain ⟨h1, h2, h3, h4⟩ := rest_have hr (by omega) (by omega)
  unfold kindR at h4
  rw [hk] at h4
  simp only [Int.reduceEq, if_false, if_true, Bool.and_eq_true, decide_eq_true_eq] at h4
  exact ⟨h4.1, h4.2.2⟩
theorem table_right (hk : c.kind = 6) (k : Nat) : rightG [rotN c k] row = true := by
  obtain ⟨h1, h2, h3, h4⟩ := rest_have hr (by omega) (by omega)
  rw [rightG_one, h1, Bool.true_and]
  have el : (rotN c k).nums.length = c.nums.length := (rot_perm c.nums k).length_eq.symm
  refine (rest_on (c := rotN c k) (show c.kind ≠ 1 by omega) (show c.kind ≠ 3 by omega)).2 ⟨h2, ?_, ?_⟩
  · unfold restR at h3 ⊢
    have en : allN (rotN c k).nums 1048576 = allN c.nums 1048576 := by
      unfold allN
      exact ((rot_perm c.nums k).all_eq).symm
    rw [el, en]
    exact h3
  · unfold kindR at h4 ⊢
    rw [el]
    exact h4
theorem table_law (hk : c.kind = 6) {k : Nat} (hb : k * c.vars.length ≤ c.nums.length) : allG [rotN c (k * c.vars.length)] row = allG [c] row := by
  obtain ⟨h1, h2⟩ := table_have hr hk
  rw [allG_is hr, allG_is (table_right hr hk _)]
  have hk' : (rotN c (k * c.vars.length)).kind = 6 := hk
  unfold holdsG
  rw [hk, hk']
  simp only [Int.reduceEq, if_false]
  have e := table_swap (v := c.vars.map (val row)) (by simpa using h1) (l := c.nums) (k := k) (rows := c.nums.length / c.vars.length)
    (by rw [List.length_map, Nat.div_mul_cancel (Nat.dvd_of_mod_eq_zero h2)]) ((Nat.le_div_iff_mul_le (by omega)).2 hb)
  rw [List.length_map] at e
  exact e

/- product -/
theorem product_have (hk : c.kind = 2) : c.vars.length = 3 := by
  obtain ⟨h1, h2, h3, h4⟩ := rest_have hr (by omega) (by omega)
  unfold kindR at h4
  rw [hk] at h4
  simp only [if_true, Bool.and_eq_true, decide_eq_true_eq] at h4
  exact h4.1
theorem product_perm (hk : c.kind = 2) : c.vars.Perm (swapC c).vars := by
  obtain ⟨x, y, z, e⟩ := three (product_have hr hk)
  unfold swapC
  rw [e]
  exact List.Perm.swap y x [z]
theorem product_right (hk : c.kind = 2) : rightG [swapC c] row = true := by
  obtain ⟨h1, h2, h3, h4⟩ := rest_have hr (by omega) (by omega)
  rw [rightG_one, h1, Bool.true_and]
  have el : (swapC c).vars.length = c.vars.length := (product_perm hr hk).length_eq.symm
  refine (rest_on (c := swapC c) (show c.kind ≠ 1 by omega) (show c.kind ≠ 3 by omega)).2 ⟨varsTo_perm (product_perm hr hk) h2, h3, ?_⟩
  unfold kindR at h4 ⊢
  rw [el]
  exact h4
theorem product_law (hk : c.kind = 2) : allG [swapC c] row = allG [c] row := by
  rw [allG_is hr, allG_is (product_right hr hk)]
  obtain ⟨x, y, z, e⟩ := three (product_have hr hk)
  have hk' : (swapC c).kind = 2 := hk
  unfold holdsG
  rw [hk, hk']
  simp only [Int.reduceEq, if_false, if_true]
  have e2 : (swapC c).vars = [y, x, z] := by unfold swapC; rw [e]; rfl
  rw [e2, e]
  refine decide_eq_decide.2 ?_
  simp only [List.map_cons, List.map_nil, List.getD_cons_zero, List.getD_cons_succ]
  rw [Int.mul_comm]

/- nothing but the variables -/
theorem kind3_have (hk : c.kind = 3) : 2 ≤ c.vars.length := by
  obtain ⟨h1, h2⟩ := right_have hr
  rw [right_on (vars_on h2), if_neg (by omega), if_pos hk] at h2
  simp only [Bool.and_eq_true] at h2
  have := (lin_parts.1 h2.2).1
  omega
theorem like_law {T : List Int} (h : ∀ v ∈ c.vars, val T v = val row v) : holdsG c T = holdsG c row := by
  have e : c.vars.map (val T) = c.vars.map (val row) := List.map_congr_left h
  unfold holdsG
  rw [e]
  by_cases k3 : c.kind = 3
  · have hl := kind3_have hr k3
    have e0 : val T (c.vars.getD 0 0) = val row (c.vars.getD 0 0) := h _ (by
      rw [List.getD_eq_getElem?_getD, List.getElem?_eq_getElem (by omega : 0 < c.vars.length)]
      exact List.getElem_mem _)
    rw [e0, sumH_like (vs := c.vars.drop 1) fun v hv => h v (List.mem_of_mem_drop hv), sumH_like (vs := c.vars) h]
  · rw [if_neg k3, if_neg k3, sumH_like (vs := c.vars) h]
/-- where it is cut, another value -/
theorem others_law {T : List Int} {o : Int} (ho : okN o = true) (hl : T.length = row.length) (hT : ∀ i, i < row.length → T.getD i 0 = if (i : Int) ∈ c.vars then row.getD i 0 else o) : allG [c] T = allG [c] row := by
  obtain ⟨h1, h2⟩ := right_have hr
  have r2 : rightG [c] T = true := by
    rw [rightG_one, hl, h2, Bool.and_true]
    refine List.all_eq_true.2 fun x hx => ?_
    obtain ⟨i, hi, e⟩ := List.getElem_of_mem hx
    have := hT i (by omega)
    rw [List.getD_eq_getElem?_getD, List.getElem?_eq_getElem hi] at this
    simp only [Option.getD_some, e] at this
    rw [this]
    split
    · rw [List.getD_eq_getElem?_getD, List.getElem?_eq_getElem (by omega : i < row.length)]
      exact List.all_eq_true.1 h1 _ (List.getElem_mem _)
    · exact ho
  rw [allG_is hr, allG_is r2]
  refine like_law hr fun v hv => ?_
  have hin := vars_in (vars_on h2) hv
  have := hT v.toNat (by omega)
  rw [if_pos (by rw [Int.toNat_of_nonneg hin.1]; exact hv)] at this
  exact this
end
end Go.Proofs.Ytkhjnicmbkklpaa.Gr
