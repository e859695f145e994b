/-
  What follows of a step that keeps values by a keeper, whatever its constraint's kind is: what is left was left; of less, less is left; no row that holds loses a value; of single values all is left just if the constraint holds. Nothing of the program.
  What is kept of an element: places of numbers that are left, numbers that stand at such places. Nothing of the program.
  The document's answers for steps, as lists of what is left, are a step by a keeper: of any kind of constraint. Nothing of the program.
  What an element's step leaves: the document's rows keep by the keeper of elements. Nothing of the program.
-/
import Derived.Test.YtomcgmeekmfdhaaDoorZYBT
import Derived.Test.YtomcgmeekmfdhaaDoorZYBB
import Derived.Test.YtomcgmeekmfdhaaDoorZYAX
import Derived.Test.YtomcgmeekmfdhaaDoorZYAW
namespace Go.Proofs.YtomcgmeekmfdhaaDoor.Ge
open Go.RowKit St
set_option maxRecDepth 100000

/-- the domains of some variables -/
def domsOf (L : List (List Int × Nat)) (vars : List Int) : List (List Int × Nat) := vars.map fun v => L.getD v.toNat ([], 0)
theorem doms_get {L : List (List Int × Nat)} {vars : List Int} {k : Nat} (h : k < vars.length) : (domsOf L vars).getD k ([], 0) = L.getD (vars.getD k 0).toNat ([], 0) := by
  unfold domsOf
  rw [List.getD_eq_getElem?_getD, List.getElem?_map, List.getElem?_eq_getElem h]
  simp [List.getD, List.getElem?_eq_getElem h]
theorem doms_length (L : List (List Int × Nat)) (vars : List Int) : (domsOf L vars).length = vars.length := by simp [domsOf]
/-- domains, some of which are set anew, place by place -/
def stepTo (L : List (List Int × Nat)) (vars : List Int) (K : Nat → Int → Bool) (j : Nat) : List (List Int × Nat) :=
  (List.range j).foldl (fun A k => A.set (vars.getD k 0).toNat ((L.getD (vars.getD k 0).toNat ([], 0)).1, Dm.keepN (L.getD (vars.getD k 0).toNat ([], 0)).1 (L.getD (vars.getD k 0).toNat ([], 0)).2 (K k))) L
theorem stepTo_succ (L : List (List Int × Nat)) (vars : List Int) (K : Nat → Int → Bool) (j : Nat) : stepTo L vars K (j + 1) = (stepTo L vars K j).set (vars.getD j 0).toNat ((L.getD (vars.getD j 0).toNat ([], 0)).1, Dm.keepN (L.getD (vars.getD j 0).toNat ([], 0)).1 (L.getD (vars.getD j 0).toNat ([], 0)).2 (K j)) := by
  unfold stepTo
  rw [List.range_succ, List.foldl_append]
  rfl
theorem stepTo_length (L : List (List Int × Nat)) (vars : List Int) (K : Nat → Int → Bool) : ∀ j, (stepTo L vars K j).length = L.length
  | 0 => rfl
  | j + 1 => by rw [stepTo_succ, List.length_set, stepTo_length L vars K j]
theorem vars_ne {vars : List Int} {n : Int} (h : VarsTo vars n vars.length) {a b : Nat} (ha : a < vars.length) (hb : b < vars.length) (hne : a ≠ b) : (vars.getD a 0).toNat ≠ (vars.getD b 0).toNat := by
  have h1 := (h a ha).1
  have h2 := (h b hb).1
  intro e
  have e2 : vars.getD a 0 = vars.getD b 0 := by omega
  rcases Nat.lt_or_gt_of_ne hne with q | q
  · exact (h b hb).2 a q e2
  · exact (h a ha).2 b q e2.symm
theorem getD_set (M : List (List Int × Nat)) (y : Nat) (d : List Int × Nat) (i : Nat) : (M.set y d).getD i ([], 0) = if y = i ∧ y < M.length then d else M.getD i ([], 0) := by
  rw [List.getD_eq_getElem?_getD, List.getElem?_set]
  by_cases e : y = i
  · subst e
    by_cases hl : y < M.length
    · simp [hl]
    · simp [hl]
  · simp [e]
/-- of a variable at a place: what is set there -/
theorem stepTo_at {L : List (List Int × Nat)} {vars : List Int} {K : Nat → Int → Bool} (h : VarsTo vars (L.length : Int) vars.length) : ∀ {j a : Nat}, j ≤ vars.length → a < j → (stepTo L vars K j).getD (vars.getD a 0).toNat ([], 0) = ((L.getD (vars.getD a 0).toNat ([], 0)).1, Dm.keepN (L.getD (vars.getD a 0).toNat ([], 0)).1 (L.getD (vars.getD a 0).toNat ([], 0)).2 (K a))
  | 0, a, _, ha => by omega
  | j + 1, a, hj, ha => by
    rw [stepTo_succ, getD_set, stepTo_length]
    by_cases e : a = j
    · subst e
      rw [if_pos ⟨rfl, by have := (h a (by omega)).1; omega⟩]
    · rw [if_neg (fun q => vars_ne h (a := j) (b := a) (by omega) (by omega) (fun q => e q.symm) q.1)]
      exact stepTo_at h (by omega) (by omega)
theorem stepTo_off {L : List (List Int × Nat)} {vars : List Int} {K : Nat → Int → Bool} {i : Nat} : ∀ {j : Nat}, (∀ a, a < j → (vars.getD a 0).toNat ≠ i) → (stepTo L vars K j).getD i ([], 0) = L.getD i ([], 0)
  | 0, _ => rfl
  | j + 1, h => by
    rw [stepTo_succ, getD_set, if_neg (fun q => h j (Nat.lt_succ_self j) q.1)]
    exact stepTo_off fun a ha => h a (by omega)
theorem getD_mem {xs : List Int} {k : Nat} (h : k < xs.length) : xs.getD k 0 ∈ xs := by
  rw [List.getD_eq_getElem?_getD, List.getElem?_eq_getElem h]
  exact List.getElem_mem h
theorem sub_iff {x y : Nat} (hx : x < 18446744073709551616) (hy : y < 18446744073709551616) : subB x y = true ↔ ∀ k, k < 64 → x.testBit k = true → y.testBit k = true := by
  unfold subB
  rw [decide_eq_true_eq]
  constructor
  · intro h k hk hb
    have : (x &&& (18446744073709551615 - y)).testBit k = false := by rw [h, Nat.zero_testBit]
    rw [Nat.testBit_and, B.not_bit hk hy, hb] at this
    simpa using this
  · intro h
    refine B.same_bits (Nat.lt_of_le_of_lt Nat.and_le_left hx) (by decide) fun k hk => ?_
    rw [Nat.testBit_and, B.not_bit hk hy, Nat.zero_testBit]
    cases hb : x.testBit k
    · rfl
    · rw [h k hk hb]; rfl
theorem left_iff {d : List Int × Nat} (h : Dm.mayL d.1 d.2 = true) (v : Int) : v ∈ St.leftOf d ↔ ∃ k, k < d.1.length ∧ d.2.testBit k = true ∧ d.1.getD k 0 = v := by
  unfold St.leftOf Dm.leftM
  rw [if_pos h]
  exact Dm.left_mem h v
theorem left_keep {xs : List Int} {x : Nat} (h : Dm.mayL xs x = true) (p : Int → Bool) (v : Int) : v ∈ St.leftOf (xs, Dm.keepN xs x p) ↔ v ∈ St.leftOf (xs, x) ∧ p v = true := by
  have h64 := (Dm.may_iff.1 h).1
  rw [left_iff (d := (xs, Dm.keepN xs x p)) (Dm.keep_may h p), left_iff (d := (xs, x)) h]
  simp only
  constructor
  · rintro ⟨k, hk, hb, rfl⟩
    rw [Dm.keep_bit _ _ _ _ (by omega)] at hb
    simp only [Bool.and_eq_true] at hb
    exact ⟨⟨k, hk, hb.1, rfl⟩, hb.2.2⟩
  · rintro ⟨⟨k, hk, hb, rfl⟩, hp⟩
    refine ⟨k, hk, ?_, rfl⟩
    rw [Dm.keep_bit _ _ _ _ (by omega), hb, hp, decide_eq_true hk]
    rfl
theorem fewer_less {L : List (List Int × Nat)} {ms : List Nat} {i : Nat} (hi : i < L.length) : ((fewerL L ms).getD i ([], 0)).1 = (L.getD i ([], 0)).1 ∧ ((fewerL L ms).getD i ([], 0)).2 ≤ (L.getD i ([], 0)).2 ∧ ∀ k, ((fewerL L ms).getD i ([], 0)).2.testBit k = true → (L.getD i ([], 0)).2.testBit k = true := by
  rw [fewer_getD hi]
  refine ⟨rfl, ?_, fun k hb => ?_⟩
  · simp only
    split
    · exact Nat.and_le_left
    · exact Nat.le_refl _
  · simp only at hb
    split at hb
    · rw [Nat.testBit_and] at hb
      simp only [Bool.and_eq_true] at hb
      exact hb.1
    · exact hb
theorem fewer_may {L : List (List Int × Nat)} {ms : List Nat} {i : Nat} (hi : i < L.length) (h : Dm.mayL (L.getD i ([], 0)).1 (L.getD i ([], 0)).2 = true) : Dm.mayL ((fewerL L ms).getD i ([], 0)).1 ((fewerL L ms).getD i ([], 0)).2 = true := by
  obtain ⟨h1, h2, _⟩ := fewer_less (ms := ms) hi
  rw [Dm.may_iff] at h ⊢
  rw [h1]
  exact ⟨h.1, by omega, h.2.2⟩
theorem fewer_left {L : List (List Int × Nat)} {ms : List Nat} {i : Nat} (hi : i < L.length) (h : Dm.mayL (L.getD i ([], 0)).1 (L.getD i ([], 0)).2 = true) (y : Int) (hy : y ∈ St.leftOf ((fewerL L ms).getD i ([], 0))) : y ∈ St.leftOf (L.getD i ([], 0)) := by
  obtain ⟨h1, _, h3⟩ := fewer_less (ms := ms) hi
  rw [left_iff (fewer_may hi h)] at hy
  rw [left_iff h]
  obtain ⟨k, hk, hb, rfl⟩ := hy
  rw [h1] at hk ⊢
  exact ⟨k, hk, h3 k hb, rfl⟩
theorem may_lt64 {xs : List Int} {x : Nat} (h : Dm.mayL xs x = true) : x < 18446744073709551616 := Dm.may_lt h
/-- domains of single values, of variables -/
def oneD (row vars : List Int) : List (List Int × Nat) := vars.map fun v => ([Gr.val row v], 1)
theorem oneD_length (row vars : List Int) : (oneD row vars).length = vars.length := by simp [oneD]
theorem oneD_get {row vars : List Int} {k : Nat} (h : k < vars.length) : (oneD row vars).getD k ([], 0) = ([Gr.val row (vars.getD k 0)], 1) := by
  unfold oneD
  rw [List.getD_eq_getElem?_getD, List.getElem?_map, List.getElem?_eq_getElem h]
  simp [List.getD, List.getElem?_eq_getElem h]
theorem one_may {v : Int} (h : -1048576 ≤ v ∧ v ≤ 1048576) : Dm.mayL [v] 1 = true := by
  rw [Dm.may_iff]
  refine ⟨by simp, by simp, ?_⟩
  simp [Dm.riseF, h.1, h.2]
theorem left_one {v : Int} (h : -1048576 ≤ v ∧ v ≤ 1048576) : St.leftOf ([v], 1) = [v] := by
  unfold St.leftOf Dm.leftM
  rw [if_pos (one_may h), Dm.left_len (one_may h)]
  rfl
theorem left_row {row : List Int} {L : List (List Int × Nat)} (h : leftB row L = true) : row.length = L.length ∧ ∀ i, i < L.length → row.getD i 0 ∈ St.leftOf (L.getD i ([], 0)) := of_decide_eq_true h
theorem keepN_one (v : Int) (p : Int → Bool) : Dm.keepN [v] 1 p = if p v = true then 1 else 0 := by
  refine B.same_bits (Dm.keep_lt _ _ _) (by split <;> decide) fun k hk => ?_
  rw [Dm.keep_bit _ _ _ _ hk]
  rcases Nat.eq_zero_or_pos k with rfl | h
  · cases hp : p v <;> simp [hp]
  · have h1 : (1 : Nat).testBit k = false := Nat.testBit_lt_two_pow (Nat.one_lt_two_pow (by omega))
    rw [h1, Bool.false_and]
    split
    · exact h1.symm
    · rw [Nat.zero_testBit]
/-- domains of the values of a row -/
def singles (row : List Int) : List (List Int × Nat) := row.map fun v => ([v], 1)
theorem singles_length (row : List Int) : (singles row).length = row.length := by simp [singles]
theorem singles_getD {row : List Int} {i : Nat} (h : i < row.length) : (singles row).getD i ([], 0) = ([row.getD i 0], 1) := by
  unfold singles
  rw [List.getD_eq_getElem?_getD, List.getElem?_map, List.getElem?_eq_getElem h]
  simp [List.getD, List.getElem?_eq_getElem h]
theorem singles_rows (row : List Int) : ∀ d ∈ singles row, d.1.length ≤ 1000 := by
  intro d hd
  obtain ⟨v, _, rfl⟩ := List.mem_map.1 hd
  simp
theorem singles_take {row : List Int} {k : Nat} (h : k < row.length) : singles (row.take (k + 1)) = singles (row.take k) ++ [([row.getD k 0], 1)] := by
  unfold singles
  rw [List.take_succ_eq_append_getElem h, List.map_append]
  simp [List.getD, List.getElem?_eq_getElem h]
theorem singles_doms {row vars : List Int} (h : VarsTo vars (row.length : Int) vars.length) : domsOf (singles row) vars = oneD row vars := by
  unfold domsOf oneD
  refine List.map_congr_left fun v hv => ?_
  obtain ⟨i, hi, rfl⟩ := List.getElem_of_mem hv
  have hr := (h i hi).1
  rw [List.getD_eq_getElem?_getD, List.getElem?_eq_getElem hi] at hr
  have hr2 : 0 ≤ vars[i] ∧ vars[i] < (row.length : Int) := hr
  rw [singles_getD (by omega)]
  rfl
/-- is all left of these variables? -/
def allO (A : List (List Int × Nat)) (vars : List Int) (j : Nat) : Bool := (vars.take j).all fun v => decide ((A.getD v.toNat ([], 0)).2 = 1)
theorem allO_succ {A : List (List Int × Nat)} {vars : List Int} {j : Nat} (h : j < vars.length) : allO A vars (j + 1) = (allO A vars j && decide ((A.getD (vars.getD j 0).toNat ([], 0)).2 = 1)) := by
  unfold allO
  have e : vars.getD j 0 = vars[j] := by rw [List.getD_eq_getElem?_getD, List.getElem?_eq_getElem h]; rfl
  rw [List.take_succ_eq_append_getElem h, List.all_append, e, List.all_cons, List.all_nil, Bool.and_true]

/-- may a constraint of some kind, and domains, be? -/
noncomputable def rightK (kinds : List Int) (c : PCon) (L : List (List Int × Nat)) : Bool := (decide (c.kind ∈ kinds) && rightC c L.length) && !(L.any fun d => !Dm.mayL d.1 d.2)
/-- a step by a keeper -/
noncomputable def stepK (kinds : List Int) (Kp : PCon → List (List Int × Nat) → Nat → Int → Bool) (c : PCon) (L : List (List Int × Nat)) : List (List Int × Nat) × Int :=
  if rightK kinds c L = true then (stepTo L c.vars (Kp c (domsOf L c.vars)) c.vars.length, 0) else ([], 1)
open Classical in
theorem vars_to {c : PCon} {n : Int} (h : rightC c n = true) : VarsTo c.vars n c.vars.length := by
  unfold rightC at h
  rw [Bool.and_eq_true] at h
  exact of_decide_eq_true h.1
/-- of less a keeper keeps less -/
def Falls (Kp : PCon → List (List Int × Nat) → Nat → Int → Bool) (c : PCon) : Prop :=
  ∀ (D' D : List (List Int × Nat)), D'.length = c.vars.length → D.length = c.vars.length → (∀ i, i < c.vars.length → ∀ y, y ∈ St.leftOf (D'.getD i ([], 0)) → y ∈ St.leftOf (D.getD i ([], 0))) → ∀ a, a < c.vars.length → ∀ x, Kp c D' a x = true → Kp c D a x = true
/-- of single values it keeps each just if the constraint holds -/
def Single (Kp : PCon → List (List Int × Nat) → Nat → Int → Bool) (c : PCon) : Prop :=
  ∀ (row : List Int), Gr.rowOk row = true → ∀ a, a < c.vars.length → Kp c (oneD row c.vars) a (Gr.val row (c.vars.getD a 0)) = Gr.holdsG c row
section
variable {kinds : List Int} {Kp : PCon → List (List Int × Nat) → Nat → Int → Bool} {c : PCon} {L : List (List Int × Nat)} {row : List Int}
theorem rightK_parts (h : rightK kinds c L = true) : c.kind ∈ kinds ∧ rightC c L.length = true ∧ ∀ i, i < L.length → Dm.mayL (L.getD i ([], 0)).1 (L.getD i ([], 0)).2 = true := by
  unfold rightK at h
  simp only [Bool.and_eq_true, decide_eq_true_eq] at h
  refine ⟨h.1.1, h.1.2, fun i hi => ?_⟩
  have h2 : (L.any fun d => !Dm.mayL d.1 d.2) = false := by simpa using h.2
  rw [List.any_eq_false] at h2
  simpa using h2 _ (doms_in hi)
theorem rightK_of (hk : c.kind ∈ kinds) (hr : rightC c L.length = true) (hm : ∀ i, i < L.length → Dm.mayL (L.getD i ([], 0)).1 (L.getD i ([], 0)).2 = true) : rightK kinds c L = true := by
  unfold rightK
  rw [decide_eq_true hk, hr]
  have h2 : (L.any fun d => !Dm.mayL d.1 d.2) = false := by
    rw [List.any_eq_false]
    intro d hd
    obtain ⟨i, hi, rfl⟩ := List.getElem_of_mem hd
    have := hm i hi
    rw [List.getD_eq_getElem?_getD, List.getElem?_eq_getElem hi] at this
    simpa using this
  rw [h2]
  rfl
theorem stepK_on (h : rightK kinds c L = true) : stepK kinds Kp c L = (stepTo L c.vars (Kp c (domsOf L c.vars)) c.vars.length, 0) := by unfold stepK; rw [if_pos h]
theorem stepK_off (h : rightK kinds c L = false) : stepK kinds Kp c L = ([], 1) := by unfold stepK; rw [h]; rfl
theorem stepK_at (h : rightK kinds c L = true) (i : Nat) : (stepTo L c.vars (Kp c (domsOf L c.vars)) c.vars.length).getD i ([], 0) = L.getD i ([], 0) ∨
    ∃ a, a < c.vars.length ∧ (c.vars.getD a 0).toNat = i ∧ (stepTo L c.vars (Kp c (domsOf L c.vars)) c.vars.length).getD i ([], 0) = ((L.getD i ([], 0)).1, Dm.keepN (L.getD i ([], 0)).1 (L.getD i ([], 0)).2 (Kp c (domsOf L c.vars) a)) := by
  obtain ⟨_, hr, _⟩ := rightK_parts h
  by_cases hv : ∃ a, a < c.vars.length ∧ (c.vars.getD a 0).toNat = i
  · obtain ⟨a, ha, rfl⟩ := hv
    exact .inr ⟨a, ha, rfl, stepTo_at (vars_to hr) (Nat.le_refl _) ha⟩
  · exact .inl (stepTo_off fun a ha e => hv ⟨a, ha, e⟩)
theorem stepK_rows (hm : ∀ d ∈ L, d.1.length ≤ 1000) : ∀ d ∈ (stepK kinds Kp c L).1, d.1.length ≤ 1000 := by
  have key : ∀ (K : Nat → Int → Bool) (j : Nat), ∀ d ∈ stepTo L c.vars K j, d.1.length ≤ 1000 := fun K j => by
    induction j with
    | zero => exact hm
    | succ j ih =>
      intro d h
      rw [stepTo_succ] at h
      rcases List.mem_or_eq_of_mem_set h with h | h
      · exact ih d h
      · rw [h]
        show (L.getD (c.vars.getD j 0).toNat ([], 0)).1.length ≤ 1000
        by_cases hi : (c.vars.getD j 0).toNat < L.length
        · exact hm _ (doms_in hi)
        · rw [List.getD_eq_getElem?_getD, List.getElem?_eq_none (by omega)]
          simp
  unfold stepK
  split
  · exact key _ _
  · simp
theorem stepK_length (hn : L.length ≤ 1000) : (stepK kinds Kp c L).1.length ≤ 1000 := by
  unfold stepK
  split
  · simp only [stepTo_length]; exact hn
  · simp
theorem falls_law (hF : Falls Kp c) (ms : List Nat) (h : rightK kinds c L = true) : rightK kinds c (fewerL L ms) = true ∧ withinB (stepK kinds Kp c (fewerL L ms)).1 (stepK kinds Kp c L).1 = true := by
  obtain ⟨hk, hr, hm⟩ := rightK_parts h
  have h' : rightK kinds c (fewerL L ms) = true := rightK_of hk (by rw [fewer_length]; exact hr) fun i hi => by rw [fewer_length] at hi; exact fewer_may hi (hm i hi)
  refine ⟨h', ?_⟩
  rw [stepK_on h, stepK_on h']
  unfold withinB
  rw [decide_eq_true_eq]
  refine ⟨by rw [stepTo_length, stepTo_length, fewer_length], fun i hi => ?_⟩
  rw [stepTo_length, fewer_length] at hi
  obtain ⟨f1, _, f3⟩ := fewer_less (ms := ms) hi
  have hmi := hm i hi
  have hmf := fewer_may (ms := ms) hi hmi
  have hvt := vars_to hr
  have hvf : VarsTo c.vars ((fewerL L ms).length : Int) c.vars.length := by rw [fewer_length]; exact hvt
  by_cases hv : ∃ a, a < c.vars.length ∧ (c.vars.getD a 0).toNat = i
  · obtain ⟨a, ha, rfl⟩ := hv
    rw [stepTo_at hvt (Nat.le_refl _) ha, stepTo_at hvf (Nat.le_refl _) ha]
    refine ⟨f1, (sub_iff (Dm.keep_lt _ _ _) (Dm.keep_lt _ _ _)).2 fun k hk64 hb => ?_⟩
    rw [Dm.keep_bit _ _ _ _ hk64, f1] at hb
    rw [Dm.keep_bit _ _ _ _ hk64]
    simp only [Bool.and_eq_true, decide_eq_true_eq] at hb ⊢
    refine ⟨f3 k hb.1, hb.2.1, hF _ _ (doms_length _ _) (doms_length _ _) (fun j hj y hy => ?_) a ha _ hb.2.2⟩
    rw [doms_get hj] at hy ⊢
    have hjn : (c.vars.getD j 0).toNat < L.length := by have := (hvt j hj).1; omega
    exact fewer_left hjn (hm _ hjn) y hy
  · have hoff : ∀ a, a < c.vars.length → (c.vars.getD a 0).toNat ≠ i := fun a ha e => hv ⟨a, ha, e⟩
    rw [stepTo_off hoff, stepTo_off hoff]
    exact ⟨f1, (sub_iff (may_lt64 hmf) (may_lt64 hmi)).2 fun k _ hb => f3 k hb⟩
theorem within_law (h : rightK kinds c L = true) : withinB (stepK kinds Kp c L).1 L = true := by
  obtain ⟨_, _, hm⟩ := rightK_parts h
  rw [stepK_on h]
  unfold withinB
  rw [decide_eq_true_eq]
  refine ⟨stepTo_length _ _ _ _, fun i hi => ?_⟩
  rw [stepTo_length] at hi
  have hmi := hm i hi
  rcases stepK_at (Kp := Kp) h i with e | ⟨a, ha, hai, e⟩
  · rw [e]
    exact ⟨rfl, (sub_iff (may_lt64 hmi) (may_lt64 hmi)).2 fun _ _ hb => hb⟩
  · rw [e]
    refine ⟨rfl, (sub_iff (Dm.keep_lt _ _ _) (may_lt64 hmi)).2 fun k hk hb => ?_⟩
    rw [Dm.keep_bit _ _ _ _ hk] at hb
    simp only [Bool.and_eq_true] at hb
    exact hb.1
theorem sound_law (hF : Falls Kp c) (hS : Single Kp c) (h : rightK kinds c L = true) (hl : leftB row L = true) (hr : Gr.rightG [c] row = true) (hh : Gr.holdsG c row = true) : leftB row (stepK kinds Kp c L).1 = true := by
  obtain ⟨hk, hrc, hm⟩ := rightK_parts h
  obtain ⟨hlen, hin⟩ := left_row hl
  rw [Gr.rightG_one, Bool.and_eq_true] at hr
  rw [stepK_on h]
  unfold leftB
  rw [decide_eq_true_eq]
  refine ⟨by rw [stepTo_length]; exact hlen, fun i hi => ?_⟩
  rw [stepTo_length] at hi
  rcases stepK_at (Kp := Kp) h i with e | ⟨a, ha, hai, e⟩
  · rw [e]; exact hin i hi
  · rw [e]
    refine (left_keep (hm i hi) _ _).2 ⟨hin i hi, ?_⟩
    have ev : row.getD i 0 = Gr.val row (c.vars.getD a 0) := by unfold Gr.val; rw [hai]
    rw [ev]
    refine hF (oneD row c.vars) _ (oneD_length _ _) (doms_length _ _) (fun j hj y hy => ?_) a ha _ ((hS row hr.1 a ha).trans hh)
    rw [oneD_get hj, left_one (Gr.val_small hr.1 _)] at hy
    obtain rfl : y = Gr.val row (c.vars.getD j 0) := by simpa using hy
    rw [doms_get hj]
    have hjn : (c.vars.getD j 0).toNat < L.length := by have := (vars_to hrc j hj).1; omega
    exact hin _ hjn
theorem single_law (hS : Single Kp c) (hlen : 0 < c.vars.length) (hg : Gr.rightG [c] row = true) (h : rightK kinds c (singles row) = true) : allO (stepK kinds Kp c (singles row)).1 c.vars c.vars.length = Gr.holdsG c row := by
  rw [Gr.rightG_one, Bool.and_eq_true] at hg
  obtain ⟨_, hr, _⟩ := rightK_parts h
  rw [singles_length] at hr
  have hvt := vars_to hr
  have hvs : VarsTo c.vars ((singles row).length : Int) c.vars.length := by rw [singles_length]; exact hvt
  have key : ∀ a, a < c.vars.length → decide (((stepK kinds Kp c (singles row)).1.getD (c.vars.getD a 0).toNat ([], 0)).2 = 1) = Gr.holdsG c row := by
    intro a ha
    have hv := (hvt a ha).1
    rw [stepK_on h]
    show decide (((stepTo (singles row) c.vars (Kp c (domsOf (singles row) c.vars)) c.vars.length).getD (c.vars.getD a 0).toNat ([], 0)).2 = 1) = _
    rw [stepTo_at hvs (Nat.le_refl _) ha, singles_getD (by omega), singles_doms hvt]
    simp only
    rw [keepN_one, show row.getD (c.vars.getD a 0).toNat 0 = Gr.val row (c.vars.getD a 0) from rfl, hS row hg.1 a ha]
    cases Gr.holdsG c row <;> rfl
  unfold allO
  rw [List.take_length]
  cases hh : Gr.holdsG c row
  · rw [List.all_eq_false]
    refine ⟨_, getD_mem hlen, ?_⟩
    rw [key 0 hlen, hh]
    decide
  · rw [List.all_eq_true]
    intro v hv
    obtain ⟨a, ha, rfl⟩ := List.getElem_of_mem hv
    have := key a ha
    rw [List.getD_eq_getElem?_getD (l := c.vars), List.getElem?_eq_getElem ha] at this
    exact this.trans hh
end
end Go.Proofs.YtomcgmeekmfdhaaDoor.Ge
namespace Go.Proofs.YtomcgmeekmfdhaaDoor.Ge
open Go.RowKit St
set_option maxRecDepth 100000

/-- is z the number at place u? -/
def atN (nums : List Int) (u z : Int) : Prop := 0 ≤ u ∧ u.toNat < nums.length ∧ nums.getD u.toNat 0 = z
open Classical in
/-- is a value kept? -/
noncomputable def elemK (c : PCon) (D : List (List Int × Nat)) (a : Nat) (x : Int) : Bool := decide (if a = 0 then ∃ z, z ∈ St.leftOf (D.getD 1 ([], 0)) ∧ atN c.nums x z else ∃ u, u ∈ St.leftOf (D.getD 0 ([], 0)) ∧ atN c.nums u x)
open Classical in
theorem elem_falls {c : PCon} (hl : c.vars.length = 2) : Falls elemK c := by
  intro D' D _ _ hs a ha x h
  have h2 := of_decide_eq_true h
  refine decide_eq_true ?_
  split at h2
  · rename_i q
    rw [if_pos q]
    obtain ⟨z, h3, h4⟩ := h2
    exact ⟨z, hs 1 (by omega) z h3, h4⟩
  · rename_i q
    rw [if_neg q]
    obtain ⟨u, h3, h4⟩ := h2
    exact ⟨u, hs 0 (by omega) u h3, h4⟩
open Classical in
theorem elem_single {c : PCon} (hk : c.kind = 4) (hl : c.vars.length = 2) : Single elemK c := by
  intro row hrow a ha
  have e : ∀ i, i < 2 → (c.vars.map (Gr.val row)).getD i 0 = Gr.val row (c.vars.getD i 0) := fun i hi => by
    rw [List.getD_eq_getElem?_getD, List.getElem?_map, List.getD_eq_getElem?_getD, List.getElem?_eq_getElem (by omega)]
    rfl
  have hH : Gr.holdsG c row = decide (atN c.nums (Gr.val row (c.vars.getD 0 0)) (Gr.val row (c.vars.getD 1 0))) := by
    unfold Gr.holdsG
    rw [if_neg (by omega), if_neg (by omega), if_neg (by omega), if_pos hk, e 0 (by omega), e 1 (by omega)]
    exact decide_eq_decide.2 Iff.rfl
  have hs := Gr.val_small hrow
  rw [hH, Bool.eq_iff_iff]
  unfold elemK
  rw [decide_eq_true_eq, decide_eq_true_eq, oneD_get (by omega), oneD_get (by omega), left_one (hs _), left_one (hs _)]
  by_cases a0 : a = 0
  · subst a0
    simp
  · obtain rfl : a = 1 := by omega
    simp
end Go.Proofs.YtomcgmeekmfdhaaDoor.Ge
namespace Go.Proofs.YtomcgmeekmfdhaaDoor.Ge
open Go.RowKit St
set_option maxRecDepth 100000

theorem lefts_length (L : List (List Int × Nat)) : (leftsOf L).length = L.length := by simp [leftsOf]
theorem getL_set (M : List (List Int)) (y : Nat) (d : List Int) (i : Nat) : (M.set y d).getD i [] = if y = i ∧ y < M.length then d else M.getD i [] := by
  rw [List.getD_eq_getElem?_getD, List.getElem?_set]
  by_cases e : y = i
  · subst e
    by_cases hl : y < M.length
    · simp [hl]
    · simp [hl]
  · simp [e]
theorem setTo_at {M : List (List Int)} {vars : List Int} {f : Nat → List Int} (h : VarsTo vars (M.length : Int) vars.length) : ∀ {j a : Nat}, j ≤ vars.length → a < j → (setTo M vars f j).getD (vars.getD a 0).toNat [] = f a
  | 0, a, _, ha => by omega
  | j + 1, a, hj, ha => by
    rw [setTo_succ, getL_set, setTo_length]
    by_cases e : a = j
    · subst e
      rw [if_pos ⟨rfl, by have := (h a (by omega)).1; omega⟩]
    · rw [if_neg (fun q => vars_ne h (a := j) (b := a) (by omega) (by omega) (fun q => e q.symm) q.1)]
      exact setTo_at h (by omega) (by omega)
theorem setTo_off {M : List (List Int)} {vars : List Int} {f : Nat → List Int} {i : Nat} : ∀ {j : Nat}, (∀ a, a < j → (vars.getD a 0).toNat ≠ i) → (setTo M vars f j).getD i [] = M.getD i []
  | 0, _ => rfl
  | j + 1, h => by
    rw [setTo_succ, getL_set, if_neg (fun q => h j (Nat.lt_succ_self j) q.1)]
    exact setTo_off fun a ha => h a (by omega)
theorem lefts_getD (L : List (List Int × Nat)) (i : Nat) : (leftsOf L).getD i [] = St.leftOf (L.getD i ([], 0)) := by
  unfold leftsOf
  rw [List.getD_eq_getElem?_getD, List.getD_eq_getElem?_getD, List.getElem?_map]
  cases L[i]? <;> simp [St.leftOf, Dm.leftM, Dm.left, B.mem_none]
theorem keep_left {xs : List Int} {x : Nat} (h : Dm.mayL xs x = true) {l : List Int} (hl : ∀ y, y ∈ St.leftOf (xs, x) → y ∈ l) : Dm.keepN xs x (fun y => decide (y ∈ l)) = x := by
  refine B.same_bits (Dm.keep_lt _ _ _) (Dm.may_lt h) fun k hk => ?_
  rw [Dm.keep_bit _ _ _ _ hk]
  cases hb : x.testBit k
  · simp
  · have hkl := Dm.bit_len (Dm.may_iff.1 h).2.1 hb
    have hm : xs.getD k 0 ∈ l := hl _ (by
      show xs.getD k 0 ∈ Dm.leftM xs x
      unfold Dm.leftM
      rw [if_pos h]
      exact (Dm.left_mem h _).2 ⟨k, hkl, hb, rfl⟩)
    rw [decide_eq_true hkl, decide_eq_true hm]
    rfl
theorem keep_mem {xs : List Int} {x : Nat} (h : Dm.mayL xs x = true) {l : List Int} {p : Int → Bool} (hl : ∀ y, y ∈ St.leftOf (xs, x) → (y ∈ l ↔ p y = true)) : Dm.keepN xs x (fun y => decide (y ∈ l)) = Dm.keepN xs x p := by
  refine Dm.keep_congr fun k hk hb => ?_
  have := hl (xs.getD k 0) (by
      show xs.getD k 0 ∈ Dm.leftM xs x
      unfold Dm.leftM
      rw [if_pos h]
      exact (Dm.left_mem h _).2 ⟨k, hk, hb, rfl⟩)
  rw [Bool.eq_iff_iff]
  simpa using this
theorem keepOf_may {d : List Int × Nat} (h : Dm.mayL d.1 d.2 = true) (l : List Int) : keepOf d l = (d.1, Dm.keepN d.1 d.2 (fun y => decide (y ∈ l))) := by
  unfold keepOf Dm.keepX Dm.keepL
  rw [if_pos h, if_pos h]
theorem keepTo_getD {L : List (List Int × Nat)} {M : List (List Int)} {n i : Nat} (h : i < n) : (keepTo L M n).getD i ([], 0) = keepOf (L.getD i ([], 0)) (M.getD i []) := by
  unfold keepTo
  rw [List.getD_eq_getElem?_getD, List.getElem?_map, List.getElem?_range h]
  rfl
theorem ext_getD {A C : List (List Int × Nat)} (hl : A.length = C.length) (h : ∀ i, i < A.length → A.getD i ([], 0) = C.getD i ([], 0)) : A = C := by
  refine List.ext_getElem hl fun i h1 h2 => ?_
  have := h i h1
  rwa [List.getD_eq_getElem?_getD, List.getElem?_eq_getElem h1, List.getD_eq_getElem?_getD, List.getElem?_eq_getElem h2] at this

/-- the document's answer: of each variable of the constraint the rows that f tells -/
noncomputable def stepL (kinds : List Int) (c : PCon) (L : List (List Int × Nat)) (f : Nat → List Int) : List (List Int × Nat) × Int :=
  if rightS c L kinds = true then (keepTo L (setTo (leftsOf L) c.vars f c.vars.length) L.length, 0) else ([], 1)
theorem rightS_K (c : PCon) (L : List (List Int × Nat)) (kinds : List Int) : rightS c L kinds = rightK kinds c L := by
  unfold rightS rightK mayTo
  rw [inK_all, List.take_length]
  have e : (L.all fun d => Dm.mayL d.1 d.2) = !(L.any fun d => !Dm.mayL d.1 d.2) := by simp [List.all_eq_not_any_not]
  rw [e]
  cases decide (c.kind ∈ kinds) <;> cases (!(L.any fun d => !Dm.mayL d.1 d.2)) <;> cases rightC c L.length <;> rfl
theorem stepL_K {kinds : List Int} {Kp : PCon → List (List Int × Nat) → Nat → Int → Bool} {c : PCon} {L : List (List Int × Nat)} {f : Nat → List Int} (hf : rightK kinds c L = true → ∀ a, a < c.vars.length → ∀ y, y ∈ St.leftOf (L.getD (c.vars.getD a 0).toNat ([], 0)) → (y ∈ f a ↔ Kp c (domsOf L c.vars) a y = true)) : stepL kinds c L f = stepK kinds Kp c L := by
  unfold stepL stepK
  rw [rightS_K]
  cases hr : rightK kinds c L with
  | false => rw [if_neg Bool.false_ne_true, if_neg Bool.false_ne_true]
  | true =>
    rw [if_pos rfl, if_pos rfl]
    obtain ⟨_, hrc, hm⟩ := rightK_parts hr
    have hvt := vars_to hrc
    have hvm : VarsTo c.vars ((leftsOf L).length : Int) c.vars.length := by rw [lefts_length]; exact hvt
    refine congrArg (·, (0 : Int)) (ext_getD (by rw [stepTo_length, keepTo_length]) fun i hi => ?_)
    rw [keepTo_length] at hi
    have hmi := hm i hi
    rw [keepTo_getD hi, keepOf_may hmi]
    by_cases hv : ∃ a, a < c.vars.length ∧ (c.vars.getD a 0).toNat = i
    · obtain ⟨a, ha, rfl⟩ := hv
      rw [stepTo_at hvt (Nat.le_refl _) ha, setTo_at hvm (Nat.le_refl _) ha]
      exact congrArg ((L.getD (c.vars.getD a 0).toNat ([], 0)).1, ·) (keep_mem hmi fun y hy => hf hr a ha y hy)
    · have hoff : ∀ a, a < c.vars.length → (c.vars.getD a 0).toNat ≠ i := fun a ha e => hv ⟨a, ha, e⟩
      rw [stepTo_off hoff, setTo_off hoff, lefts_getD, keep_left hmi fun y hy => hy]
end Go.Proofs.YtomcgmeekmfdhaaDoor.Ge
namespace Go.Proofs.YtomcgmeekmfdhaaDoor.Ge
open Go.RowKit St
set_option maxRecDepth 100000

/-- is z the number at place u? -/
def atB (nums : List Int) (u z : Int) : Bool := decide (0 ≤ u) && (decide (u < (nums.length : Int)) && decide (nums.getD u.toNat 0 = z))
theorem atB_iff {nums : List Int} {u z : Int} : atB nums u z = true ↔ atN nums u z := by
  unfold atB atN
  simp only [Bool.and_eq_true, decide_eq_true_eq]
  constructor
  · rintro ⟨h1, h2, h3⟩
    exact ⟨h1, by omega, h3⟩
  · rintro ⟨h1, h2, h3⟩
    exact ⟨h1, by omega, h3⟩
def firstE (nums a b : List Int) : List Int := a.filter fun u => b.any fun z => atB nums u z
def secondE (nums a b : List Int) : List Int := b.filter fun z => a.any fun u => atB nums u z
/-- of one variable: the values for which there is another -/
def elemRow (M : List (List Int)) (c : PCon) (a : Nat) : List Int :=
  if a = 0 then firstE c.nums (M.getD (c.vars.getD 0 0).toNat []) (M.getD (c.vars.getD 1 0).toNat []) else secondE c.nums (M.getD (c.vars.getD 0 0).toNat []) (M.getD (c.vars.getD 1 0).toNat [])
theorem right_elem {c : PCon} {n : Int} (h : rightC c n = true) (hk : c.kind = 4) : c.vars.length = 2 ∧ 1 ≤ c.nums.length ∧ c.nums.length ≤ 96 ∧ allN c.nums 1048576 = true := by
  rw [right_on (vars_to h), hk, if_neg (by decide), if_neg (by decide), Bool.and_eq_true] at h
  obtain ⟨h1, h2⟩ := h
  unfold kindR at h2
  rw [if_neg (by omega), if_pos hk, Bool.and_eq_true] at h2
  unfold restR at h1
  simp only [Bool.not_eq_true', Bool.or_eq_false_iff, decide_eq_false_iff_not, Bool.not_eq_false'] at h1
  exact ⟨of_decide_eq_true h2.1, of_decide_eq_true h2.2, by omega, h1.2.2.2.1⟩
/-- what a step of an element leaves -/
noncomputable def stepG (c : PCon) (L : List (List Int × Nat)) : List (List Int × Nat) × Int := stepK [4] elemK c L
open Classical in
theorem stepL_G {c : PCon} {L : List (List Int × Nat)} : stepL [4] c L (elemRow (leftsOf L) c) = stepG c L := by
  refine stepL_K fun h a ha y hy => ?_
  obtain ⟨hk, hr, _⟩ := rightK_parts h
  have hl := (right_elem hr (by simpa using hk)).1
  unfold elemRow elemK
  rw [decide_eq_true_eq, doms_get (by omega), doms_get (by omega), lefts_getD, lefts_getD]
  split
  · rename_i q
    subst q
    unfold firstE
    rw [List.mem_filter, List.any_eq_true]
    simp only [atB_iff]
    exact ⟨fun q => q.2, fun q => ⟨hy, q⟩⟩
  · rename_i q
    obtain rfl : a = 1 := by omega
    unfold secondE
    rw [List.mem_filter, List.any_eq_true]
    simp only [atB_iff]
    exact ⟨fun q => q.2, fun q => ⟨hy, q⟩⟩
/- what a step leaves, for the laws -/
section
variable {c : PCon} {L : List (List Int × Nat)} {row : List Int}
theorem stepG_rows (hm : ∀ d ∈ L, d.1.length ≤ 1000) : ∀ d ∈ (stepG c L).1, d.1.length ≤ 1000 := stepK_rows hm
theorem stepG_length (hn : L.length ≤ 1000) : (stepG c L).1.length ≤ 1000 := stepK_length hn
theorem stepG_off (h : rightK [4] c L = false) : stepG c L = ([], 1) := stepK_off h
theorem stepG_err (h : rightK [4] c L = true) : (stepG c L).2 = 0 := by show (stepK [4] elemK c L).2 = 0; rw [stepK_on h]
theorem stepG_same (h : rightK [4] c L = true) : (stepG c L).1.length = L.length := by show (stepK [4] elemK c L).1.length = _; rw [stepK_on h]; exact stepTo_length _ _ _ _
theorem two_vars (h : rightK [4] c L = true) : c.kind = 4 ∧ c.vars.length = 2 := ⟨by simpa using (rightK_parts h).1, (right_elem (rightK_parts h).2.1 (by simpa using (rightK_parts h).1)).1⟩
theorem fallsG (ms : List Nat) (h : rightK [4] c L = true) : rightK [4] c (fewerL L ms) = true ∧ withinB (stepG c (fewerL L ms)).1 (stepG c L).1 = true := falls_law (elem_falls (two_vars h).2) ms h
theorem withinG (h : rightK [4] c L = true) : withinB (stepG c L).1 L = true := within_law h
theorem soundG (h : rightK [4] c L = true) (hl : leftB row L = true) (hr : Gr.rightG [c] row = true) (hh : Gr.holdsG c row = true) : leftB row (stepG c L).1 = true :=
  sound_law (elem_falls (two_vars h).2) (elem_single (two_vars h).1 (two_vars h).2) h hl hr hh
theorem singleG (hg : Gr.rightG [c] row = true) (h : rightK [4] c (singles row) = true) : allO (stepG c (singles row)).1 c.vars c.vars.length = Gr.holdsG c row :=
  single_law (elem_single (two_vars h).1 (two_vars h).2) (by rw [(two_vars h).2]; decide) hg h
end
end Go.Proofs.YtomcgmeekmfdhaaDoor.Ge
